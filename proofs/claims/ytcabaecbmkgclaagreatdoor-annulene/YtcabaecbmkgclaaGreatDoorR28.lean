/-
  What the forest's contract does.
  slices.Reverse of a list of numbers.
  What the forest's bridge does.
-/
import Derived.Test.YtcabaecbmkgclaaGreatDoorR27
namespace Go.Proofs.YtcabaecbmkgclaaGreatDoor.Mg
open Go.RowKit Mt
theorem range_below {w w' : World} {b o : Nat} {r : Nat → Bool} (h : w.rangeAt b o (ringCells r)) (hb : Below w.heap.size w w') : w'.rangeAt b o (ringCells r) := by
  have hlt : b < w.heap.size := World.block_lt_of_cell? w ⟨b, o + 0, none⟩ (h 0 _ (ringCells_get r (by omega)))
  exact fun j v hj => (hb.cell (p := ⟨b, o + j, none⟩) hlt).trans (h j v hj)

theorem there_below {w w' : World} {b o : Nat} (h : w.there b o 24) (hb : Below w.heap.size w w') : w'.there b o 24 := by
  obtain ⟨v, hv⟩ := Option.isSome_iff_exists.1 (h 0 (by omega)).1
  have hlt : b < w.heap.size := World.block_lt_of_cell? w ⟨b, o + 0, none⟩ hv
  exact fun j hj => ⟨by rw [hb.cell (p := ⟨b, o + j, none⟩) hlt]; exact (h j hj).1, (hb.frozen (p := ⟨b, o + j, none⟩) hlt).trans (h j hj).2⟩

/-- A new box that holds a ring, made in w1: what is so of the world behind it. -/
structure BoxAt (w1 w2 : World) (r : Nat → Bool) : Prop where
  below : Below w1.heap.size w1 w2
  lt : w1.heap.size < w2.heap.size
  range : w2.rangeAt w1.heap.size 0 (ringCells r)
  thr : w2.there w1.heap.size 0 24

theorem boxAt_new (w1 : World) (r : Nat → Bool) (t : TypeId) : BoxAt w1 ((w1.alloc (.cells (ringCells fun _ => false).toArray t)).setCells w1.heap.size 0 (ringCells r)) r := by
  have ht := ring_there w1 (fun _ => false) t
  have hr := World.rangeAt_setCells_same (w1.alloc (.cells (ringCells fun _ => false).toArray t)) w1.heap.size 0 (ringCells r) (by rw [ringCells_len]; exact ht)
  exact ⟨below_cells (Nat.le_refl _) _ _ _ ((Below.refl _ w1).alloc (Nat.le_refl _) _), World.block_lt_of_cell? _ ⟨w1.heap.size, 0 + 0, none⟩ (hr 0 _ (ringCells_get r (by omega))), hr, World.there_setCells ht _ _ _⟩

theorem ring0_lit : (ringCells fun _ => false).toArray = #[.bool false, .bool false, .bool false, .bool false, .bool false, .bool false, .bool false, .bool false, .bool false, .bool false, .bool false, .bool false, .bool false, .bool false, .bool false, .bool false, .bool false, .bool false, .bool false, .bool false, .bool false, .bool false, .bool false, .bool false] := rfl

theorem cut_normal {P : Program} {Q : Exit → Act → World → Prop} {I : World → Prop} {act : Act} {C : Code} {a : Act} {w : World} (h1 : C.wp P (fun e a' w' => e = .normal ∧ a' = act ∧ I w') a w) (h2 : ∀ w', I w' → Q .normal act w') : C.wp P Q a w :=
  Code.wp_mono (fun e a' w' ⟨he, ha, hi⟩ => by subst he; subst ha; exact h2 _ hi) h1

/-- What stands while contract makes its boxes. -/
structure CtAt (w : World) (B : Nat) (g : Gr) (mate : Nat → Option Nat) (f : Fo) (base gl cl gr cr : Nat) (l r : List Nat) (wr : World) : Prop where
  below : Below w.heap.size w wr
  fo : FAt wr B g mate f
  il : Ints wr base (.slice (some ⟨gl, 0, none⟩) l.length cl) l
  ir : Ints wr base (.slice (some ⟨gr, 0, none⟩) r.length cr) r

theorem CtAt.on {w wr w' : World} {B : Nat} {g : Gr} {mate : Nat → Option Nat} {f : Fo} {base gl cl gr cr : Nat} {l r : List Nat} (h : CtAt w B g mate f base gl cl gr cr l r wr) (hb : Below wr.heap.size wr w') : CtAt w B g mate f base gl cl gr cr l r w' :=
  ⟨h.below.trans (hb.mono h.below.size), h.fo.below hb, ownsRow_same h.il fun k hk => hb.block k (h.il.lt k hk).2, ownsRow_same h.ir fun k hk => hb.block k (h.ir.lt k hk).2⟩

theorem CtAt.of {w w' : World} {B : Nat} {g : Gr} {mate : Nat → Option Nat} {f : Fo} {base gl cl gr cr : Nat} {l r : List Nat} (h : CtAt w B g mate f base gl cl gr cr l r w) (hb : Below w.heap.size w w') : CtAt w B g mate f base gl cl gr cr l r w' := h.on hb

theorem meetingF_lt {f : Fo} {l r : List Nat} (hrg : ∀ u x, f.ring u x = true → x < 24) {x : Nat} (hx : meetingF f l r x = true) : x < 24 := by
  unfold meetingF at hx
  cases h : l.find? (fun x => r.any fun y => ringEq (f.ring x) (f.ring y)) with
  | none => rw [h] at hx; cases hx
  | some y => rw [h] at hx; exact hrg _ _ hx

theorem wholeF_lt {f : Fo} {T : Nat → Bool} {l : List Nat} (hrg : ∀ u x, f.ring u x = true → x < 24) (hT : ∀ x, T x = true → x < 24) {x : Nat} (hx : wholeF f T l x = true) : x < 24 := by
  rcases whole_iff.1 hx with h | ⟨y, _, h⟩
  · exact hT x h
  · exact hrg y x h

theorem wholeF_take {f : Fo} {T : Nat → Bool} {l : List Nat} {i x : Nat} (h : l[i]? = some x) : wholeF f T (l.take (i + 1)) = fun z => wholeF f T (l.take i) z || f.ring x z := by
  funext z
  unfold wholeF whole
  rw [List.take_add_one, h]
  simp [List.any_append, Bool.or_assoc]

section
variable {w w' : World} {B : Nat} {g : Gr} {mate : Nat → Option Nat} {f : Fo}
set_option maxRecDepth 100000 in
set_option maxHeartbeats 1000000 in
theorem contract_any (h : FAt w B g mate f) (hrg : ∀ u x, f.ring u x = true → x < 24) (hq : f.queue.length ≤ 900) {base gl cl gr cr : Nat} {l r : List Nat} {v u : Nat}
    (hs : Ints w base (.slice (some ⟨gl, 0, none⟩) l.length cl) l) (hl : l.length ≤ 24) (h24 : ∀ x ∈ l, x < 24) (hl0 : l[0]? = some v) (hln : ¬ FMine w B gl)
    (ht : Ints w base (.slice (some ⟨gr, 0, none⟩) r.length cr) r) (hr : r.length ≤ 24) (hr24 : ∀ x ∈ r, x < 24) (hr0 : r[0]? = some u) (hrn : ¬ FMine w B gr) :
    Calls Tryz.prog 112 #[.pointer (some ⟨B, 0, none⟩), .slice (some ⟨gl, 0, none⟩) l.length cl, .slice (some ⟨gr, 0, none⟩) r.length cr] w fun e w' => e = .returned (.tuple #[]) ∧ FAt w' B g mate (contractF f l r v u) ∧ FFr B w w' := by
  have HF : Hid (FAt w B g mate f) := h
  have HS : Hid (Ints w base (.slice (some ⟨gl, 0, none⟩) l.length cl) l) := hs
  have HT : Hid (Ints w base (.slice (some ⟨gr, 0, none⟩) r.length cr) r) := ht
  have H24 : Hid (∀ x ∈ l, x < 24) := h24
  have HR24 : Hid (∀ x ∈ r, x < 24) := hr24
  have HRG : Hid (∀ u x, f.ring u x = true → x < 24) := hrg
  have HLN : Hid (¬ FMine w B gl ∧ ¬ FMine w B gr) := ⟨hln, hrn⟩
  have HL0 : Hid (l[0]? = some v ∧ r[0]? = some u) := ⟨hl0, hr0⟩
  have hlp : (0 : Int) < (l.length : Int) := by have := (List.getElem?_eq_some_iff.1 hl0).1; omega
  have hrp : (0 : Int) < (r.length : Int) := by have := (List.getElem?_eq_some_iff.1 hr0).1; omega
  have cl0 : w.cell? ⟨gl, 0, none⟩ = some (.int .i64 v) := by have := hs.cells 0 _ (intCells_get hl0); rwa [Addr.add_mid] at this
  have cr0 : w.cell? ⟨gr, 0, none⟩ = some (.int .i64 u) := by have := ht.cells 0 _ (intCells_get hr0); rwa [Addr.add_mid] at this
  have HM : Hid (∀ n, Calls Tryz.prog 140 #[.pointer (some ⟨B, 0, none⟩), .slice (some ⟨gl, 0, none⟩) l.length cl, .slice (some ⟨gr, 0, none⟩) r.length cr] (w.drewN n) fun e w' => e = .returned (.agg (ringCells (meetingF f l r)).toArray) ∧ Below w.heap.size (w.drewN n) w') := fun n =>
    meeting_any (h.drewN n) (ownsRow_same hs fun _ _ => rfl) hl h24 (ownsRow_same ht fun _ _ => rfl) hr hr24
  clear h hs ht h24 hr24 hrg hln hrn hl0 hr0
  go_enter Tryz.func112, Tryz.ntmps112
  go_wp2_with fail
  go_quiet (fail)
  go_wp2_with fail
  refine (HM.out _).mono ?_
  rintro e w1 ⟨rfl, hb1⟩
  have HB1 : Hid (Below w.heap.size w w1) := (below_drewN (Below.refl _ w) _).trans hb1
  have HBX : Hid (BoxAt w1 ((w1.alloc (.cells (ringCells fun _ => false).toArray 110)).setCells w1.heap.size 0 (ringCells (meetingF f l r))) (meetingF f l r)) := boxAt_new w1 _ _
  have HTH : Hid ((w1.alloc (.cells (ringCells fun _ => false).toArray 110)).there w1.heap.size 0 24) := ring_there w1 _ _
  rw [ring0_lit] at HBX HTH
  clear hb1 HM cl0 cr0
  go_upto_region 2 with (first | (refine wpList_alloc rfl 110 rfl _ _ (alloc_ring _) ?_; simp only [Act.put, List.setIfInBounds_toArray, List.set_cons_zero, List.set_cons_succ]) | (refine wpList_store_mid rfl 110 (.tmp 8) (.tmp 21) rfl w1.heap.size 0 (ringCells (meetingF f l r)).toArray (by simp [Act.eval]) (by simp [Act.eval]) (by rw [ring_size]; exact HTH.out) (by rw [ring_size]; exact Tryz.sizeRing) (ring_one _) ?_; simp only [Act.put]))
  have HCT : Hid (CtAt w B g mate f base gl cl gr cr l r w1) := ⟨HB1.out, HF.out.below HB1.out, ownsRow_same HS.out fun k hk => HB1.out.block k (HS.out.lt k hk).2, ownsRow_same HT.out fun k hk => HB1.out.block k (HT.out.lt k hk).2⟩
  clear HB1 HTH
  generalize World.setCells _ _ _ _ = w2 at HBX ⊢
  have HL : Hid (∀ wx, (CtAt w B g mate f base gl cl gr cr l r wx ∧ wx.rangeAt w1.heap.size 0 (ringCells (meetingF f l r))) → Calls Tryz.prog 141 #[.pointer (some ⟨B, 0, none⟩), .agg (ringCells (meetingF f l r)).toArray, .slice (some ⟨gl, 0, none⟩) l.length cl] wx fun e w' => e = .returned (.slice (some ⟨gl, 0, none⟩) (belowF f (meetingF f l r) l).length cl) ∧ (CtAt w B g mate f base gl cl gr cr l r w' ∧ w'.rangeAt w1.heap.size 0 (ringCells (meetingF f l r)))) := fun wx hx =>
    (below_any hx.1.fo _ hx.1.il hl H24.out).mono fun e w' ⟨he, hb⟩ => ⟨he, hx.1.on hb, range_below hx.2 hb⟩
  have HR : Hid (∀ wx, (CtAt w B g mate f base gl cl gr cr l r wx ∧ wx.rangeAt w1.heap.size 0 (ringCells (meetingF f l r))) → Calls Tryz.prog 141 #[.pointer (some ⟨B, 0, none⟩), .agg (ringCells (meetingF f l r)).toArray, .slice (some ⟨gr, 0, none⟩) r.length cr] wx fun e w' => e = .returned (.slice (some ⟨gr, 0, none⟩) (belowF f (meetingF f l r) r).length cr) ∧ (CtAt w B g mate f base gl cl gr cr l r w' ∧ w'.rangeAt w1.heap.size 0 (ringCells (meetingF f l r)))) := fun wx hx =>
    (below_any hx.1.fo _ hx.1.ir hr HR24.out).mono fun e w' ⟨he, hb⟩ => ⟨he, hx.1.on hb, range_below hx.2 hb⟩
  have HHE : Hid (CtAt w B g mate f base gl cl gr cr l r w2.drew ∧ w2.drew.rangeAt w1.heap.size 0 (ringCells (meetingF f l r))) := ⟨HCT.out.on (HBX.out.below.drew), (World.rangeAt_drew w2 w1.heap.size 0 (ringCells (meetingF f l r))).2 HBX.out.range⟩
  apply cut_normal (I := fun w' => CtAt w B g mate f base gl cl gr cr l r w' ∧ w'.rangeAt w1.heap.size 0 (ringCells (meetingF f l r)))
  case h1 =>
    refine wp_region_held_drew (S := fun w' => CtAt w B g mate f base gl cl gr cr l r w' ∧ w'.rangeAt w1.heap.size 0 (ringCells (meetingF f l r))) (by kernel_rfl) ?_ (fun hHeld => ?_)
    · exact HHE.out
    refine wpAnyH_take (i := 0) (oi := ⟨some 22, .move (.tmp 0), _, _, _, none⟩) (v := (.pointer (some ⟨B, 0, none⟩))) rfl (by kernel_rfl) (by kernel_rfl) (by kernel_rfl) (by rintro _ _ _ ⟨h, _⟩; cases h) (Or.inl ⟨by rfl, fun w0 hS => by go_simp⟩) (by assumption) ?_
    try simp only [Act.put, List.setIfInBounds_toArray, List.set_cons_zero, List.set_cons_succ]
    refine wpAnyH_take (i := 1) (oi := ⟨some 23, .load _ (.tmp 8), _, _, _, none⟩) (v := (.agg (ringCells (meetingF f l r)).toArray)) rfl (by kernel_rfl) (by kernel_rfl) (by kernel_rfl) (by rintro _ _ _ ⟨h, _⟩; cases h) (yieldsIf_load_mid (by rfl) 110 (.tmp 8) rfl w1.heap.size 0 (by simp [Act.eval]) (ringCells (meetingF f l r)) _ (fun w h => h.2) Tryz.underlying110 rfl (by rw [Tryz.sizeRing, ringCells_len])) (by assumption) ?_
    try simp only [Act.put, List.setIfInBounds_toArray, List.set_cons_zero, List.set_cons_succ]
    refine wpAnyH_take (i := 2) (oi := ⟨some 24, .move (.tmp 1), _, _, _, none⟩) (v := (.slice (some ⟨gl, 0, none⟩) l.length cl)) rfl (by kernel_rfl) (by kernel_rfl) (by kernel_rfl) (by rintro _ _ _ ⟨h, _⟩; cases h) (Or.inl ⟨by rfl, fun w0 hS => by go_simp⟩) (by assumption) ?_
    try simp only [Act.put, List.setIfInBounds_toArray, List.set_cons_zero, List.set_cons_succ]
    refine wpAnyH_take (i := 4) (oi := ⟨some 26, .move (.tmp 0), _, _, _, none⟩) (v := (.pointer (some ⟨B, 0, none⟩))) rfl (by kernel_rfl) (by kernel_rfl) (by kernel_rfl) (by rintro _ _ _ ⟨h, _⟩; cases h) (Or.inl ⟨by rfl, fun w0 hS => by go_simp⟩) (by assumption) ?_
    try simp only [Act.put, List.setIfInBounds_toArray, List.set_cons_zero, List.set_cons_succ]
    refine wpAnyH_take (i := 5) (oi := ⟨some 27, .load _ (.tmp 8), _, _, _, none⟩) (v := (.agg (ringCells (meetingF f l r)).toArray)) rfl (by kernel_rfl) (by kernel_rfl) (by kernel_rfl) (by rintro _ _ _ ⟨h, _⟩; cases h) (yieldsIf_load_mid (by rfl) 110 (.tmp 8) rfl w1.heap.size 0 (by simp [Act.eval]) (ringCells (meetingF f l r)) _ (fun w h => h.2) Tryz.underlying110 rfl (by rw [Tryz.sizeRing, ringCells_len])) (by assumption) ?_
    try simp only [Act.put, List.setIfInBounds_toArray, List.set_cons_zero, List.set_cons_succ]
    refine wpAnyH_take (i := 6) (oi := ⟨some 28, .move (.tmp 2), _, _, _, none⟩) (v := (.slice (some ⟨gr, 0, none⟩) r.length cr)) rfl (by kernel_rfl) (by kernel_rfl) (by kernel_rfl) (by rintro _ _ _ ⟨h, _⟩; cases h) (Or.inl ⟨by rfl, fun w0 hS => by go_simp⟩) (by assumption) ?_
    try simp only [Act.put, List.setIfInBounds_toArray, List.set_cons_zero, List.set_cons_succ]
    refine wpAnyH_ready (rs := [3]) (by kernel_rfl) (by simp) ?_
    refine AllReadyH.cons (o := ⟨some 25, .call ⟨.value (.func 141), #[.tmp 22, .tmp 23, .tmp 24], _⟩, _, _, _, none⟩) rfl (fun K hK => ?_) AllReadyH.nil
    · rw [if_pos (by rfl)]
      go_simp
      refine (HL.out _ hHeld).mono ?_
      rintro e w3 ⟨rfl, w3h⟩
      refine hK.out _ _ w3h (fun w3H => ?_)
      clear hK K
      try simp only [Act.put, List.setIfInBounds_toArray, List.set_cons_zero, List.set_cons_succ]
      refine wpAnyH_ready (rs := [7]) (by kernel_rfl) (by simp) ?_
      refine AllReadyH.cons (o := ⟨some 29, .call ⟨.value (.func 141), #[.tmp 26, .tmp 27, .tmp 28], _⟩, _, _, _, none⟩) rfl (fun K hK => ?_) AllReadyH.nil
      rw [if_pos (by rfl)]
      go_simp
      refine (HR.out _ w3H).mono ?_
      rintro e w4 ⟨rfl, w4h⟩
      refine hK.out _ _ w4h (fun w4H => ?_)
      clear hK K
      try simp only [Act.put, List.setIfInBounds_toArray, List.set_cons_zero, List.set_cons_succ]
      refine wpAnyH_take (i := 8) (oi := ⟨some 1, .assign (.tmp 25), _, _, _, none⟩) (v := (.slice (some ⟨gl, 0, none⟩) (belowF f (meetingF f l r) l).length cl)) rfl (by kernel_rfl) (by kernel_rfl) (by kernel_rfl) (by rintro _ _ _ ⟨h, _⟩; cases h) (Or.inl ⟨by rfl, fun w0 hS => by go_simp⟩) (by assumption) ?_
      try simp only [Act.put, List.setIfInBounds_toArray, List.set_cons_zero, List.set_cons_succ]
      refine wpAnyH_take (i := 9) (oi := ⟨some 2, .assign (.tmp 29), _, _, _, none⟩) (v := (.slice (some ⟨gr, 0, none⟩) (belowF f (meetingF f l r) r).length cr)) rfl (by kernel_rfl) (by kernel_rfl) (by kernel_rfl) (by rintro _ _ _ ⟨h, _⟩; cases h) (Or.inl ⟨by rfl, fun w0 hS => by go_simp⟩) (by assumption) ?_
      try simp only [Act.put, List.setIfInBounds_toArray, List.set_cons_zero, List.set_cons_succ]
      refine wpAnyH_done (by kernel_rfl) ?_ _
      exact ⟨rfl, rfl, by assumption⟩
  case h2 =>
    rintro w3 ⟨hC, hR⟩
    have HB3 : Hid (Below w.heap.size w w3) := hC.below
    have HR3 : Hid (w3.rangeAt w1.heap.size 0 (ringCells (meetingF f l r))) := hR
    clear hC hR HCT HHE HL HR HBX
    have HIL : Hid (∀ wx, Below w.heap.size w wx → Ints wx base (.slice (some ⟨gl, 0, none⟩) (belowF f (meetingF f l r) l).length cl) (belowF f (meetingF f l r) l)) := fun wx hb => Ints.below (ownsRow_same HS.out fun k hk => hb.block k (HS.out.lt k hk).2) _
    have HIR : Hid (∀ wx, Below w.heap.size w wx → Ints wx base (.slice (some ⟨gr, 0, none⟩) (belowF f (meetingF f l r) r).length cr) (belowF f (meetingF f l r) r)) := fun wx hb => Ints.below (ownsRow_same HT.out fun k hk => hb.block k (HT.out.lt k hk).2) _
    have HLS : Hid (∀ x ∈ belowF f (meetingF f l r) l, x < 24) := fun x hx => H24.out x (belowF_sub hx)
    have HRS : Hid (∀ x ∈ belowF f (meetingF f l r) r, x < 24) := fun x hx => HR24.out x (belowF_sub hx)
    have hLl : (belowF f (meetingF f l r) l).length ≤ 24 := Nat.le_trans (belowF_len _ _) hl
    have hRl : (belowF f (meetingF f l r) r).length ≤ 24 := Nat.le_trans (belowF_len _ _) hr
    have HTS : Hid (∀ x, meetingF f l r x = true → x < 24) := fun x hx => meetingF_lt HRG.out hx
    have HCF : Hid (contractF f l r v u = contracted f (wholeF f (meetingF f l r) (belowF f (meetingF f l r) l ++ belowF f (meetingF f l r) r)) (belowF f (meetingF f l r) l) (belowF f (meetingF f l r) r) v u ((List.range 24).filter fun x => wholeF f (meetingF f l r) (belowF f (meetingF f l r) l ++ belowF f (meetingF f l r) r) x && !f.outer x)) := rfl
    generalize belowF f (meetingF f l r) l = L at *
    generalize belowF f (meetingF f l r) r = L' at *
    generalize meetingF f l r = T at *
    have hBX := boxAt_new w3 T 110
    have HTH : Hid ((w3.alloc (.cells (ringCells fun _ => false).toArray 110)).there w3.heap.size 0 24) := ring_there w3 _ _
    rw [ring0_lit] at hBX HTH
    have HBX : Hid _ := hBX
    clear hBX
    go_upto_region 4 with (first | (refine wpList_load_mid rfl 110 (.tmp 8) rfl w1.heap.size 0 (by simp [Act.eval]) (ringCells T) _ HR3.out Tryz.underlying110 rfl (by rw [Tryz.sizeRing, ringCells_len]) ?_; simp only [Act.put, List.setIfInBounds_toArray, List.set_cons_zero, List.set_cons_succ]) | (refine wpList_store_mid rfl 110 (.tmp 9) (.tmp 30) rfl w3.heap.size 0 (ringCells T).toArray (by simp [Act.eval]) (by simp [Act.eval]) (by rw [ring_size]; exact HTH.out) (by rw [ring_size]; exact Tryz.sizeRing) (ring_one _) ?_; simp only [Act.put]))
    generalize World.setCells _ _ _ _ = w4 at HBX ⊢
    have HB4 : Hid (Below w.heap.size w w4) := HB3.out.trans (HBX.out.below.mono HB3.out.size)
    have HTW : Hid (∀ t, TwoAt (w4.alloc (.cells #[.slice (some ⟨gl, 0, none⟩) L.length cl, .slice (some ⟨gr, 0, none⟩) L'.length cr] t)) w4.heap.size base gl cl gr cr L L') := fun t => by
      have hb : Below w4.heap.size w4 (w4.alloc (.cells #[.slice (some ⟨gl, 0, none⟩) L.length cl, .slice (some ⟨gr, 0, none⟩) L'.length cr] t)) := (Below.refl _ w4).alloc (Nat.le_refl _) _
      have hb' := HB4.out.trans (hb.mono HB4.out.size)
      exact ⟨by rw [World.cell?_alloc_new]; rfl, by rw [World.cell?_alloc_new]; rfl, HIL.out _ hb', HIR.out _ hb'⟩
    have HCC := fun t => concat_any (HTW.out t) hLl hRl
    clear HTW HTH HR3
    go_wp2_with fail
    refine (HCC _).mono ?_
    rintro e w6 ⟨cv, rfl, hI6, hB6⟩
    have hs5 : (w4.alloc (.cells #[.slice (some ⟨gl, 0, none⟩) L.length cl, .slice (some ⟨gr, 0, none⟩) L'.length cr] 25)).heap.size = w4.heap.size + 1 := by simp
    rw [hs5] at hI6 hB6
    have hb46 : Below w4.heap.size w4 w6 := ((Below.refl _ w4).alloc (Nat.le_refl _) _).trans (hB6.mono (Nat.le_succ _))
    have HB6 : Hid (Below w.heap.size w w6) := HB4.out.trans (hb46.mono HB4.out.size)
    have HR6 : Hid (w6.rangeAt w3.heap.size 0 (ringCells T)) := range_below HBX.out.range hb46
    have HT6 : Hid (w6.there w3.heap.size 0 24) := there_below HBX.out.thr hb46
    have hw34 : w3.heap.size < w4.heap.size := HBX.out.lt
    have hw03 : w.heap.size ≤ w3.heap.size := HB3.out.size
    obtain ⟨co, cc, hcs⟩ := hI6.shape
    subst hcs
    have HI6 : Hid (Ints w6 (w4.heap.size + 1) (.slice co (L ++ L').length cc) (L ++ L')) := hI6
    have HLS2 : Hid (∀ x ∈ L ++ L', x < 24) := fun x hx => by
      rcases List.mem_append.1 hx with k | k
      · exact HLS.out x k
      · exact HRS.out x k
    have hnl : (L ++ L').length ≤ 48 := by rw [List.length_append]; omega
    clear hB6 hb46 hI6 HCC hs5 HB3 HB4 HBX
    generalize hM : L ++ L' = M at *
    have HM : Hid (L ++ L' = M) := hM
    clear hM
    go_wp2_with fail
    go_loopg [36] (M.length + 1) (fun k vi wr => ∃ i : Nat, i ≤ M.length ∧ M.length - i < k ∧ vi = .int .i64 i ∧ Below w.heap.size w wr ∧ wr.rangeAt w3.heap.size 0 (ringCells (wholeF f T (M.take i))) ∧ wr.there w3.heap.size 0 24 ∧ Ints wr (w4.heap.size + 1) (.slice co M.length cc) M)
    case atStart =>
      refine ⟨0, by omega, by omega, rfl, HB6.out, ?_, HT6.out, HI6.out⟩
      have e : wholeF f T (M.take 0) = T := by funext z; simp [wholeF, whole]
      rw [e]
      exact HR6.out
    case round =>
      obtain ⟨i, hi, hk, rfl, hb, hR, hT, hI⟩ := hrel
      have HBr : Hid (Below w.heap.size w wr) := hb
      have HRr : Hid (wr.rangeAt w3.heap.size 0 (ringCells (wholeF f T (M.take i)))) := hR
      have HTr : Hid (wr.there w3.heap.size 0 24) := hT
      have HIr : Hid (Ints wr (w4.heap.size + 1) (.slice co M.length cc) M) := hI
      clear HB6 HR6 HT6 HI6 hb hR hT hI
      by_cases hlt : i < M.length
      · have hlt' : (i : Int) < (M.length : Int) := by omega
        have gi := List.getElem?_eq_getElem hlt
        generalize M[i] = x at gi
        have hx24 := HLS2.out x (List.mem_of_getElem? gi)
        have x24 : (x : Int) < 24 := by omega
        obtain ⟨gg, cap, es, hbg, hgl, cx⟩ := HIr.out.at gi
        simp only [Value.slice.injEq, true_and] at es
        obtain ⟨rfl, rfl⟩ := es
        have HWT : Hid (wholeF f T (M.take (i + 1)) = fun z => wholeF f T (M.take i) z || f.ring x z) := wholeF_take gi
        clear gi
        go_wp2_with fail
        have HBd : Hid (Below w.heap.size w wr.drew) := HBr.out.drew
        have HRd : Hid (wr.drew.rangeAt w3.heap.size 0 (ringCells (wholeF f T (M.take i)))) := (World.rangeAt_drew _ _ _ _).2 HRr.out
        have HTd : Hid (wr.drew.there w3.heap.size 0 24) := (World.there_drew _ _ _ _).2 HTr.out
        have HId : Hid (Ints wr.drew (w4.heap.size + 1) (.slice (some ⟨gg, 0, none⟩) M.length cc) M) := ownsRow_same HIr.out fun _ _ => rfl
        refine wp_region_held_drew (S := fun w' => Below w.heap.size w w') (by kernel_rfl) ?_ (fun hHeld => ?_)
        · exact HBd.out
        generalize wr.drew = wd at *
        refine wpAnyH_take (i := 1) (oi := ⟨some 41, .move (.tmp 0), _, _, _, none⟩) (v := (.pointer (some ⟨B, 0, none⟩))) rfl (by kernel_rfl) (by kernel_rfl) (by kernel_rfl) (fun _ _ _ h => h) (Or.inl ⟨by rfl, fun w0 hS => by go_simp⟩) (by assumption) ?_
        try simp only [Act.put, List.setIfInBounds_toArray, List.set_cons_zero, List.set_cons_succ]
        refine wpAnyH_take (i := 2) (oi := ⟨some 42, .move (.tmp 11), _, _, _, none⟩) (v := (.int .i64 (x : Int))) rfl (by kernel_rfl) (by kernel_rfl) (by kernel_rfl) (fun _ _ _ h => h) (Or.inl ⟨by rfl, fun w0 hS => by go_simp⟩) (by assumption) ?_
        try simp only [Act.put, List.setIfInBounds_toArray, List.set_cons_zero, List.set_cons_succ]
        refine wpAnyH_take (i := 3) (oi := ⟨some 43, .nilCheck (.tmp 41), _, _, _, none⟩) (v := (.pointer (some ⟨B, 0, none⟩))) rfl (by kernel_rfl) (by kernel_rfl) (by kernel_rfl) (fun _ _ _ h => h) (Or.inl ⟨by rfl, fun w0 hS => by go_simp⟩) (by assumption) ?_
        try simp only [Act.put, List.setIfInBounds_toArray, List.set_cons_zero, List.set_cons_succ]
        refine wpAnyH_take (i := 4) (oi := ⟨some 44, .fieldAddr _ (.tmp 43) 1, _, _, _, none⟩) (v := (.pointer (some ⟨B, 49, none⟩))) rfl (by kernel_rfl) (by kernel_rfl) (by kernel_rfl) (fun _ _ _ h => h) (Or.inl ⟨by rfl, fun w0 hS => by go_simp⟩) (by assumption) ?_
        try simp only [Act.put, List.setIfInBounds_toArray, List.set_cons_zero, List.set_cons_succ]
        refine wpAnyH_take (i := 5) (oi := ⟨some 45, .indexAddr _ (.tmp 44) (.tmp 42), _, _, _, none⟩) (v := (.pointer (some ⟨B, 49 + x * 24, none⟩))) rfl (by kernel_rfl) (by kernel_rfl) (by kernel_rfl) (fun _ _ _ h => h) (Or.inl ⟨by rfl, fun w0 hS => by go_simp⟩) (by assumption) ?_
        try simp only [Act.put, List.setIfInBounds_toArray, List.set_cons_zero, List.set_cons_succ]
        refine wpAnyH_take (i := 6) (oi := ⟨some 46, .load _ (.tmp 45), _, _, _, none⟩) (v := (.agg (ringCells (f.ring x)).toArray)) rfl (by kernel_rfl) (by kernel_rfl) (by kernel_rfl) (fun _ _ _ h => h) (yieldsIf_load_mid (by rfl) 110 (.tmp 45) rfl B (49 + x * 24) (by simp [Act.eval]) (ringCells (f.ring x)) _ (fun wx hx => (HF.out.below hx).rangeRing hx24) Tryz.underlying110 rfl (by rw [Tryz.sizeRing, ringCells_len])) (by assumption) ?_
        try simp only [Act.put, List.setIfInBounds_toArray, List.set_cons_zero, List.set_cons_succ]
        refine wpAnyH_ready (rs := [0]) (by kernel_rfl) (by simp) ?_
        refine AllReadyH.cons (o := ⟨some 40, .load _ (.tmp 9), _, _, _, none⟩) rfl (fun K hK => ?_) AllReadyH.nil
        rw [if_pos (by rfl)]
        refine wp_load_mid 110 (.tmp 9) rfl w3.heap.size 0 (by simp [Act.eval]) (ringCells (wholeF f T (M.take i))) _ HRd.out Tryz.underlying110 rfl (by rw [Tryz.sizeRing, ringCells_len]) ?_
        refine hK.out _ _ hHeld (fun _ => ?_)
        clear hK K
        try simp only [Act.put, List.setIfInBounds_toArray, List.set_cons_zero, List.set_cons_succ]
        refine wpAnyH_ready (rs := [7]) (by kernel_rfl) (by simp) ?_
        refine AllReadyH.cons (o := ⟨some 47, .call ⟨.value (.func 143), #[.tmp 40, .tmp 46], _⟩, _, _, _, none⟩) rfl (fun K hK => ?_) AllReadyH.nil
        rw [if_pos (by rfl)]
        go_simp
        refine (with_any _ _ _).mono ?_
        rintro e w8 ⟨rfl, hb8⟩
        have HB8 : Hid (Below w.heap.size w w8) := HBd.out.trans (hb8.mono HBd.out.size)
        have HT8 : Hid (w8.there w3.heap.size 0 24) := there_below HTd.out hb8
        have HI8 : Hid (Ints w8 (w4.heap.size + 1) (.slice (some ⟨gg, 0, none⟩) M.length cc) M) := ownsRow_same HId.out fun k hk => hb8.block k (HId.out.lt k hk).2
        refine hK.out _ _ HB8.out (fun _ => ?_)
        clear hK K
        try simp only [Act.put, List.setIfInBounds_toArray, List.set_cons_zero, List.set_cons_succ]
        refine wpAnyH_ready (rs := [8]) (by kernel_rfl) (by simp) ?_
        refine AllReadyH.cons (o := ⟨none, .store _ (.tmp 9) (.tmp 47), _, _, _, none⟩) rfl (fun K hK => ?_) AllReadyH.nil
        rw [if_pos (by rfl)]
        refine wp_store_mid 110 (.tmp 9) (.tmp 47) rfl w3.heap.size 0 (ringCells fun z => wholeF f T (M.take i) z || f.ring x z).toArray (by simp [Act.eval]) (by simp [Act.eval]) (by rw [ring_size]; exact HT8.out) (by rw [ring_size]; exact Tryz.sizeRing) (ring_one _) ?_
        try simp only [Act.put]
        have HB9 : Hid (Below w.heap.size w (w8.setCells w3.heap.size 0 (ringCells fun z => wholeF f T (M.take i) z || f.ring x z))) := below_cells hw03 _ _ _ HB8.out
        have HR9 : Hid ((w8.setCells w3.heap.size 0 (ringCells fun z => wholeF f T (M.take i) z || f.ring x z)).rangeAt w3.heap.size 0 (ringCells fun z => wholeF f T (M.take i) z || f.ring x z)) := World.rangeAt_setCells_same w8 w3.heap.size 0 _ (by rw [ringCells_len]; exact HT8.out)
        have HT9 : Hid ((w8.setCells w3.heap.size 0 (ringCells fun z => wholeF f T (M.take i) z || f.ring x z)).there w3.heap.size 0 24) := World.there_setCells HT8.out _ _ _
        have HI9 : Hid (Ints (w8.setCells w3.heap.size 0 (ringCells fun z => wholeF f T (M.take i) z || f.ring x z)) (w4.heap.size + 1) (.slice (some ⟨gg, 0, none⟩) M.length cc) M) := ownsRow_same HI8.out fun k hk => heap_setCells (by have := (HI8.out.lt k hk).1; omega) _ _ _
        refine hK.out _ _ HB9.out (fun _ => ?_)
        clear hK K
        refine wpAnyH_done (by kernel_rfl) ?_ _
        generalize w8.setCells w3.heap.size 0 (ringCells fun z => wholeF f T (M.take i) z || f.ring x z) = w9 at *
        go_wp2_with fail
        go_roundg (M.length - i)
        case measure => omega
        case rel => exact ⟨i + 1, by omega, by omega, by go_num, HB9.out, by rw [HWT.out]; exact HR9.out, HT9.out, HI9.out⟩
      · have hlt' : ¬ (i : Int) < (M.length : Int) := by omega
        have ei : i = M.length := by omega
        subst ei
        have HRW : Hid (wr.rangeAt w3.heap.size 0 (ringCells (wholeF f T M))) := by
          have := HRr.out
          rw [List.take_length] at this
          exact this
        have hB := HF.out.lt
        have hmi : ∀ k, FMine wr B k → FMine w B k := fun k hk => (FMine.same (HBr.out.block B hB)).1 hk
        have hws : w.heap.size ≤ wr.heap.size := HBr.out.size
        have hF0 := HF.out.below HBr.out
        have hiL := HIL.out wr HBr.out
        have hiR := HIR.out wr HBr.out
        have hnl : ∀ k, (Value.slice (some ⟨gl, 0, none⟩) L.length cl).ownBlock = some k → ¬ FMine wr B k := fun k hk hm => by
          cases hk
          exact HLN.out.1 (hmi _ hm)
        have hnr : ∀ k, (Value.slice (some ⟨gr, 0, none⟩) L'.length cr).ownBlock = some k → ¬ FMine wr B k := fun k hk hm => by
          cases hk
          exact HLN.out.2 (hmi _ hm)
        have HT1 := turn_any hF0 hiL hnl hLl HLS.out u
        have HNR : Hid (∀ k, (Value.slice (some ⟨gr, 0, none⟩) L'.length cr).ownBlock = some k → ¬ FMine wr B k) := hnr
        have HIR2 : Hid (Ints wr base (.slice (some ⟨gr, 0, none⟩) L'.length cr) L') := hiR
        have HNW : Hid (¬ FMine wr B w3.heap.size) := fun hm => by have := (HF.out.mine (hmi _ hm)).2; omega
        have HW3 : Hid (w3.heap.size < wr.heap.size) := World.block_lt_of_cell? wr ⟨w3.heap.size, 0 + 0, none⟩ (HRW.out 0 _ (ringCells_get _ (by omega)))
        have HFF : Hid (FFr B w wr) := FFr.of_below HBr.out hB
        clear hmi hF0 hiL hiR hnl hnr HIL HIR HIr HRr HTr
        go_wp2_with fail
        refine HT1.mono ?_
        rintro e wa ⟨rfl, hFa, hfa⟩
        have HT2 := turn_any hFa (hfa.ints HIR2.out HNR.out) (fun k hk hm => HNR.out k hk (hfa.mine k (HIR2.out.lt k hk).2 hm)) hRl HRS.out v
        have HFA : Hid (FFr B wr wa) := hfa
        clear HT1 hFa hfa HIR2 HNR
        go_wp2_with fail
        refine HT2.mono ?_
        rintro e wb ⟨rfl, hFb, hfb⟩
        have hab : FFr B wr wb := HFA.out.trans hfb
        have HRB : Hid (wb.rangeAt w3.heap.size 0 (ringCells (wholeF f T M))) := fun j z hj => by
          rw [← HRW.out j z hj]
          exact World.cell?_of_block (hab.block w3.heap.size HW3.out HNW.out)
        have HLB := label_any hFb (wholeF f T M) hq
        have HAB : Hid (FFr B w wb) := HFF.out.trans hab
        clear HT2 hFb hfb hab HRW HFA HFF
        go_wp2_with (refine wpList_load_mid rfl 110 (.tmp 9) rfl w3.heap.size 0 (by simp [Act.eval]) (ringCells (wholeF f T M)) _ HRB.out Tryz.underlying110 rfl (by rw [Tryz.sizeRing, ringCells_len]) ?_; simp only [Act.put, List.setIfInBounds_toArray, List.set_cons_zero, List.set_cons_succ])
        refine HLB.mono ?_
        rintro e wc ⟨rfl, hFc, hfc⟩
        have HEND : Hid (FAt wc B g mate (contractF f l r v u) ∧ FFr B w wc) := by
          refine ⟨?_, HAB.out.trans hfc⟩
          rw [lab_end fun x hx => wholeF_lt HRG.out HTS.out hx] at hFc
          rw [HCF.out]
          exact hFc
        clear HLB hFc hfc
        go_wp2_with fail
        go_end0
        exact ⟨rfl, HEND.out.1, HEND.out.2⟩
end
theorem Ints.set {w : World} {base g c : Nat} {l : List Nat} (h : Ints w base (.slice (some ⟨g, 0, none⟩) l.length c) l) {i : Nat} (_hi : i < l.length) (x : Nat) : Ints (w.setCell ⟨g, i, none⟩ (.int .i64 (x : Int))) base (.slice (some ⟨g, 0, none⟩) l.length c) (l.set i x) := by
  rcases h.2 with ⟨h0, _⟩ | ⟨g', cap', cur, hv, hb, hg, hnc, hcm, hcs, ht⟩
  · cases h0
  · cases hv
    refine ⟨by simp [intCells], .inr ⟨g, c, cur.setIfInBounds i (.int .i64 (x : Int)), by rw [List.length_set], hb, heap_setCell_same w g i cur _ _ hg, by simpa using hnc, hcm, by simpa using hcs, ?_⟩⟩
    rw [List.length_set, Nat.mul_one] at *
    rw [Array.toList_setIfInBounds, List.take_set, ht]
    unfold intCells
    rw [List.map_set]

theorem Ints.free {w : World} {base g c : Nat} {l : List Nat} (h : Ints w base (.slice (some ⟨g, 0, none⟩) l.length c) l) (i : Nat) : w.frozen? ⟨g, i, none⟩ = false := by
  rcases h.2 with ⟨h0, _⟩ | ⟨g', cap', cur, hv, hb, hg, hnc, hcm, hcs, ht⟩
  · cases h0
  · cases hv
    simp [World.frozen?, hg]

/-- The first i and the last i of l have changed places. -/
def Flipped (l cur : List Nat) (i : Nat) : Prop := cur.length = l.length ∧ ∀ k, k < l.length → cur[k]? = if k < i ∨ l.length ≤ k + i then l[l.length - 1 - k]? else l[k]?

theorem Flipped.start (l : List Nat) : Flipped l l 0 := ⟨rfl, fun k hk => by rw [if_neg (by omega)]⟩

theorem Flipped.end_ {l cur : List Nat} {i : Nat} (h : Flipped l cur i) (hi : l.length ≤ i + i + 1) : cur = l.reverse := by
  apply List.ext_getElem?
  intro k
  by_cases hk : k < l.length
  · rw [h.2 k hk, List.getElem?_reverse hk]
    by_cases hc : k < i ∨ l.length ≤ k + i
    · rw [if_pos hc]
    · rw [if_neg hc, show l.length - 1 - k = k by omega]
  · rw [List.getElem?_eq_none (by rw [h.1]; omega), List.getElem?_eq_none (by rw [List.length_reverse]; omega)]

theorem Flipped.step {l cur : List Nat} {i : Nat} (h : Flipped l cur i) (hi : i + i + 1 < l.length) {x y : Nat} (hx : cur[i]? = some x) (hy : cur[l.length - 1 - i]? = some y) : Flipped l ((cur.set i y).set (l.length - 1 - i) x) (i + 1) := by
  refine ⟨by simp [h.1], fun k hk => ?_⟩
  have hx' := h.2 i (by omega)
  have hy' := h.2 (l.length - 1 - i) (by omega)
  rw [if_neg (by omega), hx] at hx'
  rw [if_neg (by omega), hy] at hy'
  by_cases e1 : k = l.length - 1 - i
  · rw [if_pos (by omega), e1, List.getElem?_set_self (by simp [h.1]; omega), show l.length - 1 - (l.length - 1 - i) = i by omega]
    exact hx'
  · rw [List.getElem?_set_ne (by omega)]
    by_cases e2 : k = i
    · rw [if_pos (by omega), e2, List.getElem?_set_self (by rw [h.1]; omega)]
      exact hy'
    · rw [List.getElem?_set_ne (by omega), h.2 k hk]
      by_cases hc : k < i ∨ l.length ≤ k + i
      · rw [if_pos hc, if_pos (by omega)]
      · rw [if_neg hc, if_neg (by omega)]

set_option maxRecDepth 100000 in
set_option maxHeartbeats 1000000 in
theorem reverse_any {w : World} {base g c : Nat} {l : List Nat} (h : Ints w base (.slice (some ⟨g, 0, none⟩) l.length c) l) (hl : l.length ≤ 24) (hl0 : 0 < l.length) :
    Calls Tryz.prog 113 #[.slice (some ⟨g, 0, none⟩) l.length c] w fun e w' => e = .returned (.tuple #[]) ∧ Ints w' base (.slice (some ⟨g, 0, none⟩) l.length c) l.reverse ∧ Below g w w' ∧ ∀ k, k ≠ g → w'.heap[k]? = w.heap[k]? := by
  have HST : Hid (Ints w base (.slice (some ⟨g, 0, none⟩) l.length c) l) := h
  clear h
  go_enter Tryz.func113, Tryz.ntmps113
  go_wp2_with fail
  go_loopg [2, 3] (l.length + 1) (fun k v2 v3 wr => ∃ (i : Nat) (cur : List Nat), i ≤ l.length ∧ l.length - i < k ∧ v2 = .int .i64 i ∧ v3 = .int .i64 ((l.length : Int) - 1 - i) ∧ Flipped l cur i ∧ Ints wr base (.slice (some ⟨g, 0, none⟩) cur.length c) cur ∧ Below g w wr ∧ ∀ k, k ≠ g → wr.heap[k]? = w.heap[k]?)
  case atStart => exact ⟨0, l, by omega, by omega, rfl, by simp, Flipped.start l, HST.out, Below.refl _ _, fun _ _ => rfl⟩
  case round =>
    obtain ⟨i, cur, hi, hk, rfl, rfl, hf, hI, hb, ho⟩ := hrel
    clear HST
    have HI : Hid (Ints wr base (.slice (some ⟨g, 0, none⟩) cur.length c) cur) := hI
    have HFl : Hid (Flipped l cur i) := hf
    have HB : Hid (Below g w wr ∧ ∀ k, k ≠ g → wr.heap[k]? = w.heap[k]?) := ⟨hb, ho⟩
    have hcl : cur.length = l.length := hf.1
    clear hb ho hf
    by_cases hlt : i + i + 1 < l.length
    · have hlt' : (i : Int) < (l.length : Int) - 1 - (i : Int) := by omega
      have gi := List.getElem?_eq_getElem (show i < cur.length by omega)
      have gj := List.getElem?_eq_getElem (show l.length - 1 - i < cur.length by omega)
      generalize cur[i] = x at gi
      generalize cur[l.length - 1 - i] = y at gj
      obtain ⟨j, hj⟩ : ∃ j : Nat, j = l.length - 1 - i := ⟨_, rfl⟩
      have hji : (l.length : Int) - 1 - (i : Int) = (j : Int) := by omega
      have ci : wr.cell? ⟨g, i, none⟩ = some (.int .i64 x) := by have := hI.cells i _ (intCells_get gi); rwa [Addr.add_mid, Nat.zero_add] at this
      have cj : wr.cell? ⟨g, j, none⟩ = some (.int .i64 y) := by have := hI.cells j _ (intCells_get (hj ▸ gj)); rwa [Addr.add_mid, Nat.zero_add] at this
      have fi := hI.free i
      have fj := hI.free j
      have hjl : (j : Int) < (l.length : Int) := by omega
      have hil : (i : Int) < (l.length : Int) := by omega
      have HG : Hid (cur[i]? = some x ∧ cur[l.length - 1 - i]? = some y) := ⟨gi, gj⟩
      have hij : i ≠ j := by omega
      have HIS : Hid (∀ wx, Ints wx base (.slice (some ⟨g, 0, none⟩) cur.length c) cur → Ints ((wx.setCell ⟨g, i, none⟩ (.int .i64 (y : Int))).setCell ⟨g, j, none⟩ (.int .i64 (x : Int))) base (.slice (some ⟨g, 0, none⟩) ((cur.set i y).set j x).length c) ((cur.set i y).set j x)) := fun wx hx => by
        have h1 := hx.set (show i < cur.length by omega) y
        rw [show cur.length = (cur.set i y).length by simp] at h1
        have h2 := h1.set (show j < (cur.set i y).length by simp; omega) x
        rw [show (cur.set i y).length = ((cur.set i y).set j x).length by simp] at h2
        exact h2
      rw [hji]
      rw [hji] at hlt'
      have HJ : Hid (j = l.length - 1 - i ∧ i + i + 1 < l.length) := ⟨hj, hlt⟩
      clear gi gj hj hI hlt hji
      go_wp2_with fail
      go_region
      have HIN : Hid (Ints ((wr.setCell ⟨g, i, none⟩ (.int .i64 (y : Int))).setCell ⟨g, j, none⟩ (.int .i64 (x : Int))).drew base (.slice (some ⟨g, 0, none⟩) ((cur.set i y).set j x).length c) ((cur.set i y).set j x)) := ownsRow_same (HIS.out _ HI.out) fun _ _ => rfl
      have HBN : Hid (Below g w ((wr.setCell ⟨g, i, none⟩ (.int .i64 (y : Int))).setCell ⟨g, j, none⟩ (.int .i64 (x : Int))).drew ∧ ∀ k, k ≠ g → ((wr.setCell ⟨g, i, none⟩ (.int .i64 (y : Int))).setCell ⟨g, j, none⟩ (.int .i64 (x : Int))).drew.heap[k]? = w.heap[k]?) :=
        ⟨((HB.out.1.setCell (p := ⟨g, i, none⟩) (Nat.le_refl _) _).setCell (p := ⟨g, j, none⟩) (Nat.le_refl _) _).drew, fun k hk => by
          show ((wr.setCell ⟨g, i, none⟩ (.int .i64 (y : Int))).setCell ⟨g, j, none⟩ (.int .i64 (x : Int))).heap[k]? = _
          rw [Below.heap_setCell _ _ _ k hk, Below.heap_setCell _ _ _ k hk]
          exact HB.out.2 k hk⟩
      generalize ((wr.setCell ⟨g, i, none⟩ (.int .i64 (y : Int))).setCell ⟨g, j, none⟩ (.int .i64 (x : Int))).drew = w2 at HIN HBN ⊢
      clear ci cj fi fj HIS
      go_wp2_with fail
      go_roundg (l.length - i)
      case measure => omega
      case rel =>
        have hst := HFl.out.step HJ.out.2 HG.out.1 HG.out.2
        rw [← HJ.out.1] at hst
        exact ⟨i + 1, _, by omega, by omega, by go_num, by have := HJ.out; congr 1; omega, hst, HIN.out, HBN.out.1, HBN.out.2⟩
    · have hlt' : ¬ (i : Int) < (l.length : Int) - 1 - (i : Int) := by omega
      have HE : Hid (cur = l.reverse) := HFl.out.end_ (by omega)
      clear hI
      go_wp2_with fail
      go_end0
      refine ⟨rfl, ?_, HB.out.1, HB.out.2⟩
      have := HI.out
      rw [HE.out, List.length_reverse] at this
      exact this
theorem Ints.some {w : World} {base : Nat} {v : Value} {l : List Nat} (h : Ints w base v l) (h0 : 0 < l.length) : ∃ g c, v = .slice (some ⟨g, 0, none⟩) l.length c := by
  rcases h.2 with ⟨_, h1⟩ | ⟨g, c, _, hv, _⟩
  · omega
  · exact ⟨g, c, hv⟩

theorem last_get {l : List Nat} {x : Nat} (h : l.getLast? = some x) : 0 < l.length ∧ l[l.length - 1]? = some x := by
  rw [List.getLast?_eq_getElem?] at h
  have := (List.getElem?_eq_some_iff.1 h).1
  exact ⟨by omega, h⟩

section
variable {w w' : World} {B : Nat} {g : Gr} {mate : Nat → Option Nat} {f : Fo}
/-- What bridge hands back. -/
def BrIs (w : World) (B : Nat) (g : Gr) (mate : Nat → Option Nat) (f : Fo) (l r : List Nat) (v u : Nat) (e : Ending) (w' : World) : Prop :=
  FFr B w w' ∧ ((l.getLast? = r.getLast? ∧ e = .returned (.tuple #[.slice none 0 0, .bool false]) ∧ FAt w' B g mate (contractF f l r v u)) ∨
    (l.getLast? ≠ r.getLast? ∧ ∃ rv, e = .returned (.tuple #[rv, .bool true]) ∧ Ints w' w.heap.size rv (l.reverse ++ r) ∧ Below w.heap.size w w'))

set_option maxRecDepth 100000 in
set_option maxHeartbeats 1000000 in
theorem bridge_any (h : FAt w B g mate f) (hrg : ∀ u x, f.ring u x = true → x < 24) (hq : f.queue.length ≤ 900) {v u t t' : Nat} {l r : List Nat}
    (ha : Alt g mate f.next t l) (ht : mate t = none) (hv : l.head? = some v) (hl : l.length ≤ 24) (h24 : ∀ x ∈ l, x < 24) (hlt : l.getLast? = some t)
    (ha' : Alt g mate f.next t' r) (ht' : mate t' = none) (hv' : r.head? = some u) (hr : r.length ≤ 24) (hr24 : ∀ x ∈ r, x < 24) (hrt : r.getLast? = some t') :
    Calls Tryz.prog 87 #[.pointer (some ⟨B, 0, none⟩), .int .i64 v, .int .i64 u] w fun e w' => BrIs w B g mate f l r v u e w' := by
  obtain ⟨i0, hi, hz0, hz1, hz2⟩ := info_parts Tryz.infoInt
  have hB := h.lt
  obtain ⟨hl0, gl⟩ := last_get hlt
  obtain ⟨hr0, gr⟩ := last_get hrt
  have HF : Hid (FAt w B g mate f) := h
  have H24 : Hid ((∀ x ∈ l, x < 24) ∧ ∀ x ∈ r, x < 24) := ⟨h24, hr24⟩
  have HRG : Hid (∀ u x, f.ring u x = true → x < 24) := hrg
  have HHD : Hid (l[0]? = some v ∧ r[0]? = some u) := ⟨by rw [← List.head?_eq_getElem?]; exact hv, by rw [← List.head?_eq_getElem?]; exact hv'⟩
  have HLT : Hid (l.getLast? = some t ∧ r.getLast? = some t') := ⟨hlt, hrt⟩
  have HGL : Hid (l[l.length - 1]? = some t ∧ r[r.length - 1]? = some t') := ⟨gl, gr⟩
  have HR1 := route_any h ha ht hv hl h24
  have HR2 : Hid (∀ wx, Below w.heap.size w wx → Calls Tryz.prog 111 #[.pointer (some ⟨B, 0, none⟩), .int .i64 u] wx fun e w' => ∃ rv, e = .returned rv ∧ Ints w' wx.heap.size rv r ∧ Below wx.heap.size wx w') := fun wx hb => route_any (h.below hb) ha' ht' hv' hr hr24
  clear h ha ht hv h24 ha' ht' hv' hr24 hrg gl gr hlt hrt
  go_enter Tryz.func87, Tryz.ntmps87
  go_wp2_with fail
  refine HR1.mono ?_
  rintro e w1 ⟨lv, rfl, hI1, hB1⟩
  have HC2 := HR2.out w1 hB1
  have HI1 : Hid (Ints w1 w.heap.size lv l) := hI1
  have HB1 : Hid (Below w.heap.size w w1) := hB1
  clear HR1 HR2 hI1 hB1
  go_wp2_with fail
  refine HC2.mono ?_
  rintro e w2 ⟨rv, rfl, hI2, hB2⟩
  have hs1 := HB1.out.size
  have hIl : Ints w2 w.heap.size lv l := ownsRow_same HI1.out fun k hk => hB2.block k (HI1.out.lt k hk).2
  obtain ⟨gl, cl, rfl⟩ := hIl.some hl0
  obtain ⟨gr, cr, rfl⟩ := hI2.some hr0
  have HB2 : Hid (Below w.heap.size w w2) := HB1.out.trans (hB2.mono hs1)
  have hgl : gl < w1.heap.size := (HI1.out.lt gl rfl).2
  have hgr : w1.heap.size ≤ gr := (hI2.lt gr rfl).1
  have hglw : w.heap.size ≤ gl := (HI1.out.lt gl rfl).1
  have HIL : Hid (Ints w2 w.heap.size (.slice (some ⟨gl, 0, none⟩) l.length cl) l) := hIl
  have HIR : Hid (Ints w2 w.heap.size (.slice (some ⟨gr, 0, none⟩) r.length cr) r) := ownsRow_mono hI2 hs1
  have c1 : w2.cell? ⟨gl, l.length - 1, none⟩ = some (.int .i64 t) := by have := hIl.cells _ _ (intCells_get HGL.out.1); rwa [Addr.add_mid, Nat.zero_add] at this
  have c2 : w2.cell? ⟨gr, r.length - 1, none⟩ = some (.int .i64 t') := by have := hI2.cells _ _ (intCells_get HGL.out.2); rwa [Addr.add_mid, Nat.zero_add] at this
  have l1 : ((l.length : Int) - 1) < (l.length : Int) := by omega
  have r1 : ((r.length : Int) - 1) < (r.length : Int) := by omega
  have l0 : (0 : Int) ≤ ((l.length : Int) - 1) := by omega
  have r0 : (0 : Int) ≤ ((r.length : Int) - 1) := by omega
  have el : ((l.length : Int) - 1).toNat = l.length - 1 := by omega
  have er : ((r.length : Int) - 1).toNat = r.length - 1 := by omega
  clear hIl hI2 hB2 HI1 HC2 HGL
  go_wp2_with fail
  by_cases het : t = t'
  · have het' : (t : Int) = (t' : Int) := by rw [het]
    go_quiet (fail)
    go_wp2_with fail
    have hbd : Below w.heap.size w (w2.drewN nq) := below_drewN HB2.out nq
    have hnm : ∀ k, w.heap.size ≤ k → ¬ FMine (w2.drewN nq) B k := fun k hk hm => by
      have := (HF.out.mine ((FMine.same (hbd.block B hB)).1 hm)).2
      omega
    refine (contract_any (HF.out.below hbd) HRG.out hq (ownsRow_same HIL.out fun _ _ => rfl) hl H24.out.1 HHD.out.1 (hnm gl hglw) (ownsRow_same HIR.out fun _ _ => rfl) hr H24.out.2 HHD.out.2 (hnm gr (by omega))).mono ?_
    rintro e w3 ⟨rfl, hA, hf⟩
    have HE : Hid (BrIs w B g mate f l r v u (.returned (.tuple #[.slice none 0 0, .bool false])) w3) := ⟨(FFr.of_below hbd hB).trans hf, .inl ⟨by rw [HLT.out.1, HLT.out.2, het], rfl, hA⟩⟩
    clear hA hf hnm hbd c1 c2
    go_wp2_with fail
    refine bodyPost_ret (v := .tuple #[.slice none 0 0, .bool false]) ?_ rfl HE.out
    simp [results, Tryz.results87]
  · have het' : ¬ (t : Int) = (t' : Int) := by omega
    go_quiet (fail)
    go_wp2_with fail
    have hbd : Below w.heap.size w (w2.drewN nq) := below_drewN HB2.out nq
    refine (reverse_any (w := w2.drewN nq) (ownsRow_same HIL.out fun _ _ => rfl) hl hl0).mono ?_
    rintro e w3 ⟨rfl, hI3, hb3, ho3⟩
    have HB3 : Hid (Below w.heap.size w w3) := hbd.trans (hb3.mono hglw)
    have HI3 : Hid (Ints w3 w.heap.size (.slice (some ⟨gl, 0, none⟩) l.length cl) l.reverse) := hI3
    have HR3 : Hid (Ints w3 w.heap.size (.slice (some ⟨gr, 0, none⟩) r.length cr) r) := ownsRow_same HIR.out fun k hk => by
      cases hk
      exact ho3 gr (Nat.ne_of_gt (Nat.lt_of_lt_of_le hgl hgr))
    have hws := HB3.out.size
    clear hI3 hb3 ho3 hbd c1 c2
    go_wp2_with (at_builtin; go_must (refine wpList_append_mine rfl (.tmp 35) (.tmp 36) 25 rfl w.heap.size 3 i0 (.int .i64 0) 1 8 Tryz.underlying25 hi hz0 hz1 hz2 rfl (by decide) (.slice (some ⟨gl, 0, none⟩) l.length cl) l.length (intCells l.reverse) rfl (by have := HI3.out; unfold Ints at this; rw [List.length_reverse] at this; exact this) ⟨gr, 0, none⟩ r.length cr (intCells r) rfl (by rw [intCells_len, Nat.mul_one]) HR3.out.cells (intCells_one r) (by unfold maxLen; omega) (by omega) hws ?_))
    intro v' w4 ho hg hkk
    have HI4 : Hid (Ints w4 w.heap.size v' (l.reverse ++ r)) := by
      unfold Hid Ints
      rw [List.length_append, List.length_reverse, intCells_append]
      exact ho
    have HB4 : Hid (Below w.heap.size w w4) := HB3.out.grown hg hws (fun k hk => (HI3.out.lt k hk).1)
    have HE : Hid (BrIs w B g mate f l r v u (.returned (.tuple #[v', .bool true])) w4) := ⟨FFr.of_below HB4.out hB, .inr ⟨by rw [HLT.out.1, HLT.out.2]; intro e; injection e with e; exact het e, v', rfl, HI4.out, HB4.out⟩⟩
    clear ho hg hkk
    go_wp2_with fail
    refine bodyPost_ret (v := .tuple #[v', .bool true]) ?_ rfl HE.out
    simp [results, Tryz.results87]
end
end Go.Proofs.YtcabaecbmkgclaaGreatDoor.Mg
