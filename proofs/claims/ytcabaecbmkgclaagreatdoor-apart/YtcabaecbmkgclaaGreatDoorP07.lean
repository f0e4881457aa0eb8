/-
  What a ring's with does.
  What the forest's label does.
  slices.Grow of no slice.
  slices.Concat of two lists of numbers.
  What the forest's contract does.
-/
import Derived.Test.YtcabaecbmkgclaaGreatDoorP06
import Derived.Deep.RegionHeld
import Derived.Lib.AppendZeros
import Derived.Lib.SliceRun

namespace Go.Proofs.YtcabaecbmkgclaaGreatDoor.Mg
open Go.RowKit Mt

theorem ringCells_congr {r s : Nat → Bool} (h : ∀ x, x < 24 → r x = s x) : ringCells r = ringCells s := by
  unfold ringCells
  exact List.map_congr_left fun x hx => by rw [h x (List.mem_range.1 hx)]

theorem run_index_ring (w : World) (r : Nat → Bool) {i : Nat} (hi : i < 24) : (Instr.index 110 (.agg (ringCells r).toArray) (.int .i64 (i : Int))).run Tryz.prog w = .ok (.bool (r i)) w := by
  have h1 : (i : Int) < ((24 : Nat) : Int) := by omega
  have h0 : (0 : Int) ≤ (i : Int) := by omega
  have px : (Go.part 4 (ringCells r).toArray (i * 1)).run Tryz.prog w = .ok (.bool (r i)) w := by
    simp [Go.part, isAgg, run_underlying Tryz.underlying4, ringCells_get r hi]
  unfold Instr.index
  simp only [asIntOf, Sem.run_bind, Sem.run_pure, Result.andThen_ok, run_underlying Tryz.underlying110]
  rw [if_pos ⟨h0, h1⟩]
  simp only [Sem.run_bind, size_bool, Result.andThen_ok, Int.toNat_natCast, px]

/-- Where with stands: its own box holds 'cur', the result's cells are there. -/
structure WiAt (A : Nat) (w wr : World) (cur : Nat → Bool) : Prop where
  below : Below A w wr
  box : wr.rangeAt A 0 (ringCells cur)
  thr : wr.there A 0 24
  res : wr.there (A + 2) 0 24

theorem WiAt.start (w : World) (r o : Nat → Bool) (t : TypeId) : WiAt w.heap.size w (((w.alloc (.cells (ringCells r).toArray t)).alloc (.cells (ringCells o).toArray t)).alloc (.cells (ringCells fun _ => false).toArray t)) r := by
  have h1 : (w.alloc (.cells (ringCells r).toArray t)).heap.size = w.heap.size + 1 := by simp
  have h2 : ((w.alloc (.cells (ringCells r).toArray t)).alloc (.cells (ringCells o).toArray t)).heap.size = w.heap.size + 2 := by simp
  refine ⟨(((Below.refl _ w).alloc (Nat.le_refl _) _).alloc (by omega) _).alloc (by omega) _, World.rangeAt_alloc (World.rangeAt_alloc (range_alloc w r t) _) _, ?_, ?_⟩
  · exact World.there_alloc (World.there_alloc (ring_there w r t) _) _
  · rw [← h2]
    exact ring_there _ _ _

theorem WiAt.set {A : Nat} {w wr : World} {cur cur' : Nat → Bool} (h : WiAt A w wr cur) {i : Nat} (hi : i < 24) (b : Bool) (h1 : cur' i = b) (h2 : ∀ x, x ≠ i → cur' x = cur x) : WiAt A w (wr.setCell ⟨A, i, none⟩ (.bool b)) cur' := by
  refine ⟨h.below.setCell (Nat.le_refl _) _, ?_, World.there_setCells h.thr A i [.bool b], World.there_setCells h.res A i [.bool b]⟩
  intro j v hj
  have hj24 : j < 24 := by
    have := (List.getElem?_eq_some_iff.1 hj).1
    simpa [ringCells_len] using this
  rw [ringCells_get _ hj24] at hj
  cases hj
  by_cases e : j = i
  · subst e
    have := (h.thr j hj24).1
    rw [Nat.zero_add] at this ⊢
    rw [World.cell?_setCell_same' _ _ _ this, h1]
  · rw [Nat.zero_add, World.cell?_setCell_other (w := wr) (a := ⟨A, i, none⟩) (b := ⟨A, j, none⟩) (v := .bool b) (by intro e'; injection e' with _ e'; exact e e'.symm), h2 j e]
    have := h.box j _ (ringCells_get cur hj24)
    rwa [Nat.zero_add] at this

theorem WiAt.cell {A : Nat} {w wr : World} {cur : Nat → Bool} (h : WiAt A w wr cur) {i : Nat} (hi : i < 24) : wr.cell? ⟨A, i, none⟩ = some (.bool (cur i)) ∧ wr.frozen? ⟨A, i, none⟩ = false := by
  have := h.box i _ (ringCells_get cur hi)
  have t := (h.thr i hi).2
  rw [Nat.zero_add] at this t
  exact ⟨this, t⟩

set_option maxRecDepth 100000 in
set_option maxHeartbeats 1000000 in
theorem with_any (w : World) (r o : Nat → Bool) :
    Calls Tryz.prog 143 #[.agg (ringCells r).toArray, .agg (ringCells o).toArray] w fun e w' => e = .returned (.agg (ringCells fun x => r x || o x).toArray) ∧ Below w.heap.size w w' := by
  have HST : Hid (WiAt w.heap.size w (((w.alloc (.cells (ringCells r).toArray 110)).alloc (.cells (ringCells o).toArray 110)).alloc (.cells (ringCells fun _ => false).toArray 110)) r) := WiAt.start w r o _
  have HOT : Hid ((((w.alloc (.cells (ringCells r).toArray 110)).alloc (.cells (ringCells o).toArray 110)).alloc (.cells (ringCells fun _ => false).toArray 110)).rangeAt (w.heap.size + 1) 0 (ringCells o)) := by
    refine World.rangeAt_alloc ?_ _
    have h1 : (w.alloc (.cells (ringCells r).toArray 110)).heap.size = w.heap.size + 1 := by simp
    rw [← h1]
    exact range_alloc _ _ _
  go_enter Tryz.func143, Tryz.ntmps143
  go_wp2_with (first | (refine wpList_alloc rfl 110 rfl _ _ (alloc_ring _) ?_; simp only [Act.put, List.setIfInBounds_toArray, List.set_cons_zero, List.set_cons_succ]) | (refine wpList_load_mid rfl 110 (.tmp 3) rfl (w.heap.size + 1) 0 (by simp [Act.eval]) (ringCells o) _ HOT.out Tryz.underlying110 rfl (by rw [Tryz.sizeRing, ringCells_len]) ?_; simp only [Act.put, List.setIfInBounds_toArray, List.set_cons_zero, List.set_cons_succ]))
  go_loopg [8] 25 (fun k vi wr => ∃ i : Nat, i ≤ 24 ∧ 24 - i ≤ k ∧ vi = .int .i64 i ∧ WiAt w.heap.size w wr (fun x => r x || (decide (x < i) && o x)))
  case atStart =>
    refine ⟨0, by omega, by omega, rfl, ?_⟩
    have e : (fun x => r x || (decide (x < 0) && o x)) = r := by funext x; simp
    rw [e]
    exact HST.out
  case round =>
    obtain ⟨i, hi, hk, rfl, hat⟩ := hrel
    have HAT : Hid (WiAt w.heap.size w wr (fun x => r x || (decide (x < i) && o x))) := hat
    clear HST HOT hat
    by_cases hlt : i < 24
    · have hlt' : (i : Int) < (24 : Int) := by omega
      have cc := HAT.out.cell hlt
      simp only [Nat.lt_irrefl, decide_false, Bool.false_and, Bool.or_false] at cc
      obtain ⟨ci, fi⟩ := cc
      have oi : ∀ wx, (Instr.index 110 (.agg (ringCells o).toArray) (.int .i64 (i : Int))).run Tryz.prog wx = .ok (.bool (o i)) wx := fun wx => run_index_ring wx o hlt
      cases hri : r i
      · rw [hri] at ci
        have HAN : Hid (WiAt w.heap.size w (wr.setCell ⟨w.heap.size, i, none⟩ (.bool (o i))) (fun x => r x || (decide (x < i + 1) && o x))) := HAT.out.set hlt _ (by simp [hri]) (fun x hx => by simp only [show (x < i + 1) = (x < i) from propext ⟨fun h => by omega, fun h => by omega⟩])
        go_wp2_with fail
        go_roundg (24 - (i + 1))
        case measure => omega
        case rel => exact ⟨i + 1, by omega, Nat.le_refl _, by go_num, HAN.out⟩
      · rw [hri] at ci
        have HAN : Hid (WiAt w.heap.size w (wr.setCell ⟨w.heap.size, i, none⟩ (.bool true)) (fun x => r x || (decide (x < i + 1) && o x))) := HAT.out.set hlt _ (by simp [hri]) (fun x hx => by simp only [show (x < i + 1) = (x < i) from propext ⟨fun h => by omega, fun h => by omega⟩])
        go_wp2_with fail
        go_roundg (24 - (i + 1))
        case measure => omega
        case rel => exact ⟨i + 1, by omega, Nat.le_refl _, by go_num, HAN.out⟩
    · have hlt' : ¬ (i : Int) < (24 : Int) := by omega
      have HE : Hid (ringCells (fun x => r x || (decide (x < i) && o x)) = ringCells (fun x => r x || o x)) := ringCells_congr fun x hx => by simp [show x < i by omega]
      have HBX : Hid (wr.rangeAt w.heap.size 0 (ringCells (fun x => r x || o x))) := by
        have := HAT.out.box
        rw [HE.out] at this
        exact this
      go_wp2_with (first | (refine wpList_load_mid rfl 110 (.tmp 2) rfl w.heap.size 0 (by simp [Act.eval]) (ringCells (fun x => r x || o x)) _ HBX.out Tryz.underlying110 rfl (by rw [Tryz.sizeRing, ringCells_len]) ?_; simp only [Act.put, List.setIfInBounds_toArray, List.set_cons_zero, List.set_cons_succ]) | (refine wpList_store_mid rfl 110 (.tmp 4) (.tmp 21) rfl (w.heap.size + 2) 0 (ringCells (fun x => r x || o x)).toArray (by simp [Act.eval]) (by rfl) (by rw [ring_size]; exact HAT.out.res) (by rw [ring_size]; exact Tryz.sizeRing) (ring_one _) ?_; simp only [Act.put]))
      have HLD := ring_stored (fun x => r x || o x) HAT.out.res
      refine bodyPost_ret (v := .agg (ringCells (fun x => r x || o x)).toArray) ?_ rfl ⟨rfl, below_cells (by omega) _ _ _ HAT.out.below⟩
      simp [results, Tryz.results143, asAddr, HLD]
end Go.Proofs.YtcabaecbmkgclaaGreatDoor.Mg

namespace Go.Proofs.YtcabaecbmkgclaaGreatDoor.Mg
open Go.RowKit Mt

theorem heap_setCells {B k : Nat} (hk : k ≠ B) : ∀ (vs : List Value) (o : Nat) (w : World), (w.setCells B o vs).heap[k]? = w.heap[k]?
  | [], _, _ => rfl
  | v :: r, o, w => by
    rw [World.setCells, heap_setCells hk r (o + 1), Below.heap_setCell w _ v k (by rintro rfl; exact hk rfl)]

theorem frozen_setCells {B : Nat} (a : Addr) : ∀ (vs : List Value) (o : Nat) (w : World), (w.setCells B o vs).frozen? a = w.frozen? a
  | [], _, _ => rfl
  | v :: r, o, w => by rw [World.setCells, frozen_setCells a r (o + 1), World.frozen?_setCell]

section
variable {w w' : World} {B : Nat} {g : Gr} {mate : Nat → Option Nat} {f : Fo}

/-- Cells of the forest's block ahead of its queue. -/
theorem FFr.sets : ∀ (vs : List Value) (o : Nat) (w a : World), FFr B a w → o + vs.length ≤ 697 → FFr B a (w.setCells B o vs)
  | [], _, _, _, h, _ => h
  | v :: r, o, w, a, h, hl => by
    rw [World.setCells]
    simp at hl
    exact FFr.sets r (o + 1) _ a (h.set (by omega) v) (by omega)

theorem FAt.thereRing (h : FAt w B g mate f) {v : Nat} (hv : v < 24) : w.there B (49 + v * 24) 24 := fun j hj => ⟨by rw [h.ring v j hv hj]; rfl, h.free _⟩

theorem FAt.setRing (h : FAt w B g mate f) {u : Nat} (hu : u < 24) (W : Nat → Bool) : FAt (w.setCells B (49 + u * 24) (ringCells W)) B g mate { f with ring := setAt f.ring u W } := by
  have hc : ∀ j, (j < 49 + u * 24 ∨ 49 + u * 24 + 24 ≤ j) → (w.setCells B (49 + u * 24) (ringCells W)).cell? ⟨B, j, none⟩ = w.cell? ⟨B, j, none⟩ := fun j hj => World.cell?_setCells_out _ _ _ _ _ fun _ _ => by rw [ringCells_len]; exact hj
  have hr := World.rangeAt_setCells_same w B (49 + u * 24) (ringCells W) (by rw [ringCells_len]; exact h.thereRing hu)
  refine ⟨fun k hk => by rw [hc _ (by omega)]; exact h.near k hk, by rw [hc _ (by omega)]; exact h.n, fun k hk => by rw [hc _ (by omega)]; exact h.mate k hk, ?_, fun k hk => by rw [hc _ (by omega)]; exact h.next k hk, fun k hk => by rw [hc _ (by omega)]; exact h.outer k hk, fun k hk => by rw [hc _ (by omega)]; exact h.inner k hk, ?_, fun i => by rw [frozen_setCells]; exact h.free i⟩
  · intro v x hv hx
    by_cases e : v = u
    · subst e
      rw [hr x _ (ringCells_get W hx)]
      simp [setAt]
    · rw [hc _ (by omega)]
      simp only [setAt, if_neg e]
      exact h.ring v x hv hx
  · obtain ⟨v, hv, ho, hne⟩ := h.queue
    exact ⟨v, by rw [hc _ (by omega)]; exact hv, ownsRow_same ho fun k hk => heap_setCells (fun e => hne (by rw [hk, e])) _ _ _, hne⟩

/-- The forest when label has come to i. -/
def lab (f : Fo) (W : Nat → Bool) (i : Nat) : Fo :=
  { f with ring := fun x => if decide (x < i) && W x then W else f.ring x, outer := fun x => f.outer x || (decide (x < i) && W x), queue := f.queue ++ (List.range i).filter fun x => W x && !f.outer x }

theorem lab_zero (f : Fo) (W : Nat → Bool) : lab f W 0 = f := by
  cases f
  simp [lab]

theorem dec_succ {x i : Nat} (h : x ≠ i) : decide (x < i + 1) = decide (x < i) := by
  by_cases k : x < i
  · simp [k, Nat.lt_succ_of_lt k]
  · simp [k, show ¬ x < i + 1 by omega]

theorem lab_no {W : Nat → Bool} {i : Nat} (h : W i = false) : lab f W (i + 1) = lab f W i := by
  unfold lab
  have e : ∀ x, (decide (x < i + 1) && W x) = (decide (x < i) && W x) := fun x => by
    by_cases k : x = i
    · subst k; simp [h]
    · rw [dec_succ k]
  simp only [e, List.range_succ, List.filter_append]
  simp [h]

theorem lab_old {W : Nat → Bool} {i : Nat} (h : W i = true) (ho : f.outer i = true) : lab f W (i + 1) = { lab f W i with ring := setAt (lab f W i).ring i W } := by
  unfold lab
  simp only [List.range_succ, List.filter_append, Fo.mk.injEq]
  refine ⟨?_, trivial, ?_, trivial, by simp [ho]⟩
  · funext x
    by_cases k : x = i
    · subst k; simp [setAt, h]
    · simp only [setAt, if_neg k, dec_succ k]
  · funext x
    by_cases k : x = i
    · subst k; simp [ho]
    · rw [dec_succ k]

theorem lab_new {W : Nat → Bool} {i : Nat} (h : W i = true) (ho : f.outer i = false) : lab f W (i + 1) = { lab f W i with ring := setAt (lab f W i).ring i W, outer := setAt (lab f W i).outer i true, queue := (lab f W i).queue ++ [i] } := by
  unfold lab
  simp only [List.range_succ, List.filter_append, Fo.mk.injEq]
  refine ⟨?_, trivial, ?_, trivial, by simp [ho, h]⟩
  · funext x
    by_cases k : x = i
    · subst k; simp [setAt, h]
    · simp only [setAt, if_neg k, dec_succ k]
  · funext x
    by_cases k : x = i
    · subst k; simp [setAt, h]
    · simp only [setAt, if_neg k, dec_succ k]

theorem lab_end {W : Nat → Bool} (h : ∀ x, W x = true → x < 24) : lab f W 24 = { f with ring := fun x => if W x then W else f.ring x, outer := fun x => f.outer x || W x, queue := f.queue ++ (List.range 24).filter fun x => W x && !f.outer x } := by
  unfold lab
  have e : ∀ x, (decide (x < 24) && W x) = W x := fun x => by
    cases k : W x
    · simp
    · simp [h x k]
  simp only [e]

theorem lab_len (f : Fo) (W : Nat → Bool) (i : Nat) : (lab f W i).queue.length ≤ f.queue.length + i := by
  unfold lab
  have := List.length_filter_le (fun x => W x && !f.outer x) (List.range i)
  simp at this ⊢
  omega

set_option maxRecDepth 100000 in
set_option maxHeartbeats 1000000 in
theorem label_any (h : FAt w B g mate f) (W : Nat → Bool) (hn : f.queue.length ≤ 900) :
    Calls Tryz.prog 145 #[.pointer (some ⟨B, 0, none⟩), .agg (ringCells W).toArray] w fun e w' => e = .returned (.tuple #[]) ∧ FAt w' B g mate (lab f W 24) ∧ FFr B w w' := by
  have hB := h.lt
  have hFB : FFr B w (w.alloc (.cells (ringCells W).toArray 110)) := FFr.of_below ((Below.refl _ w).alloc (Nat.le_refl _) _) hB
  have HFB : Hid (FFr B w (w.alloc (.cells (ringCells W).toArray 110))) := hFB
  have HSZ : Hid ((w.alloc (.cells (ringCells W).toArray 110)).heap.size = w.heap.size + 1) := by simp [Hid]
  have HRB : Hid ((w.alloc (.cells (ringCells W).toArray 110)).rangeAt w.heap.size 0 (ringCells W)) := range_alloc w W _
  have HNM : Hid (¬ FMine (w.alloc (.cells (ringCells W).toArray 110)) B w.heap.size) := fun hm => by
    have hm' := (FMine.same (w' := w.alloc (.cells (ringCells W).toArray 110)) (w := w) (B := B) (k := w.heap.size) (heap_alloc_lt w _ B hB)).1 hm
    have := (h.mine hm').2
    omega
  have HF0 : Hid (FAt (w.alloc (.cells (ringCells W).toArray 110)) B g mate f) := h.alloc _
  clear h hFB
  go_enter Tryz.func145, Tryz.ntmps145
  generalize hwb : w.alloc (.cells (ringCells W).toArray 110) = wb at *
  go_wp2_with (refine wpList_load_mid rfl 110 (.tmp 3) rfl w.heap.size 0 (by simp [Act.eval]) (ringCells W) _ HRB.out Tryz.underlying110 rfl (by rw [Tryz.sizeRing, ringCells_len]) ?_; simp only [Act.put, List.setIfInBounds_toArray, List.set_cons_zero, List.set_cons_succ])
  go_loopg [7] 25 (fun k vi wr => ∃ i : Nat, i ≤ 24 ∧ 24 - i ≤ k ∧ vi = .int .i64 i ∧ FAt wr B g mate (lab f W i) ∧ FFr B wb wr)
  case atStart => exact ⟨0, by omega, by omega, rfl, by rw [lab_zero]; exact HF0.out, FFr.refl _ _⟩
  case round =>
    obtain ⟨i, hi, hk, rfl, hat, hfr⟩ := hrel
    have HAT : Hid (FAt wr B g mate (lab f W i)) := hat
    have HFR : Hid (FFr B wb wr) := hfr
    have HRX : Hid (wr.rangeAt w.heap.size 0 (ringCells W)) := fun j v hj => by
      rw [← HRB.out j v hj]
      exact World.cell?_of_block (hfr.block w.heap.size (by rw [HSZ.out]; omega) HNM.out)
    clear HF0 hat hfr
    by_cases hlt : i < 24
    · have hlt' : (i : Int) < (24 : Int) := by omega
      have oi : ∀ wx, (Instr.index 110 (.agg (ringCells W).toArray) (.int .i64 (i : Int))).run Tryz.prog wx = .ok (.bool (W i)) wx := fun wx => run_index_ring wx W hlt
      cases hW : W i
      · rw [hW] at oi
        have HL : Hid (lab f W (i + 1) = lab f W i) := lab_no hW
        go_wp2_with fail
        go_roundg (24 - (i + 1))
        case measure => omega
        case rel => exact ⟨i + 1, by omega, Nat.le_refl _, by go_num, by rw [HL.out]; exact HAT.out, HFR.out⟩
      · rw [hW] at oi
        have HTX : Hid (wr.there B (49 + i * 24) 24) := HAT.out.thereRing hlt
        have HNB : Hid (w.heap.size ≠ B) := Nat.ne_of_gt hB
        go_wp2_with fail
        refine wp_region_held_drew (S := fun w' => w'.rangeAt w.heap.size 0 (ringCells W) ∧ w'.there B (49 + i * 24) 24) (by kernel_rfl) ?_ (fun hHeld => ?_)
        · exact ⟨HRX.out, HTX.out⟩
        refine wpAnyH_take (i := 0) (oi := ⟨some 13, .move (.tmp 0), _, _, _, none⟩) (v := (.pointer (some ⟨B, 0, none⟩))) rfl (by kernel_rfl) (by kernel_rfl) (by kernel_rfl) (fun _ _ _ h => h) (Or.inl ⟨by rfl, ?hy0⟩) (by assumption) ?rest0
        case hy0 =>
          intro w0 hS
          go_simp
          try (with_reducible rfl)
        try simp only [Act.put, List.setIfInBounds_toArray, List.set_cons_zero, List.set_cons_succ]
        refine wpAnyH_take (i := 1) (oi := ⟨some 14, .move (.tmp 4), _, _, _, none⟩) (v := (.int .i64 (i : Int))) rfl (by kernel_rfl) (by kernel_rfl) (by kernel_rfl) (fun _ _ _ h => h) (Or.inl ⟨by rfl, ?hy1⟩) (by assumption) ?rest1
        case hy1 =>
          intro w0 hS
          go_simp
          try (with_reducible rfl)
        try simp only [Act.put, List.setIfInBounds_toArray, List.set_cons_zero, List.set_cons_succ]
        refine wpAnyH_take (i := 2) (oi := ⟨some 15, .load _ (.tmp 3), _, _, _, none⟩) (v := (.agg (ringCells W).toArray)) rfl (by kernel_rfl) (by kernel_rfl) (by kernel_rfl) (fun _ _ _ h => h) (yieldsIf_load_mid (by rfl) 110 (.tmp 3) rfl w.heap.size 0 (by simp [Act.eval]) (ringCells W) _ (fun w h => h.1) Tryz.underlying110 rfl (by rw [Tryz.sizeRing, ringCells_len])) (by assumption) ?rest2
        try simp only [Act.put, List.setIfInBounds_toArray, List.set_cons_zero, List.set_cons_succ]
        refine wpAnyH_take (i := 3) (oi := ⟨some 16, .nilCheck (.tmp 13), _, _, _, none⟩) (v := (.pointer (some ⟨B, 0, none⟩))) rfl (by kernel_rfl) (by kernel_rfl) (by kernel_rfl) (fun _ _ _ h => h) (Or.inl ⟨by rfl, ?hy3⟩) (by assumption) ?rest3
        case hy3 =>
          intro w0 hS
          go_simp
          try (with_reducible rfl)
        try simp only [Act.put, List.setIfInBounds_toArray, List.set_cons_zero, List.set_cons_succ]
        refine wpAnyH_take (i := 4) (oi := ⟨some 17, .fieldAddr _ (.tmp 16) 1, _, _, _, none⟩) (v := (.pointer (some ⟨B, 49, none⟩))) rfl (by kernel_rfl) (by kernel_rfl) (by kernel_rfl) (fun _ _ _ h => h) (Or.inl ⟨by rfl, ?hy4⟩) (by assumption) ?rest4
        case hy4 =>
          intro w0 hS
          go_simp
          try (with_reducible rfl)
        try simp only [Act.put, List.setIfInBounds_toArray, List.set_cons_zero, List.set_cons_succ]
        refine wpAnyH_take (i := 5) (oi := ⟨some 18, .indexAddr _ (.tmp 17) (.tmp 14), _, _, _, none⟩) (v := (.pointer (some ⟨B, 49 + i * 24, none⟩))) rfl (by kernel_rfl) (by kernel_rfl) (by kernel_rfl) (fun _ _ _ h => h) (Or.inl ⟨by rfl, ?hy5⟩) (by assumption) ?rest5
        case hy5 =>
          intro w0 hS
          go_simp
          try (with_reducible rfl)
        try simp only [Act.put, List.setIfInBounds_toArray, List.set_cons_zero, List.set_cons_succ]
        refine wpAnyH_ready (rs := [6]) (by kernel_rfl) (by simp) ?_
        refine AllReadyH.cons (o := ⟨none, .store _ (.tmp 18) (.tmp 15), _, _, _, none⟩) rfl (fun K hK => ?_) AllReadyH.nil
        rw [if_pos (by rfl)]
        refine wp_store_mid 110 (.tmp 18) (.tmp 15) rfl B (49 + i * 24) (ringCells W).toArray (by simp [Act.eval]) (by simp [Act.eval]) (by rw [ring_size]; exact hHeld.2) (by rw [ring_size]; exact Tryz.sizeRing) (ring_one _) ?_
        try simp only [Act.put]
        refine hK.out _ _ ⟨World.rangeAt_setCells_apart hHeld.1 _ _ _ (.inl HNB.out), World.there_setCells hHeld.2 _ _ _⟩ (fun hHeld2 => ?_)
        clear hK K
        refine wpAnyH_done (by kernel_rfl) ?_ _
        have hA2 := HAT.out.drew.setRing hlt W
        have HF2 : Hid (FFr B wb (wr.drew.setCells B (49 + i * 24) (ringCells W))) := FFr.sets _ _ _ _ (HFR.out.trans ⟨rfl, rfl, rfl, Nat.le_refl _, fun _ _ _ => rfl, fun _ _ h => h⟩) (by rw [ringCells_len]; omega)
        generalize wr.drew.setCells B (49 + i * 24) (ringCells W) = w2 at hA2 HF2 ⊢
        have co := hA2.outer i hlt
        have eo : (lab f W i).outer i = f.outer i := by simp [lab]
        rw [show ({ lab f W i with ring := setAt (lab f W i).ring i W } : Fo).outer i = (lab f W i).outer i from rfl, eo] at co
        have i24 : (i : Int) < 24 := hlt'
        have HA2 : Hid (FAt w2 B g mate { lab f W i with ring := setAt (lab f W i).ring i W }) := hA2
        clear hA2 hHeld hHeld2
        cases ho : f.outer i
        · rw [ho] at co
          have HRC := reach_any HA2.out hlt (by have := lab_len f W i; show (lab f W i).queue.length ≤ 1000; omega)
          go_wp2_with fail
          refine HRC.mono ?_
          rintro e w3 ⟨rfl, hA3, hF3⟩
          have HA3 : Hid (FAt w3 B g mate (lab f W (i + 1))) := by
            rw [lab_new hW ho]
            exact hA3
          have HF3 : Hid (FFr B wb w3) := HF2.out.trans hF3
          clear hA3 hF3 HRC
          go_wp2_with fail
          go_roundg (24 - (i + 1))
          case measure => omega
          case rel => exact ⟨i + 1, by omega, Nat.le_refl _, by go_num, HA3.out, HF3.out⟩
        · rw [ho] at co
          have HA3 : Hid (FAt w2 B g mate (lab f W (i + 1))) := by
            rw [lab_old hW ho]
            exact HA2.out
          go_wp2_with fail
          go_roundg (24 - (i + 1))
          case measure => omega
          case rel => exact ⟨i + 1, by omega, Nat.le_refl _, by go_num, HA3.out, HF2.out⟩
    · have hlt' : ¬ (i : Int) < (24 : Int) := by omega
      have e24 : i = 24 := by omega
      subst e24
      go_wp2_with fail
      go_end0
      exact ⟨rfl, HAT.out, HFB.out.trans HFR.out⟩
end
end Go.Proofs.YtcabaecbmkgclaaGreatDoor.Mg

namespace Go.Proofs.YtcabaecbmkgclaaGreatDoor.Mg
open Go.RowKit Mt

theorem Ints.nil (w : World) (base : Nat) : Ints w base (.slice none 0 0) [] := ⟨rfl, .inl ⟨rfl, rfl⟩⟩

theorem zero_len {z : Value} {s : Nat} (hz : z.cells.size = s) (n : Nat) : (Builtin.zeroCells z.cells n).size = n * s := by
  subst hz
  unfold Builtin.zeroCells
  simp

set_option maxRecDepth 100000 in
set_option maxHeartbeats 1000000 in
theorem grow_nil (w : World) {n : Nat} (hn : n ≤ 1000) :
    Calls Tryz.prog 159 #[.slice none 0 0, .int .i64 n] w fun e w' => ∃ rv, e = .returned rv ∧ Ints w' w.heap.size rv [] ∧ Below w.heap.size w w' := by
  obtain ⟨i0, hi, hz0, hz1, hz2⟩ := info_parts Tryz.infoInt
  rcases Nat.eq_zero_or_pos n with h0 | h0
  · subst h0
    go_enter Tryz.func159, Tryz.ntmps159
    go_wp2_with fail
    go_ret
    exact ⟨_, rfl, Ints.nil _ _, Below.refl _ _⟩
  · have h1 : ¬ ((n : Int) < 0) := by omega
    have h4 : (n : Int) > 0 := by omega
    have hrz : ∀ ty, (Builtin.append_ #[25, 3] ty #[.slice none 0 0, .int .i64 (n : Int)]).run Tryz.prog w = .ok (.slice (some ⟨w.heap.size, 0, none⟩) n (grownCap w n 0 3)) (w.drew.alloc (.cells (Builtin.zeroCells (Value.int .i64 0).cells n ++ Builtin.zeroCells (Value.int .i64 0).cells (grownCap w n 0 3 - n)) 3)) := fun ty =>
      Lib.run_append_nil_zeros w 25 3 ty 3 i0 (.int .i64 0) .i64 .i64 Tryz.underlying25 Tryz.underlying3 hi hz0 n h0 (by rw [hz1]; omega) (by omega) (by rw [hz2]; omega)
    have hGn : n ≤ grownCap w n 0 3 := grownCap_ge w _ _ _
    have hGm : grownCap w n 0 3 ≤ maxLen := grownCap_le_maxLen w n 0 3 (by unfold maxLen; omega)
    have HIN : Hid (Ints (w.drew.alloc (.cells (Builtin.zeroCells (Value.int .i64 0).cells n ++ Builtin.zeroCells (Value.int .i64 0).cells (grownCap w n 0 3 - n)) 3)) w.heap.size (.slice (some ⟨w.heap.size, 0, none⟩) 0 (grownCap w n 0 3)) []) := by
      refine ⟨rfl, .inr ⟨w.heap.size, _, _, rfl, Nat.le_refl _, heap_alloc_new w.drew _, Nat.zero_le _, hGm, ?_, by simp [intCells]⟩⟩
      rw [Array.size_append, zero_len (s := 1) rfl, zero_len (s := 1) rfl]
      omega
    have HBE : Hid (Below w.heap.size w (w.drew.alloc (.cells (Builtin.zeroCells (Value.int .i64 0).cells n ++ Builtin.zeroCells (Value.int .i64 0).cells (grownCap w n 0 3 - n)) 3))) := (Below.refl _ w).drew.alloc (Nat.le_refl _) _
    have hG63 : grownCap w n 0 3 ≤ 9223372036854775807 := by unfold maxLen at hGm; omega
    generalize grownCap w n 0 3 = G at *
    generalize w.drew.alloc (.cells (Builtin.zeroCells (Value.int .i64 0).cells n ++ Builtin.zeroCells (Value.int .i64 0).cells (G - n)) 3) = w2 at *
    go_enter Tryz.func159, Tryz.ntmps159
    go_wp2_with (at_builtin; refine Lib.wpList_append_run _ rfl _ _ _ _ rfl _ _ rfl rfl _ _ (hrz _) ?_)
    go_ret
    exact ⟨_, rfl, HIN.out, HBE.out⟩
end Go.Proofs.YtcabaecbmkgclaaGreatDoor.Mg

namespace Go.Proofs.YtcabaecbmkgclaaGreatDoor.Mg
open Go.RowKit Mt

/-- The two lists that Concat is called with, in the row S: each behind a pointer. -/
structure TwoAt (w : World) (S : Nat) (base g1 c1 g2 c2 : Nat) (l r : List Nat) : Prop where
  s0 : w.cell? ⟨S, 0, none⟩ = some (.slice (some ⟨g1, 0, none⟩) l.length c1)
  s1 : w.cell? ⟨S, 1, none⟩ = some (.slice (some ⟨g2, 0, none⟩) r.length c2)
  i0 : Ints w base (.slice (some ⟨g1, 0, none⟩) l.length c1) l
  i1 : Ints w base (.slice (some ⟨g2, 0, none⟩) r.length c2) r

theorem Ints.block_lt {w : World} {base g c : Nat} {l : List Nat} (h : Ints w base (.slice (some ⟨g, 0, none⟩) l.length c) l) : g < w.heap.size := (h.lt g rfl).2

theorem TwoAt.below {w w' : World} {S base g1 c1 g2 c2 : Nat} {l r : List Nat} (h : TwoAt w S base g1 c1 g2 c2 l r) (hb : Below w.heap.size w w') : TwoAt w' S base g1 c1 g2 c2 l r := by
  have hS := World.block_lt_of_cell? w ⟨S, 0, none⟩ h.s0
  exact ⟨(hb.cell (p := ⟨S, 0, none⟩) hS).trans h.s0, (hb.cell (p := ⟨S, 1, none⟩) hS).trans h.s1, ownsRow_same h.i0 fun k hk => hb.block k (h.i0.lt k hk).2, ownsRow_same h.i1 fun k hk => hb.block k (h.i1.lt k hk).2⟩

theorem Ints.cells {w : World} {base g c : Nat} {l : List Nat} (h : Ints w base (.slice (some ⟨g, 0, none⟩) l.length c) l) : ∀ (j : Nat) u, (intCells l)[j]? = some u → w.cell? ((⟨g, 0, none⟩ : Addr).add j) = some u := by
  intro j u hj
  have hjl : j < l.length := by
    have := (List.getElem?_eq_some_iff.1 hj).1
    simpa [intCells] using this
  have gj := List.getElem?_eq_getElem hjl
  obtain ⟨g', cap, es, _, _, cx⟩ := h.at gj
  injection es with e1
  injection e1 with e1
  injection e1 with e1
  subst e1
  rw [intCells_get gj] at hj
  rw [Addr.add_mid, Nat.zero_add, cx, hj]

theorem intCells_one (l : List Nat) : ∀ u ∈ intCells l, u.oneCell' = true := by
  intro u hu
  obtain ⟨x, _, rfl⟩ := List.mem_map.1 hu
  rfl

set_option maxRecDepth 100000 in
set_option maxHeartbeats 1000000 in
theorem concat_any {w : World} {S base g1 c1 g2 c2 : Nat} {l r : List Nat} (h : TwoAt w S base g1 c1 g2 c2 l r) (hl : l.length ≤ 24) (hr : r.length ≤ 24) :
    Calls Tryz.prog 142 #[.slice (some ⟨S, 0, none⟩) 2 2] w fun e w' => ∃ rv, e = .returned rv ∧ Ints w' w.heap.size rv (l ++ r) ∧ Below w.heap.size w w' := by
  obtain ⟨i0, hi, hz0, hz1, hz2⟩ := info_parts Tryz.infoInt
  have HT : Hid (TwoAt w S base g1 c1 g2 c2 l r) := h
  have HG := grow_nil w (n := l.length + r.length) (by omega)
  rw [Int.natCast_add] at HG
  have c0 := h.s0
  have c1' := h.s1
  clear h
  go_enter Tryz.func142, Tryz.ntmps142
  go_wp2_with fail
  go_loopg [3, 11] 3 (fun k v3 v11 wr => ∃ i : Nat, i ≤ 2 ∧ 3 - i ≤ k ∧ v11 = .int .i64 i ∧ v3 = .int .i64 ((if i = 0 then 0 else if i = 1 then l.length else l.length + r.length : Nat) : Int) ∧ w = wr)
  case atStart => exact ⟨0, by omega, by omega, rfl, rfl, rfl⟩
  case round =>
    obtain ⟨i, hi2, hk, rfl, rfl, rfl⟩ := hrel
    match i, hi2, hk with
    | 0, _, hk =>
      have hs63 : ¬ (l.length : Int) < 0 := by omega
      go_wp2_with fail
      go_roundg 2
      case measure => omega
      case rel => exact ⟨1, by omega, by omega, rfl, by simp, rfl⟩
    | 1, _, hk =>
      have hs63 : ¬ ((l.length : Int) + (r.length : Int)) < 0 := by omega
      go_wp2_with fail
      go_roundg 1
      case measure => omega
      case rel => exact ⟨2, by omega, by omega, rfl, by simp, rfl⟩
    | 2, _, hk =>
      go_wp2_with fail
      refine HG.mono ?_
      rintro e w1 ⟨rv, rfl, hI, hB⟩
      have HST : Hid (Ints w1 w.heap.size rv [] ∧ Below w.heap.size w w1) := ⟨hI, hB⟩
      clear HG hI hB c0 c1'
      go_wp2_with fail
      go_loopg [6, 27] 3 (fun k v6 v27 wr => ∃ i : Nat, i ≤ 2 ∧ 3 - i ≤ k ∧ v27 = .int .i64 i ∧ Ints wr w.heap.size v6 (if i = 0 then [] else if i = 1 then l else l ++ r) ∧ Below w.heap.size w wr)
      case atStart => exact ⟨0, by omega, by omega, rfl, HST.out.1, HST.out.2⟩
      case round =>
        obtain ⟨i, hi2, hk, rfl, hI, hB⟩ := hrel
        clear HST
        have hws : w.heap.size ≤ wr.heap.size := hB.size
        have hT := HT.out.below hB
        have HTr : Hid (TwoAt wr S base g1 c1 g2 c2 l r) := hT
        have HBE : Hid (Below w.heap.size w wr) := hB
        match i, hi2, hk with
        | 0, _, hk =>
          have d0 := hT.s0
          obtain ⟨ro, rc, hrs⟩ := hI.shape
          have HIN : Hid (Ints wr w.heap.size _ []) := hI
          subst hrs
          clear hT hB hI
          go_wp2_with (at_builtin; go_must (refine wpList_append_mine rfl (.tmp 31) (.tmp 32) 25 rfl w.heap.size 3 i0 (.int .i64 0) 1 8 Tryz.underlying25 hi hz0 hz1 hz2 rfl (by decide) (.slice ro 0 rc) 0 [] rfl (by exact HIN.out) ⟨g1, 0, none⟩ l.length c1 (intCells l) rfl (by rw [intCells_len, Nat.mul_one]) HTr.out.i0.cells (intCells_one l) (by unfold maxLen; omega) (by omega) hws ?_))
          intro v' w2 ho hg hkk
          have HI2 : Hid (Ints w2 w.heap.size v' l) := by
            unfold Hid Ints
            exact ho
          have HB2 : Hid (Below w.heap.size w w2) := HBE.out.grown hg hws (fun k hk => (HIN.out.lt k hk).1)
          clear ho hg hkk
          go_wp2_with fail
          go_roundg 2
          case measure => omega
          case rel => exact ⟨1, by omega, by omega, rfl, HI2.out, HB2.out⟩
        | 1, _, hk =>
          have d1 := hT.s1
          obtain ⟨ro, rc, hrs⟩ := hI.shape
          have HIN : Hid (Ints wr w.heap.size _ l) := hI
          subst hrs
          clear hT hB hI
          go_wp2_with (at_builtin; go_must (refine wpList_append_mine rfl (.tmp 31) (.tmp 32) 25 rfl w.heap.size 3 i0 (.int .i64 0) 1 8 Tryz.underlying25 hi hz0 hz1 hz2 rfl (by decide) (.slice ro l.length rc) l.length (intCells l) rfl (by exact HIN.out) ⟨g2, 0, none⟩ r.length c2 (intCells r) rfl (by rw [intCells_len, Nat.mul_one]) HTr.out.i1.cells (intCells_one r) (by unfold maxLen; omega) (by omega) hws ?_))
          intro v' w2 ho hg hkk
          have HI2 : Hid (Ints w2 w.heap.size v' (l ++ r)) := by
            unfold Hid Ints
            rw [List.length_append, intCells_append]
            exact ho
          have HB2 : Hid (Below w.heap.size w w2) := HBE.out.grown hg hws (fun k hk => (HIN.out.lt k hk).1)
          clear ho hg hkk
          go_wp2_with fail
          go_roundg 1
          case measure => omega
          case rel => exact ⟨2, by omega, by omega, rfl, HI2.out, HB2.out⟩
        | 2, _, hk =>
          have HIN : Hid (Ints wr w.heap.size _ (l ++ r)) := hI
          clear hT hB hI
          go_wp2_with fail
          go_ret
          exact ⟨_, rfl, HIN.out, HBE.out⟩
end Go.Proofs.YtcabaecbmkgclaaGreatDoor.Mg

namespace Go.Proofs.YtcabaecbmkgclaaGreatDoor.Mg
open Go.RowKit Mt

theorem range_below {w w' : World} {b o : Nat} {r : Nat → Bool} (h : w.rangeAt b o (ringCells r)) (hb : Below w.heap.size w w') : w'.rangeAt b o (ringCells r) := by
  have hlt : b < w.heap.size := World.block_lt_of_cell? w ⟨b, o + 0, none⟩ (h 0 _ (ringCells_get r (by omega)))
  exact fun j v hj => (hb.cell (p := ⟨b, o + j, none⟩) hlt).trans (h j v hj)

theorem there_below {w w' : World} {b o : Nat} (h : w.there b o 24) (hb : Below w.heap.size w w') : w'.there b o 24 := by
  obtain ⟨v, hv⟩ := Option.isSome_iff_exists.1 (h 0 (by omega)).1
  have hlt : b < w.heap.size := World.block_lt_of_cell? w ⟨b, o + 0, none⟩ hv
  exact fun j hj => ⟨by rw [hb.cell (p := ⟨b, o + j, none⟩) hlt]; exact (h j hj).1, (hb.frozen (p := ⟨b, o + j, none⟩) hlt).trans (h j hj).2⟩

/-- A new box that holds a ring, made in w1: what is so of the world behind it. -/
structure BoxAt (w1 w2 : World) (r : Nat → Bool) : Prop where
  below : Below w1.heap.size w1 w2
  lt : w1.heap.size < w2.heap.size
  range : w2.rangeAt w1.heap.size 0 (ringCells r)
  thr : w2.there w1.heap.size 0 24

theorem boxAt_new (w1 : World) (r : Nat → Bool) (t : TypeId) : BoxAt w1 ((w1.alloc (.cells (ringCells fun _ => false).toArray t)).setCells w1.heap.size 0 (ringCells r)) r := by
  have ht := ring_there w1 (fun _ => false) t
  have hr := World.rangeAt_setCells_same (w1.alloc (.cells (ringCells fun _ => false).toArray t)) w1.heap.size 0 (ringCells r) (by rw [ringCells_len]; exact ht)
  exact ⟨below_cells (Nat.le_refl _) _ _ _ ((Below.refl _ w1).alloc (Nat.le_refl _) _), World.block_lt_of_cell? _ ⟨w1.heap.size, 0 + 0, none⟩ (hr 0 _ (ringCells_get r (by omega))), hr, World.there_setCells ht _ _ _⟩

theorem ring0_lit : (ringCells fun _ => false).toArray = #[.bool false, .bool false, .bool false, .bool false, .bool false, .bool false, .bool false, .bool false, .bool false, .bool false, .bool false, .bool false, .bool false, .bool false, .bool false, .bool false, .bool false, .bool false, .bool false, .bool false, .bool false, .bool false, .bool false, .bool false] := rfl

theorem cut_normal {P : Program} {Q : Exit → Act → World → Prop} {I : World → Prop} {act : Act} {C : Code} {a : Act} {w : World} (h1 : C.wp P (fun e a' w' => e = .normal ∧ a' = act ∧ I w') a w) (h2 : ∀ w', I w' → Q .normal act w') : C.wp P Q a w :=
  Code.wp_mono (fun e a' w' ⟨he, ha, hi⟩ => by subst he; subst ha; exact h2 _ hi) h1

/-- What stands while contract makes its boxes. -/
structure CtAt (w : World) (B : Nat) (g : Gr) (mate : Nat → Option Nat) (f : Fo) (base gl cl gr cr : Nat) (l r : List Nat) (wr : World) : Prop where
  below : Below w.heap.size w wr
  fo : FAt wr B g mate f
  il : Ints wr base (.slice (some ⟨gl, 0, none⟩) l.length cl) l
  ir : Ints wr base (.slice (some ⟨gr, 0, none⟩) r.length cr) r

theorem CtAt.on {w wr w' : World} {B : Nat} {g : Gr} {mate : Nat → Option Nat} {f : Fo} {base gl cl gr cr : Nat} {l r : List Nat} (h : CtAt w B g mate f base gl cl gr cr l r wr) (hb : Below wr.heap.size wr w') : CtAt w B g mate f base gl cl gr cr l r w' :=
  ⟨h.below.trans (hb.mono h.below.size), h.fo.below hb, ownsRow_same h.il fun k hk => hb.block k (h.il.lt k hk).2, ownsRow_same h.ir fun k hk => hb.block k (h.ir.lt k hk).2⟩

theorem CtAt.of {w w' : World} {B : Nat} {g : Gr} {mate : Nat → Option Nat} {f : Fo} {base gl cl gr cr : Nat} {l r : List Nat} (h : CtAt w B g mate f base gl cl gr cr l r w) (hb : Below w.heap.size w w') : CtAt w B g mate f base gl cl gr cr l r w' := h.on hb

theorem meetingF_lt {f : Fo} {l r : List Nat} (hrg : ∀ u x, f.ring u x = true → x < 24) {x : Nat} (hx : meetingF f l r x = true) : x < 24 := by
  unfold meetingF at hx
  cases h : l.find? (fun x => r.any fun y => ringEq (f.ring x) (f.ring y)) with
  | none => rw [h] at hx; cases hx
  | some y => rw [h] at hx; exact hrg _ _ hx

theorem wholeF_lt {f : Fo} {T : Nat → Bool} {l : List Nat} (hrg : ∀ u x, f.ring u x = true → x < 24) (hT : ∀ x, T x = true → x < 24) {x : Nat} (hx : wholeF f T l x = true) : x < 24 := by
  rcases whole_iff.1 hx with h | ⟨y, _, h⟩
  · exact hT x h
  · exact hrg y x h

theorem wholeF_take {f : Fo} {T : Nat → Bool} {l : List Nat} {i x : Nat} (h : l[i]? = some x) : wholeF f T (l.take (i + 1)) = fun z => wholeF f T (l.take i) z || f.ring x z := by
  funext z
  unfold wholeF whole
  rw [List.take_add_one, h]
  simp [List.any_append, Bool.or_assoc]

section
variable {w w' : World} {B : Nat} {g : Gr} {mate : Nat → Option Nat} {f : Fo}

set_option maxRecDepth 100000 in
set_option maxHeartbeats 1000000 in
theorem contract_any (h : FAt w B g mate f) (hrg : ∀ u x, f.ring u x = true → x < 24) (hq : f.queue.length ≤ 900) {base gl cl gr cr : Nat} {l r : List Nat} {v u : Nat}
    (hs : Ints w base (.slice (some ⟨gl, 0, none⟩) l.length cl) l) (hl : l.length ≤ 24) (h24 : ∀ x ∈ l, x < 24) (hl0 : l[0]? = some v) (hln : ¬ FMine w B gl)
    (ht : Ints w base (.slice (some ⟨gr, 0, none⟩) r.length cr) r) (hr : r.length ≤ 24) (hr24 : ∀ x ∈ r, x < 24) (hr0 : r[0]? = some u) (hrn : ¬ FMine w B gr) :
    Calls Tryz.prog 112 #[.pointer (some ⟨B, 0, none⟩), .slice (some ⟨gl, 0, none⟩) l.length cl, .slice (some ⟨gr, 0, none⟩) r.length cr] w fun e w' => e = .returned (.tuple #[]) ∧ FAt w' B g mate (contractF f l r v u) ∧ FFr B w w' := by
  have HF : Hid (FAt w B g mate f) := h
  have HS : Hid (Ints w base (.slice (some ⟨gl, 0, none⟩) l.length cl) l) := hs
  have HT : Hid (Ints w base (.slice (some ⟨gr, 0, none⟩) r.length cr) r) := ht
  have H24 : Hid (∀ x ∈ l, x < 24) := h24
  have HR24 : Hid (∀ x ∈ r, x < 24) := hr24
  have HRG : Hid (∀ u x, f.ring u x = true → x < 24) := hrg
  have HLN : Hid (¬ FMine w B gl ∧ ¬ FMine w B gr) := ⟨hln, hrn⟩
  have HL0 : Hid (l[0]? = some v ∧ r[0]? = some u) := ⟨hl0, hr0⟩
  have hlp : (0 : Int) < (l.length : Int) := by have := (List.getElem?_eq_some_iff.1 hl0).1; omega
  have hrp : (0 : Int) < (r.length : Int) := by have := (List.getElem?_eq_some_iff.1 hr0).1; omega
  have cl0 : w.cell? ⟨gl, 0, none⟩ = some (.int .i64 v) := by have := hs.cells 0 _ (intCells_get hl0); rwa [Addr.add_mid] at this
  have cr0 : w.cell? ⟨gr, 0, none⟩ = some (.int .i64 u) := by have := ht.cells 0 _ (intCells_get hr0); rwa [Addr.add_mid] at this
  have HM : Hid (∀ n, Calls Tryz.prog 140 #[.pointer (some ⟨B, 0, none⟩), .slice (some ⟨gl, 0, none⟩) l.length cl, .slice (some ⟨gr, 0, none⟩) r.length cr] (w.drewN n) fun e w' => e = .returned (.agg (ringCells (meetingF f l r)).toArray) ∧ Below w.heap.size (w.drewN n) w') := fun n =>
    meeting_any (h.drewN n) (ownsRow_same hs fun _ _ => rfl) hl h24 (ownsRow_same ht fun _ _ => rfl) hr hr24
  clear h hs ht h24 hr24 hrg hln hrn hl0 hr0
  go_enter Tryz.func112, Tryz.ntmps112
  go_wp2_with fail
  go_quiet (fail)
  go_wp2_with fail
  refine (HM.out _).mono ?_
  rintro e w1 ⟨rfl, hb1⟩
  have HB1 : Hid (Below w.heap.size w w1) := (below_drewN (Below.refl _ w) _).trans hb1
  have HBX : Hid (BoxAt w1 ((w1.alloc (.cells (ringCells fun _ => false).toArray 110)).setCells w1.heap.size 0 (ringCells (meetingF f l r))) (meetingF f l r)) := boxAt_new w1 _ _
  have HTH : Hid ((w1.alloc (.cells (ringCells fun _ => false).toArray 110)).there w1.heap.size 0 24) := ring_there w1 _ _
  rw [ring0_lit] at HBX HTH
  clear hb1 HM cl0 cr0
  go_upto_region 2 with (first | (refine wpList_alloc rfl 110 rfl _ _ (alloc_ring _) ?_; simp only [Act.put, List.setIfInBounds_toArray, List.set_cons_zero, List.set_cons_succ]) | (refine wpList_store_mid rfl 110 (.tmp 8) (.tmp 21) rfl w1.heap.size 0 (ringCells (meetingF f l r)).toArray (by simp [Act.eval]) (by simp [Act.eval]) (by rw [ring_size]; exact HTH.out) (by rw [ring_size]; exact Tryz.sizeRing) (ring_one _) ?_; simp only [Act.put]))
  have HCT : Hid (CtAt w B g mate f base gl cl gr cr l r w1) := ⟨HB1.out, HF.out.below HB1.out, ownsRow_same HS.out fun k hk => HB1.out.block k (HS.out.lt k hk).2, ownsRow_same HT.out fun k hk => HB1.out.block k (HT.out.lt k hk).2⟩
  clear HB1 HTH
  generalize World.setCells _ _ _ _ = w2 at HBX ⊢
  have HL : Hid (∀ wx, (CtAt w B g mate f base gl cl gr cr l r wx ∧ wx.rangeAt w1.heap.size 0 (ringCells (meetingF f l r))) → Calls Tryz.prog 141 #[.pointer (some ⟨B, 0, none⟩), .agg (ringCells (meetingF f l r)).toArray, .slice (some ⟨gl, 0, none⟩) l.length cl] wx fun e w' => e = .returned (.slice (some ⟨gl, 0, none⟩) (belowF f (meetingF f l r) l).length cl) ∧ (CtAt w B g mate f base gl cl gr cr l r w' ∧ w'.rangeAt w1.heap.size 0 (ringCells (meetingF f l r)))) := fun wx hx =>
    (below_any hx.1.fo _ hx.1.il hl H24.out).mono fun e w' ⟨he, hb⟩ => ⟨he, hx.1.on hb, range_below hx.2 hb⟩
  have HR : Hid (∀ wx, (CtAt w B g mate f base gl cl gr cr l r wx ∧ wx.rangeAt w1.heap.size 0 (ringCells (meetingF f l r))) → Calls Tryz.prog 141 #[.pointer (some ⟨B, 0, none⟩), .agg (ringCells (meetingF f l r)).toArray, .slice (some ⟨gr, 0, none⟩) r.length cr] wx fun e w' => e = .returned (.slice (some ⟨gr, 0, none⟩) (belowF f (meetingF f l r) r).length cr) ∧ (CtAt w B g mate f base gl cl gr cr l r w' ∧ w'.rangeAt w1.heap.size 0 (ringCells (meetingF f l r)))) := fun wx hx =>
    (below_any hx.1.fo _ hx.1.ir hr HR24.out).mono fun e w' ⟨he, hb⟩ => ⟨he, hx.1.on hb, range_below hx.2 hb⟩
  have HHE : Hid (CtAt w B g mate f base gl cl gr cr l r w2.drew ∧ w2.drew.rangeAt w1.heap.size 0 (ringCells (meetingF f l r))) := ⟨HCT.out.on (HBX.out.below.drew), (World.rangeAt_drew w2 w1.heap.size 0 (ringCells (meetingF f l r))).2 HBX.out.range⟩
  apply cut_normal (I := fun w' => CtAt w B g mate f base gl cl gr cr l r w' ∧ w'.rangeAt w1.heap.size 0 (ringCells (meetingF f l r)))
  case h1 =>
    refine wp_region_held_drew (S := fun w' => CtAt w B g mate f base gl cl gr cr l r w' ∧ w'.rangeAt w1.heap.size 0 (ringCells (meetingF f l r))) (by kernel_rfl) ?_ (fun hHeld => ?_)
    · exact HHE.out
    refine wpAnyH_take (i := 0) (oi := ⟨some 22, .move (.tmp 0), _, _, _, none⟩) (v := (.pointer (some ⟨B, 0, none⟩))) rfl (by kernel_rfl) (by kernel_rfl) (by kernel_rfl) (by rintro _ _ _ ⟨h, _⟩; cases h) (Or.inl ⟨by rfl, fun w0 hS => by go_simp⟩) (by assumption) ?_
    try simp only [Act.put, List.setIfInBounds_toArray, List.set_cons_zero, List.set_cons_succ]
    refine wpAnyH_take (i := 1) (oi := ⟨some 23, .load _ (.tmp 8), _, _, _, none⟩) (v := (.agg (ringCells (meetingF f l r)).toArray)) rfl (by kernel_rfl) (by kernel_rfl) (by kernel_rfl) (by rintro _ _ _ ⟨h, _⟩; cases h) (yieldsIf_load_mid (by rfl) 110 (.tmp 8) rfl w1.heap.size 0 (by simp [Act.eval]) (ringCells (meetingF f l r)) _ (fun w h => h.2) Tryz.underlying110 rfl (by rw [Tryz.sizeRing, ringCells_len])) (by assumption) ?_
    try simp only [Act.put, List.setIfInBounds_toArray, List.set_cons_zero, List.set_cons_succ]
    refine wpAnyH_take (i := 2) (oi := ⟨some 24, .move (.tmp 1), _, _, _, none⟩) (v := (.slice (some ⟨gl, 0, none⟩) l.length cl)) rfl (by kernel_rfl) (by kernel_rfl) (by kernel_rfl) (by rintro _ _ _ ⟨h, _⟩; cases h) (Or.inl ⟨by rfl, fun w0 hS => by go_simp⟩) (by assumption) ?_
    try simp only [Act.put, List.setIfInBounds_toArray, List.set_cons_zero, List.set_cons_succ]
    refine wpAnyH_take (i := 4) (oi := ⟨some 26, .move (.tmp 0), _, _, _, none⟩) (v := (.pointer (some ⟨B, 0, none⟩))) rfl (by kernel_rfl) (by kernel_rfl) (by kernel_rfl) (by rintro _ _ _ ⟨h, _⟩; cases h) (Or.inl ⟨by rfl, fun w0 hS => by go_simp⟩) (by assumption) ?_
    try simp only [Act.put, List.setIfInBounds_toArray, List.set_cons_zero, List.set_cons_succ]
    refine wpAnyH_take (i := 5) (oi := ⟨some 27, .load _ (.tmp 8), _, _, _, none⟩) (v := (.agg (ringCells (meetingF f l r)).toArray)) rfl (by kernel_rfl) (by kernel_rfl) (by kernel_rfl) (by rintro _ _ _ ⟨h, _⟩; cases h) (yieldsIf_load_mid (by rfl) 110 (.tmp 8) rfl w1.heap.size 0 (by simp [Act.eval]) (ringCells (meetingF f l r)) _ (fun w h => h.2) Tryz.underlying110 rfl (by rw [Tryz.sizeRing, ringCells_len])) (by assumption) ?_
    try simp only [Act.put, List.setIfInBounds_toArray, List.set_cons_zero, List.set_cons_succ]
    refine wpAnyH_take (i := 6) (oi := ⟨some 28, .move (.tmp 2), _, _, _, none⟩) (v := (.slice (some ⟨gr, 0, none⟩) r.length cr)) rfl (by kernel_rfl) (by kernel_rfl) (by kernel_rfl) (by rintro _ _ _ ⟨h, _⟩; cases h) (Or.inl ⟨by rfl, fun w0 hS => by go_simp⟩) (by assumption) ?_
    try simp only [Act.put, List.setIfInBounds_toArray, List.set_cons_zero, List.set_cons_succ]
    refine wpAnyH_ready (rs := [3]) (by kernel_rfl) (by simp) ?_
    refine AllReadyH.cons (o := ⟨some 25, .call ⟨.value (.func 141), #[.tmp 22, .tmp 23, .tmp 24], _⟩, _, _, _, none⟩) rfl (fun K hK => ?_) AllReadyH.nil
    · rw [if_pos (by rfl)]
      go_simp
      refine (HL.out _ hHeld).mono ?_
      rintro e w3 ⟨rfl, w3h⟩
      refine hK.out _ _ w3h (fun w3H => ?_)
      clear hK K
      try simp only [Act.put, List.setIfInBounds_toArray, List.set_cons_zero, List.set_cons_succ]
      refine wpAnyH_ready (rs := [7]) (by kernel_rfl) (by simp) ?_
      refine AllReadyH.cons (o := ⟨some 29, .call ⟨.value (.func 141), #[.tmp 26, .tmp 27, .tmp 28], _⟩, _, _, _, none⟩) rfl (fun K hK => ?_) AllReadyH.nil
      rw [if_pos (by rfl)]
      go_simp
      refine (HR.out _ w3H).mono ?_
      rintro e w4 ⟨rfl, w4h⟩
      refine hK.out _ _ w4h (fun w4H => ?_)
      clear hK K
      try simp only [Act.put, List.setIfInBounds_toArray, List.set_cons_zero, List.set_cons_succ]
      refine wpAnyH_take (i := 8) (oi := ⟨some 1, .assign (.tmp 25), _, _, _, none⟩) (v := (.slice (some ⟨gl, 0, none⟩) (belowF f (meetingF f l r) l).length cl)) rfl (by kernel_rfl) (by kernel_rfl) (by kernel_rfl) (by rintro _ _ _ ⟨h, _⟩; cases h) (Or.inl ⟨by rfl, fun w0 hS => by go_simp⟩) (by assumption) ?_
      try simp only [Act.put, List.setIfInBounds_toArray, List.set_cons_zero, List.set_cons_succ]
      refine wpAnyH_take (i := 9) (oi := ⟨some 2, .assign (.tmp 29), _, _, _, none⟩) (v := (.slice (some ⟨gr, 0, none⟩) (belowF f (meetingF f l r) r).length cr)) rfl (by kernel_rfl) (by kernel_rfl) (by kernel_rfl) (by rintro _ _ _ ⟨h, _⟩; cases h) (Or.inl ⟨by rfl, fun w0 hS => by go_simp⟩) (by assumption) ?_
      try simp only [Act.put, List.setIfInBounds_toArray, List.set_cons_zero, List.set_cons_succ]
      refine wpAnyH_done (by kernel_rfl) ?_ _
      exact ⟨rfl, rfl, by assumption⟩
  case h2 =>
    rintro w3 ⟨hC, hR⟩
    have HB3 : Hid (Below w.heap.size w w3) := hC.below
    have HR3 : Hid (w3.rangeAt w1.heap.size 0 (ringCells (meetingF f l r))) := hR
    clear hC hR HCT HHE HL HR HBX
    have HIL : Hid (∀ wx, Below w.heap.size w wx → Ints wx base (.slice (some ⟨gl, 0, none⟩) (belowF f (meetingF f l r) l).length cl) (belowF f (meetingF f l r) l)) := fun wx hb => Ints.below (ownsRow_same HS.out fun k hk => hb.block k (HS.out.lt k hk).2) _
    have HIR : Hid (∀ wx, Below w.heap.size w wx → Ints wx base (.slice (some ⟨gr, 0, none⟩) (belowF f (meetingF f l r) r).length cr) (belowF f (meetingF f l r) r)) := fun wx hb => Ints.below (ownsRow_same HT.out fun k hk => hb.block k (HT.out.lt k hk).2) _
    have HLS : Hid (∀ x ∈ belowF f (meetingF f l r) l, x < 24) := fun x hx => H24.out x (belowF_sub hx)
    have HRS : Hid (∀ x ∈ belowF f (meetingF f l r) r, x < 24) := fun x hx => HR24.out x (belowF_sub hx)
    have hLl : (belowF f (meetingF f l r) l).length ≤ 24 := Nat.le_trans (belowF_len _ _) hl
    have hRl : (belowF f (meetingF f l r) r).length ≤ 24 := Nat.le_trans (belowF_len _ _) hr
    have HTS : Hid (∀ x, meetingF f l r x = true → x < 24) := fun x hx => meetingF_lt HRG.out hx
    have HCF : Hid (contractF f l r v u = contracted f (wholeF f (meetingF f l r) (belowF f (meetingF f l r) l ++ belowF f (meetingF f l r) r)) (belowF f (meetingF f l r) l) (belowF f (meetingF f l r) r) v u ((List.range 24).filter fun x => wholeF f (meetingF f l r) (belowF f (meetingF f l r) l ++ belowF f (meetingF f l r) r) x && !f.outer x)) := rfl
    generalize belowF f (meetingF f l r) l = L at *
    generalize belowF f (meetingF f l r) r = L' at *
    generalize meetingF f l r = T at *
    have hBX := boxAt_new w3 T 110
    have HTH : Hid ((w3.alloc (.cells (ringCells fun _ => false).toArray 110)).there w3.heap.size 0 24) := ring_there w3 _ _
    rw [ring0_lit] at hBX HTH
    have HBX : Hid _ := hBX
    clear hBX
    go_upto_region 4 with (first | (refine wpList_load_mid rfl 110 (.tmp 8) rfl w1.heap.size 0 (by simp [Act.eval]) (ringCells T) _ HR3.out Tryz.underlying110 rfl (by rw [Tryz.sizeRing, ringCells_len]) ?_; simp only [Act.put, List.setIfInBounds_toArray, List.set_cons_zero, List.set_cons_succ]) | (refine wpList_store_mid rfl 110 (.tmp 9) (.tmp 30) rfl w3.heap.size 0 (ringCells T).toArray (by simp [Act.eval]) (by simp [Act.eval]) (by rw [ring_size]; exact HTH.out) (by rw [ring_size]; exact Tryz.sizeRing) (ring_one _) ?_; simp only [Act.put]))
    generalize World.setCells _ _ _ _ = w4 at HBX ⊢
    have HB4 : Hid (Below w.heap.size w w4) := HB3.out.trans (HBX.out.below.mono HB3.out.size)
    have HTW : Hid (∀ t, TwoAt (w4.alloc (.cells #[.slice (some ⟨gl, 0, none⟩) L.length cl, .slice (some ⟨gr, 0, none⟩) L'.length cr] t)) w4.heap.size base gl cl gr cr L L') := fun t => by
      have hb : Below w4.heap.size w4 (w4.alloc (.cells #[.slice (some ⟨gl, 0, none⟩) L.length cl, .slice (some ⟨gr, 0, none⟩) L'.length cr] t)) := (Below.refl _ w4).alloc (Nat.le_refl _) _
      have hb' := HB4.out.trans (hb.mono HB4.out.size)
      exact ⟨by rw [World.cell?_alloc_new]; rfl, by rw [World.cell?_alloc_new]; rfl, HIL.out _ hb', HIR.out _ hb'⟩
    have HCC := fun t => concat_any (HTW.out t) hLl hRl
    clear HTW HTH HR3
    go_wp2_with fail
    refine (HCC _).mono ?_
    rintro e w6 ⟨cv, rfl, hI6, hB6⟩
    have hs5 : (w4.alloc (.cells #[.slice (some ⟨gl, 0, none⟩) L.length cl, .slice (some ⟨gr, 0, none⟩) L'.length cr] 25)).heap.size = w4.heap.size + 1 := by simp
    rw [hs5] at hI6 hB6
    have hb46 : Below w4.heap.size w4 w6 := ((Below.refl _ w4).alloc (Nat.le_refl _) _).trans (hB6.mono (Nat.le_succ _))
    have HB6 : Hid (Below w.heap.size w w6) := HB4.out.trans (hb46.mono HB4.out.size)
    have HR6 : Hid (w6.rangeAt w3.heap.size 0 (ringCells T)) := range_below HBX.out.range hb46
    have HT6 : Hid (w6.there w3.heap.size 0 24) := there_below HBX.out.thr hb46
    have hw34 : w3.heap.size < w4.heap.size := HBX.out.lt
    have hw03 : w.heap.size ≤ w3.heap.size := HB3.out.size
    obtain ⟨co, cc, hcs⟩ := hI6.shape
    subst hcs
    have HI6 : Hid (Ints w6 (w4.heap.size + 1) (.slice co (L ++ L').length cc) (L ++ L')) := hI6
    have HLS2 : Hid (∀ x ∈ L ++ L', x < 24) := fun x hx => by
      rcases List.mem_append.1 hx with k | k
      · exact HLS.out x k
      · exact HRS.out x k
    have hnl : (L ++ L').length ≤ 48 := by rw [List.length_append]; omega
    clear hB6 hb46 hI6 HCC hs5 HB3 HB4 HBX
    generalize hM : L ++ L' = M at *
    have HM : Hid (L ++ L' = M) := hM
    clear hM
    go_wp2_with fail
    go_loopg [36] (M.length + 1) (fun k vi wr => ∃ i : Nat, i ≤ M.length ∧ M.length - i < k ∧ vi = .int .i64 i ∧ Below w.heap.size w wr ∧ wr.rangeAt w3.heap.size 0 (ringCells (wholeF f T (M.take i))) ∧ wr.there w3.heap.size 0 24 ∧ Ints wr (w4.heap.size + 1) (.slice co M.length cc) M)
    case atStart =>
      refine ⟨0, by omega, by omega, rfl, HB6.out, ?_, HT6.out, HI6.out⟩
      have e : wholeF f T (M.take 0) = T := by funext z; simp [wholeF, whole]
      rw [e]
      exact HR6.out
    case round =>
      obtain ⟨i, hi, hk, rfl, hb, hR, hT, hI⟩ := hrel
      have HBr : Hid (Below w.heap.size w wr) := hb
      have HRr : Hid (wr.rangeAt w3.heap.size 0 (ringCells (wholeF f T (M.take i)))) := hR
      have HTr : Hid (wr.there w3.heap.size 0 24) := hT
      have HIr : Hid (Ints wr (w4.heap.size + 1) (.slice co M.length cc) M) := hI
      clear HB6 HR6 HT6 HI6 hb hR hT hI
      by_cases hlt : i < M.length
      · have hlt' : (i : Int) < (M.length : Int) := by omega
        have gi := List.getElem?_eq_getElem hlt
        generalize M[i] = x at gi
        have hx24 := HLS2.out x (List.mem_of_getElem? gi)
        have x24 : (x : Int) < 24 := by omega
        obtain ⟨gg, cap, es, hbg, hgl, cx⟩ := HIr.out.at gi
        simp only [Value.slice.injEq, true_and] at es
        obtain ⟨rfl, rfl⟩ := es
        have HWT : Hid (wholeF f T (M.take (i + 1)) = fun z => wholeF f T (M.take i) z || f.ring x z) := wholeF_take gi
        clear gi
        go_wp2_with fail
        have HBd : Hid (Below w.heap.size w wr.drew) := HBr.out.drew
        have HRd : Hid (wr.drew.rangeAt w3.heap.size 0 (ringCells (wholeF f T (M.take i)))) := (World.rangeAt_drew _ _ _ _).2 HRr.out
        have HTd : Hid (wr.drew.there w3.heap.size 0 24) := (World.there_drew _ _ _ _).2 HTr.out
        have HId : Hid (Ints wr.drew (w4.heap.size + 1) (.slice (some ⟨gg, 0, none⟩) M.length cc) M) := ownsRow_same HIr.out fun _ _ => rfl
        refine wp_region_held_drew (S := fun w' => Below w.heap.size w w') (by kernel_rfl) ?_ (fun hHeld => ?_)
        · exact HBd.out
        generalize wr.drew = wd at *
        refine wpAnyH_take (i := 1) (oi := ⟨some 41, .move (.tmp 0), _, _, _, none⟩) (v := (.pointer (some ⟨B, 0, none⟩))) rfl (by kernel_rfl) (by kernel_rfl) (by kernel_rfl) (fun _ _ _ h => h) (Or.inl ⟨by rfl, fun w0 hS => by go_simp⟩) (by assumption) ?_
        try simp only [Act.put, List.setIfInBounds_toArray, List.set_cons_zero, List.set_cons_succ]
        refine wpAnyH_take (i := 2) (oi := ⟨some 42, .move (.tmp 11), _, _, _, none⟩) (v := (.int .i64 (x : Int))) rfl (by kernel_rfl) (by kernel_rfl) (by kernel_rfl) (fun _ _ _ h => h) (Or.inl ⟨by rfl, fun w0 hS => by go_simp⟩) (by assumption) ?_
        try simp only [Act.put, List.setIfInBounds_toArray, List.set_cons_zero, List.set_cons_succ]
        refine wpAnyH_take (i := 3) (oi := ⟨some 43, .nilCheck (.tmp 41), _, _, _, none⟩) (v := (.pointer (some ⟨B, 0, none⟩))) rfl (by kernel_rfl) (by kernel_rfl) (by kernel_rfl) (fun _ _ _ h => h) (Or.inl ⟨by rfl, fun w0 hS => by go_simp⟩) (by assumption) ?_
        try simp only [Act.put, List.setIfInBounds_toArray, List.set_cons_zero, List.set_cons_succ]
        refine wpAnyH_take (i := 4) (oi := ⟨some 44, .fieldAddr _ (.tmp 43) 1, _, _, _, none⟩) (v := (.pointer (some ⟨B, 49, none⟩))) rfl (by kernel_rfl) (by kernel_rfl) (by kernel_rfl) (fun _ _ _ h => h) (Or.inl ⟨by rfl, fun w0 hS => by go_simp⟩) (by assumption) ?_
        try simp only [Act.put, List.setIfInBounds_toArray, List.set_cons_zero, List.set_cons_succ]
        refine wpAnyH_take (i := 5) (oi := ⟨some 45, .indexAddr _ (.tmp 44) (.tmp 42), _, _, _, none⟩) (v := (.pointer (some ⟨B, 49 + x * 24, none⟩))) rfl (by kernel_rfl) (by kernel_rfl) (by kernel_rfl) (fun _ _ _ h => h) (Or.inl ⟨by rfl, fun w0 hS => by go_simp⟩) (by assumption) ?_
        try simp only [Act.put, List.setIfInBounds_toArray, List.set_cons_zero, List.set_cons_succ]
        refine wpAnyH_take (i := 6) (oi := ⟨some 46, .load _ (.tmp 45), _, _, _, none⟩) (v := (.agg (ringCells (f.ring x)).toArray)) rfl (by kernel_rfl) (by kernel_rfl) (by kernel_rfl) (fun _ _ _ h => h) (yieldsIf_load_mid (by rfl) 110 (.tmp 45) rfl B (49 + x * 24) (by simp [Act.eval]) (ringCells (f.ring x)) _ (fun wx hx => (HF.out.below hx).rangeRing hx24) Tryz.underlying110 rfl (by rw [Tryz.sizeRing, ringCells_len])) (by assumption) ?_
        try simp only [Act.put, List.setIfInBounds_toArray, List.set_cons_zero, List.set_cons_succ]
        refine wpAnyH_ready (rs := [0]) (by kernel_rfl) (by simp) ?_
        refine AllReadyH.cons (o := ⟨some 40, .load _ (.tmp 9), _, _, _, none⟩) rfl (fun K hK => ?_) AllReadyH.nil
        rw [if_pos (by rfl)]
        refine wp_load_mid 110 (.tmp 9) rfl w3.heap.size 0 (by simp [Act.eval]) (ringCells (wholeF f T (M.take i))) _ HRd.out Tryz.underlying110 rfl (by rw [Tryz.sizeRing, ringCells_len]) ?_
        refine hK.out _ _ hHeld (fun _ => ?_)
        clear hK K
        try simp only [Act.put, List.setIfInBounds_toArray, List.set_cons_zero, List.set_cons_succ]
        refine wpAnyH_ready (rs := [7]) (by kernel_rfl) (by simp) ?_
        refine AllReadyH.cons (o := ⟨some 47, .call ⟨.value (.func 143), #[.tmp 40, .tmp 46], _⟩, _, _, _, none⟩) rfl (fun K hK => ?_) AllReadyH.nil
        rw [if_pos (by rfl)]
        go_simp
        refine (with_any _ _ _).mono ?_
        rintro e w8 ⟨rfl, hb8⟩
        have HB8 : Hid (Below w.heap.size w w8) := HBd.out.trans (hb8.mono HBd.out.size)
        have HT8 : Hid (w8.there w3.heap.size 0 24) := there_below HTd.out hb8
        have HI8 : Hid (Ints w8 (w4.heap.size + 1) (.slice (some ⟨gg, 0, none⟩) M.length cc) M) := ownsRow_same HId.out fun k hk => hb8.block k (HId.out.lt k hk).2
        refine hK.out _ _ HB8.out (fun _ => ?_)
        clear hK K
        try simp only [Act.put, List.setIfInBounds_toArray, List.set_cons_zero, List.set_cons_succ]
        refine wpAnyH_ready (rs := [8]) (by kernel_rfl) (by simp) ?_
        refine AllReadyH.cons (o := ⟨none, .store _ (.tmp 9) (.tmp 47), _, _, _, none⟩) rfl (fun K hK => ?_) AllReadyH.nil
        rw [if_pos (by rfl)]
        refine wp_store_mid 110 (.tmp 9) (.tmp 47) rfl w3.heap.size 0 (ringCells fun z => wholeF f T (M.take i) z || f.ring x z).toArray (by simp [Act.eval]) (by simp [Act.eval]) (by rw [ring_size]; exact HT8.out) (by rw [ring_size]; exact Tryz.sizeRing) (ring_one _) ?_
        try simp only [Act.put]
        have HB9 : Hid (Below w.heap.size w (w8.setCells w3.heap.size 0 (ringCells fun z => wholeF f T (M.take i) z || f.ring x z))) := below_cells hw03 _ _ _ HB8.out
        have HR9 : Hid ((w8.setCells w3.heap.size 0 (ringCells fun z => wholeF f T (M.take i) z || f.ring x z)).rangeAt w3.heap.size 0 (ringCells fun z => wholeF f T (M.take i) z || f.ring x z)) := World.rangeAt_setCells_same w8 w3.heap.size 0 _ (by rw [ringCells_len]; exact HT8.out)
        have HT9 : Hid ((w8.setCells w3.heap.size 0 (ringCells fun z => wholeF f T (M.take i) z || f.ring x z)).there w3.heap.size 0 24) := World.there_setCells HT8.out _ _ _
        have HI9 : Hid (Ints (w8.setCells w3.heap.size 0 (ringCells fun z => wholeF f T (M.take i) z || f.ring x z)) (w4.heap.size + 1) (.slice (some ⟨gg, 0, none⟩) M.length cc) M) := ownsRow_same HI8.out fun k hk => heap_setCells (by have := (HI8.out.lt k hk).1; omega) _ _ _
        refine hK.out _ _ HB9.out (fun _ => ?_)
        clear hK K
        refine wpAnyH_done (by kernel_rfl) ?_ _
        generalize w8.setCells w3.heap.size 0 (ringCells fun z => wholeF f T (M.take i) z || f.ring x z) = w9 at *
        go_wp2_with fail
        go_roundg (M.length - i)
        case measure => omega
        case rel => exact ⟨i + 1, by omega, by omega, by go_num, HB9.out, by rw [HWT.out]; exact HR9.out, HT9.out, HI9.out⟩
      · have hlt' : ¬ (i : Int) < (M.length : Int) := by omega
        have ei : i = M.length := by omega
        subst ei
        have HRW : Hid (wr.rangeAt w3.heap.size 0 (ringCells (wholeF f T M))) := by
          have := HRr.out
          rw [List.take_length] at this
          exact this
        have hB := HF.out.lt
        have hmi : ∀ k, FMine wr B k → FMine w B k := fun k hk => (FMine.same (HBr.out.block B hB)).1 hk
        have hws : w.heap.size ≤ wr.heap.size := HBr.out.size
        have hF0 := HF.out.below HBr.out
        have hiL := HIL.out wr HBr.out
        have hiR := HIR.out wr HBr.out
        have hnl : ∀ k, (Value.slice (some ⟨gl, 0, none⟩) L.length cl).ownBlock = some k → ¬ FMine wr B k := fun k hk hm => by
          cases hk
          exact HLN.out.1 (hmi _ hm)
        have hnr : ∀ k, (Value.slice (some ⟨gr, 0, none⟩) L'.length cr).ownBlock = some k → ¬ FMine wr B k := fun k hk hm => by
          cases hk
          exact HLN.out.2 (hmi _ hm)
        have HT1 := turn_any hF0 hiL hnl hLl HLS.out u
        have HNR : Hid (∀ k, (Value.slice (some ⟨gr, 0, none⟩) L'.length cr).ownBlock = some k → ¬ FMine wr B k) := hnr
        have HIR2 : Hid (Ints wr base (.slice (some ⟨gr, 0, none⟩) L'.length cr) L') := hiR
        have HNW : Hid (¬ FMine wr B w3.heap.size) := fun hm => by have := (HF.out.mine (hmi _ hm)).2; omega
        have HW3 : Hid (w3.heap.size < wr.heap.size) := World.block_lt_of_cell? wr ⟨w3.heap.size, 0 + 0, none⟩ (HRW.out 0 _ (ringCells_get _ (by omega)))
        have HFF : Hid (FFr B w wr) := FFr.of_below HBr.out hB
        clear hmi hF0 hiL hiR hnl hnr HIL HIR HIr HRr HTr
        go_wp2_with fail
        refine HT1.mono ?_
        rintro e wa ⟨rfl, hFa, hfa⟩
        have HT2 := turn_any hFa (hfa.ints HIR2.out HNR.out) (fun k hk hm => HNR.out k hk (hfa.mine k (HIR2.out.lt k hk).2 hm)) hRl HRS.out v
        have HFA : Hid (FFr B wr wa) := hfa
        clear HT1 hFa hfa HIR2 HNR
        go_wp2_with fail
        refine HT2.mono ?_
        rintro e wb ⟨rfl, hFb, hfb⟩
        have hab : FFr B wr wb := HFA.out.trans hfb
        have HRB : Hid (wb.rangeAt w3.heap.size 0 (ringCells (wholeF f T M))) := fun j z hj => by
          rw [← HRW.out j z hj]
          exact World.cell?_of_block (hab.block w3.heap.size HW3.out HNW.out)
        have HLB := label_any hFb (wholeF f T M) hq
        have HAB : Hid (FFr B w wb) := HFF.out.trans hab
        clear HT2 hFb hfb hab HRW HFA HFF
        go_wp2_with (refine wpList_load_mid rfl 110 (.tmp 9) rfl w3.heap.size 0 (by simp [Act.eval]) (ringCells (wholeF f T M)) _ HRB.out Tryz.underlying110 rfl (by rw [Tryz.sizeRing, ringCells_len]) ?_; simp only [Act.put, List.setIfInBounds_toArray, List.set_cons_zero, List.set_cons_succ])
        refine HLB.mono ?_
        rintro e wc ⟨rfl, hFc, hfc⟩
        have HEND : Hid (FAt wc B g mate (contractF f l r v u) ∧ FFr B w wc) := by
          refine ⟨?_, HAB.out.trans hfc⟩
          rw [lab_end fun x hx => wholeF_lt HRG.out HTS.out hx] at hFc
          rw [HCF.out]
          exact hFc
        clear HLB hFc hfc
        go_wp2_with fail
        go_end0
        exact ⟨rfl, HEND.out.1, HEND.out.2⟩
end
end Go.Proofs.YtcabaecbmkgclaaGreatDoor.Mg
