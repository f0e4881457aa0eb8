/-
  What the forest's label does.
  slices.Grow of no slice.
  slices.Concat of two lists of numbers.
-/
import Derived.Test.YtcabaecbmkgclaaGreatDoorR26
import Derived.Deep.RegionHeld
import Derived.Lib.AppendZeros
import Derived.Lib.SliceRun
namespace Go.Proofs.YtcabaecbmkgclaaGreatDoor.Mg
open Go.RowKit Mt
theorem heap_setCells {B k : Nat} (hk : k ≠ B) : ∀ (vs : List Value) (o : Nat) (w : World), (w.setCells B o vs).heap[k]? = w.heap[k]?
  | [], _, _ => rfl
  | v :: r, o, w => by
    rw [World.setCells, heap_setCells hk r (o + 1), Below.heap_setCell w _ v k (by rintro rfl; exact hk rfl)]

theorem frozen_setCells {B : Nat} (a : Addr) : ∀ (vs : List Value) (o : Nat) (w : World), (w.setCells B o vs).frozen? a = w.frozen? a
  | [], _, _ => rfl
  | v :: r, o, w => by rw [World.setCells, frozen_setCells a r (o + 1), World.frozen?_setCell]

section
variable {w w' : World} {B : Nat} {g : Gr} {mate : Nat → Option Nat} {f : Fo}
/-- Cells of the forest's block ahead of its queue. -/
theorem FFr.sets : ∀ (vs : List Value) (o : Nat) (w a : World), FFr B a w → o + vs.length ≤ 697 → FFr B a (w.setCells B o vs)
  | [], _, _, _, h, _ => h
  | v :: r, o, w, a, h, hl => by
    rw [World.setCells]
    simp at hl
    exact FFr.sets r (o + 1) _ a (h.set (by omega) v) (by omega)

theorem FAt.thereRing (h : FAt w B g mate f) {v : Nat} (hv : v < 24) : w.there B (49 + v * 24) 24 := fun j hj => ⟨by rw [h.ring v j hv hj]; rfl, h.free _⟩

theorem FAt.setRing (h : FAt w B g mate f) {u : Nat} (hu : u < 24) (W : Nat → Bool) : FAt (w.setCells B (49 + u * 24) (ringCells W)) B g mate { f with ring := setAt f.ring u W } := by
  have hc : ∀ j, (j < 49 + u * 24 ∨ 49 + u * 24 + 24 ≤ j) → (w.setCells B (49 + u * 24) (ringCells W)).cell? ⟨B, j, none⟩ = w.cell? ⟨B, j, none⟩ := fun j hj => World.cell?_setCells_out _ _ _ _ _ fun _ _ => by rw [ringCells_len]; exact hj
  have hr := World.rangeAt_setCells_same w B (49 + u * 24) (ringCells W) (by rw [ringCells_len]; exact h.thereRing hu)
  refine ⟨fun k hk => by rw [hc _ (by omega)]; exact h.near k hk, by rw [hc _ (by omega)]; exact h.n, fun k hk => by rw [hc _ (by omega)]; exact h.mate k hk, ?_, fun k hk => by rw [hc _ (by omega)]; exact h.next k hk, fun k hk => by rw [hc _ (by omega)]; exact h.outer k hk, fun k hk => by rw [hc _ (by omega)]; exact h.inner k hk, ?_, fun i => by rw [frozen_setCells]; exact h.free i⟩
  · intro v x hv hx
    by_cases e : v = u
    · subst e
      rw [hr x _ (ringCells_get W hx)]
      simp [setAt]
    · rw [hc _ (by omega)]
      simp only [setAt, if_neg e]
      exact h.ring v x hv hx
  · obtain ⟨v, hv, ho, hne⟩ := h.queue
    exact ⟨v, by rw [hc _ (by omega)]; exact hv, ownsRow_same ho fun k hk => heap_setCells (fun e => hne (by rw [hk, e])) _ _ _, hne⟩

/-- The forest when label has come to i. -/
def lab (f : Fo) (W : Nat → Bool) (i : Nat) : Fo :=
  { f with ring := fun x => if decide (x < i) && W x then W else f.ring x, outer := fun x => f.outer x || (decide (x < i) && W x), queue := f.queue ++ (List.range i).filter fun x => W x && !f.outer x }

theorem lab_zero (f : Fo) (W : Nat → Bool) : lab f W 0 = f := by
  cases f
  simp [lab]

theorem dec_succ {x i : Nat} (h : x ≠ i) : decide (x < i + 1) = decide (x < i) := by
  by_cases k : x < i
  · simp [k, Nat.lt_succ_of_lt k]
  · simp [k, show ¬ x < i + 1 by omega]

theorem lab_no {W : Nat → Bool} {i : Nat} (h : W i = false) : lab f W (i + 1) = lab f W i := by
  unfold lab
  have e : ∀ x, (decide (x < i + 1) && W x) = (decide (x < i) && W x) := fun x => by
    by_cases k : x = i
    · subst k; simp [h]
    · rw [dec_succ k]
  simp only [e, List.range_succ, List.filter_append]
  simp [h]

theorem lab_old {W : Nat → Bool} {i : Nat} (h : W i = true) (ho : f.outer i = true) : lab f W (i + 1) = { lab f W i with ring := setAt (lab f W i).ring i W } := by
  unfold lab
  simp only [List.range_succ, List.filter_append, Fo.mk.injEq]
  refine ⟨?_, trivial, ?_, trivial, by simp [ho]⟩
  · funext x
    by_cases k : x = i
    · subst k; simp [setAt, h]
    · simp only [setAt, if_neg k, dec_succ k]
  · funext x
    by_cases k : x = i
    · subst k; simp [ho]
    · rw [dec_succ k]

theorem lab_new {W : Nat → Bool} {i : Nat} (h : W i = true) (ho : f.outer i = false) : lab f W (i + 1) = { lab f W i with ring := setAt (lab f W i).ring i W, outer := setAt (lab f W i).outer i true, queue := (lab f W i).queue ++ [i] } := by
  unfold lab
  simp only [List.range_succ, List.filter_append, Fo.mk.injEq]
  refine ⟨?_, trivial, ?_, trivial, by simp [ho, h]⟩
  · funext x
    by_cases k : x = i
    · subst k; simp [setAt, h]
    · simp only [setAt, if_neg k, dec_succ k]
  · funext x
    by_cases k : x = i
    · subst k; simp [setAt, h]
    · simp only [setAt, if_neg k, dec_succ k]

theorem lab_end {W : Nat → Bool} (h : ∀ x, W x = true → x < 24) : lab f W 24 = { f with ring := fun x => if W x then W else f.ring x, outer := fun x => f.outer x || W x, queue := f.queue ++ (List.range 24).filter fun x => W x && !f.outer x } := by
  unfold lab
  have e : ∀ x, (decide (x < 24) && W x) = W x := fun x => by
    cases k : W x
    · simp
    · simp [h x k]
  simp only [e]

theorem lab_len (f : Fo) (W : Nat → Bool) (i : Nat) : (lab f W i).queue.length ≤ f.queue.length + i := by
  unfold lab
  have := List.length_filter_le (fun x => W x && !f.outer x) (List.range i)
  simp at this ⊢
  omega

set_option maxRecDepth 100000 in
set_option maxHeartbeats 1000000 in
theorem label_any (h : FAt w B g mate f) (W : Nat → Bool) (hn : f.queue.length ≤ 900) :
    Calls Tryz.prog 145 #[.pointer (some ⟨B, 0, none⟩), .agg (ringCells W).toArray] w fun e w' => e = .returned (.tuple #[]) ∧ FAt w' B g mate (lab f W 24) ∧ FFr B w w' := by
  have hB := h.lt
  have hFB : FFr B w (w.alloc (.cells (ringCells W).toArray 110)) := FFr.of_below ((Below.refl _ w).alloc (Nat.le_refl _) _) hB
  have HFB : Hid (FFr B w (w.alloc (.cells (ringCells W).toArray 110))) := hFB
  have HSZ : Hid ((w.alloc (.cells (ringCells W).toArray 110)).heap.size = w.heap.size + 1) := by simp [Hid]
  have HRB : Hid ((w.alloc (.cells (ringCells W).toArray 110)).rangeAt w.heap.size 0 (ringCells W)) := range_alloc w W _
  have HNM : Hid (¬ FMine (w.alloc (.cells (ringCells W).toArray 110)) B w.heap.size) := fun hm => by
    have hm' := (FMine.same (w' := w.alloc (.cells (ringCells W).toArray 110)) (w := w) (B := B) (k := w.heap.size) (heap_alloc_lt w _ B hB)).1 hm
    have := (h.mine hm').2
    omega
  have HF0 : Hid (FAt (w.alloc (.cells (ringCells W).toArray 110)) B g mate f) := h.alloc _
  clear h hFB
  go_enter Tryz.func145, Tryz.ntmps145
  generalize hwb : w.alloc (.cells (ringCells W).toArray 110) = wb at *
  go_wp2_with (refine wpList_load_mid rfl 110 (.tmp 3) rfl w.heap.size 0 (by simp [Act.eval]) (ringCells W) _ HRB.out Tryz.underlying110 rfl (by rw [Tryz.sizeRing, ringCells_len]) ?_; simp only [Act.put, List.setIfInBounds_toArray, List.set_cons_zero, List.set_cons_succ])
  go_loopg [7] 25 (fun k vi wr => ∃ i : Nat, i ≤ 24 ∧ 24 - i ≤ k ∧ vi = .int .i64 i ∧ FAt wr B g mate (lab f W i) ∧ FFr B wb wr)
  case atStart => exact ⟨0, by omega, by omega, rfl, by rw [lab_zero]; exact HF0.out, FFr.refl _ _⟩
  case round =>
    obtain ⟨i, hi, hk, rfl, hat, hfr⟩ := hrel
    have HAT : Hid (FAt wr B g mate (lab f W i)) := hat
    have HFR : Hid (FFr B wb wr) := hfr
    have HRX : Hid (wr.rangeAt w.heap.size 0 (ringCells W)) := fun j v hj => by
      rw [← HRB.out j v hj]
      exact World.cell?_of_block (hfr.block w.heap.size (by rw [HSZ.out]; omega) HNM.out)
    clear HF0 hat hfr
    by_cases hlt : i < 24
    · have hlt' : (i : Int) < (24 : Int) := by omega
      have oi : ∀ wx, (Instr.index 110 (.agg (ringCells W).toArray) (.int .i64 (i : Int))).run Tryz.prog wx = .ok (.bool (W i)) wx := fun wx => run_index_ring wx W hlt
      cases hW : W i
      · rw [hW] at oi
        have HL : Hid (lab f W (i + 1) = lab f W i) := lab_no hW
        go_wp2_with fail
        go_roundg (24 - (i + 1))
        case measure => omega
        case rel => exact ⟨i + 1, by omega, Nat.le_refl _, by go_num, by rw [HL.out]; exact HAT.out, HFR.out⟩
      · rw [hW] at oi
        have HTX : Hid (wr.there B (49 + i * 24) 24) := HAT.out.thereRing hlt
        have HNB : Hid (w.heap.size ≠ B) := Nat.ne_of_gt hB
        go_wp2_with fail
        refine wp_region_held_drew (S := fun w' => w'.rangeAt w.heap.size 0 (ringCells W) ∧ w'.there B (49 + i * 24) 24) (by kernel_rfl) ?_ (fun hHeld => ?_)
        · exact ⟨HRX.out, HTX.out⟩
        refine wpAnyH_take (i := 0) (oi := ⟨some 13, .move (.tmp 0), _, _, _, none⟩) (v := (.pointer (some ⟨B, 0, none⟩))) rfl (by kernel_rfl) (by kernel_rfl) (by kernel_rfl) (fun _ _ _ h => h) (Or.inl ⟨by rfl, ?hy0⟩) (by assumption) ?rest0
        case hy0 =>
          intro w0 hS
          go_simp
          try (with_reducible rfl)
        try simp only [Act.put, List.setIfInBounds_toArray, List.set_cons_zero, List.set_cons_succ]
        refine wpAnyH_take (i := 1) (oi := ⟨some 14, .move (.tmp 4), _, _, _, none⟩) (v := (.int .i64 (i : Int))) rfl (by kernel_rfl) (by kernel_rfl) (by kernel_rfl) (fun _ _ _ h => h) (Or.inl ⟨by rfl, ?hy1⟩) (by assumption) ?rest1
        case hy1 =>
          intro w0 hS
          go_simp
          try (with_reducible rfl)
        try simp only [Act.put, List.setIfInBounds_toArray, List.set_cons_zero, List.set_cons_succ]
        refine wpAnyH_take (i := 2) (oi := ⟨some 15, .load _ (.tmp 3), _, _, _, none⟩) (v := (.agg (ringCells W).toArray)) rfl (by kernel_rfl) (by kernel_rfl) (by kernel_rfl) (fun _ _ _ h => h) (yieldsIf_load_mid (by rfl) 110 (.tmp 3) rfl w.heap.size 0 (by simp [Act.eval]) (ringCells W) _ (fun w h => h.1) Tryz.underlying110 rfl (by rw [Tryz.sizeRing, ringCells_len])) (by assumption) ?rest2
        try simp only [Act.put, List.setIfInBounds_toArray, List.set_cons_zero, List.set_cons_succ]
        refine wpAnyH_take (i := 3) (oi := ⟨some 16, .nilCheck (.tmp 13), _, _, _, none⟩) (v := (.pointer (some ⟨B, 0, none⟩))) rfl (by kernel_rfl) (by kernel_rfl) (by kernel_rfl) (fun _ _ _ h => h) (Or.inl ⟨by rfl, ?hy3⟩) (by assumption) ?rest3
        case hy3 =>
          intro w0 hS
          go_simp
          try (with_reducible rfl)
        try simp only [Act.put, List.setIfInBounds_toArray, List.set_cons_zero, List.set_cons_succ]
        refine wpAnyH_take (i := 4) (oi := ⟨some 17, .fieldAddr _ (.tmp 16) 1, _, _, _, none⟩) (v := (.pointer (some ⟨B, 49, none⟩))) rfl (by kernel_rfl) (by kernel_rfl) (by kernel_rfl) (fun _ _ _ h => h) (Or.inl ⟨by rfl, ?hy4⟩) (by assumption) ?rest4
        case hy4 =>
          intro w0 hS
          go_simp
          try (with_reducible rfl)
        try simp only [Act.put, List.setIfInBounds_toArray, List.set_cons_zero, List.set_cons_succ]
        refine wpAnyH_take (i := 5) (oi := ⟨some 18, .indexAddr _ (.tmp 17) (.tmp 14), _, _, _, none⟩) (v := (.pointer (some ⟨B, 49 + i * 24, none⟩))) rfl (by kernel_rfl) (by kernel_rfl) (by kernel_rfl) (fun _ _ _ h => h) (Or.inl ⟨by rfl, ?hy5⟩) (by assumption) ?rest5
        case hy5 =>
          intro w0 hS
          go_simp
          try (with_reducible rfl)
        try simp only [Act.put, List.setIfInBounds_toArray, List.set_cons_zero, List.set_cons_succ]
        refine wpAnyH_ready (rs := [6]) (by kernel_rfl) (by simp) ?_
        refine AllReadyH.cons (o := ⟨none, .store _ (.tmp 18) (.tmp 15), _, _, _, none⟩) rfl (fun K hK => ?_) AllReadyH.nil
        rw [if_pos (by rfl)]
        refine wp_store_mid 110 (.tmp 18) (.tmp 15) rfl B (49 + i * 24) (ringCells W).toArray (by simp [Act.eval]) (by simp [Act.eval]) (by rw [ring_size]; exact hHeld.2) (by rw [ring_size]; exact Tryz.sizeRing) (ring_one _) ?_
        try simp only [Act.put]
        refine hK.out _ _ ⟨World.rangeAt_setCells_apart hHeld.1 _ _ _ (.inl HNB.out), World.there_setCells hHeld.2 _ _ _⟩ (fun hHeld2 => ?_)
        clear hK K
        refine wpAnyH_done (by kernel_rfl) ?_ _
        have hA2 := HAT.out.drew.setRing hlt W
        have HF2 : Hid (FFr B wb (wr.drew.setCells B (49 + i * 24) (ringCells W))) := FFr.sets _ _ _ _ (HFR.out.trans ⟨rfl, rfl, rfl, Nat.le_refl _, fun _ _ _ => rfl, fun _ _ h => h⟩) (by rw [ringCells_len]; omega)
        generalize wr.drew.setCells B (49 + i * 24) (ringCells W) = w2 at hA2 HF2 ⊢
        have co := hA2.outer i hlt
        have eo : (lab f W i).outer i = f.outer i := by simp [lab]
        rw [show ({ lab f W i with ring := setAt (lab f W i).ring i W } : Fo).outer i = (lab f W i).outer i from rfl, eo] at co
        have i24 : (i : Int) < 24 := hlt'
        have HA2 : Hid (FAt w2 B g mate { lab f W i with ring := setAt (lab f W i).ring i W }) := hA2
        clear hA2 hHeld hHeld2
        cases ho : f.outer i
        · rw [ho] at co
          have HRC := reach_any HA2.out hlt (by have := lab_len f W i; show (lab f W i).queue.length ≤ 1000; omega)
          go_wp2_with fail
          refine HRC.mono ?_
          rintro e w3 ⟨rfl, hA3, hF3⟩
          have HA3 : Hid (FAt w3 B g mate (lab f W (i + 1))) := by
            rw [lab_new hW ho]
            exact hA3
          have HF3 : Hid (FFr B wb w3) := HF2.out.trans hF3
          clear hA3 hF3 HRC
          go_wp2_with fail
          go_roundg (24 - (i + 1))
          case measure => omega
          case rel => exact ⟨i + 1, by omega, Nat.le_refl _, by go_num, HA3.out, HF3.out⟩
        · rw [ho] at co
          have HA3 : Hid (FAt w2 B g mate (lab f W (i + 1))) := by
            rw [lab_old hW ho]
            exact HA2.out
          go_wp2_with fail
          go_roundg (24 - (i + 1))
          case measure => omega
          case rel => exact ⟨i + 1, by omega, Nat.le_refl _, by go_num, HA3.out, HF2.out⟩
    · have hlt' : ¬ (i : Int) < (24 : Int) := by omega
      have e24 : i = 24 := by omega
      subst e24
      go_wp2_with fail
      go_end0
      exact ⟨rfl, HAT.out, HFB.out.trans HFR.out⟩
end
theorem Ints.nil (w : World) (base : Nat) : Ints w base (.slice none 0 0) [] := ⟨rfl, .inl ⟨rfl, rfl⟩⟩

theorem zero_len {z : Value} {s : Nat} (hz : z.cells.size = s) (n : Nat) : (Builtin.zeroCells z.cells n).size = n * s := by
  subst hz
  unfold Builtin.zeroCells
  simp

set_option maxRecDepth 100000 in
set_option maxHeartbeats 1000000 in
theorem grow_nil (w : World) {n : Nat} (hn : n ≤ 1000) :
    Calls Tryz.prog 159 #[.slice none 0 0, .int .i64 n] w fun e w' => ∃ rv, e = .returned rv ∧ Ints w' w.heap.size rv [] ∧ Below w.heap.size w w' := by
  obtain ⟨i0, hi, hz0, hz1, hz2⟩ := info_parts Tryz.infoInt
  rcases Nat.eq_zero_or_pos n with h0 | h0
  · subst h0
    go_enter Tryz.func159, Tryz.ntmps159
    go_wp2_with fail
    go_ret
    exact ⟨_, rfl, Ints.nil _ _, Below.refl _ _⟩
  · have h1 : ¬ ((n : Int) < 0) := by omega
    have h4 : (n : Int) > 0 := by omega
    have hrz : ∀ ty, (Builtin.append_ #[25, 3] ty #[.slice none 0 0, .int .i64 (n : Int)]).run Tryz.prog w = .ok (.slice (some ⟨w.heap.size, 0, none⟩) n (grownCap w n 0 3)) (w.drew.alloc (.cells (Builtin.zeroCells (Value.int .i64 0).cells n ++ Builtin.zeroCells (Value.int .i64 0).cells (grownCap w n 0 3 - n)) 3)) := fun ty =>
      Lib.run_append_nil_zeros w 25 3 ty 3 i0 (.int .i64 0) .i64 .i64 Tryz.underlying25 Tryz.underlying3 hi hz0 n h0 (by rw [hz1]; omega) (by omega) (by rw [hz2]; omega)
    have hGn : n ≤ grownCap w n 0 3 := grownCap_ge w _ _ _
    have hGm : grownCap w n 0 3 ≤ maxLen := grownCap_le_maxLen w n 0 3 (by unfold maxLen; omega)
    have HIN : Hid (Ints (w.drew.alloc (.cells (Builtin.zeroCells (Value.int .i64 0).cells n ++ Builtin.zeroCells (Value.int .i64 0).cells (grownCap w n 0 3 - n)) 3)) w.heap.size (.slice (some ⟨w.heap.size, 0, none⟩) 0 (grownCap w n 0 3)) []) := by
      refine ⟨rfl, .inr ⟨w.heap.size, _, _, rfl, Nat.le_refl _, heap_alloc_new w.drew _, Nat.zero_le _, hGm, ?_, by simp [intCells]⟩⟩
      rw [Array.size_append, zero_len (s := 1) rfl, zero_len (s := 1) rfl]
      omega
    have HBE : Hid (Below w.heap.size w (w.drew.alloc (.cells (Builtin.zeroCells (Value.int .i64 0).cells n ++ Builtin.zeroCells (Value.int .i64 0).cells (grownCap w n 0 3 - n)) 3))) := (Below.refl _ w).drew.alloc (Nat.le_refl _) _
    have hG63 : grownCap w n 0 3 ≤ 9223372036854775807 := by unfold maxLen at hGm; omega
    generalize grownCap w n 0 3 = G at *
    generalize w.drew.alloc (.cells (Builtin.zeroCells (Value.int .i64 0).cells n ++ Builtin.zeroCells (Value.int .i64 0).cells (G - n)) 3) = w2 at *
    go_enter Tryz.func159, Tryz.ntmps159
    go_wp2_with (at_builtin; refine Lib.wpList_append_run _ rfl _ _ _ _ rfl _ _ rfl rfl _ _ (hrz _) ?_)
    go_ret
    exact ⟨_, rfl, HIN.out, HBE.out⟩
/-- The two lists that Concat is called with, in the row S: each behind a pointer. -/
structure TwoAt (w : World) (S : Nat) (base g1 c1 g2 c2 : Nat) (l r : List Nat) : Prop where
  s0 : w.cell? ⟨S, 0, none⟩ = some (.slice (some ⟨g1, 0, none⟩) l.length c1)
  s1 : w.cell? ⟨S, 1, none⟩ = some (.slice (some ⟨g2, 0, none⟩) r.length c2)
  i0 : Ints w base (.slice (some ⟨g1, 0, none⟩) l.length c1) l
  i1 : Ints w base (.slice (some ⟨g2, 0, none⟩) r.length c2) r

theorem TwoAt.below {w w' : World} {S base g1 c1 g2 c2 : Nat} {l r : List Nat} (h : TwoAt w S base g1 c1 g2 c2 l r) (hb : Below w.heap.size w w') : TwoAt w' S base g1 c1 g2 c2 l r := by
  have hS := World.block_lt_of_cell? w ⟨S, 0, none⟩ h.s0
  exact ⟨(hb.cell (p := ⟨S, 0, none⟩) hS).trans h.s0, (hb.cell (p := ⟨S, 1, none⟩) hS).trans h.s1, ownsRow_same h.i0 fun k hk => hb.block k (h.i0.lt k hk).2, ownsRow_same h.i1 fun k hk => hb.block k (h.i1.lt k hk).2⟩

theorem Ints.cells {w : World} {base g c : Nat} {l : List Nat} (h : Ints w base (.slice (some ⟨g, 0, none⟩) l.length c) l) : ∀ (j : Nat) u, (intCells l)[j]? = some u → w.cell? ((⟨g, 0, none⟩ : Addr).add j) = some u := by
  intro j u hj
  have hjl : j < l.length := by
    have := (List.getElem?_eq_some_iff.1 hj).1
    simpa [intCells] using this
  have gj := List.getElem?_eq_getElem hjl
  obtain ⟨g', cap, es, _, _, cx⟩ := h.at gj
  injection es with e1
  injection e1 with e1
  injection e1 with e1
  subst e1
  rw [intCells_get gj] at hj
  rw [Addr.add_mid, Nat.zero_add, cx, hj]

theorem intCells_one (l : List Nat) : ∀ u ∈ intCells l, u.oneCell' = true := by
  intro u hu
  obtain ⟨x, _, rfl⟩ := List.mem_map.1 hu
  rfl

set_option maxRecDepth 100000 in
set_option maxHeartbeats 1000000 in
theorem concat_any {w : World} {S base g1 c1 g2 c2 : Nat} {l r : List Nat} (h : TwoAt w S base g1 c1 g2 c2 l r) (hl : l.length ≤ 24) (hr : r.length ≤ 24) :
    Calls Tryz.prog 142 #[.slice (some ⟨S, 0, none⟩) 2 2] w fun e w' => ∃ rv, e = .returned rv ∧ Ints w' w.heap.size rv (l ++ r) ∧ Below w.heap.size w w' := by
  obtain ⟨i0, hi, hz0, hz1, hz2⟩ := info_parts Tryz.infoInt
  have HT : Hid (TwoAt w S base g1 c1 g2 c2 l r) := h
  have HG := grow_nil w (n := l.length + r.length) (by omega)
  rw [Int.natCast_add] at HG
  have c0 := h.s0
  have c1' := h.s1
  clear h
  go_enter Tryz.func142, Tryz.ntmps142
  go_wp2_with fail
  go_loopg [3, 11] 3 (fun k v3 v11 wr => ∃ i : Nat, i ≤ 2 ∧ 3 - i ≤ k ∧ v11 = .int .i64 i ∧ v3 = .int .i64 ((if i = 0 then 0 else if i = 1 then l.length else l.length + r.length : Nat) : Int) ∧ w = wr)
  case atStart => exact ⟨0, by omega, by omega, rfl, rfl, rfl⟩
  case round =>
    obtain ⟨i, hi2, hk, rfl, rfl, rfl⟩ := hrel
    match i, hi2, hk with
    | 0, _, hk =>
      have hs63 : ¬ (l.length : Int) < 0 := by omega
      go_wp2_with fail
      go_roundg 2
      case measure => omega
      case rel => exact ⟨1, by omega, by omega, rfl, by simp, rfl⟩
    | 1, _, hk =>
      have hs63 : ¬ ((l.length : Int) + (r.length : Int)) < 0 := by omega
      go_wp2_with fail
      go_roundg 1
      case measure => omega
      case rel => exact ⟨2, by omega, by omega, rfl, by simp, rfl⟩
    | 2, _, hk =>
      go_wp2_with fail
      refine HG.mono ?_
      rintro e w1 ⟨rv, rfl, hI, hB⟩
      have HST : Hid (Ints w1 w.heap.size rv [] ∧ Below w.heap.size w w1) := ⟨hI, hB⟩
      clear HG hI hB c0 c1'
      go_wp2_with fail
      go_loopg [6, 27] 3 (fun k v6 v27 wr => ∃ i : Nat, i ≤ 2 ∧ 3 - i ≤ k ∧ v27 = .int .i64 i ∧ Ints wr w.heap.size v6 (if i = 0 then [] else if i = 1 then l else l ++ r) ∧ Below w.heap.size w wr)
      case atStart => exact ⟨0, by omega, by omega, rfl, HST.out.1, HST.out.2⟩
      case round =>
        obtain ⟨i, hi2, hk, rfl, hI, hB⟩ := hrel
        clear HST
        have hws : w.heap.size ≤ wr.heap.size := hB.size
        have hT := HT.out.below hB
        have HTr : Hid (TwoAt wr S base g1 c1 g2 c2 l r) := hT
        have HBE : Hid (Below w.heap.size w wr) := hB
        match i, hi2, hk with
        | 0, _, hk =>
          have d0 := hT.s0
          obtain ⟨ro, rc, hrs⟩ := hI.shape
          have HIN : Hid (Ints wr w.heap.size _ []) := hI
          subst hrs
          clear hT hB hI
          go_wp2_with (at_builtin; go_must (refine wpList_append_mine rfl (.tmp 31) (.tmp 32) 25 rfl w.heap.size 3 i0 (.int .i64 0) 1 8 Tryz.underlying25 hi hz0 hz1 hz2 rfl (by decide) (.slice ro 0 rc) 0 [] rfl (by exact HIN.out) ⟨g1, 0, none⟩ l.length c1 (intCells l) rfl (by rw [intCells_len, Nat.mul_one]) HTr.out.i0.cells (intCells_one l) (by unfold maxLen; omega) (by omega) hws ?_))
          intro v' w2 ho hg hkk
          have HI2 : Hid (Ints w2 w.heap.size v' l) := by
            unfold Hid Ints
            exact ho
          have HB2 : Hid (Below w.heap.size w w2) := HBE.out.grown hg hws (fun k hk => (HIN.out.lt k hk).1)
          clear ho hg hkk
          go_wp2_with fail
          go_roundg 2
          case measure => omega
          case rel => exact ⟨1, by omega, by omega, rfl, HI2.out, HB2.out⟩
        | 1, _, hk =>
          have d1 := hT.s1
          obtain ⟨ro, rc, hrs⟩ := hI.shape
          have HIN : Hid (Ints wr w.heap.size _ l) := hI
          subst hrs
          clear hT hB hI
          go_wp2_with (at_builtin; go_must (refine wpList_append_mine rfl (.tmp 31) (.tmp 32) 25 rfl w.heap.size 3 i0 (.int .i64 0) 1 8 Tryz.underlying25 hi hz0 hz1 hz2 rfl (by decide) (.slice ro l.length rc) l.length (intCells l) rfl (by exact HIN.out) ⟨g2, 0, none⟩ r.length c2 (intCells r) rfl (by rw [intCells_len, Nat.mul_one]) HTr.out.i1.cells (intCells_one r) (by unfold maxLen; omega) (by omega) hws ?_))
          intro v' w2 ho hg hkk
          have HI2 : Hid (Ints w2 w.heap.size v' (l ++ r)) := by
            unfold Hid Ints
            rw [List.length_append, intCells_append]
            exact ho
          have HB2 : Hid (Below w.heap.size w w2) := HBE.out.grown hg hws (fun k hk => (HIN.out.lt k hk).1)
          clear ho hg hkk
          go_wp2_with fail
          go_roundg 1
          case measure => omega
          case rel => exact ⟨2, by omega, by omega, rfl, HI2.out, HB2.out⟩
        | 2, _, hk =>
          have HIN : Hid (Ints wr w.heap.size _ (l ++ r)) := hI
          clear hT hB hI
          go_wp2_with fail
          go_ret
          exact ⟨_, rfl, HIN.out, HBE.out⟩
end Go.Proofs.YtcabaecbmkgclaaGreatDoor.Mg
