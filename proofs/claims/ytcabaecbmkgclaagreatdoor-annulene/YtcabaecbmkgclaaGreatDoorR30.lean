/-
  What single does: each vertex a ring of its own.
  Values of forests; what plant does.
  A forest out of its cells.
  Roots planted one by one; a forest's cells as a list, laid elsewhere.
  What plant does.
  What matching.Greatest does.
-/
import Derived.Test.YtcabaecbmkgclaaGreatDoorR29
namespace Go.Proofs.YtcabaecbmkgclaaGreatDoor.Mg
open Go.RowKit Mt
/-- The cells of all rings. -/
def rgCells (r : Nat → Nat → Bool) : List Value := (List.range 576).map fun j => .bool (r (j / 24) (j % 24))
theorem rgCells_len (r : Nat → Nat → Bool) : (rgCells r).length = 576 := by simp [rgCells]
theorem rgCells_get (r : Nat → Nat → Bool) {j : Nat} (hj : j < 576) : (rgCells r)[j]? = some (.bool (r (j / 24) (j % 24))) := by simp [rgCells, hj]
theorem rgCells_at (r : Nat → Nat → Bool) {v x : Nat} (hv : v < 24) (hx : x < 24) : (rgCells r)[v * 24 + x]? = some (.bool (r v x)) := by
  rw [rgCells_get r (by omega), show (v * 24 + x) / 24 = v by omega, show (v * 24 + x) % 24 = x by omega]
theorem rgCells_one (r : Nat → Nat → Bool) : (rgCells r).toArray.all (·.oneCell') = true := all_oneCell_toArray (by
  intro v hv
  obtain ⟨_, _, rfl⟩ := List.mem_map.1 hv
  rfl)
theorem rg_size (r : Nat → Nat → Bool) : (rgCells r).toArray.size = 576 := by simp [rgCells_len]
theorem Tryz.sizeRings : (Tryz.prog.info? 111).map (·.size) = some 576 := by kernel_rfl
theorem alloc_rings (w : World) : (Instr.alloc 111 true (.tuple #[])).run Tryz.prog w = .ok (.pointer (some ⟨w.heap.size, 0, none⟩)) (w.alloc (.cells (rgCells fun _ _ => false).toArray 111)) := by kernel_rfl

theorem rg_there (w : World) (r : Nat → Nat → Bool) (t : TypeId) : (w.alloc (.cells (rgCells r).toArray t)).there w.heap.size 0 576 := by
  intro j hj
  rw [Nat.zero_add]
  refine ⟨?_, by simp⟩
  rw [World.cell?_alloc_new]
  simp [rgCells_len, hj]
theorem rg_range (w : World) (r : Nat → Nat → Bool) (t : TypeId) : (w.alloc (.cells (rgCells r).toArray t)).rangeAt w.heap.size 0 (rgCells r) := by
  intro j u hj
  rw [Nat.zero_add, World.cell?_alloc_new]
  simpa using hj
theorem rg_stored {wx : World} {L : Nat} (r : Nat → Nat → Bool) (ht : wx.there L 0 576) : (loadVar 111 ⟨L, 0, none⟩).run Tryz.prog (wx.setCells L 0 (rgCells r)) = .ok (.agg (rgCells r).toArray) (wx.setCells L 0 (rgCells r)) :=
  run_loadVar_mid _ L 0 _ (rgCells r) _ (World.rangeAt_setCells_same wx L 0 (rgCells r) (by rw [rgCells_len]; exact ht)) Tryz.underlying111 rfl (by rw [rgCells_len]; exact Tryz.sizeRings)

/-- Where single stands. -/
structure SgAt (A : Nat) (w wr : World) (cur : Nat → Nat → Bool) : Prop where
  below : Below A w wr
  box : wr.rangeAt (A + 1) 0 (rgCells cur)
  thr : wr.there (A + 1) 0 576
  res : wr.there A 0 576

theorem SgAt.start (w : World) (t : TypeId) : SgAt w.heap.size w ((w.alloc (.cells (rgCells fun _ _ => false).toArray t)).alloc (.cells (rgCells fun _ _ => false).toArray t)) (fun _ _ => false) := by
  have h1 : (w.alloc (.cells (rgCells fun _ _ => false).toArray t)).heap.size = w.heap.size + 1 := by simp
  refine ⟨((Below.refl _ w).alloc (Nat.le_refl _) _).alloc (by omega) _, ?_, ?_, World.there_alloc (rg_there w _ t) _⟩
  · rw [← h1]
    exact rg_range _ _ _
  · rw [← h1]
    exact rg_there _ _ _

theorem SgAt.set {A : Nat} {w wr : World} {i : Nat} (h : SgAt A w wr (fun v x => v == x && decide (v < i))) (hi : i < 24) : SgAt A w (wr.setCell ⟨A + 1, i * 24 + i, none⟩ (.bool true)) (fun v x => v == x && decide (v < i + 1)) := by
  refine ⟨h.below.setCell (p := ⟨A + 1, i * 24 + i, none⟩) (by show A ≤ A + 1; omega) _, ?_, World.there_setCells h.thr (A + 1) (i * 24 + i) [.bool true], World.there_setCells h.res (A + 1) (i * 24 + i) [.bool true]⟩
  intro j v hj
  rw [Nat.zero_add]
  have hj5 : j < 576 := by
    have := (List.getElem?_eq_some_iff.1 hj).1
    rwa [rgCells_len] at this
  rw [rgCells_get _ hj5] at hj
  cases hj
  by_cases e : j = i * 24 + i
  · subst e
    have := (h.thr (i * 24 + i) (by omega)).1
    rw [Nat.zero_add] at this
    rw [World.cell?_setCell_same' _ _ _ this, show (i * 24 + i) / 24 = i by omega, show (i * 24 + i) % 24 = i by omega]
    simp
  · rw [World.cell?_setCell_other (w := wr) (a := ⟨A + 1, i * 24 + i, none⟩) (b := ⟨A + 1, j, none⟩) (v := .bool true) (by intro e'; injection e' with _ e'; exact e e'.symm)]
    have := h.box j _ (rgCells_get _ hj5)
    rw [Nat.zero_add] at this
    rw [this]
    by_cases k : j / 24 = j % 24
    · rw [← k, dec_succ (show j / 24 ≠ i by omega)]
    · have e0 : (j / 24 == j % 24) = false := by simpa using k
      rw [e0]
      simp

theorem SgAt.cell {A : Nat} {w wr : World} {cur : Nat → Nat → Bool} (h : SgAt A w wr cur) {i : Nat} (hi : i < 24) : wr.cell? ⟨A + 1, i * 24 + i, none⟩ = some (.bool (cur i i)) ∧ wr.frozen? ⟨A + 1, i * 24 + i, none⟩ = false := by
  have := h.box (i * 24 + i) _ (rgCells_at cur hi hi)
  have t := (h.thr (i * 24 + i) (by omega)).2
  rw [Nat.zero_add] at this t
  exact ⟨this, t⟩

set_option maxRecDepth 100000 in
set_option maxHeartbeats 1000000 in
theorem single_any (w : World) :
    Calls Tryz.prog 62 #[] w fun e w' => e = .returned (.agg (rgCells fun v x => v == x).toArray) ∧ Below w.heap.size w w' := by
  have HST : Hid (SgAt w.heap.size w ((w.alloc (.cells (rgCells fun _ _ => false).toArray 111)).alloc (.cells (rgCells fun _ _ => false).toArray 111)) (fun _ _ => false)) := SgAt.start w _
  go_enter Tryz.func62, Tryz.ntmps62
  go_upto_region 2 with (refine wpList_alloc rfl 111 rfl _ _ (alloc_rings _) ?_; simp only [Act.put, List.setIfInBounds_toArray, List.set_cons_zero, List.set_cons_succ])
  have e1 : (w.alloc (.cells (rgCells fun _ _ => false).toArray 111)).heap.size = w.heap.size + 1 := by simp
  rw [e1]
  clear e1
  generalize World.alloc _ _ = w2 at HST ⊢
  go_wp2_with fail
  go_loopg [3] 26 (fun k vi wr => ∃ i : Nat, i ≤ 24 ∧ 25 - i ≤ k ∧ vi = .int .i64 i ∧ SgAt w.heap.size w wr (fun v x => v == x && decide (v < i)))
  case atStart =>
    refine ⟨0, by omega, by omega, rfl, ?_⟩
    have e : (fun v x : Nat => v == x && decide (v < 0)) = fun _ _ => false := by funext v x; simp
    rw [e]
    exact HST.out
  case round =>
    clear HST
    obtain ⟨i, hi, hk, rfl, hat⟩ := hrel
    have HAT : Hid (SgAt w.heap.size w wr (fun v x => v == x && decide (v < i))) := hat
    clear hat
    by_cases hlt : i < 24
    · have hlt' : (i : Int) < (24 : Int) := by omega
      obtain ⟨ci, fi⟩ := HAT.out.cell hlt
      have HAN := HAT.out.set hlt
      have HAN' : Hid (SgAt w.heap.size w (wr.setCell ⟨w.heap.size + 1, i * 24 + i, none⟩ (.bool true)) (fun v x => v == x && decide (v < i + 1))) := HAN
      clear HAN
      go_wp2_with fail
      go_roundg (25 - (i + 1))
      case measure => omega
      case rel => exact ⟨i + 1, by omega, Nat.le_refl _, by go_num, HAN'.out⟩
    · have hlt' : ¬ (i : Int) < (24 : Int) := by omega
      have HE : Hid (rgCells (fun v x => v == x && decide (v < i)) = rgCells (fun v x => v == x)) := List.map_congr_left fun j hj => by
        have := List.mem_range.1 hj
        simp [show j / 24 < i by omega]
      have HBX : Hid (wr.rangeAt (w.heap.size + 1) 0 (rgCells (fun v x => v == x))) := by
        have := HAT.out.box
        rw [HE.out] at this
        exact this
      go_wp2_with (first | (refine wpList_load_mid rfl 111 (.tmp 1) rfl (w.heap.size + 1) 0 (by simp [Act.eval]) (rgCells (fun v x => v == x)) _ HBX.out Tryz.underlying111 rfl (by rw [Tryz.sizeRings, rgCells_len]) ?_; simp only [Act.put, List.setIfInBounds_toArray, List.set_cons_zero, List.set_cons_succ]) | (refine wpList_store_mid rfl 111 (.tmp 0) (.tmp 11) rfl w.heap.size 0 (rgCells (fun v x => v == x)).toArray (by simp [Act.eval]) (by rfl) (by rw [rg_size]; exact HAT.out.res) (by rw [rg_size]; exact Tryz.sizeRings) (rgCells_one _) ?_; simp only [Act.put]))
      have HLD := rg_stored (fun v x => v == x) HAT.out.res
      refine bodyPost_ret (v := .agg (rgCells (fun v x => v == x)).toArray) ?_ rfl ⟨rfl, below_cells (Nat.le_refl _) _ _ _ HAT.out.below⟩
      simp [results, Tryz.results62, asAddr, HLD]
/-- The cells of a forest that has reached nothing. -/
def foCells (nr : Nat → Nat) (n : Nat) (mt : Nat → Int) (r : Nat → Nat → Bool) : List Value := matCells nr n mt ++ (rgCells r ++ (List.replicate 24 (Value.int .i64 0) ++ (List.replicate 48 (Value.bool false) ++ [Value.slice none 0 0])))

theorem Tryz.sizeForest : (Tryz.prog.info? 113).map (·.size) = some 698 := by kernel_rfl
theorem foCells_len (nr : Nat → Nat) (n : Nat) (mt : Nat → Int) (r : Nat → Nat → Bool) : (foCells nr n mt r).length = 698 := by simp [foCells, matCells_len, rgCells_len]

set_option maxRecDepth 100000 in
theorem build_fo (w : World) (nr : Nat → Nat) (n : Nat) (mt : Nat → Int) (r : Nat → Nat → Bool) : (Instr.build 113 #[(0, .agg (matCells nr n mt).toArray), (1, .agg (rgCells r).toArray)]).run Tryz.prog w = .ok (.agg (foCells nr n mt r).toArray) w := by kernel_rfl
set_option maxRecDepth 100000 in
theorem alloc_fo (w : World) : (Instr.alloc 113 true (.tuple #[])).run Tryz.prog w = .ok (.pointer (some ⟨w.heap.size, 0, none⟩)) (w.alloc (.cells (foCells (fun _ => 0) 0 (fun _ => 0) fun _ _ => false).toArray 113)) := by kernel_rfl
def bareFo (r : Nat → Nat → Bool) : Fo := ⟨r, fun _ => 0, fun _ => false, fun _ => false, []⟩

section
variable {nr : Nat → Nat} {n : Nat} {mt : Nat → Int} {r : Nat → Nat → Bool}
theorem foCells_mat {j : Nat} (hj : j < 49) : (foCells nr n mt r)[j]? = (matCells nr n mt)[j]? := by
  unfold foCells
  rw [List.getElem?_append_left (by rw [matCells_len]; exact hj)]

theorem foCells_ring {v x : Nat} (hv : v < 24) (hx : x < 24) : (foCells nr n mt r)[49 + v * 24 + x]? = some (.bool (r v x)) := by
  unfold foCells
  rw [List.getElem?_append_right (by rw [matCells_len]; omega), matCells_len, List.getElem?_append_left (by rw [rgCells_len]; omega), show 49 + v * 24 + x - 49 = v * 24 + x by omega, rgCells_at r hv hx]

theorem foCells_next {k : Nat} (hk : k < 24) : (foCells nr n mt r)[625 + k]? = some (.int .i64 0) := by
  unfold foCells
  rw [List.getElem?_append_right (by rw [matCells_len]; omega), matCells_len, List.getElem?_append_right (by rw [rgCells_len]; omega), rgCells_len, List.getElem?_append_left (by rw [List.length_replicate]; omega)]
  exact List.getElem?_replicate_of_lt (by omega)

theorem foCells_flags {k : Nat} (hk : k < 48) : (foCells nr n mt r)[649 + k]? = some (.bool false) := by
  unfold foCells
  rw [List.getElem?_append_right (by rw [matCells_len]; omega), matCells_len, List.getElem?_append_right (by rw [rgCells_len]; omega), rgCells_len, List.getElem?_append_right (by rw [List.length_replicate]; omega), List.length_replicate, List.getElem?_append_left (by rw [List.length_replicate]; omega)]
  exact List.getElem?_replicate_of_lt (by omega)

theorem foCells_queue : (foCells nr n mt r)[697]? = some (.slice none 0 0) := by
  unfold foCells
  rw [List.getElem?_append_right (by rw [matCells_len]; omega), matCells_len, List.getElem?_append_right (by rw [rgCells_len]; omega), rgCells_len, List.getElem?_append_right (by simp), List.getElem?_append_right (by simp)]
  simp

theorem FAt.bare {w : World} {F : Nat} {g : Gr} {mate : Nat → Option Nat} (h : w.rangeAt F 0 (foCells nr n mt r)) (hf : ∀ i, w.frozen? ⟨F, i, none⟩ = false)
    (hb : ∀ k, k < 24 → nr k < 4294967296 ∧ ∀ j, j < 24 → (nr k).testBit j = g.adj k j) (hn : n = g.n) (hm : ∀ k, k < 24 → mt k = mi (mate k)) : FAt w F g mate (bareFo r) := by
  have c : ∀ j u, (foCells nr n mt r)[j]? = some u → w.cell? ⟨F, j, none⟩ = some u := fun j u hu => by
    have := h j u hu
    rwa [Nat.zero_add] at this
  refine ⟨fun k hk => ⟨nr k, c k _ (by rw [foCells_mat (by omega), matCells_near _ _ _ hk]), (hb k hk).1, (hb k hk).2⟩, by rw [← hn]; exact c 24 _ (by rw [foCells_mat (by omega), matCells_n]), fun k hk => by rw [← hm k hk]; exact c _ _ (by rw [foCells_mat (by omega), matCells_mate _ _ _ hk]),
    fun v x hv hx => c _ _ (foCells_ring hv hx), fun k hk => c _ _ (foCells_next hk), fun k hk => c _ _ (foCells_flags (by omega)), fun k hk => ?_, ⟨_, c _ _ foCells_queue, Ints.nil _ _, by simp [Value.ownBlock]⟩, hf⟩
  have := c (649 + (24 + k)) _ (foCells_flags (by omega))
  rwa [show 649 + (24 + k) = 673 + k by omega] at this
end
theorem heap_cells_ne {b k : Nat} (hk : k ≠ b) : ∀ (vs : List Value) (o : Nat) (w : World), (w.setCells b o vs).heap[k]? = w.heap[k]?
  | [], _, _ => rfl
  | v :: vs, o, w => by
    rw [World.setCells]
    refine (heap_cells_ne hk vs _ _).trans ?_
    exact Below.heap_setCell w ⟨b, o, none⟩ v k hk

theorem size_cells (b : Nat) : ∀ (vs : List Value) (o : Nat) (w : World), (w.setCells b o vs).heap.size = w.heap.size
  | [], _, _ => rfl
  | v :: vs, o, w => by
    rw [World.setCells, size_cells b vs]
    simp

def rootsTo (mate : Nat → Option Nat) (c : Nat) : Fo :=
  ⟨fun v x => v == x, fun _ => 0, fun v => decide (v < c) && (mate v).isNone, fun _ => false, (List.range c).filter fun v => (mate v).isNone⟩

theorem rootsTo_zero (mate : Nat → Option Nat) : rootsTo mate 0 = bareFo fun v x => v == x := by
  unfold rootsTo bareFo
  simp

theorem rootsTo_no {mate : Nat → Option Nat} {c : Nat} (h : (mate c).isNone = false) : rootsTo mate (c + 1) = rootsTo mate c := by
  unfold rootsTo
  rw [filter_no (p := fun v => (mate v).isNone) h]
  congr 1
  funext v
  by_cases e : v = c
  · subst e
    simp [h]
  · congr 1
    simp
    omega

theorem rootsTo_yes {mate : Nat → Option Nat} {c : Nat} (h : mate c = none) : { rootsTo mate c with outer := setAt (rootsTo mate c).outer c true, queue := (rootsTo mate c).queue ++ [c] } = rootsTo mate (c + 1) := by
  have e1 : setAt (rootsTo mate c).outer c true = (rootsTo mate (c + 1)).outer := by
    funext v
    simp only [setAt, rootsTo]
    by_cases e : v = c
    · subst e
      simp [h]
    · rw [if_neg e]
      congr 1
      simp
      omega
  have e2 : (rootsTo mate c).queue ++ [c] = (rootsTo mate (c + 1)).queue := (filter_yes (p := fun v => (mate v).isNone) (by rw [h]; rfl)).symm
  rw [e1, e2]
  rfl

theorem rootsTo_len (mate : Nat → Option Nat) (c : Nat) : (rootsTo mate c).queue.length ≤ c := filter_len _ c

section
variable {w w' wr : World} {B F : Nat} {g : Gr} {mate : Nat → Option Nat} {f f' : Fo}
theorem FAt.congr (h : FAt w B g mate f) (hr : ∀ v x, v < 24 → x < 24 → f'.ring v x = f.ring v x) (hn : ∀ k, k < 24 → f'.next k = f.next k) (ho : ∀ k, k < 24 → f'.outer k = f.outer k) (hi : ∀ k, k < 24 → f'.inner k = f.inner k) (hq : f'.queue = f.queue) : FAt w B g mate f' :=
  ⟨h.near, h.n, h.mate, fun v x hv hx => by rw [hr v x hv hx]; exact h.ring v x hv hx, fun k hk => by rw [hn k hk]; exact h.next k hk, fun k hk => by rw [ho k hk]; exact h.outer k hk, fun k hk => by rw [hi k hk]; exact h.inner k hk, by rw [hq]; exact h.queue, h.free⟩

theorem FAt.planted (h : FAt w F g mate (rootsTo mate g.n)) : FAt w F g mate (planted g mate) :=
  h.congr (fun v x hv _ => by simp [Mt.planted, rootsTo, hv]) (fun _ _ => rfl) (fun _ _ => rfl) (fun _ _ => rfl) rfl

theorem FAt.cells (h : FAt w F g mate f) (j : Nat) (hj : j < 698) : ∃ v, w.cell? ⟨F, j, none⟩ = some v ∧ v.oneCell' = true := by
  by_cases h1 : j < 24
  · obtain ⟨m, hm, _⟩ := h.near j h1
    exact ⟨_, hm, rfl⟩
  by_cases h2 : j = 24
  · subst h2
    exact ⟨_, h.n, rfl⟩
  by_cases h3 : j < 49
  · obtain ⟨q, rfl⟩ : ∃ q, j = 25 + q := ⟨j - 25, by omega⟩
    exact ⟨_, h.mate q (by omega), rfl⟩
  by_cases h4 : j < 625
  · obtain ⟨q, rfl⟩ : ∃ q, j = 49 + q := ⟨j - 49, by omega⟩
    have := h.ring (q / 24) (q % 24) (by omega) (by omega)
    rw [show 49 + q / 24 * 24 + q % 24 = 49 + q by omega] at this
    exact ⟨_, this, rfl⟩
  by_cases h5 : j < 649
  · obtain ⟨q, rfl⟩ : ∃ q, j = 625 + q := ⟨j - 625, by omega⟩
    exact ⟨_, h.next q (by omega), rfl⟩
  by_cases h6 : j < 673
  · obtain ⟨q, rfl⟩ : ∃ q, j = 649 + q := ⟨j - 649, by omega⟩
    exact ⟨_, h.outer q (by omega), rfl⟩
  by_cases h7 : j < 697
  · obtain ⟨q, rfl⟩ : ∃ q, j = 673 + q := ⟨j - 673, by omega⟩
    exact ⟨_, h.inner q (by omega), rfl⟩
  obtain rfl : j = 697 := by omega
  obtain ⟨v, hv, hI, _⟩ := h.queue
  obtain ⟨so, sc, rfl⟩ := hI.shape
  exact ⟨_, hv, rfl⟩

def blockCells (w : World) (F n : Nat) : List Value := (List.range n).map fun j => (w.cell? ⟨F, j, none⟩).getD (.bool false)

theorem blockCells_len (w : World) (F n : Nat) : (blockCells w F n).length = n := by simp [blockCells]

theorem FAt.cellsAt (h : FAt w F g mate f) {j : Nat} (hj : j < 698) : (blockCells w F 698)[j]? = w.cell? ⟨F, j, none⟩ := by
  obtain ⟨v, hv, _⟩ := h.cells j hj
  unfold blockCells
  simp [hj, hv]

theorem FAt.range (h : FAt w F g mate f) : w.rangeAt F 0 (blockCells w F 698) := by
  intro j v hj
  have hl := (List.getElem?_eq_some_iff.1 hj).1
  rw [blockCells_len] at hl
  rw [h.cellsAt hl] at hj
  rw [Nat.zero_add]
  exact hj

theorem FAt.cellsOne (h : FAt w F g mate f) : (blockCells w F 698).toArray.all (·.oneCell') = true := all_oneCell_toArray (by
  intro v hv
  obtain ⟨j, hj⟩ := List.mem_iff_getElem?.1 hv
  have hl := (List.getElem?_eq_some_iff.1 hj).1
  rw [blockCells_len] at hl
  obtain ⟨u, hu, h1⟩ := h.cells j hl
  rw [h.cellsAt hl, hu] at hj
  cases hj
  exact h1)

/-- A forest's cells laid in another block, its queue's row as it stood. -/
theorem FAt.moved (h : FAt w F g mate f) {F' : Nat} (hr : w'.rangeAt F' 0 (blockCells w F 698)) (hz : ∀ i, w'.frozen? ⟨F', i, none⟩ = false) (hq : ∀ v k, w.cell? ⟨F, 697, none⟩ = some v → v.ownBlock = some k → k ≠ F' ∧ w'.heap[k]? = w.heap[k]?) : FAt w' F' g mate f := by
  have c : ∀ j, j < 698 → w'.cell? ⟨F', j, none⟩ = w.cell? ⟨F, j, none⟩ := fun j hj => by
    obtain ⟨v, hv, _⟩ := h.cells j hj
    have := hr j v (by rw [h.cellsAt hj, hv])
    rw [Nat.zero_add] at this
    rw [this, hv]
  obtain ⟨v, hv, hI, hne⟩ := h.queue
  refine ⟨fun k hk => by rw [c _ (by omega)]; exact h.near k hk, by rw [c _ (by omega)]; exact h.n, fun k hk => by rw [c _ (by omega)]; exact h.mate k hk, fun v x hv hx => by rw [c _ (by omega)]; exact h.ring v x hv hx, fun k hk => by rw [c _ (by omega)]; exact h.next k hk, fun k hk => by rw [c _ (by omega)]; exact h.outer k hk,
    fun k hk => by rw [c _ (by omega)]; exact h.inner k hk, ⟨v, by rw [c _ (by omega)]; exact hv, ownsRow_same hI fun k hk => (hq v k hv hk).2, fun e => (hq v F' hv e).1 rfl⟩, hz⟩
end
theorem fo_there (w : World) (nr : Nat → Nat) (n : Nat) (mt : Nat → Int) (r : Nat → Nat → Bool) (t : TypeId) : (w.alloc (.cells (foCells nr n mt r).toArray t)).there w.heap.size 0 698 := by
  intro j hj
  rw [Nat.zero_add]
  refine ⟨?_, by simp⟩
  rw [World.cell?_alloc_new]
  simp [foCells_len, hj]
theorem fo_size (nr : Nat → Nat) (n : Nat) (mt : Nat → Int) (r : Nat → Nat → Bool) : (foCells nr n mt r).toArray.size = 698 := by simp [foCells_len]
theorem mat_range (w : World) (nr : Nat → Nat) (n : Nat) (mt : Nat → Int) (t : TypeId) : (w.alloc (.cells (matCells nr n mt).toArray t)).rangeAt w.heap.size 0 (matCells nr n mt) := by
  intro j u hj
  rw [Nat.zero_add, World.cell?_alloc_new]
  simpa using hj

/-- While plant makes its forest: the box of the matching, and the result's cells. -/
structure PlAt (A : Nat) (w wr : World) (nr : Nat → Nat) (n : Nat) (mt : Nat → Int) : Prop where
  below : Below A w wr
  box : wr.rangeAt A 0 (matCells nr n mt)
  res : wr.there (A + 1) 0 698
  lt : A + 1 < wr.heap.size

theorem PlAt.on {A : Nat} {w wr w' : World} {nr : Nat → Nat} {n : Nat} {mt : Nat → Int} (h : PlAt A w wr nr n mt) (hA : A = w.heap.size) (hb : Below wr.heap.size wr w') : PlAt A w w' nr n mt := by
  have hl := h.lt
  have hs := h.below.size
  refine ⟨h.below.trans (hb.mono (by omega)), fun j v hj => (hb.cell (p := ⟨A, 0 + j, none⟩) (by show A < _; omega)).trans (h.box j v hj), fun j hj => ⟨by rw [hb.cell (p := ⟨A + 1, 0 + j, none⟩) hl]; exact (h.res j hj).1, (hb.frozen (p := ⟨A + 1, 0 + j, none⟩) hl).trans (h.res j hj).2⟩, by have := hb.size; omega⟩

theorem PlAt.set {A F : Nat} {w wr : World} {nr : Nat → Nat} {n : Nat} {mt : Nat → Int} (h : PlAt A w wr nr n mt) (hF : A + 2 ≤ F) (vs : List Value) : PlAt A w (wr.setCells F 0 vs) nr n mt := by
  have hs := (below_cells (Nat.zero_le F) vs 0 wr (Below.refl 0 wr)).size
  have hl := h.lt
  exact ⟨below_cells (by omega) _ _ _ h.below, World.rangeAt_setCells_apart h.box _ _ _ (.inl (by omega)), World.there_setCells h.res _ _ _, by omega⟩

theorem foCells_one (nr : Nat → Nat) (n : Nat) (mt : Nat → Int) (r : Nat → Nat → Bool) : (foCells nr n mt r).toArray.all (·.oneCell') = true := all_oneCell_toArray (by
  intro v hv
  unfold foCells matCells nearCells mateCells rgCells at hv
  simp only [List.mem_append, List.mem_map, List.mem_cons, List.mem_replicate] at hv
  rcases hv with (⟨_, _, rfl⟩ | rfl | ⟨_, _, rfl⟩) | ⟨_, _, rfl⟩ | ⟨_, rfl⟩ | ⟨_, rfl⟩ | rfl | hv
  all_goals first | rfl | cases hv)

theorem fo_end {wz : World} {F : Nat} (hth : wz.there F 0 698) (hfr : ∀ i, wz.frozen? ⟨F, i, none⟩ = false) (nr : Nat → Nat) (n : Nat) (mt : Nat → Int) (r : Nat → Nat → Bool) :
    (wz.setCells F 0 (foCells nr n mt r)).rangeAt F 0 (foCells nr n mt r) ∧ ∀ i, (wz.setCells F 0 (foCells nr n mt r)).frozen? ⟨F, i, none⟩ = false :=
  ⟨World.rangeAt_setCells_same wz F 0 _ (by rw [foCells_len]; exact hth), fun i => by rw [frozen_setCells]; exact hfr i⟩

theorem wp_alloc_fo (d : Option Tmp) (t : TypeId) (pos : String) (af : Array Edge) (a : Act) (w : World) (K : Act → World → Prop) (Q : Exit → Act → World → Prop)
    (hK : K (a.put d (.pointer (some ⟨w.heap.size, 0, none⟩))) (w.alloc (.cells (foCells (fun _ => 0) 0 (fun _ => 0) fun _ _ => false).toArray 113))) : Oper.wp Tryz.prog ⟨d, .alloc 113, t, pos, af, none⟩ a w K Q := by
  unfold Oper.wp execOp
  simp only [Sem.run_bind, Sem.run_pure, alloc_fo, Result.andThen_ok]
  exact hK

theorem bare_mine {w : World} {F : Nat} {nr : Nat → Nat} {n : Nat} {mt : Nat → Int} {r : Nat → Nat → Bool} (h : w.rangeAt F 0 (foCells nr n mt r)) (k : Nat) (hk : FMine w F k) : k = F := by
  rcases hk with rfl | ⟨v, hv, hk⟩
  · rfl
  · have := h 697 _ foCells_queue
    rw [Nat.zero_add] at this
    rw [this] at hv
    cases hv
    simp [Value.ownBlock] at hk

/-- Where plant stands: the roots below c are there. -/
structure PsAt (A F : Nat) (w wr : World) (g : Gr) (mate : Nat → Option Nat) (nr : Nat → Nat) (n : Nat) (mt : Nat → Int) (c : Nat) : Prop where
  fo : FAt wr F g mate (rootsTo mate c)
  pl : PlAt A w wr nr n mt
  mine : ∀ k, FMine wr F k → A + 2 ≤ k

theorem PsAt.fr {A F : Nat} {w wr w' : World} {g : Gr} {mate : Nat → Option Nat} {nr : Nat → Nat} {n : Nat} {mt : Nat → Int} {c c' : Nat} (h : PsAt A F w wr g mate nr n mt c) (hA : A = w.heap.size) (hf : FFr F wr w') (ho : FAt w' F g mate (rootsTo mate c')) : PsAt A F w w' g mate nr n mt c' := by
  have hl := h.pl.lt
  have hs := h.pl.below.size
  have no : ∀ k, k < A + 2 → ¬ FMine wr F k := fun k hk hm => by have := h.mine k hm; omega
  have b : ∀ k, k < A + 2 → w'.heap[k]? = wr.heap[k]? := fun k hk => hf.block k (by omega) (no k hk)
  refine ⟨ho, ⟨⟨hf.os.trans h.pl.below.os, hf.tape.trans h.pl.below.tape, hf.output.trans h.pl.below.output, Nat.le_trans h.pl.below.size hf.size, fun k hk => (b k (by omega)).trans (h.pl.below.block k hk)⟩, fun j v hj => (World.cell?_of_block (a := ⟨A, 0 + j, none⟩) (b A (by omega))).trans (h.pl.box j v hj),
    fun j hj => ⟨by rw [World.cell?_of_block (a := ⟨A + 1, 0 + j, none⟩) (b (A + 1) (by omega))]; exact (h.pl.res j hj).1, (World.frozen?_of_block (a := ⟨A + 1, 0 + j, none⟩) (b (A + 1) (by omega))).trans (h.pl.res j hj).2⟩, by have := hf.size; omega⟩, fun k hk => ?_⟩
  by_cases hw : k < wr.heap.size
  · exact h.mine k (hf.mine k hw hk)
  · omega

theorem PsAt.cell {A F : Nat} {w wr : World} {g : Gr} {mate : Nat → Option Nat} {nr : Nat → Nat} {n : Nat} {mt : Nat → Int} {c : Nat} (h : PsAt A F w wr g mate nr n mt c) {i : Nat} (hi : i < 24) : wr.cell? ⟨A, 25 + i, none⟩ = some (.int .i64 (mt i)) := by
  have := h.pl.box _ _ (matCells_mate nr n mt hi)
  rwa [Nat.zero_add] at this

theorem PsAt.cellN {A F : Nat} {w wr : World} {g : Gr} {mate : Nat → Option Nat} {nr : Nat → Nat} {n : Nat} {mt : Nat → Int} {c : Nat} (h : PsAt A F w wr g mate nr n mt c) : wr.cell? ⟨A, 24, none⟩ = some (.int .i64 (n : Int)) := by
  have := h.pl.box _ _ (matCells_n nr n mt)
  rwa [Nat.zero_add] at this

/-- What plant hands back: the cells of a forest of roots alone, wherever they are laid; its queue's row is new. -/
def PlIs (w : World) (g : Gr) (mate : Nat → Option Nat) (e : Ending) (w' : World) : Prop :=
  ∃ cs : List Value, e = .returned (.agg cs.toArray) ∧ cs.length = 698 ∧ cs.toArray.all (·.oneCell') = true ∧ Below w.heap.size w w' ∧
    ∀ wx F, wx.rangeAt F 0 cs → (∀ i, wx.frozen? ⟨F, i, none⟩ = false) → (F < w.heap.size ∨ w'.heap.size ≤ F) → (∀ k, w.heap.size ≤ k → k < w'.heap.size → wx.heap[k]? = w'.heap[k]?) →
      FAt wx F g mate (planted g mate) ∧ ∀ k, FMine wx F k → k = F ∨ (w.heap.size ≤ k ∧ k < w'.heap.size)

theorem PsAt.done {F : Nat} {w wr : World} {g : Gr} {mate : Nat → Option Nat} {nr : Nat → Nat} {mt : Nat → Int} (h : PsAt w.heap.size F w wr g mate nr g.n mt g.n) : PlIs w g mate (.returned (.agg (blockCells wr F 698).toArray)) (wr.setCells (w.heap.size + 1) 0 (blockCells wr F 698)) := by
  have hP := h.fo.planted
  have hs : (wr.setCells (w.heap.size + 1) 0 (blockCells wr F 698)).heap.size = wr.heap.size := size_cells _ _ _ _
  refine ⟨_, rfl, blockCells_len _ _ _, h.fo.cellsOne, below_cells (by omega) _ _ _ h.pl.below, fun wx F' hr hz hF' hk => ?_⟩
  have row : ∀ v k, wr.cell? ⟨F, 697, none⟩ = some v → v.ownBlock = some k → w.heap.size + 2 ≤ k ∧ k < wr.heap.size := fun v k hv hk => ⟨h.mine k (.inr ⟨v, hv, hk⟩), (h.fo.mine (.inr ⟨v, hv, hk⟩)).2⟩
  rw [hs] at hF'
  have hq : ∀ v k, wr.cell? ⟨F, 697, none⟩ = some v → v.ownBlock = some k → k ≠ F' ∧ wx.heap[k]? = wr.heap[k]? := fun v k hv hkb => by
    obtain ⟨r1, r2⟩ := row v k hv hkb
    refine ⟨by omega, ?_⟩
    rw [hk k (by omega) (by rw [hs]; exact r2)]
    exact heap_cells_ne (by omega) _ _ _
  refine ⟨hP.moved hr hz hq, fun k hm => ?_⟩
  rcases hm with rfl | ⟨v, hv, hkb⟩
  · exact .inl rfl
  · obtain ⟨u, hu, _⟩ := h.fo.cells 697 (by omega)
    have := hr 697 u (by rw [h.fo.cellsAt (by omega), hu])
    rw [Nat.zero_add] at this
    rw [this] at hv
    cases hv
    obtain ⟨r1, r2⟩ := row _ k hu hkb
    exact .inr ⟨by omega, by rw [hs]; exact r2⟩

set_option maxRecDepth 100000 in
set_option maxHeartbeats 1000000 in
theorem plant_any (w : World) {nr : Nat → Nat} {n : Nat} {mt : Nat → Int} {g : Gr} {mate : Nat → Option Nat} (hb : ∀ k, k < 24 → nr k < 4294967296 ∧ ∀ j, j < 24 → (nr k).testBit j = g.adj k j) (hn : n = g.n) (hm : ∀ k, k < 24 → mt k = mi (mate k)) (hn24 : g.n ≤ 24) :
    Calls Tryz.prog 35 #[.agg (matCells nr n mt).toArray] w fun e w' => PlIs w g mate e w' := by
  subst hn
  have HM : Hid (∀ k, k < 24 → mt k = mi (mate k)) := hm
  have HPL : Hid (PlAt w.heap.size w ((w.alloc (.cells (matCells nr g.n mt).toArray 107)).alloc (.cells (foCells (fun _ => 0) 0 (fun _ => 0) fun _ _ => false).toArray 113)).drew nr g.n mt) := by
    have h1 : (w.alloc (.cells (matCells nr g.n mt).toArray 107)).heap.size = w.heap.size + 1 := by simp
    refine ⟨(((Below.refl _ w).alloc (Nat.le_refl _) _).alloc (by omega) _).drew, (World.rangeAt_drew _ _ _ _).2 (World.rangeAt_alloc (mat_range w nr g.n mt _) _), (World.there_drew _ _ _ _).2 ?_, by show _ < (World.alloc _ _).heap.size; simp⟩
    rw [← h1]
    exact fo_there _ _ _ _ _ _
  have HFA : Hid (∀ wx F, wx.rangeAt F 0 (foCells nr g.n mt fun v x => v == x) → (∀ i, wx.frozen? ⟨F, i, none⟩ = false) → FAt wx F g mate (bareFo fun v x => v == x) ∧ ∀ k, FMine wx F k → k = F) := fun wx F h1 h2 => ⟨FAt.bare h1 h2 hb rfl hm, bare_mine h1⟩
  clear hb hm
  go_enter Tryz.func35, Tryz.ntmps35
  go_upto_region 1 with (refine wpList_alloc rfl 113 rfl _ _ (alloc_fo _) ?_; simp only [Act.put, List.setIfInBounds_toArray, List.set_cons_zero, List.set_cons_succ])
  have e1 : (w.alloc (.cells (matCells nr g.n mt).toArray 107)).heap.size = w.heap.size + 1 := by simp
  rw [e1]
  clear e1
  go_cut [3] from 5 to 7 (fun v3 wc => ∃ F, v3 = .pointer (some ⟨F, 0, none⟩) ∧ w.heap.size + 2 ≤ F ∧ (FAt wc F g mate (bareFo fun v x => v == x) ∧ ∀ k, FMine wc F k → k = F) ∧ PlAt w.heap.size w wc nr g.n mt)
  case first =>
    refine wp_region_held_drew (S := fun w' => PlAt w.heap.size w w' nr g.n mt) (by kernel_rfl) ?_ (fun hHeld => ?_)
    · exact HPL.out
    generalize World.drew _ = wd at hHeld ⊢
    clear HPL
    refine wpAnyH_take (i := 0) (oi := ⟨some 5, .load _ (.tmp 1), _, _, _, none⟩) (v := (.agg (matCells nr g.n mt).toArray)) rfl (by kernel_rfl) (by kernel_rfl) (by kernel_rfl) (fun _ _ _ h => h) (yieldsIf_load_mid (by rfl) 107 (.tmp 1) rfl w.heap.size 0 (by simp [Act.eval]) (matCells nr g.n mt) _ (fun w h => h.box) Tryz.underlying107 rfl (by rw [Tryz.sizeMatching, matCells_len])) (by assumption) ?_
    try simp only [Act.put, List.setIfInBounds_toArray, List.set_cons_zero, List.set_cons_succ]
    refine wpAnyH_ready (rs := [1, 3]) (by kernel_rfl) (by simp) ?_
    refine AllReadyH.cons (o := ⟨some 6, .call ⟨.value (.func 62), #[], _⟩, _, _, _, none⟩) rfl (fun K hK => ?_) (AllReadyH.cons (o := ⟨some 3, .alloc _, _, _, _, none⟩) rfl (fun K hK => ?_) AllReadyH.nil)
    · skip
      rw [if_pos (by rfl)]
      go_simp
      refine (single_any _).mono ?_
      rintro e w3 ⟨rfl, w3b⟩
      have w3P := hHeld.on rfl w3b
      refine hK.out _ _ w3P (fun _ => ?_)
      clear hK K
      try simp only [Act.put, List.setIfInBounds_toArray, List.set_cons_zero, List.set_cons_succ]
      refine wpAnyH_take (i := 2) (oi := ⟨some 7, .build _ #[(0, .tmp 5), (1, .tmp 6)], _, _, _, none⟩) (v := (.agg (foCells nr g.n mt fun v x => v == x).toArray)) rfl (by kernel_rfl) (by kernel_rfl) (by kernel_rfl) (fun _ _ _ h => h) (Or.inl ⟨by rfl, fun w0 hS => by unfold execOp; simp [Act.eval, build_fo]⟩) (by assumption) ?_
      try simp only [Act.put, List.setIfInBounds_toArray, List.set_cons_zero, List.set_cons_succ]
      refine wpAnyH_ready (rs := [3]) (by kernel_rfl) (by simp) ?_
      refine AllReadyH.cons (o := ⟨some 3, .alloc _, _, _, _, none⟩) rfl (fun K hK => ?_) AllReadyH.nil
      rw [if_pos (by rfl)]
      refine wp_alloc_fo _ _ _ _ _ _ _ _ ?_
      have hPZ := w3P.on rfl ((Below.refl _ w3).alloc (Nat.le_refl _) (.cells (foCells (fun _ => 0) 0 (fun _ => 0) fun _ _ => false).toArray 113))
      have hTH := fo_there w3 (fun _ => 0) 0 (fun _ => 0) (fun _ _ => false) 113
      have hFZ : ∀ i, (w3.alloc (.cells (foCells (fun _ => 0) 0 (fun _ => 0) fun _ _ => false).toArray 113)).frozen? ⟨w3.heap.size, i, none⟩ = false := fun i => by simp
      have hF2 : w.heap.size + 2 ≤ w3.heap.size := by have := w3P.lt; omega
      refine hK.out _ _ hPZ (fun _ => ?_)
      clear hK K
      try simp only [Act.put, List.setIfInBounds_toArray, List.set_cons_zero, List.set_cons_succ]
      refine wpAnyH_ready (rs := [4]) (by kernel_rfl) (by simp) ?_
      refine AllReadyH.cons (o := ⟨none, .store _ (.tmp 3) (.tmp 7), _, _, _, none⟩) rfl (fun K hK => ?_) AllReadyH.nil
      rw [if_pos (by rfl)]
      refine wp_store_mid 113 (.tmp 3) (.tmp 7) rfl w3.heap.size 0 (foCells nr g.n mt fun v x => v == x).toArray (by simp [Act.eval]) (by simp [Act.eval]) (by rw [fo_size]; exact hTH) (by rw [fo_size]; exact Tryz.sizeForest) (foCells_one _ _ _ _) ?_
      try simp only [Act.put]
      have hE := fo_end hTH hFZ nr g.n mt fun v x => v == x
      have hP := hPZ.set (F := w3.heap.size) hF2 (foCells nr g.n mt fun v x => v == x)
      refine hK.out _ _ hP (fun _ => ?_)
      clear hK K
      refine wpAnyH_done (by kernel_rfl) ?_ _
      have HREL : Hid _ := HFA.out _ _ hE.1 hE.2
      go_wp2_with fail
      go_meet
      exact ⟨_, rfl, hF2, HREL.out, hP⟩
    · skip
      rw [if_pos (by rfl)]
      refine wp_alloc_fo _ _ _ _ _ _ _ _ ?_
      have w3b : Below wd.heap.size wd (wd.alloc (.cells (foCells (fun _ => 0) 0 (fun _ => 0) fun _ _ => false).toArray 113)) := (Below.refl _ _).alloc (Nat.le_refl _) _
      have haP := hHeld.on rfl w3b
      have hTa := fo_there wd (fun _ => 0) 0 (fun _ => 0) (fun _ _ => false) 113
      have hFa : ∀ i, (wd.alloc (.cells (foCells (fun _ => 0) 0 (fun _ => 0) fun _ _ => false).toArray 113)).frozen? ⟨wd.heap.size, i, none⟩ = false := fun i => by simp
      have hFl : wd.heap.size < (wd.alloc (.cells (foCells (fun _ => 0) 0 (fun _ => 0) fun _ _ => false).toArray 113)).heap.size := by simp
      have hF2 : w.heap.size + 2 ≤ wd.heap.size := by have := hHeld.lt; omega
      refine hK.out _ _ haP (fun _ => ?_)
      clear hK K
      generalize wd.alloc (.cells (foCells (fun _ => 0) 0 (fun _ => 0) fun _ _ => false).toArray 113) = wa at *
      try simp only [Act.put, List.setIfInBounds_toArray, List.set_cons_zero, List.set_cons_succ]
      refine wpAnyH_ready (rs := [1]) (by kernel_rfl) (by simp) ?_
      refine AllReadyH.cons (o := ⟨some 6, .call ⟨.value (.func 62), #[], _⟩, _, _, _, none⟩) rfl (fun K hK => ?_) AllReadyH.nil
      rw [if_pos (by rfl)]
      go_simp
      refine (single_any _).mono ?_
      rintro e w4 ⟨rfl, hb4⟩
      have hPZ := haP.on rfl hb4
      have hTH : w4.there wd.heap.size 0 698 := fun j hj => ⟨by rw [hb4.cell (p := ⟨wd.heap.size, 0 + j, none⟩) hFl]; exact (hTa j hj).1, (hb4.frozen (p := ⟨wd.heap.size, 0 + j, none⟩) hFl).trans (hTa j hj).2⟩
      have hFZ : ∀ i, w4.frozen? ⟨wd.heap.size, i, none⟩ = false := fun i => (hb4.frozen (p := ⟨wd.heap.size, i, none⟩) hFl).trans (hFa i)
      refine hK.out _ _ hPZ (fun _ => ?_)
      clear hK K
      try simp only [Act.put, List.setIfInBounds_toArray, List.set_cons_zero, List.set_cons_succ]
      refine wpAnyH_take (i := 2) (oi := ⟨some 7, .build _ #[(0, .tmp 5), (1, .tmp 6)], _, _, _, none⟩) (v := (.agg (foCells nr g.n mt fun v x => v == x).toArray)) rfl (by kernel_rfl) (by kernel_rfl) (by kernel_rfl) (fun _ _ _ h => h) (Or.inl ⟨by rfl, fun w0 hS => by unfold execOp; simp [Act.eval, build_fo]⟩) (by assumption) ?_
      try simp only [Act.put, List.setIfInBounds_toArray, List.set_cons_zero, List.set_cons_succ]
      refine wpAnyH_ready (rs := [4]) (by kernel_rfl) (by simp) ?_
      refine AllReadyH.cons (o := ⟨none, .store _ (.tmp 3) (.tmp 7), _, _, _, none⟩) rfl (fun K hK => ?_) AllReadyH.nil
      rw [if_pos (by rfl)]
      refine wp_store_mid 113 (.tmp 3) (.tmp 7) rfl wd.heap.size 0 (foCells nr g.n mt fun v x => v == x).toArray (by simp [Act.eval]) (by simp [Act.eval]) (by rw [fo_size]; exact hTH) (by rw [fo_size]; exact Tryz.sizeForest) (foCells_one _ _ _ _) ?_
      try simp only [Act.put]
      have hE := fo_end hTH hFZ nr g.n mt fun v x => v == x
      have hP := hPZ.set (F := wd.heap.size) hF2 (foCells nr g.n mt fun v x => v == x)
      refine hK.out _ _ hP (fun _ => ?_)
      clear hK K
      refine wpAnyH_done (by kernel_rfl) ?_ _
      have HREL : Hid _ := HFA.out _ _ hE.1 hE.2
      go_wp2_with fail
      go_meet
      exact ⟨_, rfl, hF2, HREL.out, hP⟩
  case rest =>
    clear HPL HFA
    obtain ⟨F, rfl, hF2, ⟨hFA0, hFM0⟩, hPA0⟩ := hcut
    have HST : Hid (PsAt w.heap.size F w wc g mate nr g.n mt 0) := ⟨by rw [rootsTo_zero]; exact hFA0, hPA0, fun k hk => by rw [hFM0 k hk]; exact hF2⟩
    have c24 := HST.out.cellN
    clear hFA0 hFM0 hPA0
    go_wp2_with fail
    go_loopg [10] 26 (fun k v10 wr => ∃ c : Nat, c ≤ g.n ∧ 25 - c ≤ k ∧ v10 = .int .i64 c ∧ PsAt w.heap.size F w wr g mate nr g.n mt c)
    case atStart => exact ⟨0, by omega, by omega, rfl, HST.out⟩
    case round =>
      clear HST c24
      obtain ⟨c, hc, hk, rfl, hat⟩ := hrel
      have HAT : Hid (PsAt w.heap.size F w wr g mate nr g.n mt c) := hat
      by_cases hcn : c < g.n
      · have hcn' : (c : Int) < (g.n : Int) := by omega
        have c24 : (c : Int) < 24 := by omega
        have cm := hat.cell (show c < 24 by omega)
        rw [HM.out c (by omega)] at cm
        cases hm : mate c with
        | none =>
          rw [hm] at cm
          simp only [mi] at cm
          have RC := reach_any hat.fo (show c < 24 by omega) (by have := rootsTo_len mate c; omega)
          rw [rootsTo_yes hm] at RC
          clear hat
          go_wp2_with fail
          refine RC.mono ?_
          rintro e w2 ⟨rfl, hF, hf⟩
          have HN : Hid (PsAt w.heap.size F w w2 g mate nr g.n mt (c + 1)) := HAT.out.fr rfl hf hF
          clear hF hf RC
          go_wp2_with fail
          go_roundg (25 - (c + 1))
          case measure => omega
          case rel => exact ⟨c + 1, by omega, Nat.le_refl _, by go_num, HN.out⟩
        | some m =>
          rw [hm] at cm
          simp only [mi] at cm
          have hne : ¬ ((m : Int) = -1) := by omega
          have HN : Hid (PsAt w.heap.size F w wr g mate nr g.n mt (c + 1)) := HAT.out.fr rfl (FFr.refl _ _) (by rw [rootsTo_no (by rw [hm]; rfl)]; exact HAT.out.fo)
          clear hat
          go_wp2_with fail
          go_roundg (25 - (c + 1))
          case measure => omega
          case rel => exact ⟨c + 1, by omega, Nat.le_refl _, by go_num, HN.out⟩
      · have hcn' : ¬ (c : Int) < (g.n : Int) := by omega
        have ec : c = g.n := by omega
        subst ec
        have HE : Hid _ := hat.done
        have HRG : Hid (wr.rangeAt F 0 (blockCells wr F 698)) := hat.fo.range
        have HTH : Hid (wr.there (w.heap.size + 1) 0 698) := hat.pl.res
        have HON : Hid ((blockCells wr F 698).toArray.all (·.oneCell') = true) := hat.fo.cellsOne
        have hsz : (blockCells wr F 698).toArray.size = 698 := by simp [blockCells_len]
        have HSZ : Hid ((blockCells wr F 698).toArray.size = 698) := hsz
        have HLD := run_loadVar_mid (P := Tryz.prog) _ (w.heap.size + 1) 0 113 (blockCells wr F 698) _ (World.rangeAt_setCells_same wr (w.heap.size + 1) 0 (blockCells wr F 698) (by rw [blockCells_len]; exact hat.pl.res)) Tryz.underlying113 rfl (by rw [blockCells_len]; exact Tryz.sizeForest)
        have HLD' : Hid _ := HLD
        clear hat hsz HLD
        go_wp2_with (first | (refine wpList_load_mid rfl 113 (.tmp 3) rfl F 0 (by simp [Act.eval]) (blockCells wr F 698) _ HRG.out Tryz.underlying113 rfl (by rw [Tryz.sizeForest, blockCells_len]) ?_; simp only [Act.put, List.setIfInBounds_toArray, List.set_cons_zero, List.set_cons_succ]) | (refine wpList_store_mid rfl 113 (.tmp 2) (.tmp 21) rfl (w.heap.size + 1) 0 (blockCells wr F 698).toArray (by simp [Act.eval]) (by rfl) (by rw [HSZ.out]; exact HTH.out) (by rw [HSZ.out]; exact Tryz.sizeForest) HON.out ?_; simp only [Act.put]))
        refine bodyPost_ret (v := .agg (blockCells wr F 698).toArray) ?_ rfl HE.out
        have HLD := HLD'.out
        simp [results, Tryz.results35, asAddr, HLD]
section
variable {w w' wr : World} {M : Nat} {g : Gr} {mate : Nat → Option Nat}
theorem MAt.mat (h : MAt w M g mate) : ∃ nr : Nat → Nat, (∀ k, k < 24 → nr k < 4294967296 ∧ ∀ j, j < 24 → (nr k).testBit j = g.adj k j) ∧ w.rangeAt M 0 (matCells nr g.n fun k => mi (mate k)) := by
  have hx : ∀ k, ∃ m : Nat, k < 24 → w.cell? ⟨M, k, none⟩ = some (.int .u32 m) ∧ m < 4294967296 ∧ ∀ j, j < 24 → m.testBit j = g.adj k j := fun k => by
    by_cases hk : k < 24
    · obtain ⟨m, hm⟩ := h.near k hk
      exact ⟨m, fun _ => hm⟩
    · exact ⟨0, fun k' => absurd k' hk⟩
  refine ⟨fun k => Classical.choose (hx k), fun k hk => (Classical.choose_spec (hx k) hk).2, fun j v hj => ?_⟩
  have hl : j < 49 := by
    have := (List.getElem?_eq_some_iff.1 hj).1
    rwa [matCells_len] at this
  rw [Nat.zero_add]
  rcases Nat.lt_trichotomy j 24 with k | k | k
  · rw [matCells_near _ _ _ k] at hj
    cases hj
    exact (Classical.choose_spec (hx j) k).1
  · subst k
    rw [matCells_n] at hj
    cases hj
    exact h.n
  · obtain ⟨q, rfl⟩ : ∃ q, j = 25 + q := ⟨j - 25, by omega⟩
    rw [matCells_mate _ _ _ (by omega)] at hj
    cases hj
    exact h.mate q (by omega)

theorem MAt.of {nr : Nat → Nat} {n : Nat} {mt : Nat → Int} (hr : w.rangeAt M 0 (matCells nr n mt)) (hz : ∀ i, w.frozen? ⟨M, i, none⟩ = false) (hb : ∀ k, k < 24 → nr k < 4294967296 ∧ ∀ j, j < 24 → (nr k).testBit j = g.adj k j) (hn : n = g.n) (hm : ∀ k, k < 24 → mt k = mi (mate k)) : MAt w M g mate := by
  have c : ∀ j u, (matCells nr n mt)[j]? = some u → w.cell? ⟨M, j, none⟩ = some u := fun j u hu => by
    have := hr j u hu
    rwa [Nat.zero_add] at this
  exact ⟨fun k hk => ⟨nr k, c k _ (matCells_near _ _ _ hk), hb k hk⟩, by rw [← hn]; exact c 24 _ (matCells_n _ _ _), fun k hk => by rw [← hm k hk]; exact c _ _ (matCells_mate _ _ _ hk), hz⟩

theorem FFr.toBelow {A F : Nat} (hf : FFr F w w') (hm : ∀ k, FMine w F k → A ≤ k) (hA : A ≤ w.heap.size) : Below A w w' :=
  ⟨hf.os, hf.tape, hf.output, hf.size, fun k hk => hf.block k (by omega) (fun h => by have := hm k h; omega)⟩

theorem MFr.toBelow {A : Nat} (hf : MFr M w w') (hm : A ≤ M) (hA : A ≤ w.heap.size) : Below A w w' :=
  ⟨hf.os, hf.tape, hf.output, hf.size, fun k hk => hf.block k (by omega) (by omega)⟩

/-- What Greatest hands back. -/
def GmIs (w : World) (g : Gr) (e : Ending) (w' : World) : Prop :=
  ∃ mate f h, Best g mate f h ∧ ∃ pv uv, e = .returned (.tuple #[pv, uv]) ∧ Prs w' w.heap.size pv (pairsF g.n mate) ∧ Ints w' w.heap.size uv (barF g.n f) ∧ Below w.heap.size w w'

/-- Where Greatest stands: a matching in block M. -/
structure GsAt (w : World) (M : Nat) (g : Gr) (mate : Nat → Option Nat) (wr : World) : Prop where
  at_ : MAt wr M g mate
  ok : MtOk g mate
  below : Below w.heap.size w wr
  le : w.heap.size ≤ M

theorem GsAt.start {nr : Nat → Nat} (hb : Below w.heap.size w wr) (hbit : ∀ k, k < 24 → nr k < 4294967296 ∧ ∀ j, j < 24 → (nr k).testBit j = g.adj k j) (t : TypeId) :
    GsAt w wr.heap.size g (fun _ => none) ((wr.alloc (.cells (matCells (fun _ => 0) 0 fun _ => 0).toArray t)).setCells wr.heap.size 0 (matCells nr g.n fun _ => -1)) := by
  refine ⟨MAt.of (World.rangeAt_setCells_same _ _ _ _ (by rw [matCells_len]; exact mat_there _ _ _ _ _)) (fun i => by rw [frozen_setCells]; simp) hbit rfl (fun _ _ => rfl), ⟨fun _ _ h => (by cases h), fun _ _ h => (by cases h)⟩, below_cells hb.size _ _ _ (hb.alloc hb.size _), hb.size⟩

/-- A forest of roots laid in a new block. -/
theorem PlIs.laid {w1 : World} {cs : List Value} (hl : cs.length = 698) (t : TypeId)
    (h : ∀ wx F, wx.rangeAt F 0 cs → (∀ i, wx.frozen? ⟨F, i, none⟩ = false) → (F < w.heap.size ∨ w1.heap.size ≤ F) → (∀ k, w.heap.size ≤ k → k < w1.heap.size → wx.heap[k]? = w1.heap[k]?) →
      FAt wx F g mate (planted g mate) ∧ ∀ k, FMine wx F k → k = F ∨ (w.heap.size ≤ k ∧ k < w1.heap.size)) :
    FAt ((w1.alloc (.cells (foCells (fun _ => 0) 0 (fun _ => 0) fun _ _ => false).toArray t)).setCells w1.heap.size 0 cs) w1.heap.size g mate (planted g mate) ∧
      ∀ k, FMine ((w1.alloc (.cells (foCells (fun _ => 0) 0 (fun _ => 0) fun _ _ => false).toArray t)).setCells w1.heap.size 0 cs) w1.heap.size k → k = w1.heap.size ∨ (w.heap.size ≤ k ∧ k < w1.heap.size) :=
  h _ _ (World.rangeAt_setCells_same _ _ _ _ (by rw [hl]; exact fo_there _ _ _ _ _ _)) (fun i => by rw [frozen_setCells]; simp) (.inr (Nat.le_refl _)) (fun k h1 h2 => by rw [heap_cells_ne (by omega), heap_alloc_lt _ _ _ h2])

theorem Aug.small (G : GrOk g) {p : List Nat} (A : Aug g mate p) : p.length ≤ 48 ∧ ∀ x ∈ p, x < 24 := by
  have hx : ∀ x ∈ p, x < g.n := A.lt
  have hn := G.n24
  have := len_inj p (fun x => x) (List.range g.n) A.nodup (fun x hx' => List.mem_range.2 (hx x hx')) (fun x _ y _ e => e)
  simp at this
  exact ⟨by omega, fun x h => by have := hx x h; omega⟩

set_option maxRecDepth 100000 in
set_option maxHeartbeats 1000000 in
theorem greatest_any (w : World) {nr : Nat → Nat} {g : Gr} (hb : ∀ k, k < 24 → nr k < 4294967296 ∧ ∀ j, j < 24 → (nr k).testBit j = g.adj k j) (G : GrOk g) :
    Calls Tryz.prog 24 #[.agg (nearCells nr).toArray, .int .i64 (g.n : Int)] w fun e w' => GmIs w g e w' := by
  have HG : Hid (GrOk g) := G
  have HBT : Hid (∀ k, k < 24 → nr k < 4294967296 ∧ ∀ j, j < 24 → (nr k).testBit j = g.adj k j) := hb
  have HGR : Hid ((w.alloc (.cells (nearCells nr).toArray 65)).rangeAt w.heap.size 0 (nearCells nr)) := graph_range w nr _
  have HB0 : Hid (Below w.heap.size w (w.alloc (.cells (nearCells nr).toArray 65))) := (Below.refl _ w).alloc (Nat.le_refl _) _
  have HEM := empty_any (w.alloc (.cells (nearCells nr).toArray 65)) nr g.n
  clear hb G
  go_enter Tryz.func24, Tryz.ntmps24
  go_wp2_with (refine wpList_load_mid rfl 65 (.tmp 2) rfl w.heap.size 0 (by simp [Act.eval]) (nearCells nr) _ HGR.out Tryz.underlying65 rfl (by rw [Tryz.sizeGraph, nearCells_len]) ?_; simp only [Act.put, List.setIfInBounds_toArray, List.set_cons_zero, List.set_cons_succ])
  refine HEM.mono ?_
  rintro e w1 ⟨rfl, hb1⟩
  clear HEM HGR
  have HST : Hid (GsAt w w1.heap.size g (fun _ => none) ((w1.alloc (.cells (matCells (fun _ => 0) 0 fun _ => 0).toArray 107)).setCells w1.heap.size 0 (matCells nr g.n fun _ => -1))) := GsAt.start (HB0.out.trans (hb1.mono (by simp))) HBT.out _
  have HTH : Hid ((w1.alloc (.cells (matCells (fun _ => 0) 0 fun _ => 0).toArray 107)).there w1.heap.size 0 49) := mat_there _ _ _ _ _
  clear hb1
  go_upto_region 2 with (first | (refine wpList_alloc rfl 107 rfl _ _ (alloc_mat _) ?_; simp only [Act.put, List.setIfInBounds_toArray, List.set_cons_zero, List.set_cons_succ]) | (refine wpList_store_mid rfl 107 (.tmp 6) (.tmp 12) rfl w1.heap.size 0 (matCells nr g.n fun _ => -1).toArray (by simp [Act.eval]) (by rfl) (by rw [mat_size]; exact HTH.out) (by rw [mat_size]; exact Tryz.sizeMatching) (matCells_one _ _ _) ?_; simp only [Act.put]))
  generalize World.setCells _ _ _ _ = wm at HST ⊢
  generalize w1.heap.size = M at HST ⊢
  clear HTH HB0 HBT
  go_wp2_with fail
  go_loopg [9] 26 (fun k v9 wr => ∃ mate, cnt g.n (fun x => (mate x).isNone) ≤ k ∧ v9 = v9 ∧ GsAt w M g mate wr)
  case atStart => exact ⟨_, Nat.le_trans cnt_le (Nat.le_trans HG.out.n24 (by omega)), rfl, HST.out⟩
  case round =>
    clear HST
    obtain ⟨mate, hcn, _, hat⟩ := hrel
    have HAT : Hid (GsAt w M g mate wr) := hat
    have HCN : Hid (cnt g.n (fun x => (mate x).isNone) ≤ gk) := hcn
    obtain ⟨nr', hb', hrg⟩ := hat.at_.mat
    have HRG : Hid (wr.rangeAt M 0 (matCells nr' g.n fun k => mi (mate k))) := hrg
    have PL := plant_any wr hb' rfl (fun _ _ => rfl) HG.out.n24 (mt := fun k => mi (mate k)) (mate := mate)
    clear hat hcn hb' hrg
    go_wp2_with (refine wpList_load_mid rfl 107 (.tmp 6) rfl M 0 (by simp [Act.eval]) (matCells nr' g.n fun k => mi (mate k)) _ HRG.out Tryz.underlying107 rfl (by rw [Tryz.sizeMatching, matCells_len]) ?_; simp only [Act.put, List.setIfInBounds_toArray, List.set_cons_zero, List.set_cons_succ])
    refine PL.mono ?_
    rintro e w1 ⟨cs, rfl, hcl, hone, hb1, hlaw⟩
    have hLA := PlIs.laid hcl 113 hlaw
    have HSZ : Hid (cs.toArray.size = 698) := by unfold Hid; simpa using hcl
    have HTH : Hid ((w1.alloc (.cells (foCells (fun _ => 0) 0 (fun _ => 0) fun _ _ => false).toArray 113)).there w1.heap.size 0 698) := fo_there _ _ _ _ _ _
    have HON : Hid (cs.toArray.all (·.oneCell') = true) := hone
    have HB1 : Hid (Below wr.heap.size wr ((w1.alloc (.cells (foCells (fun _ => 0) 0 (fun _ => 0) fun _ _ => false).toArray 113)).setCells w1.heap.size 0 cs)) := below_cells hb1.size _ _ _ (hb1.alloc hb1.size _)
    have HSB : Hid (wr.heap.size ≤ w1.heap.size) := hb1.size
    have HLA : Hid _ := hLA
    clear PL HRG hcl hone hb1 hlaw hLA
    go_upto_region 3 with (first | (refine wpList_alloc rfl 113 rfl _ _ (alloc_fo _) ?_; simp only [Act.put, List.setIfInBounds_toArray, List.set_cons_zero, List.set_cons_succ]) | (refine wpList_store_mid rfl 113 (.tmp 7) (.tmp 14) rfl w1.heap.size 0 cs.toArray (by simp [Act.eval]) (by rfl) (by rw [HSZ.out]; exact HTH.out) (by rw [HSZ.out]; exact Tryz.sizeForest) HON.out ?_; simp only [Act.put]))
    clear HTH
    generalize World.setCells _ _ _ _ = w2 at HLA HB1 ⊢
    generalize w1.heap.size = F at *
    have GW := grow_any HLA.out.1 HG.out HAT.out.ok (plant_inv HG.out)
    go_wp2_with fail
    refine GW.mono ?_
    rintro e w3 ⟨hf, hcase⟩
    have hMl := HAT.out.at_.lt
    have hnm : ∀ k, k < wr.heap.size → ¬ FMine w2 F k := fun k hk hm => by
      have h1 := HSB.out
      rcases HLA.out.2 k hm with h | h <;> omega
    have HM3 : Hid (MAt w3 M g mate) := HAT.out.at_.same ((hf.block M (Nat.lt_of_lt_of_le hMl HB1.out.size) (hnm M hMl)).trans (HB1.out.block M hMl))
    have hws := HAT.out.below.size
    have HB3 : Hid (Below w.heap.size w w3) := (HAT.out.below.trans (HB1.out.mono hws)).trans (hf.toBelow (fun k hk => Nat.le_of_not_lt fun hl => hnm k (by omega) hk) (Nat.le_trans hws HB1.out.size))
    have HM2 : Hid (M < w2.heap.size ∧ w2.heap.size ≤ w3.heap.size) := ⟨Nat.lt_of_lt_of_le hMl HB1.out.size, hf.size⟩
    clear GW hf hnm
    rcases hcase with ⟨rfl, f', h', hF, hI, hS⟩ | ⟨p, hp, rv, rfl, hrv⟩
    · have PR := pairs_any HM3.out HG.out.n24
      have HF : Hid (FAt w3 F g mate f') := hF
      have HBE : Hid (Best g mate f' h') := ⟨HAT.out.ok, hI, hS⟩
      clear hF hI hS
      go_wp2_with fail
      refine PR.mono ?_
      rintro e w4 ⟨pv, rfl, hP, hb4⟩
      have BA := barrier_any (HF.out.below hb4) HG.out.n24
      have HP : Hid (Prs w4 w3.heap.size pv (pairsF g.n mate)) := hP
      have HB4 : Hid (Below w3.heap.size w3 w4) := hb4
      clear PR hP hb4
      go_wp2_with fail
      refine BA.mono ?_
      rintro e w5 ⟨uv, rfl, hU, hb5⟩
      have h3 := HB3.out.size
      have h4 := HB4.out.size
      have HE : Hid (GmIs w g (.returned (.tuple #[pv, uv])) w5) := ⟨mate, f', h', HBE.out, pv, uv, rfl, ownsRow_mono (ownsRow_same HP.out fun k hk => hb5.block k (HP.out.lt k hk).2) (by omega), ownsRow_mono hU (by omega), (HB3.out.trans (HB4.out.mono h3)).trans (hb5.mono (by omega))⟩
      clear BA hU hb5
      go_wp2_with fail
      refine bodyPost_ret (v := .tuple #[pv, uv]) ?_ rfl HE.out
      simp [results, Tryz.results24]
    · have FL := flip_any HM3.out hrv (fun e => by
        have h1 := (hrv.lt _ e).1
        have h2 := HM2.out
        omega) (Aug.small HG.out hp).1 (Aug.small HG.out hp).2 hp.nodup
      have HLS : Hid _ := aug_less HG.out HAT.out.ok hp
      clear hrv hp
      go_wp2_with fail
      refine FL.mono ?_
      rintro e w4 ⟨rfl, hA4, hf4⟩
      have HN : Hid (GsAt w M g (Mt.flip mate p) w4) := ⟨hA4, HLS.out.1, HB3.out.trans (hf4.toBelow HAT.out.le HB3.out.size), HAT.out.le⟩
      clear FL hA4 hf4
      go_wp2_with fail
      go_roundg (cnt g.n (fun x => (Mt.flip mate p x).isNone))
      case measure => exact Nat.lt_of_lt_of_le HLS.out.2 HCN.out
      case rel => exact ⟨_, Nat.le_refl _, trivial, HN.out⟩
end
end Go.Proofs.YtcabaecbmkgclaaGreatDoor.Mg
