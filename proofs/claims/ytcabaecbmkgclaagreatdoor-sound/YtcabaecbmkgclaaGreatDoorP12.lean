/-
  What plant does.
  What matching.Greatest does.
  Pieces named by their least number: what stands while names go down along edges.
  What is seen of the pairs and of the barrier.
  What the graph's below and Join do.
  What graph.Of does.
-/
import Derived.Test.YtcabaecbmkgclaaGreatDoorP11

namespace Go.Proofs.YtcabaecbmkgclaaGreatDoor.Mg
open Go.RowKit Mt

theorem fo_there (w : World) (nr : Nat → Nat) (n : Nat) (mt : Nat → Int) (r : Nat → Nat → Bool) (t : TypeId) : (w.alloc (.cells (foCells nr n mt r).toArray t)).there w.heap.size 0 698 := by
  intro j hj
  rw [Nat.zero_add]
  refine ⟨?_, by simp⟩
  rw [World.cell?_alloc_new]
  simp [foCells_len, hj]
theorem fo_size (nr : Nat → Nat) (n : Nat) (mt : Nat → Int) (r : Nat → Nat → Bool) : (foCells nr n mt r).toArray.size = 698 := by simp [foCells_len]
theorem mat_range (w : World) (nr : Nat → Nat) (n : Nat) (mt : Nat → Int) (t : TypeId) : (w.alloc (.cells (matCells nr n mt).toArray t)).rangeAt w.heap.size 0 (matCells nr n mt) := by
  intro j u hj
  rw [Nat.zero_add, World.cell?_alloc_new]
  simpa using hj

/-- While plant makes its forest: the box of the matching, and the result's cells. -/
structure PlAt (A : Nat) (w wr : World) (nr : Nat → Nat) (n : Nat) (mt : Nat → Int) : Prop where
  below : Below A w wr
  box : wr.rangeAt A 0 (matCells nr n mt)
  res : wr.there (A + 1) 0 698
  lt : A + 1 < wr.heap.size

theorem PlAt.on {A : Nat} {w wr w' : World} {nr : Nat → Nat} {n : Nat} {mt : Nat → Int} (h : PlAt A w wr nr n mt) (hA : A = w.heap.size) (hb : Below wr.heap.size wr w') : PlAt A w w' nr n mt := by
  have hl := h.lt
  have hs := h.below.size
  refine ⟨h.below.trans (hb.mono (by omega)), fun j v hj => (hb.cell (p := ⟨A, 0 + j, none⟩) (by show A < _; omega)).trans (h.box j v hj), fun j hj => ⟨by rw [hb.cell (p := ⟨A + 1, 0 + j, none⟩) hl]; exact (h.res j hj).1, (hb.frozen (p := ⟨A + 1, 0 + j, none⟩) hl).trans (h.res j hj).2⟩, by have := hb.size; omega⟩

theorem PlAt.set {A F : Nat} {w wr : World} {nr : Nat → Nat} {n : Nat} {mt : Nat → Int} (h : PlAt A w wr nr n mt) (hF : A + 2 ≤ F) (vs : List Value) : PlAt A w (wr.setCells F 0 vs) nr n mt := by
  have hs := (below_cells (Nat.zero_le F) vs 0 wr (Below.refl 0 wr)).size
  have hl := h.lt
  exact ⟨below_cells (by omega) _ _ _ h.below, World.rangeAt_setCells_apart h.box _ _ _ (.inl (by omega)), World.there_setCells h.res _ _ _, by omega⟩

theorem foCells_one (nr : Nat → Nat) (n : Nat) (mt : Nat → Int) (r : Nat → Nat → Bool) : (foCells nr n mt r).toArray.all (·.oneCell') = true := all_oneCell_toArray (by
  intro v hv
  unfold foCells matCells nearCells mateCells rgCells at hv
  simp only [List.mem_append, List.mem_map, List.mem_cons, List.mem_replicate] at hv
  rcases hv with (⟨_, _, rfl⟩ | rfl | ⟨_, _, rfl⟩) | ⟨_, _, rfl⟩ | ⟨_, rfl⟩ | ⟨_, rfl⟩ | rfl | hv
  all_goals first | rfl | cases hv)

theorem fo_end {wz : World} {F : Nat} (hth : wz.there F 0 698) (hfr : ∀ i, wz.frozen? ⟨F, i, none⟩ = false) (nr : Nat → Nat) (n : Nat) (mt : Nat → Int) (r : Nat → Nat → Bool) :
    (wz.setCells F 0 (foCells nr n mt r)).rangeAt F 0 (foCells nr n mt r) ∧ ∀ i, (wz.setCells F 0 (foCells nr n mt r)).frozen? ⟨F, i, none⟩ = false :=
  ⟨World.rangeAt_setCells_same wz F 0 _ (by rw [foCells_len]; exact hth), fun i => by rw [frozen_setCells]; exact hfr i⟩

theorem wp_alloc_fo (d : Option Tmp) (t : TypeId) (pos : String) (af : Array Edge) (a : Act) (w : World) (K : Act → World → Prop) (Q : Exit → Act → World → Prop)
    (hK : K (a.put d (.pointer (some ⟨w.heap.size, 0, none⟩))) (w.alloc (.cells (foCells (fun _ => 0) 0 (fun _ => 0) fun _ _ => false).toArray 113))) : Oper.wp Tryz.prog ⟨d, .alloc 113, t, pos, af, none⟩ a w K Q := by
  unfold Oper.wp execOp
  simp only [Sem.run_bind, Sem.run_pure, alloc_fo, Result.andThen_ok]
  exact hK

theorem bare_mine {w : World} {F : Nat} {nr : Nat → Nat} {n : Nat} {mt : Nat → Int} {r : Nat → Nat → Bool} (h : w.rangeAt F 0 (foCells nr n mt r)) (k : Nat) (hk : FMine w F k) : k = F := by
  rcases hk with rfl | ⟨v, hv, hk⟩
  · rfl
  · have := h 697 _ foCells_queue
    rw [Nat.zero_add] at this
    rw [this] at hv
    cases hv
    simp [Value.ownBlock] at hk

/-- Where plant stands: the roots below c are there. -/
structure PsAt (A F : Nat) (w wr : World) (g : Gr) (mate : Nat → Option Nat) (nr : Nat → Nat) (n : Nat) (mt : Nat → Int) (c : Nat) : Prop where
  fo : FAt wr F g mate (rootsTo mate c)
  pl : PlAt A w wr nr n mt
  mine : ∀ k, FMine wr F k → A + 2 ≤ k

theorem PsAt.fr {A F : Nat} {w wr w' : World} {g : Gr} {mate : Nat → Option Nat} {nr : Nat → Nat} {n : Nat} {mt : Nat → Int} {c c' : Nat} (h : PsAt A F w wr g mate nr n mt c) (hA : A = w.heap.size) (hf : FFr F wr w') (ho : FAt w' F g mate (rootsTo mate c')) : PsAt A F w w' g mate nr n mt c' := by
  have hl := h.pl.lt
  have hs := h.pl.below.size
  have no : ∀ k, k < A + 2 → ¬ FMine wr F k := fun k hk hm => by have := h.mine k hm; omega
  have b : ∀ k, k < A + 2 → w'.heap[k]? = wr.heap[k]? := fun k hk => hf.block k (by omega) (no k hk)
  refine ⟨ho, ⟨⟨hf.os.trans h.pl.below.os, hf.tape.trans h.pl.below.tape, hf.output.trans h.pl.below.output, Nat.le_trans h.pl.below.size hf.size, fun k hk => (b k (by omega)).trans (h.pl.below.block k hk)⟩, fun j v hj => (World.cell?_of_block (a := ⟨A, 0 + j, none⟩) (b A (by omega))).trans (h.pl.box j v hj),
    fun j hj => ⟨by rw [World.cell?_of_block (a := ⟨A + 1, 0 + j, none⟩) (b (A + 1) (by omega))]; exact (h.pl.res j hj).1, (World.frozen?_of_block (a := ⟨A + 1, 0 + j, none⟩) (b (A + 1) (by omega))).trans (h.pl.res j hj).2⟩, by have := hf.size; omega⟩, fun k hk => ?_⟩
  by_cases hw : k < wr.heap.size
  · exact h.mine k (hf.mine k hw hk)
  · omega

theorem PsAt.cell {A F : Nat} {w wr : World} {g : Gr} {mate : Nat → Option Nat} {nr : Nat → Nat} {n : Nat} {mt : Nat → Int} {c : Nat} (h : PsAt A F w wr g mate nr n mt c) {i : Nat} (hi : i < 24) : wr.cell? ⟨A, 25 + i, none⟩ = some (.int .i64 (mt i)) := by
  have := h.pl.box _ _ (matCells_mate nr n mt hi)
  rwa [Nat.zero_add] at this

theorem PsAt.cellN {A F : Nat} {w wr : World} {g : Gr} {mate : Nat → Option Nat} {nr : Nat → Nat} {n : Nat} {mt : Nat → Int} {c : Nat} (h : PsAt A F w wr g mate nr n mt c) : wr.cell? ⟨A, 24, none⟩ = some (.int .i64 (n : Int)) := by
  have := h.pl.box _ _ (matCells_n nr n mt)
  rwa [Nat.zero_add] at this

/-- What plant hands back: the cells of a forest of roots alone, wherever they are laid; its queue's row is new. -/
def PlIs (w : World) (g : Gr) (mate : Nat → Option Nat) (e : Ending) (w' : World) : Prop :=
  ∃ cs : List Value, e = .returned (.agg cs.toArray) ∧ cs.length = 698 ∧ cs.toArray.all (·.oneCell') = true ∧ Below w.heap.size w w' ∧
    ∀ wx F, wx.rangeAt F 0 cs → (∀ i, wx.frozen? ⟨F, i, none⟩ = false) → (F < w.heap.size ∨ w'.heap.size ≤ F) → (∀ k, w.heap.size ≤ k → k < w'.heap.size → wx.heap[k]? = w'.heap[k]?) →
      FAt wx F g mate (planted g mate) ∧ ∀ k, FMine wx F k → k = F ∨ (w.heap.size ≤ k ∧ k < w'.heap.size)

theorem PsAt.done {F : Nat} {w wr : World} {g : Gr} {mate : Nat → Option Nat} {nr : Nat → Nat} {mt : Nat → Int} (h : PsAt w.heap.size F w wr g mate nr g.n mt g.n) : PlIs w g mate (.returned (.agg (blockCells wr F 698).toArray)) (wr.setCells (w.heap.size + 1) 0 (blockCells wr F 698)) := by
  have hP := h.fo.planted
  have hs : (wr.setCells (w.heap.size + 1) 0 (blockCells wr F 698)).heap.size = wr.heap.size := size_cells _ _ _ _
  refine ⟨_, rfl, blockCells_len _ _ _, h.fo.cellsOne, below_cells (by omega) _ _ _ h.pl.below, fun wx F' hr hz hF' hk => ?_⟩
  have row : ∀ v k, wr.cell? ⟨F, 697, none⟩ = some v → v.ownBlock = some k → w.heap.size + 2 ≤ k ∧ k < wr.heap.size := fun v k hv hk => ⟨h.mine k (.inr ⟨v, hv, hk⟩), (h.fo.mine (.inr ⟨v, hv, hk⟩)).2⟩
  rw [hs] at hF'
  have hq : ∀ v k, wr.cell? ⟨F, 697, none⟩ = some v → v.ownBlock = some k → k ≠ F' ∧ wx.heap[k]? = wr.heap[k]? := fun v k hv hkb => by
    obtain ⟨r1, r2⟩ := row v k hv hkb
    refine ⟨by omega, ?_⟩
    rw [hk k (by omega) (by rw [hs]; exact r2)]
    exact heap_cells_ne (by omega) _ _ _
  refine ⟨hP.moved hr hz hq, fun k hm => ?_⟩
  rcases hm with rfl | ⟨v, hv, hkb⟩
  · exact .inl rfl
  · obtain ⟨u, hu, _⟩ := h.fo.cells 697 (by omega)
    have := hr 697 u (by rw [h.fo.cellsAt (by omega), hu])
    rw [Nat.zero_add] at this
    rw [this] at hv
    cases hv
    obtain ⟨r1, r2⟩ := row _ k hu hkb
    exact .inr ⟨by omega, by rw [hs]; exact r2⟩

set_option maxRecDepth 100000 in
set_option maxHeartbeats 1000000 in
theorem plant_any (w : World) {nr : Nat → Nat} {n : Nat} {mt : Nat → Int} {g : Gr} {mate : Nat → Option Nat} (hb : ∀ k, k < 24 → nr k < 4294967296 ∧ ∀ j, j < 24 → (nr k).testBit j = g.adj k j) (hn : n = g.n) (hm : ∀ k, k < 24 → mt k = mi (mate k)) (hn24 : g.n ≤ 24) :
    Calls Tryz.prog 35 #[.agg (matCells nr n mt).toArray] w fun e w' => PlIs w g mate e w' := by
  subst hn
  have HM : Hid (∀ k, k < 24 → mt k = mi (mate k)) := hm
  have HPL : Hid (PlAt w.heap.size w ((w.alloc (.cells (matCells nr g.n mt).toArray 107)).alloc (.cells (foCells (fun _ => 0) 0 (fun _ => 0) fun _ _ => false).toArray 113)).drew nr g.n mt) := by
    have h1 : (w.alloc (.cells (matCells nr g.n mt).toArray 107)).heap.size = w.heap.size + 1 := by simp
    refine ⟨(((Below.refl _ w).alloc (Nat.le_refl _) _).alloc (by omega) _).drew, (World.rangeAt_drew _ _ _ _).2 (World.rangeAt_alloc (mat_range w nr g.n mt _) _), (World.there_drew _ _ _ _).2 ?_, by show _ < (World.alloc _ _).heap.size; simp⟩
    rw [← h1]
    exact fo_there _ _ _ _ _ _
  have HFA : Hid (∀ wx F, wx.rangeAt F 0 (foCells nr g.n mt fun v x => v == x) → (∀ i, wx.frozen? ⟨F, i, none⟩ = false) → FAt wx F g mate (bareFo fun v x => v == x) ∧ ∀ k, FMine wx F k → k = F) := fun wx F h1 h2 => ⟨FAt.bare h1 h2 hb rfl hm, bare_mine h1⟩
  clear hb hm
  go_enter Tryz.func35, Tryz.ntmps35
  go_upto_region 1 with (refine wpList_alloc rfl 113 rfl _ _ (alloc_fo _) ?_; simp only [Act.put, List.setIfInBounds_toArray, List.set_cons_zero, List.set_cons_succ])
  have e1 : (w.alloc (.cells (matCells nr g.n mt).toArray 107)).heap.size = w.heap.size + 1 := by simp
  rw [e1]
  clear e1
  go_cut [3] from 5 to 7 (fun v3 wc => ∃ F, v3 = .pointer (some ⟨F, 0, none⟩) ∧ w.heap.size + 2 ≤ F ∧ (FAt wc F g mate (bareFo fun v x => v == x) ∧ ∀ k, FMine wc F k → k = F) ∧ PlAt w.heap.size w wc nr g.n mt)
  case first =>
    refine wp_region_held_drew (S := fun w' => PlAt w.heap.size w w' nr g.n mt) (by kernel_rfl) ?_ (fun hHeld => ?_)
    · exact HPL.out
    generalize World.drew _ = wd at hHeld ⊢
    clear HPL
    refine wpAnyH_take (i := 0) (oi := ⟨some 5, .load _ (.tmp 1), _, _, _, none⟩) (v := (.agg (matCells nr g.n mt).toArray)) rfl (by kernel_rfl) (by kernel_rfl) (by kernel_rfl) (fun _ _ _ h => h) (yieldsIf_load_mid (by rfl) 107 (.tmp 1) rfl w.heap.size 0 (by simp [Act.eval]) (matCells nr g.n mt) _ (fun w h => h.box) Tryz.underlying107 rfl (by rw [Tryz.sizeMatching, matCells_len])) (by assumption) ?_
    try simp only [Act.put, List.setIfInBounds_toArray, List.set_cons_zero, List.set_cons_succ]
    refine wpAnyH_ready (rs := [1, 3]) (by kernel_rfl) (by simp) ?_
    refine AllReadyH.cons (o := ⟨some 6, .call ⟨.value (.func 62), #[], _⟩, _, _, _, none⟩) rfl (fun K hK => ?_) (AllReadyH.cons (o := ⟨some 3, .alloc _, _, _, _, none⟩) rfl (fun K hK => ?_) AllReadyH.nil)
    · skip
      rw [if_pos (by rfl)]
      go_simp
      refine (single_any _).mono ?_
      rintro e w3 ⟨rfl, w3b⟩
      have w3P := hHeld.on rfl w3b
      refine hK.out _ _ w3P (fun _ => ?_)
      clear hK K
      try simp only [Act.put, List.setIfInBounds_toArray, List.set_cons_zero, List.set_cons_succ]
      refine wpAnyH_take (i := 2) (oi := ⟨some 7, .build _ #[(0, .tmp 5), (1, .tmp 6)], _, _, _, none⟩) (v := (.agg (foCells nr g.n mt fun v x => v == x).toArray)) rfl (by kernel_rfl) (by kernel_rfl) (by kernel_rfl) (fun _ _ _ h => h) (Or.inl ⟨by rfl, fun w0 hS => by unfold execOp; simp [Act.eval, build_fo]⟩) (by assumption) ?_
      try simp only [Act.put, List.setIfInBounds_toArray, List.set_cons_zero, List.set_cons_succ]
      refine wpAnyH_ready (rs := [3]) (by kernel_rfl) (by simp) ?_
      refine AllReadyH.cons (o := ⟨some 3, .alloc _, _, _, _, none⟩) rfl (fun K hK => ?_) AllReadyH.nil
      rw [if_pos (by rfl)]
      refine wp_alloc_fo _ _ _ _ _ _ _ _ ?_
      have hPZ := w3P.on rfl ((Below.refl _ w3).alloc (Nat.le_refl _) (.cells (foCells (fun _ => 0) 0 (fun _ => 0) fun _ _ => false).toArray 113))
      have hTH := fo_there w3 (fun _ => 0) 0 (fun _ => 0) (fun _ _ => false) 113
      have hFZ : ∀ i, (w3.alloc (.cells (foCells (fun _ => 0) 0 (fun _ => 0) fun _ _ => false).toArray 113)).frozen? ⟨w3.heap.size, i, none⟩ = false := fun i => by simp
      have hF2 : w.heap.size + 2 ≤ w3.heap.size := by have := w3P.lt; omega
      refine hK.out _ _ hPZ (fun _ => ?_)
      clear hK K
      try simp only [Act.put, List.setIfInBounds_toArray, List.set_cons_zero, List.set_cons_succ]
      refine wpAnyH_ready (rs := [4]) (by kernel_rfl) (by simp) ?_
      refine AllReadyH.cons (o := ⟨none, .store _ (.tmp 3) (.tmp 7), _, _, _, none⟩) rfl (fun K hK => ?_) AllReadyH.nil
      rw [if_pos (by rfl)]
      refine wp_store_mid 113 (.tmp 3) (.tmp 7) rfl w3.heap.size 0 (foCells nr g.n mt fun v x => v == x).toArray (by simp [Act.eval]) (by simp [Act.eval]) (by rw [fo_size]; exact hTH) (by rw [fo_size]; exact Tryz.sizeForest) (foCells_one _ _ _ _) ?_
      try simp only [Act.put]
      have hE := fo_end hTH hFZ nr g.n mt fun v x => v == x
      have hP := hPZ.set (F := w3.heap.size) hF2 (foCells nr g.n mt fun v x => v == x)
      refine hK.out _ _ hP (fun _ => ?_)
      clear hK K
      refine wpAnyH_done (by kernel_rfl) ?_ _
      have HREL : Hid _ := HFA.out _ _ hE.1 hE.2
      go_wp2_with fail
      go_meet
      exact ⟨_, rfl, hF2, HREL.out, hP⟩
    · skip
      rw [if_pos (by rfl)]
      refine wp_alloc_fo _ _ _ _ _ _ _ _ ?_
      have w3b : Below wd.heap.size wd (wd.alloc (.cells (foCells (fun _ => 0) 0 (fun _ => 0) fun _ _ => false).toArray 113)) := (Below.refl _ _).alloc (Nat.le_refl _) _
      have haP := hHeld.on rfl w3b
      have hTa := fo_there wd (fun _ => 0) 0 (fun _ => 0) (fun _ _ => false) 113
      have hFa : ∀ i, (wd.alloc (.cells (foCells (fun _ => 0) 0 (fun _ => 0) fun _ _ => false).toArray 113)).frozen? ⟨wd.heap.size, i, none⟩ = false := fun i => by simp
      have hFl : wd.heap.size < (wd.alloc (.cells (foCells (fun _ => 0) 0 (fun _ => 0) fun _ _ => false).toArray 113)).heap.size := by simp
      have hF2 : w.heap.size + 2 ≤ wd.heap.size := by have := hHeld.lt; omega
      refine hK.out _ _ haP (fun _ => ?_)
      clear hK K
      generalize wd.alloc (.cells (foCells (fun _ => 0) 0 (fun _ => 0) fun _ _ => false).toArray 113) = wa at *
      try simp only [Act.put, List.setIfInBounds_toArray, List.set_cons_zero, List.set_cons_succ]
      refine wpAnyH_ready (rs := [1]) (by kernel_rfl) (by simp) ?_
      refine AllReadyH.cons (o := ⟨some 6, .call ⟨.value (.func 62), #[], _⟩, _, _, _, none⟩) rfl (fun K hK => ?_) AllReadyH.nil
      rw [if_pos (by rfl)]
      go_simp
      refine (single_any _).mono ?_
      rintro e w4 ⟨rfl, hb4⟩
      have hPZ := haP.on rfl hb4
      have hTH : w4.there wd.heap.size 0 698 := fun j hj => ⟨by rw [hb4.cell (p := ⟨wd.heap.size, 0 + j, none⟩) hFl]; exact (hTa j hj).1, (hb4.frozen (p := ⟨wd.heap.size, 0 + j, none⟩) hFl).trans (hTa j hj).2⟩
      have hFZ : ∀ i, w4.frozen? ⟨wd.heap.size, i, none⟩ = false := fun i => (hb4.frozen (p := ⟨wd.heap.size, i, none⟩) hFl).trans (hFa i)
      refine hK.out _ _ hPZ (fun _ => ?_)
      clear hK K
      try simp only [Act.put, List.setIfInBounds_toArray, List.set_cons_zero, List.set_cons_succ]
      refine wpAnyH_take (i := 2) (oi := ⟨some 7, .build _ #[(0, .tmp 5), (1, .tmp 6)], _, _, _, none⟩) (v := (.agg (foCells nr g.n mt fun v x => v == x).toArray)) rfl (by kernel_rfl) (by kernel_rfl) (by kernel_rfl) (fun _ _ _ h => h) (Or.inl ⟨by rfl, fun w0 hS => by unfold execOp; simp [Act.eval, build_fo]⟩) (by assumption) ?_
      try simp only [Act.put, List.setIfInBounds_toArray, List.set_cons_zero, List.set_cons_succ]
      refine wpAnyH_ready (rs := [4]) (by kernel_rfl) (by simp) ?_
      refine AllReadyH.cons (o := ⟨none, .store _ (.tmp 3) (.tmp 7), _, _, _, none⟩) rfl (fun K hK => ?_) AllReadyH.nil
      rw [if_pos (by rfl)]
      refine wp_store_mid 113 (.tmp 3) (.tmp 7) rfl wd.heap.size 0 (foCells nr g.n mt fun v x => v == x).toArray (by simp [Act.eval]) (by simp [Act.eval]) (by rw [fo_size]; exact hTH) (by rw [fo_size]; exact Tryz.sizeForest) (foCells_one _ _ _ _) ?_
      try simp only [Act.put]
      have hE := fo_end hTH hFZ nr g.n mt fun v x => v == x
      have hP := hPZ.set (F := wd.heap.size) hF2 (foCells nr g.n mt fun v x => v == x)
      refine hK.out _ _ hP (fun _ => ?_)
      clear hK K
      refine wpAnyH_done (by kernel_rfl) ?_ _
      have HREL : Hid _ := HFA.out _ _ hE.1 hE.2
      go_wp2_with fail
      go_meet
      exact ⟨_, rfl, hF2, HREL.out, hP⟩
  case rest =>
    clear HPL HFA
    obtain ⟨F, rfl, hF2, ⟨hFA0, hFM0⟩, hPA0⟩ := hcut
    have HST : Hid (PsAt w.heap.size F w wc g mate nr g.n mt 0) := ⟨by rw [rootsTo_zero]; exact hFA0, hPA0, fun k hk => by rw [hFM0 k hk]; exact hF2⟩
    have c24 := HST.out.cellN
    clear hFA0 hFM0 hPA0
    go_wp2_with fail
    go_loopg [10] 26 (fun k v10 wr => ∃ c : Nat, c ≤ g.n ∧ 25 - c ≤ k ∧ v10 = .int .i64 c ∧ PsAt w.heap.size F w wr g mate nr g.n mt c)
    case atStart => exact ⟨0, by omega, by omega, rfl, HST.out⟩
    case round =>
      clear HST c24
      obtain ⟨c, hc, hk, rfl, hat⟩ := hrel
      have HAT : Hid (PsAt w.heap.size F w wr g mate nr g.n mt c) := hat
      by_cases hcn : c < g.n
      · have hcn' : (c : Int) < (g.n : Int) := by omega
        have c24 : (c : Int) < 24 := by omega
        have cm := hat.cell (show c < 24 by omega)
        rw [HM.out c (by omega)] at cm
        cases hm : mate c with
        | none =>
          rw [hm] at cm
          simp only [mi] at cm
          have RC := reach_any hat.fo (show c < 24 by omega) (by have := rootsTo_len mate c; omega)
          rw [rootsTo_yes hm] at RC
          clear hat
          go_wp2_with fail
          refine RC.mono ?_
          rintro e w2 ⟨rfl, hF, hf⟩
          have HN : Hid (PsAt w.heap.size F w w2 g mate nr g.n mt (c + 1)) := HAT.out.fr rfl hf hF
          clear hF hf RC
          go_wp2_with fail
          go_roundg (25 - (c + 1))
          case measure => omega
          case rel => exact ⟨c + 1, by omega, Nat.le_refl _, by go_num, HN.out⟩
        | some m =>
          rw [hm] at cm
          simp only [mi] at cm
          have hne : ¬ ((m : Int) = -1) := by omega
          have HN : Hid (PsAt w.heap.size F w wr g mate nr g.n mt (c + 1)) := HAT.out.fr rfl (FFr.refl _ _) (by rw [rootsTo_no (by rw [hm]; rfl)]; exact HAT.out.fo)
          clear hat
          go_wp2_with fail
          go_roundg (25 - (c + 1))
          case measure => omega
          case rel => exact ⟨c + 1, by omega, Nat.le_refl _, by go_num, HN.out⟩
      · have hcn' : ¬ (c : Int) < (g.n : Int) := by omega
        have ec : c = g.n := by omega
        subst ec
        have HE : Hid _ := hat.done
        have HRG : Hid (wr.rangeAt F 0 (blockCells wr F 698)) := hat.fo.range
        have HTH : Hid (wr.there (w.heap.size + 1) 0 698) := hat.pl.res
        have HON : Hid ((blockCells wr F 698).toArray.all (·.oneCell') = true) := hat.fo.cellsOne
        have hsz : (blockCells wr F 698).toArray.size = 698 := by simp [blockCells_len]
        have HSZ : Hid ((blockCells wr F 698).toArray.size = 698) := hsz
        have HLD := run_loadVar_mid (P := Tryz.prog) _ (w.heap.size + 1) 0 113 (blockCells wr F 698) _ (World.rangeAt_setCells_same wr (w.heap.size + 1) 0 (blockCells wr F 698) (by rw [blockCells_len]; exact hat.pl.res)) Tryz.underlying113 rfl (by rw [blockCells_len]; exact Tryz.sizeForest)
        have HLD' : Hid _ := HLD
        clear hat hsz HLD
        go_wp2_with (first | (refine wpList_load_mid rfl 113 (.tmp 3) rfl F 0 (by simp [Act.eval]) (blockCells wr F 698) _ HRG.out Tryz.underlying113 rfl (by rw [Tryz.sizeForest, blockCells_len]) ?_; simp only [Act.put, List.setIfInBounds_toArray, List.set_cons_zero, List.set_cons_succ]) | (refine wpList_store_mid rfl 113 (.tmp 2) (.tmp 21) rfl (w.heap.size + 1) 0 (blockCells wr F 698).toArray (by simp [Act.eval]) (by rfl) (by rw [HSZ.out]; exact HTH.out) (by rw [HSZ.out]; exact Tryz.sizeForest) HON.out ?_; simp only [Act.put]))
        refine bodyPost_ret (v := .agg (blockCells wr F 698).toArray) ?_ rfl HE.out
        have HLD := HLD'.out
        simp [results, Tryz.results35, asAddr, HLD]
end Go.Proofs.YtcabaecbmkgclaaGreatDoor.Mg

namespace Go.Proofs.YtcabaecbmkgclaaGreatDoor.Mg
open Go.RowKit Mt

section
variable {w w' wr : World} {M : Nat} {g : Gr} {mate : Nat → Option Nat}

theorem MAt.mat (h : MAt w M g mate) : ∃ nr : Nat → Nat, (∀ k, k < 24 → nr k < 4294967296 ∧ ∀ j, j < 24 → (nr k).testBit j = g.adj k j) ∧ w.rangeAt M 0 (matCells nr g.n fun k => mi (mate k)) := by
  have hx : ∀ k, ∃ m : Nat, k < 24 → w.cell? ⟨M, k, none⟩ = some (.int .u32 m) ∧ m < 4294967296 ∧ ∀ j, j < 24 → m.testBit j = g.adj k j := fun k => by
    by_cases hk : k < 24
    · obtain ⟨m, hm⟩ := h.near k hk
      exact ⟨m, fun _ => hm⟩
    · exact ⟨0, fun k' => absurd k' hk⟩
  refine ⟨fun k => Classical.choose (hx k), fun k hk => (Classical.choose_spec (hx k) hk).2, fun j v hj => ?_⟩
  have hl : j < 49 := by
    have := (List.getElem?_eq_some_iff.1 hj).1
    rwa [matCells_len] at this
  rw [Nat.zero_add]
  rcases Nat.lt_trichotomy j 24 with k | k | k
  · rw [matCells_near _ _ _ k] at hj
    cases hj
    exact (Classical.choose_spec (hx j) k).1
  · subst k
    rw [matCells_n] at hj
    cases hj
    exact h.n
  · obtain ⟨q, rfl⟩ : ∃ q, j = 25 + q := ⟨j - 25, by omega⟩
    rw [matCells_mate _ _ _ (by omega)] at hj
    cases hj
    exact h.mate q (by omega)

theorem MAt.of {nr : Nat → Nat} {n : Nat} {mt : Nat → Int} (hr : w.rangeAt M 0 (matCells nr n mt)) (hz : ∀ i, w.frozen? ⟨M, i, none⟩ = false) (hb : ∀ k, k < 24 → nr k < 4294967296 ∧ ∀ j, j < 24 → (nr k).testBit j = g.adj k j) (hn : n = g.n) (hm : ∀ k, k < 24 → mt k = mi (mate k)) : MAt w M g mate := by
  have c : ∀ j u, (matCells nr n mt)[j]? = some u → w.cell? ⟨M, j, none⟩ = some u := fun j u hu => by
    have := hr j u hu
    rwa [Nat.zero_add] at this
  exact ⟨fun k hk => ⟨nr k, c k _ (matCells_near _ _ _ hk), hb k hk⟩, by rw [← hn]; exact c 24 _ (matCells_n _ _ _), fun k hk => by rw [← hm k hk]; exact c _ _ (matCells_mate _ _ _ hk), hz⟩

theorem FFr.toBelow {A F : Nat} (hf : FFr F w w') (hm : ∀ k, FMine w F k → A ≤ k) (hA : A ≤ w.heap.size) : Below A w w' :=
  ⟨hf.os, hf.tape, hf.output, hf.size, fun k hk => hf.block k (by omega) (fun h => by have := hm k h; omega)⟩

theorem MFr.toBelow {A : Nat} (hf : MFr M w w') (hm : A ≤ M) (hA : A ≤ w.heap.size) : Below A w w' :=
  ⟨hf.os, hf.tape, hf.output, hf.size, fun k hk => hf.block k (by omega) (by omega)⟩

/-- What Greatest hands back. -/
def GmIs (w : World) (g : Gr) (e : Ending) (w' : World) : Prop :=
  ∃ mate f h, Best g mate f h ∧ ∃ pv uv, e = .returned (.tuple #[pv, uv]) ∧ Prs w' w.heap.size pv (pairsF g.n mate) ∧ Ints w' w.heap.size uv (barF g.n f) ∧ Below w.heap.size w w'

/-- Where Greatest stands: a matching in block M. -/
structure GsAt (w : World) (M : Nat) (g : Gr) (mate : Nat → Option Nat) (wr : World) : Prop where
  at_ : MAt wr M g mate
  ok : MtOk g mate
  below : Below w.heap.size w wr
  le : w.heap.size ≤ M

theorem GsAt.start {nr : Nat → Nat} (hb : Below w.heap.size w wr) (hbit : ∀ k, k < 24 → nr k < 4294967296 ∧ ∀ j, j < 24 → (nr k).testBit j = g.adj k j) (t : TypeId) :
    GsAt w wr.heap.size g (fun _ => none) ((wr.alloc (.cells (matCells (fun _ => 0) 0 fun _ => 0).toArray t)).setCells wr.heap.size 0 (matCells nr g.n fun _ => -1)) := by
  refine ⟨MAt.of (World.rangeAt_setCells_same _ _ _ _ (by rw [matCells_len]; exact mat_there _ _ _ _ _)) (fun i => by rw [frozen_setCells]; simp) hbit rfl (fun _ _ => rfl), ⟨fun _ _ h => (by cases h), fun _ _ h => (by cases h)⟩, below_cells hb.size _ _ _ (hb.alloc hb.size _), hb.size⟩

/-- A forest of roots laid in a new block. -/
theorem PlIs.laid {w1 : World} {cs : List Value} (hl : cs.length = 698) (t : TypeId)
    (h : ∀ wx F, wx.rangeAt F 0 cs → (∀ i, wx.frozen? ⟨F, i, none⟩ = false) → (F < w.heap.size ∨ w1.heap.size ≤ F) → (∀ k, w.heap.size ≤ k → k < w1.heap.size → wx.heap[k]? = w1.heap[k]?) →
      FAt wx F g mate (planted g mate) ∧ ∀ k, FMine wx F k → k = F ∨ (w.heap.size ≤ k ∧ k < w1.heap.size)) :
    FAt ((w1.alloc (.cells (foCells (fun _ => 0) 0 (fun _ => 0) fun _ _ => false).toArray t)).setCells w1.heap.size 0 cs) w1.heap.size g mate (planted g mate) ∧
      ∀ k, FMine ((w1.alloc (.cells (foCells (fun _ => 0) 0 (fun _ => 0) fun _ _ => false).toArray t)).setCells w1.heap.size 0 cs) w1.heap.size k → k = w1.heap.size ∨ (w.heap.size ≤ k ∧ k < w1.heap.size) :=
  h _ _ (World.rangeAt_setCells_same _ _ _ _ (by rw [hl]; exact fo_there _ _ _ _ _ _)) (fun i => by rw [frozen_setCells]; simp) (.inr (Nat.le_refl _)) (fun k h1 h2 => by rw [heap_cells_ne (by omega), heap_alloc_lt _ _ _ h2])

theorem Aug.small (G : GrOk g) {p : List Nat} (A : Aug g mate p) : p.length ≤ 48 ∧ ∀ x ∈ p, x < 24 := by
  have hx : ∀ x ∈ p, x < g.n := A.lt
  have hn := G.n24
  have := len_inj p (fun x => x) (List.range g.n) A.nodup (fun x hx' => List.mem_range.2 (hx x hx')) (fun x _ y _ e => e)
  simp at this
  exact ⟨by omega, fun x h => by have := hx x h; omega⟩

set_option maxRecDepth 100000 in
set_option maxHeartbeats 1000000 in
theorem greatest_any (w : World) {nr : Nat → Nat} {g : Gr} (hb : ∀ k, k < 24 → nr k < 4294967296 ∧ ∀ j, j < 24 → (nr k).testBit j = g.adj k j) (G : GrOk g) :
    Calls Tryz.prog 24 #[.agg (nearCells nr).toArray, .int .i64 (g.n : Int)] w fun e w' => GmIs w g e w' := by
  have HG : Hid (GrOk g) := G
  have HBT : Hid (∀ k, k < 24 → nr k < 4294967296 ∧ ∀ j, j < 24 → (nr k).testBit j = g.adj k j) := hb
  have HGR : Hid ((w.alloc (.cells (nearCells nr).toArray 65)).rangeAt w.heap.size 0 (nearCells nr)) := graph_range w nr _
  have HB0 : Hid (Below w.heap.size w (w.alloc (.cells (nearCells nr).toArray 65))) := (Below.refl _ w).alloc (Nat.le_refl _) _
  have HEM := empty_any (w.alloc (.cells (nearCells nr).toArray 65)) nr g.n
  clear hb G
  go_enter Tryz.func24, Tryz.ntmps24
  go_wp2_with (refine wpList_load_mid rfl 65 (.tmp 2) rfl w.heap.size 0 (by simp [Act.eval]) (nearCells nr) _ HGR.out Tryz.underlying65 rfl (by rw [Tryz.sizeGraph, nearCells_len]) ?_; simp only [Act.put, List.setIfInBounds_toArray, List.set_cons_zero, List.set_cons_succ])
  refine HEM.mono ?_
  rintro e w1 ⟨rfl, hb1⟩
  clear HEM HGR
  have HST : Hid (GsAt w w1.heap.size g (fun _ => none) ((w1.alloc (.cells (matCells (fun _ => 0) 0 fun _ => 0).toArray 107)).setCells w1.heap.size 0 (matCells nr g.n fun _ => -1))) := GsAt.start (HB0.out.trans (hb1.mono (by simp))) HBT.out _
  have HTH : Hid ((w1.alloc (.cells (matCells (fun _ => 0) 0 fun _ => 0).toArray 107)).there w1.heap.size 0 49) := mat_there _ _ _ _ _
  clear hb1
  go_upto_region 2 with (first | (refine wpList_alloc rfl 107 rfl _ _ (alloc_mat _) ?_; simp only [Act.put, List.setIfInBounds_toArray, List.set_cons_zero, List.set_cons_succ]) | (refine wpList_store_mid rfl 107 (.tmp 6) (.tmp 12) rfl w1.heap.size 0 (matCells nr g.n fun _ => -1).toArray (by simp [Act.eval]) (by rfl) (by rw [mat_size]; exact HTH.out) (by rw [mat_size]; exact Tryz.sizeMatching) (matCells_one _ _ _) ?_; simp only [Act.put]))
  generalize World.setCells _ _ _ _ = wm at HST ⊢
  generalize w1.heap.size = M at HST ⊢
  clear HTH HB0 HBT
  go_wp2_with fail
  go_loopg [9] 26 (fun k v9 wr => ∃ mate, cnt g.n (fun x => (mate x).isNone) ≤ k ∧ v9 = v9 ∧ GsAt w M g mate wr)
  case atStart => exact ⟨_, Nat.le_trans cnt_le (Nat.le_trans HG.out.n24 (by omega)), rfl, HST.out⟩
  case round =>
    clear HST
    obtain ⟨mate, hcn, _, hat⟩ := hrel
    have HAT : Hid (GsAt w M g mate wr) := hat
    have HCN : Hid (cnt g.n (fun x => (mate x).isNone) ≤ gk) := hcn
    obtain ⟨nr', hb', hrg⟩ := hat.at_.mat
    have HRG : Hid (wr.rangeAt M 0 (matCells nr' g.n fun k => mi (mate k))) := hrg
    have PL := plant_any wr hb' rfl (fun _ _ => rfl) HG.out.n24 (mt := fun k => mi (mate k)) (mate := mate)
    clear hat hcn hb' hrg
    go_wp2_with (refine wpList_load_mid rfl 107 (.tmp 6) rfl M 0 (by simp [Act.eval]) (matCells nr' g.n fun k => mi (mate k)) _ HRG.out Tryz.underlying107 rfl (by rw [Tryz.sizeMatching, matCells_len]) ?_; simp only [Act.put, List.setIfInBounds_toArray, List.set_cons_zero, List.set_cons_succ])
    refine PL.mono ?_
    rintro e w1 ⟨cs, rfl, hcl, hone, hb1, hlaw⟩
    have hLA := PlIs.laid hcl 113 hlaw
    have HSZ : Hid (cs.toArray.size = 698) := by unfold Hid; simpa using hcl
    have HTH : Hid ((w1.alloc (.cells (foCells (fun _ => 0) 0 (fun _ => 0) fun _ _ => false).toArray 113)).there w1.heap.size 0 698) := fo_there _ _ _ _ _ _
    have HON : Hid (cs.toArray.all (·.oneCell') = true) := hone
    have HB1 : Hid (Below wr.heap.size wr ((w1.alloc (.cells (foCells (fun _ => 0) 0 (fun _ => 0) fun _ _ => false).toArray 113)).setCells w1.heap.size 0 cs)) := below_cells hb1.size _ _ _ (hb1.alloc hb1.size _)
    have HSB : Hid (wr.heap.size ≤ w1.heap.size) := hb1.size
    have HLA : Hid _ := hLA
    clear PL HRG hcl hone hb1 hlaw hLA
    go_upto_region 3 with (first | (refine wpList_alloc rfl 113 rfl _ _ (alloc_fo _) ?_; simp only [Act.put, List.setIfInBounds_toArray, List.set_cons_zero, List.set_cons_succ]) | (refine wpList_store_mid rfl 113 (.tmp 7) (.tmp 14) rfl w1.heap.size 0 cs.toArray (by simp [Act.eval]) (by rfl) (by rw [HSZ.out]; exact HTH.out) (by rw [HSZ.out]; exact Tryz.sizeForest) HON.out ?_; simp only [Act.put]))
    clear HTH
    generalize World.setCells _ _ _ _ = w2 at HLA HB1 ⊢
    generalize w1.heap.size = F at *
    have GW := grow_any HLA.out.1 HG.out HAT.out.ok (plant_inv HG.out)
    go_wp2_with fail
    refine GW.mono ?_
    rintro e w3 ⟨hf, hcase⟩
    have hMl := HAT.out.at_.lt
    have hnm : ∀ k, k < wr.heap.size → ¬ FMine w2 F k := fun k hk hm => by
      have h1 := HSB.out
      rcases HLA.out.2 k hm with h | h <;> omega
    have HM3 : Hid (MAt w3 M g mate) := HAT.out.at_.same ((hf.block M (Nat.lt_of_lt_of_le hMl HB1.out.size) (hnm M hMl)).trans (HB1.out.block M hMl))
    have hws := HAT.out.below.size
    have HB3 : Hid (Below w.heap.size w w3) := (HAT.out.below.trans (HB1.out.mono hws)).trans (hf.toBelow (fun k hk => Nat.le_of_not_lt fun hl => hnm k (by omega) hk) (Nat.le_trans hws HB1.out.size))
    have HM2 : Hid (M < w2.heap.size ∧ w2.heap.size ≤ w3.heap.size) := ⟨Nat.lt_of_lt_of_le hMl HB1.out.size, hf.size⟩
    clear GW hf hnm
    rcases hcase with ⟨rfl, f', h', hF, hI, hS⟩ | ⟨p, hp, rv, rfl, hrv⟩
    · have PR := pairs_any HM3.out HG.out.n24
      have HF : Hid (FAt w3 F g mate f') := hF
      have HBE : Hid (Best g mate f' h') := ⟨HAT.out.ok, hI, hS⟩
      clear hF hI hS
      go_wp2_with fail
      refine PR.mono ?_
      rintro e w4 ⟨pv, rfl, hP, hb4⟩
      have BA := barrier_any (HF.out.below hb4) HG.out.n24
      have HP : Hid (Prs w4 w3.heap.size pv (pairsF g.n mate)) := hP
      have HB4 : Hid (Below w3.heap.size w3 w4) := hb4
      clear PR hP hb4
      go_wp2_with fail
      refine BA.mono ?_
      rintro e w5 ⟨uv, rfl, hU, hb5⟩
      have h3 := HB3.out.size
      have h4 := HB4.out.size
      have HE : Hid (GmIs w g (.returned (.tuple #[pv, uv])) w5) := ⟨mate, f', h', HBE.out, pv, uv, rfl, ownsRow_mono (ownsRow_same HP.out fun k hk => hb5.block k (HP.out.lt k hk).2) (by omega), ownsRow_mono hU (by omega), (HB3.out.trans (HB4.out.mono h3)).trans (hb5.mono (by omega))⟩
      clear BA hU hb5
      go_wp2_with fail
      refine bodyPost_ret (v := .tuple #[pv, uv]) ?_ rfl HE.out
      simp [results, Tryz.results24]
    · have FL := flip_any HM3.out hrv (fun e => by
        have h1 := (hrv.lt _ e).1
        have h2 := HM2.out
        omega) (Aug.small HG.out hp).1 (Aug.small HG.out hp).2 hp.nodup
      have HLS : Hid _ := aug_less HG.out HAT.out.ok hp
      clear hrv hp
      go_wp2_with fail
      refine FL.mono ?_
      rintro e w4 ⟨rfl, hA4, hf4⟩
      have HN : Hid (GsAt w M g (Mt.flip mate p) w4) := ⟨hA4, HLS.out.1, HB3.out.trans (hf4.toBelow HAT.out.le HB3.out.size), HAT.out.le⟩
      clear FL hA4 hf4
      go_wp2_with fail
      go_roundg (cnt g.n (fun x => (Mt.flip mate p x).isNone))
      case measure => exact Nat.lt_of_lt_of_le HLS.out.2 HCN.out
      case rel => exact ⟨_, Nat.le_refl _, trivial, HN.out⟩
end
end Go.Proofs.YtcabaecbmkgclaaGreatDoor.Mg

namespace Go.Proofs.YtcabaecbmkgclaaGreatDoor.Mt

structure Nm (n : Nat) (l : List (Nat × Nat)) (out : Nat → Bool) (name : Nat → Nat) : Prop where
  le : ∀ k, k < n → name k ≤ k
  free : ∀ k, k < n → out k = false → out (name k) = false
  hang : ∀ k, k < n → out k = false → ∀ P : Nat → Prop, (∀ x y, P x → adjL l x y = true → out y = false → P y) → (P k ↔ P (name k))

theorem Nm.start (n : Nat) (l : List (Nat × Nat)) (out : Nat → Bool) : Nm n l out fun k => k := ⟨fun _ _ => Nat.le_refl _, fun _ _ h => h, fun _ _ _ _ _ => Iff.rfl⟩

def named (name : Nat → Nat) (a b : Nat) : Nat → Nat := setAt (setAt name a (min (name a) (name b))) b (min (name a) (name b))

theorem Nm.step {n : Nat} {l : List (Nat × Nat)} {out : Nat → Bool} {name : Nat → Nat} (h : Nm n l out name) {a b : Nat} (hab : (a, b) ∈ l) (ha : a < n) (hb : b < n) (oa : out a = false) (ob : out b = false) (hne : name a ≠ name b) : Nm n l out (named name a b) := by
  have one : ∀ k, k < n → out k = false → (named name a b k = name k ∨ ((k = a ∨ k = b) ∧ (named name a b k = name a ∨ named name a b k = name b) ∧ named name a b k ≤ name k)) := by
    intro k hk ok
    unfold named
    simp only [setAt]
    by_cases e : k = b
    · subst e
      rw [if_pos rfl]
      refine .inr ⟨.inr rfl, ?_, Nat.min_le_right _ _⟩
      omega
    · rw [if_neg e]
      by_cases e1 : k = a
      · subst e1
        rw [if_pos rfl]
        refine .inr ⟨.inl rfl, ?_, Nat.min_le_left _ _⟩
        omega
      · rw [if_neg e1]
        exact .inl rfl
  refine ⟨?_, ?_, ?_⟩
  · intro k hk
    have hl := h.le
    unfold named
    simp only [setAt]
    have h1 := hl a ha
    have h2 := hl b hb
    have h3 := hl k hk
    split
    · subst_vars; omega
    · split
      · subst_vars; omega
      · exact h3
  · intro k hk ok
    rcases one k hk ok with e | ⟨_, e | e, _⟩
    · rw [e]; exact h.free k hk ok
    · rw [e]; exact h.free a ha oa
    · rw [e]; exact h.free b hb ob
  · intro k hk ok P hP
    have pab : P a ↔ P b := ⟨fun k => hP a b k (adjL_iff.2 (.inl hab)) ob, fun k => hP b a k (adjL_iff.2 (.inr hab)) oa⟩
    have pa := h.hang a ha oa P hP
    have pb := h.hang b hb ob P hP
    rcases one k hk ok with e | ⟨hk', e, _⟩
    · rw [e]; exact h.hang k hk ok P hP
    · have e' : P (named name a b k) ↔ P a := by
        rcases e with e | e
        · rw [e]; exact pa.symm
        · rw [e]; exact pb.symm.trans pab.symm
      rcases hk' with rfl | rfl
      · exact e'.symm
      · exact pab.symm.trans e'.symm

theorem total_set {n : Nat} (f : Nat → Nat) {k : Nat} (hk : k < n) (v : Nat) : total n (setAt f k v) + f k = total n f + v := by
  induction n with
  | zero => omega
  | succ n ih =>
    rw [total, total]
    by_cases e : k = n
    · subst e
      have : total k (setAt f k v) = total k f := by
        have key : ∀ m, m ≤ k → total m (setAt f k v) = total m f := by
          intro m
          induction m with
          | zero => intro _; rfl
          | succ m ihm =>
            intro hm
            rw [total, total, ihm (by omega)]
            have : setAt f k v m = f m := by unfold setAt; rw [if_neg (by omega)]
            rw [this]
        exact key k (Nat.le_refl _)
      rw [this]
      have : setAt f k v k = v := by unfold setAt; rw [if_pos rfl]
      rw [this]
      omega
    · have := ih (by omega)
      have : setAt f k v n = f n := by unfold setAt; rw [if_neg (fun h => e h.symm)]
      omega

theorem named_less {n : Nat} {name : Nat → Nat} {a b : Nat} (ha : a < n) (hb : b < n) (hne : name a ≠ name b) : total n (named name a b) < total n name := by
  have hab : b ≠ a := by rintro rfl; exact hne rfl
  have h1 := total_set name ha (min (name a) (name b))
  have h2 := total_set (setAt name a (min (name a) (name b))) hb (min (name a) (name b))
  have h3 : setAt name a (min (name a) (name b)) b = name b := by unfold setAt; rw [if_neg hab]
  rw [h3] at h2
  unfold named
  omega

theorem total_le {n m : Nat} {f : Nat → Nat} (h : ∀ k, k < n → f k ≤ m) : total n f ≤ n * m := by
  induction n with
  | zero => exact Nat.zero_le _
  | succ n ih =>
    rw [total, Nat.succ_mul]
    have h1 := ih fun k hk => h k (by omega)
    have h2 := h n (by omega)
    omega

theorem total_ids {n : Nat} (hn : n ≤ 24) : total n (fun k => k) ≤ 576 := by
  have := total_le (n := n) (m := 24) (f := fun k => k) fun k hk => by omega
  have : n * 24 ≤ 24 * 24 := Nat.mul_le_mul_right _ hn
  omega

theorem Nm.naming {n : Nat} {l : List (Nat × Nat)} {out : Nat → Bool} {name : Nat → Nat} (h : Nm n l out name) (he : ∀ p ∈ l, out p.1 = false → out p.2 = false → name p.1 = name p.2) : Naming (grL n l) out name := by
  refine ⟨fun k hk => Nat.lt_of_le_of_lt (h.le k hk) hk, fun a b hab oa ob => ?_, fun P a b ha hb oa ob e hP pa => ?_⟩
  · rcases adjL_iff.1 hab with k | k
    · exact he _ k oa ob
    · exact (he _ k ob oa).symm
  · have h1 := (h.hang a ha oa P hP).1 pa
    rw [e] at h1
    exact (h.hang b hb ob P hP).2 h1

/-- What is seen does not ask of more than which are out. -/
theorem Naming.congr {g : Gr} {out out' : Nat → Bool} {name : Nat → Nat} (h : Naming g out name) (G : GrOk g) (he : ∀ k, k < g.n → out' k = out k) : Naming g out' name := by
  refine ⟨h.lt, fun a b hab oa ob => ?_, fun P a b ha hb oa ob e hP pa => ?_⟩
  · obtain ⟨h1, h2⟩ := G.lt a b hab
    exact h.edge a b hab (by rw [← he a h1]; exact oa) (by rw [← he b h2]; exact ob)
  · exact h.hang P a b ha hb (by rw [← he a ha]; exact oa) (by rw [← he b hb]; exact ob) e (fun x y px hxy oy => hP x y px hxy (by rw [he y (G.lt x y hxy).2]; exact oy)) pa
end Go.Proofs.YtcabaecbmkgclaaGreatDoor.Mt

namespace Go.Proofs.YtcabaecbmkgclaaGreatDoor.Mt

section
variable {g : Gr} {mate : Nat → Option Nat} {f : Fo} {h : Gh} {n : Nat}

theorem pairsF_mem {p : Nat × Nat} (hp : p ∈ pairsF n mate) : mate p.1 = some p.2 ∧ p.1 < p.2 ∧ p.1 < n := by
  unfold pairsF at hp
  obtain ⟨v, hv, rfl⟩ := List.mem_map.1 hp
  obtain ⟨h1, h2⟩ := List.mem_filter.1 hv
  simp only [Bool.and_eq_true, decide_eq_true_eq] at h2
  obtain ⟨m, hm⟩ := Option.isSome_iff_exists.1 h2.1
  have e : mateOf mate v = m := by unfold mateOf; rw [hm]; rfl
  rw [e] at h2
  exact ⟨by rw [e]; exact hm, by rw [e]; exact h2.2, List.mem_range.1 h1⟩

theorem filter_rising (n : Nat) (p : Nat → Bool) : ((List.range n).filter p).Pairwise (· < ·) := List.Pairwise.filter _ List.pairwise_lt_range

theorem pairsF_rising : (pairsF n mate).Pairwise fun a b => a.1 < b.1 := by
  unfold pairsF
  rw [List.pairwise_map]
  exact filter_rising n _

theorem barF_rising (n : Nat) (f : Fo) : (barF n f).Pairwise (· < ·) := filter_rising n _

theorem barF_mem {x : Nat} : x ∈ barF n f ↔ x < n ∧ bar f x = true := by
  unfold barF
  rw [List.mem_filter, List.mem_range]

theorem pairwise_get {α : Type} {R : α → α → Prop} {l : List α} (h : l.Pairwise R) {i j : Nat} (hij : i < j) {a b : α} (ha : l[i]? = some a) (hb : l[j]? = some b) : R a b := by
  obtain ⟨hi, rfl⟩ := List.getElem?_eq_some_iff.1 ha
  obtain ⟨hj, rfl⟩ := List.getElem?_eq_some_iff.1 hb
  exact List.pairwise_iff_getElem.1 h i j hi hj hij

def usedBy (l : List (Nat × Nat)) (x : Nat) : Bool := l.any fun p => p.1 == x || p.2 == x

theorem usedBy_snoc (l : List (Nat × Nat)) (p : Nat × Nat) : usedBy (l ++ [p]) = setAt (setAt (usedBy l) p.1 true) p.2 true := by
  funext x
  unfold usedBy setAt
  rw [List.any_append]
  by_cases e2 : x = p.2
  · subst e2
    simp
  · by_cases e1 : x = p.1
    · subst e1
      simp
    · rw [if_neg e2, if_neg e1]
      have k1 : (p.1 == x) = false := by simp; exact fun k => e1 k.symm
      have k2 : (p.2 == x) = false := by simp; exact fun k => e2 k.symm
      simp [k1, k2]

theorem take_snoc {α : Type} {l : List α} {i : Nat} {a : α} (h : l[i]? = some a) : l.take (i + 1) = l.take i ++ [a] := by
  rw [List.take_add_one, h]
  rfl

/-- Neither number of a pair was in an earlier one. -/
theorem pairs_apart (M : MtOk g mate) {i : Nat} {a b : Nat} (hi : (pairsF n mate)[i]? = some (a, b)) : usedBy ((pairsF n mate).take i) a = false ∧ usedBy ((pairsF n mate).take i) b = false := by
  obtain ⟨h1, h2, h3⟩ := pairsF_mem (List.mem_of_getElem? hi)
  simp only at h1 h2 h3
  have key : ∀ p ∈ (pairsF n mate).take i, p.1 < a ∧ mate p.1 = some p.2 ∧ p.1 < p.2 := by
    intro p hp
    obtain ⟨j, hj⟩ := List.mem_iff_getElem?.1 hp
    have hji : j < i := by
      have := (List.getElem?_eq_some_iff.1 hj).1
      rw [List.length_take] at this
      omega
    rw [List.getElem?_take_of_lt hji] at hj
    obtain ⟨k1, k2, _⟩ := pairsF_mem (List.mem_of_getElem? hj)
    exact ⟨pairwise_get pairsF_rising hji hj hi, k1, k2⟩
  have hb := M.back a b h1
  constructor
  · cases hc : usedBy ((pairsF n mate).take i) a
    · rfl
    · obtain ⟨p, hp, hx⟩ := List.any_eq_true.1 hc
      obtain ⟨k1, k2, k3⟩ := key p hp
      simp only [Bool.or_eq_true, beq_iff_eq] at hx
      rcases hx with hx | hx
      · omega
      · rw [hx] at k2
        have := M.back _ _ k2
        rw [h1] at this
        simp only [Option.some.injEq] at this
        omega
  · cases hc : usedBy ((pairsF n mate).take i) b
    · rfl
    · obtain ⟨p, hp, hx⟩ := List.any_eq_true.1 hc
      obtain ⟨k1, k2, k3⟩ := key p hp
      simp only [Bool.or_eq_true, beq_iff_eq] at hx
      rcases hx with hx | hx
      · omega
      · rw [hx] at k2
        have := M.back _ _ k2
        rw [hb] at this
        simp only [Option.some.injEq] at this
        omega

def outBy (l : List Nat) (x : Nat) : Bool := l.any fun y => y == x

theorem outBy_snoc (l : List Nat) (p : Nat) : outBy (l ++ [p]) = setAt (outBy l) p true := by
  funext x
  unfold outBy setAt
  rw [List.any_append]
  by_cases e : x = p
  · subst e
    simp
  · rw [if_neg e]
    have k1 : (p == x) = false := by simp; exact fun k => e k.symm
    simp [k1]

theorem outBy_bar {x : Nat} (hx : x < n) : outBy (barF n f) x = bar f x := by
  rw [Bool.eq_iff_iff]
  unfold outBy
  rw [List.any_eq_true]
  constructor
  · rintro ⟨y, hy, e⟩
    rw [beq_iff_eq] at e
    subst e
    exact (barF_mem.1 hy).2
  · intro hb
    exact ⟨x, barF_mem.2 ⟨hx, hb⟩, by simp⟩

theorem bar_apart {i x : Nat} (hi : (barF n f)[i]? = some x) : outBy ((barF n f).take i) x = false := by
  cases hc : outBy ((barF n f).take i) x
  · rfl
  · obtain ⟨y, hy, hx⟩ := List.any_eq_true.1 hc
    rw [beq_iff_eq] at hx
    subst hx
    obtain ⟨j, hj⟩ := List.mem_iff_getElem?.1 hy
    have hji : j < i := by
      have := (List.getElem?_eq_some_iff.1 hj).1
      rw [List.length_take] at this
      omega
    rw [List.getElem?_take_of_lt hji] at hj
    have := pairwise_get (barF_rising n f) hji hj hi
    omega

theorem total_congr {n : Nat} {f g : Nat → Nat} (h : ∀ k, k < n → f k = g k) : total n f = total n g := by
  induction n with
  | zero => rfl
  | succ n ih => rw [total, total, ih fun k hk => h k (by omega), h n (by omega)]
end
end Go.Proofs.YtcabaecbmkgclaaGreatDoor.Mt

namespace Go.Proofs.YtcabaecbmkgclaaGreatDoor.Mg
open Go.RowKit Mt

def inR (n x : Int) : Bool := decide (0 ≤ x ∧ x < n)

set_option maxRecDepth 100000 in
theorem gbelow_any (w : World) (n x : Int) : Calls Tryz.prog 101 #[.int .i64 n, .int .i64 x] w fun e w' => e = .returned (.bool (inR n x)) ∧ w' = w := by
  by_cases h1 : 0 ≤ x
  · by_cases h2 : x < n
    · have HE : Hid (inR n x = true) := decide_eq_true ⟨h1, h2⟩
      go_enter Tryz.func101, Tryz.ntmps101
      go_wp2_with fail
      go_ret
      exact ⟨by rw [HE.out]; rfl, rfl⟩
    · have HE : Hid (inR n x = false) := decide_eq_false fun h => h2 h.2
      go_enter Tryz.func101, Tryz.ntmps101
      go_wp2_with fail
      go_ret
      exact ⟨by rw [HE.out]; rfl, rfl⟩
  · have HE : Hid (inR n x = false) := decide_eq_false fun h => h1 h.1
    go_enter Tryz.func101, Tryz.ntmps101
    go_wp2_with fail
    go_ret
    exact ⟨by rw [HE.out]; rfl, rfl⟩

def joinN (nr : Nat → Nat) (a b : Nat) : Nat → Nat := setAt (setAt nr a (nr a ||| 2 ^ b)) b (setAt nr a (nr a ||| 2 ^ b) b ||| 2 ^ a)

/-- A graph lies in block G. -/
structure NAt (w : World) (G : Nat) (nr : Nat → Nat) : Prop where
  near : ∀ k, k < 24 → w.cell? ⟨G, k, none⟩ = some (.int .u32 (nr k : Int))
  free : ∀ i, w.frozen? ⟨G, i, none⟩ = false

theorem NAt.set {w : World} {G : Nat} {nr : Nat → Nat} (h : NAt w G nr) {a : Nat} (ha : a < 24) (x : Nat) : NAt (w.setCell ⟨G, a, none⟩ (.int .u32 (x : Int))) G (setAt nr a x) := by
  refine ⟨fun k hk => ?_, fun i => by rw [World.frozen?_setCell]; exact h.free i⟩
  by_cases e : k = a
  · subst e
    rw [World.cell?_setCell_same w _ _ (h.near k hk)]
    simp [setAt]
  · rw [cell_set_ne (fun e' => e e'.symm)]
    simp only [setAt, if_neg e]
    exact h.near k hk

theorem NAt.same {w w' : World} {G : Nat} {nr : Nat → Nat} (h : NAt w G nr) (hs : w'.heap[G]? = w.heap[G]?) : NAt w' G nr :=
  ⟨fun k hk => (World.cell?_of_block (a := ⟨G, k, none⟩) hs).trans (h.near k hk), fun i => (World.frozen?_of_block (a := ⟨G, i, none⟩) hs).trans (h.free i)⟩

theorem NAt.lt {w : World} {G : Nat} {nr : Nat → Nat} (h : NAt w G nr) : G < w.heap.size := World.block_lt_of_cell? w ⟨G, 0, none⟩ (h.near 0 (by omega))

theorem or_lt32 {x y : Nat} (hx : x < 4294967296) (hy : y < 4294967296) : x ||| y < 4294967296 := Nat.or_lt_two_pow (n := 32) hx hy
theorem pow_lt32 {b : Nat} (h : b < 24) : 2 ^ b < 4294967296 := Nat.lt_of_lt_of_le (Nat.pow_lt_pow_right (by omega) (show b < 32 by omega)) (Nat.le_refl _)

theorem or_pow {x b : Nat} (hx : x < 4294967296) (hb : b < 24) : bits .or .u32 (x : Int) (2 ^ b % 4294967296) = ((x ||| 2 ^ b : Nat) : Int) := by
  have h1 : ((2 : Int) ^ b % 4294967296) = ((2 ^ b : Nat) : Int) := by
    have h2 : ((2 ^ b : Nat) : Int) < ((4294967296 : Nat) : Int) := Int.ofNat_lt.2 (pow_lt32 hb)
    rw [show ((2 : Int) ^ b) = ((2 ^ b : Nat) : Int) by simp]
    exact Int.emod_eq_of_lt (Int.natCast_nonneg _) h2
  rw [h1, u32_or_nat _ _ hx (pow_lt32 hb)]

set_option maxRecDepth 100000 in
set_option maxHeartbeats 1000000 in
theorem join_any {w : World} {G : Nat} {nr : Nat → Nat} (h : NAt w G nr) (h32 : ∀ k, k < 24 → nr k < 4294967296) {a b : Nat} (ha : a < 24) (hb : b < 24) :
    Calls Tryz.prog 33 #[.pointer (some ⟨G, 0, none⟩), .int .i64 (a : Int), .int .i64 (b : Int)] w fun e w' => e = .returned (.tuple #[]) ∧ NAt w' G (joinN nr a b) ∧ MFr G w w' := by
  have a24 : (a : Int) < 24 := by omega
  have b24 : (b : Int) < 24 := by omega
  have ca := h.near a ha
  have fa := h.free a
  have fb := h.free b
  have o1 := or_pow (h32 a ha) hb
  have x1 := or_lt32 (h32 a ha) (pow_lt32 hb)
  have o2 := or_pow (x := setAt nr a (nr a ||| 2 ^ b) b) (b := a) (by unfold setAt; split; exact x1; exact h32 b hb) ha
  have H1 : Hid (NAt (w.setCell ⟨G, a, none⟩ (.int .u32 ((nr a ||| 2 ^ b : Nat) : Int))).drew G (setAt nr a (nr a ||| 2 ^ b))) := (h.set ha _).same rfl
  have HF1 : Hid (MFr G w (w.setCell ⟨G, a, none⟩ (.int .u32 ((nr a ||| 2 ^ b : Nat) : Int))).drew) := ((MFr.refl G w).set _ _).drew
  clear h h32
  go_enter Tryz.func33, Tryz.ntmps33
  go_wp2_with fail
  go_region
  generalize (w.setCell ⟨G, a, none⟩ (.int .u32 ((nr a ||| 2 ^ b : Nat) : Int))).drew = w2 at H1 HF1 ⊢
  clear ca fa fb o1
  generalize hn1 : setAt nr a (nr a ||| 2 ^ b) = n1 at *
  have HJ : Hid (joinN nr a b = setAt n1 b (n1 b ||| 2 ^ a)) := by unfold Hid joinN; rw [hn1]
  clear hn1 x1
  have cb := H1.out.near b hb
  have fb := H1.out.free b
  have H2 : Hid (NAt (w2.setCell ⟨G, b, none⟩ (.int .u32 ((n1 b ||| 2 ^ a : Nat) : Int))).drew G (setAt n1 b (n1 b ||| 2 ^ a))) := (H1.out.set hb _).same rfl
  have HF2 : Hid (MFr G w (w2.setCell ⟨G, b, none⟩ (.int .u32 ((n1 b ||| 2 ^ a : Nat) : Int))).drew) := (HF1.out.set _ _).drew
  go_wp2_with fail
  go_region
  generalize (w2.setCell ⟨G, b, none⟩ (.int .u32 ((n1 b ||| 2 ^ a : Nat) : Int))).drew = w3 at H2 HF2 ⊢
  go_wp2_with fail
  go_end0
  exact ⟨rfl, by rw [HJ.out]; exact H2.out, HF2.out⟩
end Go.Proofs.YtcabaecbmkgclaaGreatDoor.Mg

namespace Go.Proofs.YtcabaecbmkgclaaGreatDoor.Mg
open Go.RowKit Mt

/-- A list of pairs of numbers, whatever they are, that is read. -/
def IPr (w : World) (v : Value) (l : List (Int × Int)) : Prop := ∃ so cap, v = .slice so l.length cap ∧ ∀ (i : Nat) (a c : Int), l[i]? = some (a, c) → ∃ b o, so = some ⟨b, o, none⟩ ∧ w.cell? ⟨b, o + i * 2, none⟩ = some (.int .i64 a) ∧ w.cell? ⟨b, o + i * 2 + 1, none⟩ = some (.int .i64 c)

theorem IPr.below {w w' : World} {v : Value} {l : List (Int × Int)} (h : IPr w v l) (hb : Below w.heap.size w w') : IPr w' v l := by
  obtain ⟨so, cap, rfl, hx⟩ := h
  refine ⟨so, cap, rfl, fun i a c hi => ?_⟩
  obtain ⟨b, o, rfl, h1, h2⟩ := hx i a c hi
  have hlt : b < w.heap.size := World.block_lt_of_cell? w ⟨b, o + i * 2, none⟩ h1
  exact ⟨b, o, rfl, (hb.cell (p := ⟨b, o + i * 2, none⟩) hlt).trans h1, (hb.cell (p := ⟨b, o + i * 2 + 1, none⟩) hlt).trans h2⟩

def natL (l : List (Int × Int)) : List (Nat × Nat) := l.map fun p => (p.1.toNat, p.2.toNat)
def edgeOk (n : Int) (p : Int × Int) : Bool := inR n p.1 && inR n p.2 && !(p.1 == p.2)
def okG (n : Int) (l : List (Int × Int)) : Bool := decide (0 ≤ n) && decide (n ≤ 24) && l.all (edgeOk n)

/-- The bits of nr are the edges. -/
def NrOk (l : List (Nat × Nat)) (nr : Nat → Nat) : Prop := ∀ k, k < 24 → nr k < 4294967296 ∧ ∀ j, j < 24 → (nr k).testBit j = adjL l k j

theorem NrOk.nil : NrOk [] fun _ => 0 := fun k _ => ⟨by show 0 < 4294967296; omega, fun j _ => by simp [adjL]⟩

theorem adjL_snoc (l : List (Nat × Nat)) (a b k j : Nat) : adjL (l ++ [(a, b)]) k j = (adjL l k j || ((a == k && b == j) || (a == j && b == k))) := by
  unfold adjL
  rw [List.any_append]
  simp

theorem bit_or (x b j : Nat) : (x ||| 2 ^ b).testBit j = (x.testBit j || (b == j)) := by
  rw [Nat.testBit_or, Nat.testBit_two_pow]
  rfl

theorem NrOk.join {l : List (Nat × Nat)} {nr : Nat → Nat} (h : NrOk l nr) {a b : Nat} (ha : a < 24) (hb : b < 24) (hab : a ≠ b) : NrOk (l ++ [(a, b)]) (joinN nr a b) := by
  intro k hk
  obtain ⟨h1, h2⟩ := h k hk
  have ea : joinN nr a b a = nr a ||| 2 ^ b := by
    unfold joinN setAt
    rw [if_neg hab, if_pos rfl]
  have eb : joinN nr a b b = nr b ||| 2 ^ a := by
    unfold joinN setAt
    rw [if_pos rfl, if_neg (Ne.symm hab)]
  by_cases ka : k = a
  · subst ka
    rw [ea]
    refine ⟨or_lt32 h1 (pow_lt32 hb), fun j hj => ?_⟩
    rw [bit_or, adjL_snoc, h2 j hj]
    have : (b == k) = false := by simp; exact fun e => hab e.symm
    simp [this]
  · by_cases kb : k = b
    · subst kb
      rw [eb]
      refine ⟨or_lt32 h1 (pow_lt32 ha), fun j hj => ?_⟩
      rw [bit_or, adjL_snoc, h2 j hj]
      have : (a == k) = false := by simp; exact hab
      simp [this]
    · have e : joinN nr a b k = nr k := by
        unfold joinN setAt
        rw [if_neg kb, if_neg ka]
      rw [e]
      refine ⟨h1, fun j hj => ?_⟩
      rw [adjL_snoc, h2 j hj]
      have t1 : (a == k) = false := by simp; exact fun e => ka e.symm
      have t2 : (b == k) = false := by simp; exact fun e => kb e.symm
      simp [t1, t2]

/-- Where Of stands: its result's cells in block A, its graph in block A + 1. -/
structure OfAt (A : Nat) (w wr : World) (nr : Nat → Nat) : Prop where
  below : Below A w wr
  res : wr.there A 0 24
  g : NAt wr (A + 1) nr

def OfIs (w : World) (n : Int) (l : List (Int × Int)) (e : Ending) (w' : World) : Prop :=
  Below w.heap.size w w' ∧ ((okG n l = true ∧ ∃ nr, NrOk (natL l) nr ∧ e = .returned (.tuple #[.agg (nearCells nr).toArray, .bool true])) ∨
    (okG n l = false ∧ e = .returned (.tuple #[.agg (nearCells fun _ => 0).toArray, .bool false])))

set_option maxRecDepth 100000 in
theorem build_gr0 (w : World) : (Instr.build 65 #[]).run Tryz.prog w = .ok (.agg (nearCells fun _ => 0).toArray) w := by kernel_rfl
theorem alloc_gr0 (w : World) : (Instr.alloc 65 true (.tuple #[])).run Tryz.prog w = .ok (.pointer (some ⟨w.heap.size, 0, none⟩)) (w.alloc (.cells (nearCells fun _ => 0).toArray 65)) := by kernel_rfl

theorem near_size (nr : Nat → Nat) : (nearCells nr).toArray.size = 24 := by simp [nearCells_len]
theorem near_one (nr : Nat → Nat) : (nearCells nr).toArray.all (·.oneCell') = true := all_oneCell_toArray (by
  intro v hv
  unfold nearCells at hv
  obtain ⟨_, _, rfl⟩ := List.mem_map.1 hv
  rfl)
theorem near_at (nr : Nat → Nat) {k : Nat} (hk : k < 24) : (nearCells nr)[k]? = some (.int .u32 (nr k : Int)) := by simp [nearCells, hk]

theorem near_there (w : World) (nr : Nat → Nat) (t : TypeId) : (w.alloc (.cells (nearCells nr).toArray t)).there w.heap.size 0 24 := by
  intro j hj
  rw [Nat.zero_add]
  refine ⟨?_, by simp⟩
  rw [World.cell?_alloc_new]
  simp [nearCells_len, hj]

theorem OfAt.start (w : World) (t : TypeId) : OfAt w.heap.size w ((w.alloc (.cells (nearCells fun _ => 0).toArray t)).alloc (.cells (nearCells fun _ => 0).toArray t)) fun _ => 0 := by
  have h1 : (w.alloc (.cells (nearCells fun _ => 0).toArray t)).heap.size = w.heap.size + 1 := by simp
  refine ⟨((Below.refl _ w).alloc (Nat.le_refl _) _).alloc (by omega) _, World.there_alloc (near_there _ _ _) _, ⟨fun k hk => ?_, fun i => ?_⟩⟩
  · rw [← h1, World.cell?_alloc_new]
    have := near_at (fun _ => 0) hk
    simpa using this
  · rw [← h1]
    simp

theorem NAt.range {w : World} {G : Nat} {nr : Nat → Nat} (h : NAt w G nr) : w.rangeAt G 0 (nearCells nr) := by
  intro j v hj
  have hl := (List.getElem?_eq_some_iff.1 hj).1
  rw [nearCells_len] at hl
  rw [near_at nr hl] at hj
  cases hj
  rw [Nat.zero_add]
  exact h.near j hl

/-- What is handed back lies in block A. -/
theorem of_stored {wx : World} {A : Nat} (nr : Nat → Nat) (ht : wx.there A 0 24) : (loadVar 65 ⟨A, 0, none⟩).run Tryz.prog (wx.setCells A 0 (nearCells nr)) = .ok (.agg (nearCells nr).toArray) (wx.setCells A 0 (nearCells nr)) :=
  run_loadVar_mid _ A 0 _ (nearCells nr) _ (World.rangeAt_setCells_same wx A 0 (nearCells nr) (by rw [nearCells_len]; exact ht)) Tryz.underlying65 rfl (by rw [nearCells_len]; exact Tryz.sizeGraph)

theorem OfAt.same {A : Nat} {w wr w' : World} {nr nr' : Nat → Nat} (h : OfAt A w wr nr) (hA : A = w.heap.size) (hf : MFr (A + 1) wr w') (hg : NAt w' (A + 1) nr') : OfAt A w w' nr' := by
  have h1 := h.g.lt
  have hb : w'.heap[A]? = wr.heap[A]? := hf.block A (by omega) (by omega)
  exact ⟨h.below.trans (hf.toBelow (by omega) (by omega)), fun j hj => ⟨by rw [World.cell?_of_block (a := ⟨A, 0 + j, none⟩) hb]; exact (h.res j hj).1, (World.frozen?_of_block (a := ⟨A, 0 + j, none⟩) hb).trans (h.res j hj).2⟩, hg⟩

theorem OfAt.on {A : Nat} {w wr w' : World} {nr : Nat → Nat} (h : OfAt A w wr nr) (hA : A = w.heap.size) (hb : Below wr.heap.size wr w') : OfAt A w w' nr := h.same hA (MFr.of_below hb) (h.g.same (hb.block _ h.g.lt))

theorem OfAt.no {w wr : World} {nr : Nat → Nat} {n : Int} {l : List (Int × Int)} (h : OfAt w.heap.size w wr nr) (hok : okG n l = false) : OfIs w n l (.returned (.tuple #[.agg (nearCells fun _ => 0).toArray, .bool false])) (wr.setCells w.heap.size 0 (nearCells fun _ => 0)) :=
  ⟨below_cells (Nat.le_refl _) _ _ _ h.below, .inr ⟨hok, rfl⟩⟩

theorem OfAt.yes {w wr : World} {nr : Nat → Nat} {n : Int} {l : List (Int × Int)} (h : OfAt w.heap.size w wr nr) (hok : okG n l = true) (hnr : NrOk (natL l) nr) : OfIs w n l (.returned (.tuple #[.agg (nearCells nr).toArray, .bool true])) (wr.setCells w.heap.size 0 (nearCells nr)) :=
  ⟨below_cells (Nat.le_refl _) _ _ _ h.below, .inl ⟨hok, nr, hnr, rfl⟩⟩

theorem okG_bad {n : Int} {l : List (Int × Int)} {i : Nat} {p : Int × Int} (hi : l[i]? = some p) (h : edgeOk n p = false) : okG n l = false := by
  have : l.all (edgeOk n) = false := by
    cases hc : l.all (edgeOk n)
    · rfl
    · have := List.all_eq_true.1 hc p (List.mem_of_getElem? hi)
      rw [h] at this
      cases this
  unfold okG
  rw [this]
  simp

theorem edgeOk_1 {n x y : Int} (h : inR n x = false) : edgeOk n (x, y) = false := by unfold edgeOk; simp [h]
theorem edgeOk_2 {n x y : Int} (h : inR n y = false) : edgeOk n (x, y) = false := by unfold edgeOk; simp [h]
theorem edgeOk_3 {n x y : Int} (h : (x == y) = true) : edgeOk n (x, y) = false := by unfold edgeOk; simp [h]
theorem edgeOk_yes {n x y : Int} (h1 : inR n x = true) (h2 : inR n y = true) (h3 : (x == y) = false) : edgeOk n (x, y) = true := by unfold edgeOk; simp [h1, h2, h3]

theorem inR_iff {n x : Int} : inR n x = true ↔ 0 ≤ x ∧ x < n := by unfold inR; simp

set_option maxRecDepth 100000 in
set_option maxHeartbeats 1000000 in
theorem of_any (w : World) {v : Value} {l : List (Int × Int)} (h : IPr w v l) (n : Int) (hl : l.length ≤ 1000000000000000) :
    Calls Tryz.prog 75 #[.int .i64 n, v] w fun e w' => OfIs w n l e w' := by
  have HR : Hid (IPr w v l) := h
  obtain ⟨so, cap, hv, hcc⟩ := h
  subst hv
  clear hcc
  go_enter Tryz.func75, Tryz.ntmps75
  go_upto_region 2 with (refine wpList_alloc rfl 65 rfl _ _ (alloc_gr0 _) ?_; simp only [Act.put, List.setIfInBounds_toArray, List.set_cons_zero, List.set_cons_succ])
  have e1 : (w.alloc (.cells (nearCells fun _ => 0).toArray 65)).heap.size = w.heap.size + 1 := by simp
  rw [e1]
  clear e1
  have HST : Hid (OfAt w.heap.size w ((w.alloc (.cells (nearCells fun _ => 0).toArray 65)).alloc (.cells (nearCells fun _ => 0).toArray 65)) fun _ => 0) := OfAt.start w _
  generalize (w.alloc (.cells (nearCells fun _ => 0).toArray 65)).alloc (.cells (nearCells fun _ => 0).toArray 65) = wm at HST ⊢
  by_cases hn0 : n < 0
  · have HE : Hid (OfIs w n l (.returned (.tuple #[.agg (nearCells fun _ => 0).toArray, .bool false])) (wm.setCells w.heap.size 0 (nearCells fun _ => 0))) := HST.out.no (show okG n l = false by unfold okG; rw [decide_eq_false (by omega)]; rfl)
    have HLD : Hid _ := of_stored (fun _ => 0) HST.out.res
    go_wp2_with (first | (refine wpList_build rfl 65 #[] rfl #[] (by simp) (.agg (nearCells fun _ => 0).toArray) (build_gr0 _) ?_; simp only [Act.put, List.setIfInBounds_toArray, List.set_cons_zero, List.set_cons_succ]) | (refine wpList_store_mid rfl 65 (.tmp 4) (.tmp 15) rfl w.heap.size 0 (nearCells fun _ => 0).toArray (by simp [Act.eval]) (by rfl) (by rw [near_size]; exact HST.out.res) (by rw [near_size]; exact Tryz.sizeGraph) (near_one _) ?_; simp only [Act.put]))
    refine bodyPost_ret (v := .tuple #[.agg (nearCells fun _ => 0).toArray, .bool false]) ?_ rfl HE.out
    have HLD := HLD.out
    simp [results, Tryz.results75, asAddr, HLD]
  · by_cases hn24 : n > 24
    · have HE : Hid (OfIs w n l (.returned (.tuple #[.agg (nearCells fun _ => 0).toArray, .bool false])) (wm.setCells w.heap.size 0 (nearCells fun _ => 0))) := HST.out.no (show okG n l = false by unfold okG; rw [decide_eq_false (p := n ≤ 24) (by omega)]; simp)
      have HLD : Hid _ := of_stored (fun _ => 0) HST.out.res
      go_wp2_with (first | (refine wpList_build rfl 65 #[] rfl #[] (by simp) (.agg (nearCells fun _ => 0).toArray) (build_gr0 _) ?_; simp only [Act.put, List.setIfInBounds_toArray, List.set_cons_zero, List.set_cons_succ]) | (refine wpList_store_mid rfl 65 (.tmp 4) (.tmp 15) rfl w.heap.size 0 (nearCells fun _ => 0).toArray (by simp [Act.eval]) (by rfl) (by rw [near_size]; exact HST.out.res) (by rw [near_size]; exact Tryz.sizeGraph) (near_one _) ?_; simp only [Act.put]))
      refine bodyPost_ret (v := .tuple #[.agg (nearCells fun _ => 0).toArray, .bool false]) ?_ rfl HE.out
      have HLD := HLD.out
      simp [results, Tryz.results75, asAddr, HLD]
    · go_wp2_with fail
      go_loopg [18] (l.length + 1) (fun k v18 wr => ∃ (i : Nat) (nr : Nat → Nat), i ≤ l.length ∧ l.length - i < k ∧ v18 = .int .i64 (i : Nat) ∧ (l.take i).all (edgeOk n) = true ∧ NrOk (natL (l.take i)) nr ∧ OfAt w.heap.size w wr nr)
      case atStart => exact ⟨0, fun _ => 0, by omega, by omega, rfl, rfl, NrOk.nil, HST.out⟩
      case round =>
        clear HST
        obtain ⟨i, nr, hi, hk, rfl, hall, hnr, hat⟩ := hrel
        have HAL : Hid ((l.take i).all (edgeOk n) = true) := hall
        have HNR : Hid (NrOk (natL (l.take i)) nr) := hnr
        have HAT : Hid (OfAt w.heap.size w wr nr) := hat
        clear hall hnr hat
        by_cases hlt : i < l.length
        · have hlt' : (i : Int) < (l.length : Int) := by omega
          obtain ⟨x, y, gi⟩ : ∃ x y, l[i]? = some (x, y) := ⟨_, _, List.getElem?_eq_getElem hlt⟩
          obtain ⟨so', cap', es, hx⟩ := HR.out.below HAT.out.below
          simp only [Value.slice.injEq, true_and] at es
          obtain ⟨rfl, rfl⟩ := es
          obtain ⟨bb, oo, rfl, c0, c1⟩ := hx i x y gi
          have HGI : Hid (l[i]? = some (x, y)) := gi
          clear gi hx
          have HA2 : Hid (OfAt w.heap.size w (wr.alloc (.cells #[.int .i64 x, .int .i64 y] 48)) nr) := HAT.out.on rfl ((Below.refl _ _).alloc (Nat.le_refl _) _)
          have B1 := gbelow_any (wr.alloc (.cells #[.int .i64 x, .int .i64 y] 48)) n x
          have B2 := gbelow_any (wr.alloc (.cells #[.int .i64 x, .int .i64 y] 48)) n y
          have q0 : (wr.alloc (.cells #[.int .i64 x, .int .i64 y] 48)).cell? ⟨wr.heap.size, 0, none⟩ = some (.int .i64 x) := by rw [World.cell?_alloc_new]; rfl
          have q1 : (wr.alloc (.cells #[.int .i64 x, .int .i64 y] 48)).cell? ⟨wr.heap.size, 1, none⟩ = some (.int .i64 y) := by rw [World.cell?_alloc_new]; rfl
          go_wp2_with fail
          generalize wr.alloc (.cells #[.int .i64 x, .int .i64 y] 48) = wq at *
          clear c0 c1
          cases hx1 : inR n x
          · rw [hx1] at B1
            refine B1.mono ?_
            rintro e w2 ⟨rfl, rfl⟩
            have HE : Hid (OfIs w n l (.returned (.tuple #[.agg (nearCells fun _ => 0).toArray, .bool false])) (w2.setCells w.heap.size 0 (nearCells fun _ => 0))) := HA2.out.no (okG_bad HGI.out (edgeOk_1 hx1))
            have HLD : Hid _ := of_stored (fun _ => 0) HA2.out.res
            go_wp2_with (first | (refine wpList_build rfl 65 #[] rfl #[] (by simp) (.agg (nearCells fun _ => 0).toArray) (build_gr0 _) ?_; simp only [Act.put, List.setIfInBounds_toArray, List.set_cons_zero, List.set_cons_succ]) | (refine wpList_store_mid rfl 65 (.tmp 4) (.tmp 41) rfl w.heap.size 0 (nearCells fun _ => 0).toArray (by simp [Act.eval]) (by rfl) (by rw [near_size]; exact HA2.out.res) (by rw [near_size]; exact Tryz.sizeGraph) (near_one _) ?_; simp only [Act.put]))
            refine bodyPost_ret (v := .tuple #[.agg (nearCells fun _ => 0).toArray, .bool false]) ?_ rfl HE.out
            have HLD := HLD.out
            simp [results, Tryz.results75, asAddr, HLD]
          · rw [hx1] at B1
            refine B1.mono ?_
            rintro e w2 ⟨rfl, rfl⟩
            cases hy1 : inR n y
            · rw [hy1] at B2
              go_wp2_with fail
              refine B2.mono ?_
              rintro e w3 ⟨rfl, rfl⟩
              have HE : Hid (OfIs w n l (.returned (.tuple #[.agg (nearCells fun _ => 0).toArray, .bool false])) (w3.setCells w.heap.size 0 (nearCells fun _ => 0))) := HA2.out.no (okG_bad HGI.out (edgeOk_2 hy1))
              have HLD : Hid _ := of_stored (fun _ => 0) HA2.out.res
              go_wp2_with (first | (refine wpList_build rfl 65 #[] rfl #[] (by simp) (.agg (nearCells fun _ => 0).toArray) (build_gr0 _) ?_; simp only [Act.put, List.setIfInBounds_toArray, List.set_cons_zero, List.set_cons_succ]) | (refine wpList_store_mid rfl 65 (.tmp 4) (.tmp 41) rfl w.heap.size 0 (nearCells fun _ => 0).toArray (by simp [Act.eval]) (by rfl) (by rw [near_size]; exact HA2.out.res) (by rw [near_size]; exact Tryz.sizeGraph) (near_one _) ?_; simp only [Act.put]))
              refine bodyPost_ret (v := .tuple #[.agg (nearCells fun _ => 0).toArray, .bool false]) ?_ rfl HE.out
              have HLD := HLD.out
              simp [results, Tryz.results75, asAddr, HLD]
            · rw [hy1] at B2
              cases hxy : (x == y)
              · have HXY : Hid ((x == y) = false) := hxy
                have HX1 : Hid (inR n x = true ∧ inR n y = true) := ⟨hx1, hy1⟩
                obtain ⟨a, rfl⟩ := Int.eq_ofNat_of_zero_le (inR_iff.1 hx1).1
                obtain ⟨b, rfl⟩ := Int.eq_ofNat_of_zero_le (inR_iff.1 hy1).1
                have ha : a < 24 := by have := (inR_iff.1 hx1).2; omega
                have hb : b < 24 := by have := (inR_iff.1 hy1).2; omega
                have hab : a ≠ b := by rintro rfl; simp at hxy
                have JN := join_any HA2.out.g (fun k hk => (HNR.out k hk).1) ha hb
                clear hx1 hy1 hn0 hn24
                go_wp2_with fail
                refine B2.mono ?_
                rintro e w3 ⟨rfl, rfl⟩
                clear B1 B2
                go_wp2_with fail
                refine JN.mono ?_
                rintro e w4 ⟨rfl, hA4, hf4⟩
                have et : l.take (i + 1) = l.take i ++ [((a : Int), (b : Int))] := take_snoc HGI.out
                have HN : Hid ((l.take (i + 1)).all (edgeOk n) = true ∧ NrOk (natL (l.take (i + 1))) (joinN nr a b) ∧ OfAt w.heap.size w w4 (joinN nr a b)) := by
                  refine ⟨?_, ?_, HA2.out.same rfl hf4 hA4⟩
                  · rw [et, List.all_append, HAL.out]
                    simp [edgeOk_yes HX1.out.1 HX1.out.2 HXY.out]
                  · rw [et]
                    have := HNR.out.join ha hb hab
                    simpa [natL] using this
                clear et JN hA4 hf4 hxy
                go_wp2_with fail
                go_roundg (l.length - i)
                case measure => omega
                case rel => exact ⟨i + 1, joinN nr a b, by omega, by omega, by go_num, HN.out.1, HN.out.2.1, HN.out.2.2⟩
              · go_wp2_with fail
                refine B2.mono ?_
                rintro e w3 ⟨rfl, rfl⟩
                have HE : Hid (OfIs w n l (.returned (.tuple #[.agg (nearCells fun _ => 0).toArray, .bool false])) (w3.setCells w.heap.size 0 (nearCells fun _ => 0))) := HA2.out.no (okG_bad HGI.out (edgeOk_3 hxy))
                have HLD : Hid _ := of_stored (fun _ => 0) HA2.out.res
                go_wp2_with (first | (refine wpList_build rfl 65 #[] rfl #[] (by simp) (.agg (nearCells fun _ => 0).toArray) (build_gr0 _) ?_; simp only [Act.put, List.setIfInBounds_toArray, List.set_cons_zero, List.set_cons_succ]) | (refine wpList_store_mid rfl 65 (.tmp 4) (.tmp 41) rfl w.heap.size 0 (nearCells fun _ => 0).toArray (by simp [Act.eval]) (by rfl) (by rw [near_size]; exact HA2.out.res) (by rw [near_size]; exact Tryz.sizeGraph) (near_one _) ?_; simp only [Act.put]))
                refine bodyPost_ret (v := .tuple #[.agg (nearCells fun _ => 0).toArray, .bool false]) ?_ rfl HE.out
                have HLD := HLD.out
                simp [results, Tryz.results75, asAddr, HLD]
        · have hlt' : ¬ (i : Int) < (l.length : Int) := by omega
          have et : l.take i = l := List.take_of_length_le (by omega)
          have HE : Hid (OfIs w n l (.returned (.tuple #[.agg (nearCells nr).toArray, .bool true])) (wr.setCells w.heap.size 0 (nearCells nr))) := HAT.out.yes (n := n) (l := l) (by have := HAL.out; rw [et] at this; unfold okG; rw [this, decide_eq_true (by omega), decide_eq_true (by omega)]; rfl) (by have := HNR.out; rw [et] at this; exact this)
          have HLD : Hid _ := of_stored nr HAT.out.res
          have HRG : Hid (wr.rangeAt (w.heap.size + 1) 0 (nearCells nr)) := HAT.out.g.range
          clear et
          go_wp2_with (first | (refine wpList_load_mid rfl 65 (.tmp 6) rfl (w.heap.size + 1) 0 (by simp [Act.eval]) (nearCells nr) _ HRG.out Tryz.underlying65 rfl (by rw [Tryz.sizeGraph, nearCells_len]) ?_; simp only [Act.put, List.setIfInBounds_toArray, List.set_cons_zero, List.set_cons_succ]) | (refine wpList_store_mid rfl 65 (.tmp 4) (.tmp 48) rfl w.heap.size 0 (nearCells nr).toArray (by simp [Act.eval]) (by rfl) (by rw [near_size]; exact HAT.out.res) (by rw [near_size]; exact Tryz.sizeGraph) (near_one _) ?_; simp only [Act.put]))
          refine bodyPost_ret (v := .tuple #[.agg (nearCells nr).toArray, .bool true]) ?_ rfl HE.out
          have HLD := HLD.out
          simp [results, Tryz.results75, asAddr, HLD]
end Go.Proofs.YtcabaecbmkgclaaGreatDoor.Mg
