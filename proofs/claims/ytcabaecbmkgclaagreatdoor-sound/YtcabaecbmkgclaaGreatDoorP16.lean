/-
  What benzol.Parse does.
  Of what was read: its bonds; the graph of its candidates.
-/
import Derived.Test.YtcabaecbmkgclaaGreatDoorP15

namespace Go.Proofs.YtcabaecbmkgclaaGreatDoor
open Go.RowKit Bz

theorem whole_wf {s : ByteArray} (hs : s.size ≤ 160) {q : St} (h : wholeR s = .ok q) : Ok s q ∧ 0 < q.atoms.length := by
  unfold wholeR at h
  split at h
  · cases h
  rename_i p hp
  have hne := chain_ne hp (start_ok s)
  have ho := (chain_wf s (s.size + 1) _ _ _ (start_ok s) (.inl rfl) hp).1
  unfold finish valencesOk at h
  split at h
  · cases h
  split at h
  · cases h
  split at h
  · cases h
  cases h
  exact ⟨withHy_wf ho hs, by simp [withHy]; exact hne⟩

theorem parse_whole (s : ByteArray) (hs : s.size ≤ 160) : Bz.parse s = (wholeR s).map fun q => (q.atoms, q.bonds) := by
  unfold Bz.parse wholeR
  rw [if_neg (by omega)]
  cases hc : Bz.chain s (s.size + 1) ⟨0, 0, -1⟩ Bz.start with
  | error e => rfl
  | ok p =>
    simp only []
    unfold finish valencesOk withHy
    split
    · rfl
    split
    · rfl
    simp only []
    split <;> rename_i h <;> rw [h] <;> rfl

/-- What a reading gives, said of the molecule's value: something is wrong. -/
structure ReadBad (s : ByteArray) (w : World) (e : Ending) (w' : World) (er : Int × Int) : Prop where
  h : Bz.parse s = .error er
  he : e = .returned (.tuple #[.agg zeroMol, .int .i64 er.1, .int .i64 er.2])
  hne : er.1 ≠ 0
  hb : Below w.heap.size w w'
/-- Or there is a molecule. -/
structure ReadGood (s : ByteArray) (w : World) (e : Ending) (w' : World) (q : St) (ns : List Value) (av bv : Value) : Prop where
  h : Bz.parse s = .ok (q.atoms, q.bonds)
  he : e = .returned (.tuple #[.agg (ns ++ [av, bv]).toArray, .int .i64 0, .int .i64 0])
  hr : ReadOk w w' q ns av bv
  ho : Ok s q
  hne : 0 < q.atoms.length
def ReadIs (s : ByteArray) (w : World) (e : Ending) (w' : World) : Prop := (∃ er, ReadBad s w e w' er) ∨ ∃ q ns av bv, ReadGood s w e w' q ns av bv
theorem ReadIs.bad {s : ByteArray} {w : World} {e : Ending} {w' : World} (er : Int × Int) (h : Bz.parse s = .error er) (he : e = .returned (.tuple #[.agg zeroMol, .int .i64 er.1, .int .i64 er.2])) (hne : er.1 ≠ 0) (hb : Below w.heap.size w w') : ReadIs s w e w' := .inl ⟨er, h, he, hne, hb⟩
theorem ReadIs.good {s : ByteArray} {w : World} {e : Ending} {w' : World} (q : St) (ns : List Value) (av bv : Value) (h : Bz.parse s = .ok (q.atoms, q.bonds)) (he : e = .returned (.tuple #[.agg (ns ++ [av, bv]).toArray, .int .i64 0, .int .i64 0])) (hr : ReadOk w w' q ns av bv) (ho : Ok s q) (hne : 0 < q.atoms.length) : ReadIs s w e w' := .inr ⟨q, ns, av, bv, h, he, hr, ho, hne⟩

theorem read_any (s : ByteArray) (w : World) (hm : s.size ≤ maxLen) : Calls Tryz.prog 22 #[.string s] w (ReadIs s w) := by
  by_cases hs : s.size ≤ 160
  · have hp := parse_whole s hs
    cases hq : wholeR s with
    | error er =>
      rw [hq] at hp
      exact (read_err s w hs er hq).mono fun e w' h => .bad er hp h.1 (whole_nz hq) h.2
    | ok q =>
      rw [hq] at hp
      refine (read_ok s w hs q hq).mono fun e w' h => ?_
      obtain ⟨ns, av, bv, he, hr⟩ := h
      exact .good q ns av bv hp he hr (whole_wf hs hq).1 (whole_wf hs hq).2
  · have hp : Bz.parse s = .error (1, 0) := by unfold Bz.parse; rw [if_pos (by omega)]
    exact (read_long s w (by omega) hm).mono fun e w' h => .bad (1, 0) hp h.1 (by simp) h.2

/-- What Parse gives: something is wrong. -/
structure ParseBad (s : ByteArray) (w : World) (e : Ending) (w' : World) (er : Int × Int) : Prop where
  h : Bz.parse s = .error er
  he : e = .returned (.tuple #[.agg #[.slice none 0 0, .slice none 0 0], .int .i64 er.1, .int .i64 er.2])
  hb : Below w.heap.size w w'
/-- Or there is a molecule. -/
structure ParseGood (s : ByteArray) (w : World) (e : Ending) (w' : World) (ats : List Atm) (l : List Bnd) (v v' : Value) : Prop where
  h : Bz.parse s = .ok (ats, l)
  he : e = .returned (.tuple #[.agg #[v, v'], .int .i64 0, .int .i64 0])
  ha : w'.ownsRow w.heap.size 50 4 v ats.length (ats.flatMap plainCells)
  hl : w'.ownsRow w.heap.size 46 3 v' l.length (l.flatMap bndCells)
  hb : Below w.heap.size w w'
  hne : 0 < ats.length
  hn : ats.length ≤ 24
  hln : l.length ≤ 160
def ParseIs (s : ByteArray) (w : World) (e : Ending) (w' : World) : Prop := (∃ er, ParseBad s w e w' er) ∨ ∃ ats l v v', ParseGood s w e w' ats l v v'
theorem ParseIs.bad {s : ByteArray} {w : World} {e : Ending} {w' : World} (er : Int × Int) (h : Bz.parse s = .error er) (he : e = .returned (.tuple #[.agg #[.slice none 0 0, .slice none 0 0], .int .i64 er.1, .int .i64 er.2])) (hb : Below w.heap.size w w') : ParseIs s w e w' := .inl ⟨er, h, he, hb⟩
theorem ParseIs.good {s : ByteArray} {w : World} {e : Ending} {w' : World} (ats : List Atm) (l : List Bnd) (v v' : Value) (h : Bz.parse s = .ok (ats, l)) (he : e = .returned (.tuple #[.agg #[v, v'], .int .i64 0, .int .i64 0])) (ha : w'.ownsRow w.heap.size 50 4 v ats.length (ats.flatMap plainCells))
    (hl : w'.ownsRow w.heap.size 46 3 v' l.length (l.flatMap bndCells)) (hb : Below w.heap.size w w') (hne : 0 < ats.length) (hn : ats.length ≤ 24) (hln : l.length ≤ 160) : ParseIs s w e w' := .inr ⟨ats, l, v, v', h, he, ha, hl, hb, hne, hn, hln⟩

/-- The result's cell and all below stand as they stood. -/
structure Held (w W : World) : Prop where
  r0 : W.cell? ⟨w.heap.size, 0, none⟩ = some (.slice none 0 0)
  r1 : W.cell? ⟨w.heap.size, 1, none⟩ = some (.slice none 0 0)
  f : ∀ j, W.frozen? ⟨w.heap.size, j, none⟩ = false
  b : Below w.heap.size w W

theorem held_of {w W : World} (h : Below (w.heap.size + 1) (w.alloc (.cells #[.slice none 0 0, .slice none 0 0] 39)) W) : Held w W :=
  ⟨(h.cell (p := ⟨w.heap.size, 0, none⟩) (by simp)).trans (by simp), (h.cell (p := ⟨w.heap.size, 1, none⟩) (by simp)).trans (by simp), fun j => (h.frozen (p := ⟨w.heap.size, j, none⟩) (by simp)).trans (by simp),
    ((Below.refl _ w).alloc (Nat.le_refl _) _).trans (h.mono (by omega))⟩

section
set_option maxRecDepth 100000 in
set_option maxHeartbeats 1000000 in
theorem parse_any (s : ByteArray) (w : World) (hm : s.size ≤ maxLen) : Calls Tryz.prog 15 #[.string s] w (ParseIs s w) := by
  go_enter Tryz.func15, Tryz.ntmps15
  go_wp2_with fail
  refine (read_any s _ hm).mono ?_
  rintro e w1 h
  rcases h with ⟨er, h, he, hne, hb⟩ | ⟨q, ns, av, bv, h, he, hr, ho, hne⟩
  · subst he
    have hsz : (w.alloc (.cells #[.slice none 0 0, .slice none 0 0] 39)).heap.size = w.heap.size + 1 := by simp
    rw [hsz] at hb
    have hs1 := hb.size
    rw [hsz] at hs1
    have HT : Hid ((w1.alloc (.cells zeroMol 69)).there w1.heap.size 0 26) := there_new w1
    have HF : Held w ((w1.alloc (.cells zeroMol 69)).setCells w1.heap.size 0 zeroMol.toList) :=
      held_of (hb.trans ((below_setCells (Nat.le_refl _) _ _ _ ((Below.refl _ w1).alloc (Nat.le_refl _) _)).mono hs1))
    clear hb hsz hs1
    have HP : Hid _ := h
    clear h
    go_wp2_with (first | (refine wpList_alloc rfl 69 rfl _ _ (alloc_mol _) ?_; simp only [Act.put, List.setIfInBounds_toArray, List.set_cons_zero, List.set_cons_succ]; have tokS : True := trivial) | (have _t := tokS; go_must (refine wpList_store_mid rfl 69 (.tmp 5) (.tmp 11) rfl w1.heap.size 0 zeroMol (by simp [Act.eval]) (by simp [Act.eval]) HT.out Tryz.sizeMol zeroMol_one ?_); simp only [Act.put]; clear tokS; revert HF; generalize World.setCells _ _ _ _ = W; rintro ⟨r0, r1, rf, hbW⟩; have rf0 := rf 0; have rf1 := rf 1))
    refine bodyPost_ret (v := .tuple #[.agg #[.slice none 0 0, .slice none 0 0], .int .i64 er.1, .int .i64 er.2]) ?_ rfl (.bad er HP.out rfl ((hbW.setCell (p := ⟨w.heap.size, 0, none⟩) (Nat.le_refl _) _).setCell (p := ⟨w.heap.size, 1, none⟩) (Nat.le_refl _) _))
    simp only [results, Tryz.results15]
    go_simp
  · subst he
    obtain ⟨h1, h2, oa, ob, hb⟩ := hr
    have hsz : (w.alloc (.cells #[.slice none 0 0, .slice none 0 0] 39)).heap.size = w.heap.size + 1 := by simp
    rw [hsz] at hb oa ob
    have hs1 := hb.size
    rw [hsz] at hs1
    have hone : ∀ v ∈ ns ++ [av, bv], v.oneCell' = true := by
      intro v hv
      rcases List.mem_append.1 hv with hv | hv
      · exact h2 v hv
      · obtain ⟨x, y, rfl⟩ := ownsRow_shape oa
        obtain ⟨x', y', rfl⟩ := ownsRow_shape ob
        simp at hv
        rcases hv with rfl | rfl <;> rfl
    have hlen : (ns ++ [av, bv]).length = 26 := by simp [h1]
    have HT : Hid ((w1.alloc (.cells zeroMol 69)).there w1.heap.size 0 26) := there_new w1
    have HBL : Below w1.heap.size w1 ((w1.alloc (.cells zeroMol 69)).setCells w1.heap.size 0 (ns ++ [av, bv])) := below_setCells (Nat.le_refl _) _ _ _ ((Below.refl _ w1).alloc (Nat.le_refl _) _)
    have HF : Held w ((w1.alloc (.cells zeroMol 69)).setCells w1.heap.size 0 (ns ++ [av, bv])) := held_of (hb.trans (HBL.mono hs1))
    have HRA := World.rangeAt_setCells_same (w1.alloc (.cells zeroMol 69)) w1.heap.size 0 (ns ++ [av, bv]) (by rw [hlen]; exact HT.out)
    have C24 := HRA 24 av (by rw [List.getElem?_append_right (by omega), h1]; rfl)
    have C25 := HRA 25 bv (by rw [List.getElem?_append_right (by omega), h1]; rfl)
    have oa' := ownsRow_same oa fun k hk => HBL.block k (oa.lt k hk).2
    have ob' := ownsRow_same ob fun k hk => HBL.block k (ob.lt k hk).2
    have HSZ : w1.heap.size < ((w1.alloc (.cells zeroMol 69)).setCells w1.heap.size 0 (ns ++ [av, bv])).heap.size := World.block_lt_of_cell? _ ⟨w1.heap.size, 0 + 24, none⟩ C24
    have HONE : Hid _ := all_oneCell_toArray hone
    have HSI : Hid (26 = (ns ++ [av, bv]).length) := hlen.symm
    clear hb hsz hone hlen HBL HRA oa ob h1 h2
    generalize ns ++ [av, bv] = cs at *
    have HP : Hid _ := h
    have HO : Hid (Ok s q) := ho
    clear h ho
    go_wp2_with (first | (refine wpList_alloc rfl 69 rfl _ _ (alloc_mol _) ?_; simp only [Act.put, List.setIfInBounds_toArray, List.set_cons_zero, List.set_cons_succ]; have tokS : True := trivial) | (have _t := tokS; go_must (refine wpList_store_mid rfl 69 (.tmp 5) (.tmp 11) rfl w1.heap.size 0 cs.toArray (by simp [Act.eval]) (by simp [Act.eval]) (by simp only [List.size_toArray, ← HSI.out]; exact HT.out) (by simp only [List.size_toArray, ← HSI.out]; exact Tryz.sizeMol) HONE.out ?_); simp only [Act.put]; clear tokS; revert HF C24 C25 oa' ob' HSZ; generalize World.setCells _ _ _ _ = W; rintro ⟨r0, r1, rf, hbW⟩ C24 C25 oa' ob' HSZ; have HRF : Hid (∀ j, W.frozen? ⟨w.heap.size, j, none⟩ = false) := rf; clear rf))
    have hs : s.size ≤ 160 := by
      rcases Nat.lt_or_ge 160 s.size with h | h
      · have := HP.out
        unfold Bz.parse at this
        rw [if_pos h] at this
        cases this
      · exact h
    have hbn : q.bonds.length ≤ 160 := by have := HO.out.bonds; have := HO.out.pos; omega
    refine (plain_any W w1.heap.size (w.heap.size + 1) av bv q.atoms q.bonds (by omega) HO.out.atoms hne HSZ C24 C25 oa' ob').mono ?_
    rintro e w2 ⟨v, v', rfl, hA, hB, hb2⟩
    have hRW : w.heap.size < W.heap.size := by omega
    have x0 := (hb2.cell (p := ⟨w.heap.size, 0, none⟩) hRW).trans r0
    have x1 := (hb2.cell (p := ⟨w.heap.size, 1, none⟩) hRW).trans r1
    have y0 := (hb2.frozen (p := ⟨w.heap.size, 0, none⟩) hRW).trans (HRF.out 0)
    have y1 := (hb2.frozen (p := ⟨w.heap.size, 1, none⟩) hRW).trans (HRF.out 1)
    have n1 : v.ownBlock ≠ some w.heap.size := fun e => by have := (hA.lt _ e).1; omega
    have n2 : v'.ownBlock ≠ some w.heap.size := fun e => by have := (hB.lt _ e).1; omega
    have HA : Hid (((w2.setCell ⟨w.heap.size, 0, none⟩ v).setCell ⟨w.heap.size, 1, none⟩ v').ownsRow w.heap.size 50 4 v q.atoms.length (q.atoms.flatMap plainCells)) :=
      ownsRow_mono (ownsRow_setCell_other (ownsRow_setCell_other hA n1 _) n1 _) (by omega)
    have HB : Hid (((w2.setCell ⟨w.heap.size, 0, none⟩ v).setCell ⟨w.heap.size, 1, none⟩ v').ownsRow w.heap.size 46 3 v' q.bonds.length (q.bonds.flatMap bndCells)) :=
      ownsRow_mono (ownsRow_setCell_other (ownsRow_setCell_other hB n2 _) n2 _) (by omega)
    have HBB : Hid (Below w.heap.size w ((w2.setCell ⟨w.heap.size, 0, none⟩ v).setCell ⟨w.heap.size, 1, none⟩ v')) :=
      ((hbW.trans (hb2.mono (by omega))).setCell (p := ⟨w.heap.size, 0, none⟩) (Nat.le_refl _) _).setCell (p := ⟨w.heap.size, 1, none⟩) (Nat.le_refl _) _
    obtain ⟨ao, ac, hv⟩ := ownsRow_shape hA
    obtain ⟨bo, bc, hv'⟩ := ownsRow_shape hB
    subst hv hv'
    clear hA hB hb2 n1 n2 C24 C25 oa' ob' r0 r1
    go_wp2_with fail
    refine bodyPost_ret (v := .tuple #[.agg #[.slice ao q.atoms.length ac, .slice bo q.bonds.length bc], .int .i64 0, .int .i64 0]) ?_ rfl (.good q.atoms q.bonds _ _ HP.out rfl HA.out HB.out HBB.out hne HO.out.atoms hbn)
    simp only [results, Tryz.results15]
    go_simp
end
end Go.Proofs.YtcabaecbmkgclaaGreatDoor

namespace Go.Proofs.YtcabaecbmkgclaaGreatDoor.Kd
open Go.RowKit Bz Mt Mg Rf

theorem start_en : Eo Bz.start := ⟨fun b hb => (by cases hb), List.Pairwise.nil, List.Pairwise.nil, fun b hb => (by cases hb)⟩

/-- Of the bonds of a molecule that was read: both ends are there, they are all different, they stand by rising places. -/
theorem parse_en {s : ByteArray} {ats : List Atm} {l : List Bnd} (h : Bz.parse s = .ok (ats, l)) : s.size ≤ 160 ∧ En ats.length l s.size := by
  unfold Bz.parse at h
  split at h
  · cases h
  · rename_i hs
    refine ⟨by omega, ?_⟩
    split at h
    · cases h
    · rename_i p hc
      have ho := (chain_wf s (s.size + 1) _ _ _ (start_ok s) (.inl rfl) hc).1
      have he := chain_en s (s.size + 1) _ _ _ (start_ok s) (.inl rfl) start_en hc
      split at h
      · cases h
      · split at h
        · cases h
        · simp only at h
          split at h
          · cases h
          · simp only [Except.ok.injEq, Prod.mk.injEq] at h
            obtain ⟨rfl, rfl⟩ := h
            rw [List.length_mapIdx]
            exact En.mono he (Nat.le_refl _) ho.pos

theorem candEdges_mem {p : St} {l : List Bnd} {x y : Nat} : (x, y) ∈ candEdges p l ↔ ∃ b ∈ l, isEdge p b = true ∧ b.a = x ∧ b.b = y := by
  unfold candEdges
  rw [List.mem_map]
  constructor
  · rintro ⟨b, hb, e⟩
    obtain ⟨h1, h2⟩ := List.mem_filter.1 hb
    simp only [Prod.mk.injEq] at e
    exact ⟨b, h1, h2, e.1, e.2⟩
  · rintro ⟨b, h1, h2, rfl, rfl⟩
    exact ⟨b, List.mem_filter.2 ⟨h1, h2⟩, rfl⟩

theorem candEdges_ok {p : St} {n pos : Nat} (h : En n p.bonds pos) : EdOk n (candEdges p p.bonds) := by
  intro q hq
  obtain ⟨x, y⟩ := q
  obtain ⟨b, hb, _, rfl, rfl⟩ := candEdges_mem.1 hq
  obtain ⟨h1, h2⟩ := h.ends b hb
  exact ⟨by simp only; omega, h2, by simp only; omega⟩

/-- Only candidates have edges. -/
theorem candEdges_in {p : St} (x y : Nat) (h : adjL (candEdges p p.bonds) x y = true) : cand p x = true ∧ cand p y = true := by
  have key : ∀ u v, (u, v) ∈ candEdges p p.bonds → cand p u = true ∧ cand p v = true := fun u v hm => by
    obtain ⟨b, _, he, rfl, rfl⟩ := candEdges_mem.1 hm
    unfold isEdge at he
    simp only [Bool.and_eq_true] at he
    exact he.2
  rcases adjL_iff.1 h with k | k
  · exact key x y k
  · exact (key y x k).symm

/-- The pairs are bonds: each stands in the list of bonds just once. -/
theorem pair_bond {p : St} {n pos : Nat} {mate : Nat → Option Nat} {f : Fo} {h : Gh} (en : En n p.bonds pos) (hB : Best (grL n (candEdges p p.bonds)) mate f h) {x y : Nat} (hxy : (x, y) ∈ pairsF n mate) : ∃ b ∈ p.bonds, isEdge p b = true ∧ b.a = x ∧ b.b = y := by
  obtain ⟨h1, h2, h3⟩ := pairsF_mem hxy
  simp only at h1 h2 h3
  have ha : adjL (candEdges p p.bonds) x y = true := hB.m.adj x y h1
  rcases adjL_iff.1 ha with k | k
  · exact candEdges_mem.1 k
  · obtain ⟨b, hb, _, e1, e2⟩ := candEdges_mem.1 k
    have := (en.ends b hb).1
    omega

/-- As many bonds become double as there are pairs. -/
theorem doubled_count {p : St} {n pos : Nat} {mate : Nat → Option Nat} {f : Fo} {h : Gh} (en : En n p.bonds pos) (hB : Best (grL n (candEdges p p.bonds)) mate f h) :
    (p.bonds.filter fun b => b.o == 4 && decide ((b.a, b.b) ∈ pairsF n mate)).length = (pairsF n mate).length := by
  have e1 : ((p.bonds.filter fun b => b.o == 4 && decide ((b.a, b.b) ∈ pairsF n mate)).map fun b => (b.a, b.b)).length = (p.bonds.filter fun b => b.o == 4 && decide ((b.a, b.b) ∈ pairsF n mate)).length := List.length_map ..
  rw [← e1]
  have nd1 : ((p.bonds.filter fun b => b.o == 4 && decide ((b.a, b.b) ∈ pairsF n mate)).map fun b => (b.a, b.b)).Nodup := by
    unfold List.Nodup
    rw [List.pairwise_map]
    refine (List.Pairwise.filter _ en.dist).imp fun {x y} hxy e => hxy ?_
    simp only [Prod.mk.injEq] at e
    exact e
  have nd2 : (pairsF n mate).Nodup := (pairsF_rising (n := n) (mate := mate)).imp fun {x y} hxy e => by rw [e] at hxy; omega
  have m1 : ∀ q ∈ (p.bonds.filter fun b => b.o == 4 && decide ((b.a, b.b) ∈ pairsF n mate)).map (fun b => (b.a, b.b)), q ∈ pairsF n mate := fun q hq => by
    obtain ⟨b, hb, rfl⟩ := List.mem_map.1 hq
    have := (List.mem_filter.1 hb).2
    simp only [Bool.and_eq_true, decide_eq_true_eq] at this
    exact this.2
  have m2 : ∀ q ∈ pairsF n mate, q ∈ (p.bonds.filter fun b => b.o == 4 && decide ((b.a, b.b) ∈ pairsF n mate)).map (fun b => (b.a, b.b)) := fun q hq => by
    obtain ⟨x, y⟩ := q
    obtain ⟨b, hb, he, rfl, rfl⟩ := pair_bond en hB hq
    refine List.mem_map.2 ⟨b, List.mem_filter.2 ⟨hb, ?_⟩, rfl⟩
    unfold isEdge at he
    simp only [Bool.and_eq_true] at he ⊢
    exact ⟨he.1, decide_eq_true hq⟩
  have len : ∀ (l r : List (Nat × Nat)), l.Nodup → (∀ q ∈ l, q ∈ r) → l.length ≤ r.length := by
    intro l
    induction l with
    | nil => intro r _ _; exact Nat.zero_le _
    | cons a l ih =>
      intro r hn hm
      rw [List.nodup_cons] at hn
      have ha := hm a (by simp)
      have := ih (r.erase a) hn.2 (fun q hq => (List.mem_erase_of_ne (show q ≠ a from fun e => hn.1 (by rw [← e]; exact hq))).2 (hm q (by simp [hq])))
      rw [List.length_erase_of_mem ha] at this
      have := List.length_pos_of_mem ha
      simp only [List.length_cons]
      omega
  exact Nat.le_antisymm (len _ _ nd1 m1) (len _ _ nd2 m2)
end Go.Proofs.YtcabaecbmkgclaaGreatDoor.Kd
