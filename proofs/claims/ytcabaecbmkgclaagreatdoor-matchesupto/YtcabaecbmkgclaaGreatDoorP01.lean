/-
  What the reader's full, name, fits and bracket do.
  What the molecule's Add does.
  Lists that are full of one mark, made longer by the same mark: whatever shared their row still reads as it did.
  A slip of the book: lists that are full of its mark; reads finds them so.
  The book: all slips read as their owner wrote them.
  What the graph's Join and Joined do.
-/
import Derived.Test.YtcabaecbmkgclaaGreatDoorP00
import Derived.Deep.RegionWith
import Derived.Deep.RegionLaw
import Derived.Deep.LoopGhost
import Derived.Laws.DeepBits32

namespace Go.Proofs.YtcabaecbmkgclaaGreatDoor
open Go.RowKit Bz

section
variable {w : World} {B : Nat} {s : ByteArray} {p : St}

set_option maxHeartbeats 400000 in
theorem full_any (h : Rd w B s p) (_hn : p.atoms.length ≤ 24) :
    Calls Tryz.prog 151 #[.pointer (some ⟨B, 0, none⟩)] w fun e w' => e = .returned (.bool (full p)) ∧ w' = w := by
  obtain ⟨ao, cap, hc⟩ := h.atomsLen
  have he : ((p.atoms.length : Int) == 24) = full p := by rw [Bool.eq_iff_iff]; simp [full]; omega
  go_enter Tryz.func151, Tryz.ntmps151
  go_wp2
  go_ret
  exact ⟨ret_bool (by first | exact he | rfl), rfl⟩

def hungV (h : Hung) : Value := .agg #[.int .u8 h.mark, .int .i64 h.spot, .int .i64 h.atom]
def atmV (a : Atm) : Value := .agg #[.string a.el, .bool a.aro, .int .i64 a.ch, .int .i64 a.hy, .int .i64 a.pl, .bool a.br]

theorem Fr.two {B : Nat} {w : World} (hB : B < w.heap.size) (o o' : Obj) : Fr B w (((w.alloc o).alloc o').drew) :=
  (((Fr.refl B w).alloc hB o).alloc (by simp; omega) o').drew

set_option maxHeartbeats 1000000 in
theorem fits_bond (h : Rd w B s p) (g : Hung) (a : Atm) (hm : g.mark = 58) (ha : a.aro = false) :
    Calls Tryz.prog 126 #[.pointer (some ⟨B, 0, none⟩), hungV g, atmV a] w fun e w' => e = .returned (.bool false) ∧ Wrong w' B (3, g.spot) ∧ Fr B w w' := by
  have hB := h.lt
  unfold hungV atmV
  rw [hm, ha]
  go_enter Tryz.func126, Tryz.ntmps126
  go_wp2_with fail
  go_region_with (go_at_call 57; refine (fail_any ((h.alloc _).alloc _).drew _ _).mono ?_; rintro e w' ⟨rfl, hw, hf⟩)
  go_wp2
  go_ret
  exact ⟨rfl, hw, (Fr.two hB _ _).trans hf⟩

set_option maxHeartbeats 1000000 in
theorem fits_full (h : Rd w B s p) (hn : p.atoms.length ≤ 24) (g : Hung) (a : Atm) (hm : ¬ (g.mark = 58 ∧ a.aro = false)) (hu : full p = true) :
    Calls Tryz.prog 126 #[.pointer (some ⟨B, 0, none⟩), hungV g, atmV a] w fun e w' => e = .returned (.bool false) ∧ Wrong w' B (5, a.pl) ∧ Fr B w w' := by
  have hB := h.lt
  have hc : (g.mark == 58) = false ∨ (g.mark = 58 ∧ a.aro = true) := by
    by_cases e : g.mark = 58
    · exact .inr ⟨e, by cases ha : a.aro <;> simp_all⟩
    · exact .inl (by simpa using e)
  clear hm
  unfold hungV atmV
  rcases hc with hc | ⟨hc, ha⟩
  · go_enter Tryz.func126, Tryz.ntmps126
    go_wp2_with (go_at_call 151; refine (full_any ((h.alloc _).alloc _) hn).mono ?_; rintro e w' ⟨rfl, rfl⟩)
    go_region_with (go_at_call 57; refine (fail_any ((h.alloc _).alloc _).drew _ _).mono ?_; rintro e w' ⟨rfl, hw, hf⟩)
    go_wp2
    go_ret
    exact ⟨rfl, hw, (Fr.two hB _ _).trans hf⟩
  · rw [hc, ha]
    clear hc ha
    go_enter Tryz.func126, Tryz.ntmps126
    go_wp2_with (go_at_call 151; refine (full_any ((h.alloc _).alloc _) hn).mono ?_; rintro e w' ⟨rfl, rfl⟩)
    go_region_with (go_at_call 57; refine (fail_any ((h.alloc _).alloc _).drew _ _).mono ?_; rintro e w' ⟨rfl, hw, hf⟩)
    go_wp2
    go_ret
    exact ⟨rfl, hw, (Fr.two hB _ _).trans hf⟩

set_option maxHeartbeats 1000000 in
theorem fits_ok (h : Rd w B s p) (hn : p.atoms.length ≤ 24) (g : Hung) (a : Atm) (hm : ¬ (g.mark = 58 ∧ a.aro = false)) (hu : full p = false) :
    Calls Tryz.prog 126 #[.pointer (some ⟨B, 0, none⟩), hungV g, atmV a] w fun e w' => e = .returned (.bool true) ∧ Rd w' B s p ∧ Fr B w w' := by
  have hB := h.lt
  have hc : (g.mark == 58) = false ∨ (g.mark = 58 ∧ a.aro = true) := by
    by_cases e : g.mark = 58
    · exact .inr ⟨e, by cases ha : a.aro <;> simp_all⟩
    · exact .inl (by simpa using e)
  clear hm
  unfold hungV atmV
  rcases hc with hc | ⟨hc, ha⟩
  · go_enter Tryz.func126, Tryz.ntmps126
    go_wp2_with (go_at_call 151; refine (full_any ((h.alloc _).alloc _) hn).mono ?_; rintro e w' ⟨rfl, rfl⟩)
    go_ret
    exact ⟨rfl, (h.alloc _).alloc _, ((Fr.refl B w).alloc hB _).alloc (by simp; omega) _⟩
  · rw [hc, ha]
    clear hc ha
    go_enter Tryz.func126, Tryz.ntmps126
    go_wp2_with (go_at_call 151; refine (full_any ((h.alloc _).alloc _) hn).mono ?_; rintro e w' ⟨rfl, rfl⟩)
    go_ret
    exact ⟨rfl, (h.alloc _).alloc _, ((Fr.refl B w).alloc hB _).alloc (by simp; omega) _⟩

set_option maxHeartbeats 1000000 in
theorem name_ok (h : Rd w B s p) (hs : s.size ≤ 160) (hp : p.pos ≤ s.size) (L : Nat) (a : Atm) (hb : Bx w L a) (hm : ¬ Mine w B L) (x : ByteArray × Bool × Nat) (hx : element s p.pos = some x) :
    Calls Tryz.prog 125 #[.pointer (some ⟨B, 0, none⟩), .pointer (some ⟨L, 0, none⟩)] w fun e w' =>
      e = .returned (.bool true) ∧ Rd w' B s { p with pos := p.pos + x.2.2 } ∧ Bx w' L { a with el := x.1, aro := x.2.1 } ∧ ¬ Mine w' B L ∧ FrX B L w w' := by
  have HE := elem_any h hs hp
  unfold ElemPost at HE
  rw [hx] at HE
  simp only at HE
  have hLB := Rd.ne_of_notMine hm
  go_enter Tryz.func125, Tryz.ntmps125
  go_wp2_with fail
  refine HE.mono ?_
  rintro e w1 ⟨⟨rfl, hr⟩, hf⟩
  have hb1 := hb.fr hf hm
  have hm1 := hf.notMine hb.lt hm
  have c0 := hb1.c0
  have c1 := hb1.c1
  have f0 := hb1.fz 0
  have f1 := hb1.fz 1
  have hx1 := (hb1.setEl x.1).setAro x.2.1
  go_wp2_with fail
  go_ret
  refine ⟨rfl, (hr.setOther hm1 _).setOther ?_ _, hx1, ?_, ((hf.x L).set hLB _ _).set hLB _ _⟩
  · exact fun e => hm1 ((Mine.same (Below.heap_setCell _ _ _ _ (by simpa using fun e => hLB e.symm))).1 e)
  · exact (((hf.x L).set hLB _ _).set hLB _ _).notMine hb.lt hm

def noName (a : Atm) (p : St) : Int × Int := if a.br && full p then (5, a.pl) else (2, p.pos)

set_option maxHeartbeats 1000000 in
theorem name_no (h : Rd w B s p) (hs : s.size ≤ 160) (hp : p.pos ≤ s.size) (hn : p.atoms.length ≤ 24) (L : Nat) (a : Atm) (hb : Bx w L a) (hm : ¬ Mine w B L) (hx : element s p.pos = none) :
    Calls Tryz.prog 125 #[.pointer (some ⟨B, 0, none⟩), .pointer (some ⟨L, 0, none⟩)] w fun e w' =>
      e = .returned (.bool false) ∧ Wrong w' B (noName a p) ∧ FrX B L w w' := by
  have HE := elem_any h hs hp
  unfold ElemPost at HE
  rw [hx] at HE
  simp only at HE
  have hLB := Rd.ne_of_notMine hm
  go_enter Tryz.func125, Tryz.ntmps125
  go_wp2_with fail
  refine HE.mono ?_
  rintro e w1 ⟨⟨rfl, hr⟩, hf⟩
  have hb1 := hb.fr hf hm
  have hm1 := hf.notMine hb.lt hm
  have hx1 := (hb1.setEl ⟨#[]⟩).setAro false
  have hr1 := (hr.setOther hm1 (q := ⟨L, 0, none⟩) (.string ⟨#[]⟩)).setOther (q := ⟨L, 1, none⟩) (fun e => hm1 ((Mine.same (Below.heap_setCell _ _ _ _ (by simpa using fun e => hLB e.symm))).1 e)) (.bool false)
  have hfx := ((hf.x L).set hLB 0 (.string ⟨#[]⟩)).set hLB 1 (.bool false)
  have c0 := hb1.c0
  have c1 := hb1.c1
  have f0 := hb1.fz 0
  have f1 := hb1.fz 1
  have c4 := hx1.c4
  have c5 := hx1.c5
  have hps := hr1.pos
  simp only at c5 c4
  cases hbr : a.br
  · rw [hbr] at c5
    have hno : Hid (noName a p = ((2 : Int), (p.pos : Int))) := by unfold Hid; simp [noName, hbr]
    clear hbr
    go_wp2_with fail
    go_region_with (go_at_call 57; refine (fail_any hr1.drew _ _).mono ?_; rintro e w' ⟨rfl, hw, hf2⟩)
    go_wp2
    go_ret
    exact ⟨rfl, by rw [hno.out]; exact hw, (hfx.trans ((Fr.refl B _).drew.x L)).trans (hf2.x L)⟩
  · rw [hbr] at c5
    have hfull := full_any hr1 hn
    cases hfu : full p
    · rw [hfu] at hfull
      have hno : Hid (noName a p = ((2 : Int), (p.pos : Int))) := by unfold Hid; simp [noName, hfu]
      clear hbr hfu
      go_wp2_with (go_at_call 151; refine hfull.mono ?_; rintro e w' ⟨rfl, rfl⟩)
      go_region_with (go_at_call 57; refine (fail_any hr1.drew _ _).mono ?_; rintro e w' ⟨rfl, hw, hf2⟩)
      go_wp2
      go_ret
      exact ⟨rfl, by rw [hno.out]; exact hw, (hfx.trans ((Fr.refl B _).drew.x L)).trans (hf2.x L)⟩
    · rw [hfu] at hfull
      have hno : Hid (noName a p = ((5 : Int), (a.pl : Int))) := by unfold Hid; simp [noName, hbr, hfu]
      clear hbr hfu
      go_wp2_with (go_at_call 151; refine hfull.mono ?_; rintro e w' ⟨rfl, rfl⟩)
      go_region_with (go_at_call 57; refine (fail_any hr1.drew _ _).mono ?_; rintro e w' ⟨rfl, hw, hf2⟩)
      go_wp2
      go_ret
      exact ⟨rfl, by rw [hno.out]; exact hw, (hfx.trans ((Fr.refl B _).drew.x L)).trans (hf2.x L)⟩
end
end Go.Proofs.YtcabaecbmkgclaaGreatDoor

namespace Go.Proofs.YtcabaecbmkgclaaGreatDoor
open Go.RowKit Bz

theorem Tryz.infoMAtom : (Tryz.prog.info? 124).map (fun i => (i.zero, i.size, i.bytes)) = some (some (.agg #[.string ⟨#[]⟩, .bool false, .int .i64 0, .int .i64 0, .int .i64 0, .bool false]), 6, 56) := by kernel_rfl
theorem Tryz.infoMBond : (Tryz.prog.info? 102).map (fun i => (i.zero, i.size, i.bytes)) = some (some (.agg #[.int .i64 0, .int .i64 0, .int .i64 0, .int .i64 0]), 4, 32) := by kernel_rfl
theorem Tryz.infoBond : (Tryz.prog.info? 46).map (fun i => (i.zero, i.size, i.bytes)) = some (some (.agg #[.int .i64 0, .int .i64 0, .int .i64 0]), 3, 24) := by kernel_rfl

section
variable {w : World} {B : Nat} {s : ByteArray} {p : St}

theorem ownBlock_ne {w : World} {b1 b2 : Nat} {e1 e2 : TypeId} {s1 s2 : Nat} {v1 v2 : Value} {n1 n2 : Nat} {x1 x2 : List Value} (h1 : w.ownsRow b1 e1 s1 v1 n1 x1) (h2 : w.ownsRow b2 e2 s2 v2 n2 x2) (he : e1 ≠ e2) (k : Nat) (hk : v1.ownBlock = some k) : v2.ownBlock ≠ some k := by
  intro hk2
  rcases h1.2 with ⟨rfl, _⟩ | ⟨g, cap, cur, rfl, _, hg, _⟩
  · simp [Value.ownBlock] at hk
  rcases h2.2 with ⟨rfl, _⟩ | ⟨g', cap', cur', rfl, _, hg', _⟩
  · simp [Value.ownBlock] at hk2
  simp [Value.ownBlock] at hk hk2
  subst hk hk2
  rw [hg] at hg'
  simp at hg'
  exact he hg'.2

theorem Rd.atomAdded {w2 : World} (h : Rd w B s p) {av : Value} (hav : w.cell? ⟨B, 26, none⟩ = some av) (a : Atm) (v' : Value)
    (hown : w2.ownsRow (B + 1) 124 6 v' (p.atoms.length + 1) (p.atoms.flatMap atmCells ++ atmCells a)) (hg : w.grownBy w2 av.ownBlock)
    (hv : ∀ k, v'.ownBlock = some k → av.ownBlock = some k ∨ w.heap.size ≤ k) :
    Rd (w2.setCell ⟨B, 26, none⟩ v') B s { p with atoms := p.atoms ++ [a] } ∧ Fr B w (w2.setCell ⟨B, 26, none⟩ v') := by
  obtain ⟨va, ha, oa⟩ := h.atoms
  obtain ⟨vb, hb, ob⟩ := h.bonds
  rw [hav] at ha
  cases ha
  have hB : w2.heap[B]? = w.heap[B]? := hg.block B h.lt (fun e => by have := (oa.lt B e.symm).1; omega)
  have hc : ∀ i, w2.cell? ⟨B, i, none⟩ = w.cell? ⟨B, i, none⟩ := fun i => World.cell?_of_block (w := w) hB
  have hf : ∀ i, w2.frozen? ⟨B, i, none⟩ = w.frozen? ⟨B, i, none⟩ := fun i => World.frozen?_of_block (w := w) hB
  have ob2 : w2.ownsRow (B + 1) 102 4 vb p.bonds.length (p.bonds.flatMap pbCells) :=
    ownsRow_same ob fun k hk => hg.block k (ob.lt k hk).2 (fun e => ownBlock_ne ob oa (by decide) k hk e.symm)
  have h26 : (w2.setCell ⟨B, 26, none⟩ v').cell? ⟨B, 26, none⟩ = some v' := World.cell?_setCell_same w2 _ _ (by rw [hc]; exact hav)
  refine ⟨⟨by rw [cell_set_ne (by omega), hc]; exact h.text, by rw [cell_set_ne (by omega), hc]; exact h.pos, fun k hk => by rw [cell_set_ne (by omega), hc]; exact h.near k hk,
    ⟨v', h26, ?_⟩, ⟨vb, by rw [cell_set_ne (by omega), hc]; exact hb, ownsRow_setB ob2 _ _⟩,
    by rw [cell_set_ne (by omega), hc]; exact h.err, by rw [cell_set_ne (by omega), hc]; exact h.plc, fun n j v hn hv => by rw [cell_set_ne (by omega), hc]; exact h.rings n j v hn hv,
    fun i => by rw [World.frozen?_setCell, hf]; exact h.free i⟩, ⟨hg.os, hg.tape, hg.output, by simpa using hg.size, ?_, ?_⟩⟩
  · have := ownsRow_setB hown 26 v'
    simpa using this
  · intro k hk hm
    rw [Below.heap_setCell w2 _ _ k (by rintro rfl; exact hm (.inl rfl))]
    exact hg.block k hk (fun e => hm (.inr (.inl ⟨av, hav, e.symm⟩)))
  · intro k hk hm
    rcases hm with rfl | ⟨v, hv1, hv2⟩ | ⟨v, hv1, hv2⟩
    · exact .inl rfl
    · rw [h26] at hv1
      cases hv1
      rcases hv k hv2 with e | e
      · exact .inr (.inl ⟨av, hav, e⟩)
      · omega
    · rw [cell_set_ne (by omega), hc] at hv1
      exact .inr (.inr ⟨v, hv1, hv2⟩)

theorem Rd.atomCell {w2 : World} (h : Rd w B s p) {av : Value} (hav : w.cell? ⟨B, 26, none⟩ = some av) (hg : w.grownBy w2 av.ownBlock) : w2.cell? ⟨B, 26, none⟩ = some av ∧ w2.frozen? ⟨B, 26, none⟩ = false := by
  obtain ⟨va, ha, oa⟩ := h.atoms
  rw [hav] at ha
  cases ha
  have hB : w2.heap[B]? = w.heap[B]? := hg.block B h.lt (fun e => by have := (oa.lt B e.symm).1; omega)
  exact ⟨by rw [World.cell?_of_block (w := w) hB]; exact hav, by rw [World.frozen?_of_block (w := w) hB]; exact h.free 26⟩

theorem cells6 (w : World) (a : Atm) (t : TypeId) : ∀ j u, (atmCells a)[j]? = some u → (w.alloc (.cells #[.string a.el, .bool a.aro, .int .i64 a.ch, .int .i64 a.hy, .int .i64 a.pl, .bool a.br] t)).cell? ((⟨w.heap.size, 0, none⟩ : Addr).add j) = some u := by
  intro j u hj
  have hadd : (⟨w.heap.size, 0, none⟩ : Addr).add j = ⟨w.heap.size, j, none⟩ := by unfold Addr.add; split <;> simp_all
  rw [hadd, World.cell?_alloc_new]
  simpa [atmCells] using hj

set_option maxHeartbeats 1000000 in
theorem add_any (h : Rd w B s p) (a : Atm) (hn : p.atoms.length < 24) :
    Calls Tryz.prog 128 #[.pointer (some ⟨B, 2, none⟩), atmV a] w fun e w' => e = .returned (.int .i64 p.atoms.length) ∧ Rd w' B s { p with atoms := p.atoms ++ [a] } ∧ Fr B w w' := by
  have hB := h.lt
  obtain ⟨av, hav, oa⟩ := h.atoms
  obtain ⟨i0, hi, hz0, hz1, hz2⟩ := info_parts Tryz.infoMAtom
  have hnews : ∀ (o : Obj) (t : TypeId), ∀ j u, (atmCells a)[j]? = some u → (((w.alloc o).alloc (.cells #[.string a.el, .bool a.aro, .int .i64 a.ch, .int .i64 a.hy, .int .i64 a.pl, .bool a.br] t)).drew).cell? ((⟨w.heap.size + 1, 0, none⟩ : Addr).add j) = some u := by
    intro o t j u hj
    have := cells6 (w.alloc o) a t j u hj
    simpa using this
  have hav2 : Hid (∀ o o' : Obj, (((w.alloc o).alloc o').drew).cell? ⟨B, 26, none⟩ = some av) := by
    intro o o'
    rw [World.cell?_drew, World.cell?_alloc_lt _ _ _ (by simp; omega), World.cell?_alloc_lt _ _ _ (by simpa using hB)]
    exact hav
  have h1c : ∀ u ∈ atmCells a, u.oneCell' = true := by
    intro u hu
    simp [atmCells] at hu
    rcases hu with rfl | rfl | rfl | rfl | rfl | rfl <;> rfl
  unfold atmV
  go_enter Tryz.func128, Tryz.ntmps128
  go_wp2_with fail
  go_region_law (refine step_append_mine rfl (.tmp 9) (.tmp 11) 66 rfl (B + 1) 124 i0 (.agg #[.string ⟨#[]⟩, .bool false, .int .i64 0, .int .i64 0, .int .i64 0, .bool false]) 6 56 Tryz.underlying66 hi hz0 hz1 hz2 rfl (by decide) av p.atoms.length (p.atoms.flatMap atmCells) rfl (by exact ((oa.alloc _).alloc _).drew) ⟨w.heap.size + 1, 0, none⟩ 1 1 (atmCells a) rfl rfl (by exact hnews _ _) h1c (by unfold maxLen; omega) (by omega) (by simp; omega) ?_; intro v' w2 ho hg hk; obtain ⟨ao, cap, hv'⟩ := ownsRow_shape ho; subst hv'; have X := (((h.alloc _).alloc _).drew).atomAdded (hav2.out _ _) a _ ho hg hk; obtain ⟨c26, f26⟩ := (((h.alloc _).alloc _).drew).atomCell (hav2.out _ _) hg)
  all_goals
    go_wp2_with fail
    go_ret
    exact ⟨ret_int (by omega), X.1, (Fr.two hB _ _).trans X.2⟩
end
end Go.Proofs.YtcabaecbmkgclaaGreatDoor

namespace Go.Proofs.YtcabaecbmkgclaaGreatDoor
open Go.RowKit

def marks (c : List Value) (n : Nat) : List Value := (List.replicate n c).flatten

theorem marks_len (c : List Value) (n : Nat) : (marks c n).length = n * c.length := by
  unfold marks; rw [List.length_flatten, List.map_replicate, List.sum_replicate_nat]

theorem marks_add (c : List Value) (n m : Nat) : marks c n ++ marks c m = marks c (n + m) := by
  unfold marks; rw [← List.flatten_append, List.replicate_append_replicate]

theorem marks_take (c : List Value) (n m : Nat) (h : n ≤ m) : (marks c m).take (n * c.length) = marks c n := by
  obtain ⟨d, rfl⟩ : ∃ d, m = n + d := ⟨m - n, by omega⟩
  rw [← marks_add, ← marks_len, List.take_left]

theorem marks_get (c : List Value) : ∀ (n i j : Nat), i < n → j < c.length → (marks c n)[i * c.length + j]? = c[j]?
  | 0, _, _, h, _ => absurd h (Nat.not_lt_zero _)
  | n + 1, i, j, hi, hj => by
    have e : marks c (n + 1) = c ++ marks c n := by rw [Nat.add_comm, ← marks_add]; simp [marks]
    rw [e]
    cases i with
    | zero => rw [Nat.zero_mul, Nat.zero_add, List.getElem?_append_left hj]
    | succ i =>
      rw [List.getElem?_append_right (by rw [Nat.succ_mul]; omega), show (i + 1) * c.length + j - c.length = i * c.length + j by rw [Nat.succ_mul]; omega]
      exact marks_get c n i j (by omega) hj

theorem marks_one {c : List Value} (h : ∀ u ∈ c, u.oneCell' = true) (n : Nat) : ∀ u ∈ marks c n, u.oneCell' = true := by
  intro u hu
  unfold marks at hu
  obtain ⟨l, hl, hu⟩ := List.mem_flatten.1 hu
  rw [(List.mem_replicate.1 hl).2] at hu
  exact h u hu

theorem ownsRow_pre {w : World} {base : Nat} {e : TypeId} {size g n n' cap : Nat} {xs' : List Value} (h : w.ownsRow base e size (.slice (some ⟨g, 0, none⟩) n' cap) n' xs') (hn : n ≤ n') : w.ownsRow base e size (.slice (some ⟨g, 0, none⟩) n cap) n (xs'.take (n * size)) := by
  have hm : n * size ≤ n' * size := Nat.mul_le_mul_right _ hn
  rcases h.2 with ⟨h0, _⟩ | ⟨g', cap', cur, hv, hb, hg, hnc, hcm, hcs, ht⟩
  · cases h0
  · cases hv
    refine ⟨by rw [List.length_take, h.1]; omega, .inr ⟨g, cap, cur, rfl, hb, hg, by omega, hcm, hcs, ?_⟩⟩
    rw [← ht, List.take_take, Nat.min_eq_left hm]

/-- What an append of marks leaves: the longer list, all that shared its row, all else. -/
structure Marked (w w' : World) (base : Nat) (e : TypeId) (size : Nat) (c : List Value) (v v' : Value) (n : Nat) : Prop where
  own : w'.ownsRow base e size v' n (marks c n)
  old : ∀ b v2 n2, n2 ≤ n → w.ownsRow b e size v2 n2 (marks c n2) → w'.ownsRow b e size v2 n2 (marks c n2)
  grown : w.grownBy w' v.ownBlock
  loc : ∀ k, v'.ownBlock = some k → v.ownBlock = some k ∨ w.heap.size ≤ k

section
variable {P : Program} (w : World)

theorem run_append_marks (base : Nat) (t ty e : TypeId) (i : TypeInfo) (z : Value) (size bytes : Nat) (ht : P.underlying t = some (.slice e)) (hi : P.info? e = some i) (hz : i.zero = some z)
    (hsize : i.size = size) (hby : i.bytes = bytes) (hzs : z.cells.size = size) (hsz : 0 < size)
    (c : List Value) (hc : c.length = size) (hc1 : ∀ u ∈ c, u.oneCell' = true)
    (v : Value) (n : Nat) (hown : w.ownsRow base e size v n (marks c n))
    (a : Addr) (m cp : Nat) (hnews : ∀ j u, (marks c m)[j]? = some u → w.cell? (a.add j) = some u)
    (h63 : n + m ≤ maxLen) (hbytes : (n + m) * bytes ≤ 140737488355328) (hbase : base ≤ w.heap.size) :
    ∃ v' w', (Builtin.append_ #[t, t] ty #[v, .slice (some a) m cp]).run P w = .ok v' w' ∧ Marked w w' base e size c v v' (n + m) := by
  have hl : (marks c m).length = m * size := by rw [marks_len, hc]
  have h1 := marks_one hc1 m
  have keeps : ∀ w', w.grownBy w' none → ∀ b v2 n2, w.ownsRow b e size v2 n2 (marks c n2) → w'.ownsRow b e size v2 n2 (marks c n2) := fun w' hg b v2 n2 h => h.kept hg (by cases hv : v2.ownBlock <;> simp)
  rcases hown.2 with ⟨rfl, rfl⟩ | ⟨g, cap, cur, rfl, hbg, hg, hnc, hcm, hcs, htake⟩
  · obtain ⟨v', w', hr, ho, hgr, _⟩ := run_append_own (P := P) w w.heap.size t ty e i z size bytes ht hi hz hsize hby hzs hsz (.slice none 0 0) 0 [] (World.ownsRow_nil w _ e size) a m cp _ hl hnews h1 h63 hbytes (Nat.le_refl _)
    rw [List.nil_append] at ho
    exact ⟨v', w', hr, by rw [show 0 + m = m by omega] at ho ⊢; exact ownsRow_mono ho hbase, fun b v2 n2 _ h => keeps w' hgr b v2 n2 h, hgr, fun k hk => .inr (ho.lt k hk).1⟩
  · by_cases hroom : n + m ≤ cap
    · obtain ⟨w', hr, ho, hgr⟩ := run_append_fits (P := P) w base t ty e i size ht hi hsize g n cap _ hown a m cp _ hl hnews h1 hroom
      rw [marks_add] at ho
      refine ⟨_, w', hr, ho, ?_, hgr, fun k hk => .inl (by simpa [Value.ownBlock] using hk)⟩
      intro b v2 n2 hn2 h2
      by_cases hb : v2.ownBlock = some g
      · rcases h2.2 with ⟨rfl, _⟩ | ⟨g2, cap2, cur2, rfl, hbg2, hg2, hnc2, hcm2, hcs2, _⟩
        · cases hb
        · simp only [Value.ownBlock, Option.some.injEq] at hb
          subst hb
          rw [hg] at hg2
          simp only [Option.some.injEq, Obj.cells.injEq, and_true] at hg2
          subst hg2
          have ec : cap2 = cap := Nat.eq_of_mul_eq_mul_right hsz (hcs2.symm.trans hcs)
          subst ec
          have hp := ownsRow_pre ho hn2
          rw [← hc, marks_take c n2 _ hn2, hc] at hp
          rcases hp.2 with ⟨h0, _⟩ | ⟨g', cap', cur', hv', _, r⟩
          · cases h0
          · cases hv'
            exact ⟨hp.1, .inr ⟨g2, cap2, cur', rfl, hbg2, r⟩⟩
      · exact h2.kept hgr (.inr hb)
    · obtain ⟨v', w', hr, ho, hgr⟩ := run_append_arg_grows (P := P) w t ty e i z size bytes ht hi hz hsize hby hzs hsz ⟨g, 0, none⟩ n cap _ hown.1 (hown.cells rfl) a m cp _ hl hnews (by omega) h63 hbytes
      rw [marks_add] at ho
      exact ⟨v', w', hr, ownsRow_mono ho hbase, fun b v2 n2 _ h => keeps w' hgr b v2 n2 h, grownBy_weaken hgr, fun k hk => .inr (ho.lt k hk).1⟩
end

theorem wpList_append_marks {P : Program} {w : World} {ops : Array Oper} {rest : List Oper} {o : Oper} {a : Act} {Q : Exit → Act → World → Prop} (hgd : o.guard = none) (s x : Operand) (t : TypeId)
    (ho : o.op = .call { callee := .builtin .append, args := #[s, x], argTypes := #[t, t] })
    (base : Nat) (e : TypeId) (i : TypeInfo) (z : Value) (size bytes : Nat) (ht : P.underlying t = some (.slice e)) (hi : P.info? e = some i) (hz : i.zero = some z)
    (hsize : i.size = size) (hby : i.bytes = bytes) (hzs : z.cells.size = size) (hsz : 0 < size)
    (c : List Value) (hc : c.length = size) (hc1 : ∀ u ∈ c, u.oneCell' = true)
    (v : Value) (n : Nat) (hs : a.eval s = v) (hown : w.ownsRow base e size v n (marks c n))
    (ad : Addr) (m cp : Nat) (hx : a.eval x = .slice (some ad) m cp) (hnews : ∀ j u, (marks c m)[j]? = some u → w.cell? (ad.add j) = some u)
    (h63 : n + m ≤ maxLen) (hbytes : (n + m) * bytes ≤ 140737488355328) (hbase : base ≤ w.heap.size)
    (h : ∀ v' w', Marked w w' base e size c v v' (n + m) → wpList P ops Q rest (a.put o.dst v') w') : wpList P ops Q (o :: rest) a w := by
  refine wpList_plain hgd fun K hK => ?_
  obtain ⟨v', w', hr, h2⟩ := run_append_marks (P := P) w base t o.type e i z size bytes ht hi hz hsize hby hzs hsz c hc hc1 v n hown ad m cp hnews h63 hbytes hbase
  unfold Oper.wp execOp
  simp only [ho, resolve, invoke, builtin, Sem.run_bind, Sem.run_pure, Result.andThen_ok, List.map_toArray, List.map_cons, List.map_nil, hs, hx, hr]
  exact hK _ _ (h v' w' h2)

end Go.Proofs.YtcabaecbmkgclaaGreatDoor

namespace Go.Proofs.YtcabaecbmkgclaaGreatDoor
open Go.RowKit

structure Sl where
  va : Value
  vb : Value
  vp : Value
  vn : Value
  m : Int
  al : List (Value × Nat)
  bl : List (Value × Nat)
  pl : List (Value × Nat)
  nl : List (Value × Nat)

def slCells (x : Sl) : List Value := [x.va, x.vb, x.vp, x.vn, .int .i64 x.m]
theorem slCells_len (x : Sl) : (slCells x).length = 5 := rfl
def atomMark (m : Int) : List Value := [.string ⟨#[]⟩, .bool false, .int .i64 m, .int .i64 0]
def bondMark (m : Int) : List Value := [.int .i64 m, .int .i64 0, .int .i64 0]
def pairMark (m : Int) : List Value := [.int .i64 m, .int .i64 0]
def intMark (m : Int) : List Value := [.int .i64 m]

/-- A list of lists, each full of a mark. -/
structure Full (w : World) (tr te : TypeId) (c : List Value) (v : Value) (l : List (Value × Nat)) : Prop where
  row : w.ownsRow 0 tr 1 v l.length (l.map (·.1))
  few : l.length ≤ 4
  each : ∀ y ∈ l, y.2 ≤ 1000 ∧ w.ownsRow 0 te c.length y.1 y.2 (marks c y.2)

/-- The blocks in which they lie. -/
def fullHas (v : Value) (l : List (Value × Nat)) (k : Nat) : Prop := v.ownBlock = some k ∨ ∃ y ∈ l, y.1.ownBlock = some k

theorem Full.same {w w' : World} {tr te : TypeId} {c : List Value} {v : Value} {l : List (Value × Nat)} (h : Full w tr te c v l) (hs : ∀ k, fullHas v l k → w'.heap[k]? = w.heap[k]?) : Full w' tr te c v l :=
  ⟨ownsRow_same h.row fun k hk => hs k (.inl hk), h.few, fun y hy => ⟨(h.each y hy).1, ownsRow_same (h.each y hy).2 fun k hk => hs k (.inr ⟨y, hy, hk⟩)⟩⟩

theorem Full.lt {w : World} {tr te : TypeId} {c : List Value} {v : Value} {l : List (Value × Nat)} (h : Full w tr te c v l) {k : Nat} (hk : fullHas v l k) : k < w.heap.size := by
  rcases hk with hk | ⟨y, hy, hk⟩
  · exact (h.row.lt k hk).2
  · exact ((h.each y hy).2.lt k hk).2

theorem ownsRow_type {w : World} {base : Nat} {e : TypeId} {size : Nat} {v : Value} {n : Nat} {xs : List Value} (h : w.ownsRow base e size v n xs) {k : Nat} (hk : v.ownBlock = some k) : ∃ cur, w.heap[k]? = some (.cells cur e (0, 0)) := by
  rcases h.2 with ⟨rfl, _⟩ | ⟨g, cap, cur, rfl, _, hg, _⟩
  · cases hk
  · simp only [Value.ownBlock, Option.some.injEq] at hk
    subst hk
    exact ⟨cur, hg⟩

theorem Full.type {w : World} {tr te : TypeId} {c : List Value} {v : Value} {l : List (Value × Nat)} (h : Full w tr te c v l) {k : Nat} (hk : fullHas v l k) : ∃ cur e, w.heap[k]? = some (.cells cur e (0, 0)) ∧ (e = tr ∨ e = te) := by
  rcases hk with hk | ⟨y, hy, hk⟩
  · obtain ⟨cur, hc⟩ := ownsRow_type h.row hk; exact ⟨cur, _, hc, .inl rfl⟩
  · obtain ⟨cur, hc⟩ := ownsRow_type (h.each y hy).2 hk; exact ⟨cur, _, hc, .inr rfl⟩

theorem full_nil (w : World) (tr te : TypeId) (c : List Value) : Full w tr te c (.slice none 0 0) [] := ⟨World.ownsRow_nil _ _ _ _, by simp, by intro y hy; cases hy⟩

def Sl.has (x : Sl) (k : Nat) : Prop := fullHas x.va x.al k ∨ fullHas x.vb x.bl k ∨ fullHas x.vp x.pl k ∨ fullHas x.vn x.nl k

structure SlOk (w : World) (x : Sl) : Prop where
  a : Full w 36 50 (atomMark x.m) x.va x.al
  b : Full w 37 46 (bondMark x.m) x.vb x.bl
  p : Full w 29 48 (pairMark x.m) x.vp x.pl
  n : Full w 25 3 (intMark x.m) x.vn x.nl

theorem SlOk.same {w w' : World} {x : Sl} (h : SlOk w x) (hs : ∀ k, x.has k → w'.heap[k]? = w.heap[k]?) : SlOk w' x :=
  ⟨h.a.same fun k hk => hs k (.inl hk), h.b.same fun k hk => hs k (.inr (.inl hk)), h.p.same fun k hk => hs k (.inr (.inr (.inl hk))), h.n.same fun k hk => hs k (.inr (.inr (.inr hk)))⟩

theorem SlOk.lt {w : World} {x : Sl} (h : SlOk w x) {k : Nat} (hk : x.has k) : k < w.heap.size := by
  rcases hk with hk | hk | hk | hk
  · exact h.a.lt hk
  · exact h.b.lt hk
  · exact h.p.lt hk
  · exact h.n.lt hk

theorem SlOk.below {w w' : World} {x : Sl} (h : SlOk w x) (hb : Below w.heap.size w w') : SlOk w' x := h.same fun k hk => hb.block k (h.lt hk)

/-- What lies in a slip's blocks is no slip and no book. -/
theorem SlOk.type {w : World} {x : Sl} (h : SlOk w x) {k : Nat} (hk : x.has k) : ∃ cur e, w.heap[k]? = some (.cells cur e (0, 0)) ∧ e ≠ 84 ∧ e ≠ 58 := by
  rcases hk with hk | hk | hk | hk
  · obtain ⟨cur, e, hc, he⟩ := h.a.type hk; exact ⟨cur, e, hc, by rcases he with rfl | rfl <;> decide⟩
  · obtain ⟨cur, e, hc, he⟩ := h.b.type hk; exact ⟨cur, e, hc, by rcases he with rfl | rfl <;> decide⟩
  · obtain ⟨cur, e, hc, he⟩ := h.p.type hk; exact ⟨cur, e, hc, by rcases he with rfl | rfl <;> decide⟩
  · obtain ⟨cur, e, hc, he⟩ := h.n.type hk; exact ⟨cur, e, hc, by rcases he with rfl | rfl <;> decide⟩

/-- The slip in its box. -/
structure SlBox (w : World) (b : Nat) (x : Sl) : Prop where
  c0 : w.cell? ⟨b, 0, none⟩ = some x.va
  c1 : w.cell? ⟨b, 1, none⟩ = some x.vb
  c2 : w.cell? ⟨b, 2, none⟩ = some x.vp
  c3 : w.cell? ⟨b, 3, none⟩ = some x.vn
  c4 : w.cell? ⟨b, 4, none⟩ = some (.int .i64 x.m)
  ok : SlOk w x

theorem SlBox.drewN {w : World} {b : Nat} {x : Sl} (h : SlBox w b x) (n : Nat) : SlBox (w.drewN n) b x := ⟨h.c0, h.c1, h.c2, h.c3, h.c4, h.ok.same fun _ _ => rfl⟩

theorem markAt {w : World} {base : Nat} {e : TypeId} {c : List Value} {v : Value} {n : Nat} (h : w.ownsRow base e c.length v n (marks c n)) {i : Nat} (hi : i < n) :
    ∃ g cap, v = .slice (some ⟨g, 0, none⟩) n cap ∧ g < w.heap.size ∧ ∀ j, j < c.length → w.cell? ⟨g, i * c.length + j, none⟩ = c[j]? := by
  obtain ⟨g, cap, rfl, h1, h2, h3, h4⟩ := ownsRow_at h (by omega)
  refine ⟨g, cap, rfl, h2, fun j hj => ?_⟩
  have : i * c.length + j < n * c.length := by
    have := Nat.mul_le_mul_right c.length (show i + 1 ≤ n by omega)
    rw [Nat.succ_mul] at this
    omega
  rw [h3 _ this, marks_get c n i j hi hj]

theorem rowAt {w : World} {base : Nat} {e : TypeId} {v : Value} {l : List (Value × Nat)} (h : w.ownsRow base e 1 v l.length (l.map (·.1))) {i : Nat} {y : Value × Nat} (hi : l[i]? = some y) :
    ∃ g cap, v = .slice (some ⟨g, 0, none⟩) l.length cap ∧ g < w.heap.size ∧ w.cell? ⟨g, i, none⟩ = some y.1 := by
  have hl := (List.getElem?_eq_some_iff.1 hi).1
  obtain ⟨g, cap, rfl, h1, h2, h3, h4⟩ := ownsRow_at h (by omega)
  refine ⟨g, cap, rfl, h2, ?_⟩
  rw [h3 i (by omega), List.getElem?_map, hi]
  rfl

section
set_option maxRecDepth 100000 in
set_option maxHeartbeats 4000000 in
theorem reads_any (w : World) (x : Sl) (h : SlOk w x) : Calls Tryz.prog 30 #[.agg #[x.va, x.vb, x.vp, x.vn, .int .i64 x.m]] w fun e w' => e = .returned (.bool true) ∧ Below w.heap.size w w' := by
  obtain ⟨va, vb, vp, vn, m, al, bl, pl, nl⟩ := x
  obtain ⟨ao, ac, hva⟩ := ownsRow_shape h.a.row
  obtain ⟨bo, bc, hvb⟩ := ownsRow_shape h.b.row
  obtain ⟨po, pc, hvp⟩ := ownsRow_shape h.p.row
  obtain ⟨no, nc, hvn⟩ := ownsRow_shape h.n.row
  simp only at hva hvb hvp hvn ⊢
  subst hva hvb hvp hvn
  have HB : Hid (SlBox (w.alloc (.cells #[.slice ao al.length ac, .slice bo bl.length bc, .slice po pl.length pc, .slice no nl.length nc, .int .i64 m] 84)) w.heap.size ⟨.slice ao al.length ac, .slice bo bl.length bc, .slice po pl.length pc, .slice no nl.length nc, m, al, bl, pl, nl⟩) :=
    ⟨by simp, by simp, by simp, by simp, by simp, h.below ((Below.refl _ w).alloc (Nat.le_refl _) _)⟩
  have HL : Hid (Below w.heap.size w (w.alloc (.cells #[.slice ao al.length ac, .slice bo bl.length bc, .slice po pl.length pc, .slice no nl.length nc, .int .i64 m] 84))) := (Below.refl _ w).alloc (Nat.le_refl _) _
  have hna := h.a.few
  have hnb := h.b.few
  have hnp := h.p.few
  have hnn := h.n.few
  simp only at hna hnb hnp hnn
  clear h
  go_enter Tryz.func30, Tryz.ntmps30
  go_wp2_with fail
  go_loopg [3] (al.length + 1) (fun k vi wr => ∃ i : Nat, i ≤ al.length ∧ al.length - i ≤ k ∧ vi = .int .i64 i ∧ SlBox wr w.heap.size ⟨.slice ao al.length ac, .slice bo bl.length bc, .slice po pl.length pc, .slice no nl.length nc, m, al, bl, pl, nl⟩ ∧ Below w.heap.size w wr)
  case atStart => exact ⟨0, by omega, by omega, rfl, HB.out, HL.out⟩
  case round =>
    obtain ⟨i, hi, hk, rfl, hb, hbl⟩ := hrel
    clear HB HL
    have HB : Hid (SlBox wr w.heap.size ⟨.slice ao al.length ac, .slice bo bl.length bc, .slice po pl.length pc, .slice no nl.length nc, m, al, bl, pl, nl⟩) := hb
    have HL : Hid (Below w.heap.size w wr) := hbl
    have c0 := hb.c0
    have c4 := hb.c4
    simp only at c0 c4
    clear hb hbl
    by_cases hlt : i < al.length
    · have gi := List.getElem?_eq_getElem hlt
      have hlt' : (i : Int) < (al.length : Int) := by omega
      have hin := List.mem_of_getElem? gi
      generalize al[i] = y at gi hin
      obtain ⟨yv, yn⟩ := y
      obtain ⟨hy1, hyo⟩ := HB.out.ok.a.each _ hin
      obtain ⟨yo, yc, hys⟩ := ownsRow_shape hyo
      simp only at hy1 hys
      subst hys
      obtain ⟨L, lc, hL, hLl, cL⟩ := rowAt HB.out.ok.a.row gi
      simp only [Value.slice.injEq] at hL
      obtain ⟨rfl, _, rfl⟩ := hL
      have HG : Hid (al[i]? = some (.slice yo yn yc, yn)) := gi
      have HIN : Hid ((.slice yo yn yc, yn) ∈ al) := hin
      clear hyo gi hin
      simp only at cL
      go_wp2_with fail
      go_loopg [4] (yn + 1) (fun k vi wr' => ∃ j : Nat, j ≤ yn ∧ yn - j ≤ k ∧ vi = .int .i64 j ∧ SlBox wr' w.heap.size ⟨.slice (some ⟨L, 0, none⟩) al.length ac, .slice bo bl.length bc, .slice po pl.length pc, .slice no nl.length nc, m, al, bl, pl, nl⟩ ∧ Below w.heap.size w wr')
      case atStart => exact ⟨0, by omega, by omega, rfl, HB.out, HL.out⟩
      case round =>
        obtain ⟨j, hj, hkk, rfl, hb, hbl⟩ := hrel
        clear HB HL cL c0 c4 hLl
        have HB : Hid (SlBox wr w.heap.size ⟨.slice (some ⟨L, 0, none⟩) al.length ac, .slice bo bl.length bc, .slice po pl.length pc, .slice no nl.length nc, m, al, bl, pl, nl⟩) := hb
        have HL : Hid (Below w.heap.size w wr) := hbl
        have c0 := hb.c0
        have c4 := hb.c4
        simp only at c0 c4
        obtain ⟨L', lc', hL, hLl, cL⟩ := rowAt hb.ok.a.row HG.out
        simp only [Value.slice.injEq, Option.some.injEq, Addr.mk.injEq, and_true, true_and] at hL cL
        obtain ⟨rfl, rfl⟩ := hL
        clear hb hbl
        by_cases hjt : j < yn
        · have hjt' : (j : Int) < (yn : Int) := by omega
          obtain ⟨g, cap, hg, hgl, cg⟩ := markAt (c := atomMark m) (HB.out.ok.a.each _ HIN.out).2 (i := j) hjt
          simp only [Value.slice.injEq] at hg
          obtain ⟨rfl, _, rfl⟩ := hg
          have g0 := cg 0 (by simp [atomMark])
          have g1 := cg 1 (by simp [atomMark])
          have g2 := cg 2 (by simp [atomMark])
          have g3 := cg 3 (by simp [atomMark])
          simp only [atomMark, List.length_cons, List.length_nil, Nat.add_zero, Nat.zero_add, List.getElem?_cons_zero, List.getElem?_cons_succ] at g0 g1 g2 g3
          clear cg
          have HB2 : Hid (∀ n, SlBox (wr.drewN n) w.heap.size ⟨.slice (some ⟨L, 0, none⟩) al.length ac, .slice bo bl.length bc, .slice po pl.length pc, .slice no nl.length nc, m, al, bl, pl, nl⟩) := fun n => HB.out.drewN n
          have HL2 : Hid (∀ n, Below w.heap.size w (wr.drewN n)) := fun n => below_drewN HL.out n
          go_wp2_with fail
          go_quiet (fail)
          go_wp2_with fail
          go_roundg (yn - (j + 1))
          case measure => omega
          case rel => exact ⟨j + 1, by omega, Nat.le_refl _, by go_num, HB2.out _, HL2.out _⟩
        · have hjt' : ¬ (j : Int) < (yn : Int) := by omega
          go_wp2_with fail
          go_roundg (al.length - (i + 1))
          case measure => omega
          case rel => exact ⟨i + 1, by omega, Nat.le_refl _, by go_num, HB.out, HL.out⟩
    · have hlt' : ¬ (i : Int) < (al.length : Int) := by omega
      clear hi hk
      go_wp2_with fail
      go_loopg [5] (bl.length + 1) (fun k vi wr => ∃ i : Nat, i ≤ bl.length ∧ bl.length - i ≤ k ∧ vi = .int .i64 i ∧ SlBox wr w.heap.size ⟨.slice ao al.length ac, .slice bo bl.length bc, .slice po pl.length pc, .slice no nl.length nc, m, al, bl, pl, nl⟩ ∧ Below w.heap.size w wr)
      case atStart => exact ⟨0, by omega, by omega, rfl, HB.out, HL.out⟩
      case round =>
        obtain ⟨i, hi, hk, rfl, hb, hbl⟩ := hrel
        clear HB HL
        have HB : Hid (SlBox wr w.heap.size ⟨.slice ao al.length ac, .slice bo bl.length bc, .slice po pl.length pc, .slice no nl.length nc, m, al, bl, pl, nl⟩) := hb
        have HL : Hid (Below w.heap.size w wr) := hbl
        have c0 := hb.c1
        have c4 := hb.c4
        simp only at c0 c4
        clear hb hbl
        by_cases hlt : i < bl.length
        · have gi := List.getElem?_eq_getElem hlt
          have hlt' : (i : Int) < (bl.length : Int) := by omega
          have hin := List.mem_of_getElem? gi
          generalize bl[i] = y at gi hin
          obtain ⟨yv, yn⟩ := y
          obtain ⟨hy1, hyo⟩ := HB.out.ok.b.each _ hin
          obtain ⟨yo, yc, hys⟩ := ownsRow_shape hyo
          simp only at hy1 hys
          subst hys
          obtain ⟨L, lc, hL, hLl, cL⟩ := rowAt HB.out.ok.b.row gi
          simp only [Value.slice.injEq] at hL
          obtain ⟨rfl, _, rfl⟩ := hL
          have HG : Hid (bl[i]? = some (.slice yo yn yc, yn)) := gi
          have HIN : Hid ((.slice yo yn yc, yn) ∈ bl) := hin
          clear hyo gi hin
          simp only at cL
          go_wp2_with fail
          go_loopg [6] (yn + 1) (fun k vi wr' => ∃ j : Nat, j ≤ yn ∧ yn - j ≤ k ∧ vi = .int .i64 j ∧ SlBox wr' w.heap.size ⟨.slice ao al.length ac, .slice (some ⟨L, 0, none⟩) bl.length bc, .slice po pl.length pc, .slice no nl.length nc, m, al, bl, pl, nl⟩ ∧ Below w.heap.size w wr')
          case atStart => exact ⟨0, by omega, by omega, rfl, HB.out, HL.out⟩
          case round =>
            obtain ⟨j, hj, hkk, rfl, hb, hbl⟩ := hrel
            clear HB HL cL c0 c4 hLl
            have HB : Hid (SlBox wr w.heap.size ⟨.slice ao al.length ac, .slice (some ⟨L, 0, none⟩) bl.length bc, .slice po pl.length pc, .slice no nl.length nc, m, al, bl, pl, nl⟩) := hb
            have HL : Hid (Below w.heap.size w wr) := hbl
            have c0 := hb.c1
            have c4 := hb.c4
            simp only at c0 c4
            obtain ⟨L', lc', hL, hLl, cL⟩ := rowAt hb.ok.b.row HG.out
            simp only [Value.slice.injEq, Option.some.injEq, Addr.mk.injEq, and_true, true_and] at hL cL
            obtain ⟨rfl, rfl⟩ := hL
            clear hb hbl
            by_cases hjt : j < yn
            · have hjt' : (j : Int) < (yn : Int) := by omega
              obtain ⟨g, cap, hg, hgl, cg⟩ := markAt (c := bondMark m) (HB.out.ok.b.each _ HIN.out).2 (i := j) hjt
              simp only [Value.slice.injEq] at hg
              obtain ⟨rfl, _, rfl⟩ := hg
              have g0 := cg 0 (by simp [bondMark])
              have g1 := cg 1 (by simp [bondMark])
              have g2 := cg 2 (by simp [bondMark])
              simp only [bondMark, List.length_cons, List.length_nil, Nat.add_zero, Nat.zero_add, List.getElem?_cons_zero, List.getElem?_cons_succ] at g0 g1 g2
              clear cg
              have HB2 : Hid (∀ n, SlBox (wr.drewN n) w.heap.size ⟨.slice ao al.length ac, .slice (some ⟨L, 0, none⟩) bl.length bc, .slice po pl.length pc, .slice no nl.length nc, m, al, bl, pl, nl⟩) := fun n => HB.out.drewN n
              have HL2 : Hid (∀ n, Below w.heap.size w (wr.drewN n)) := fun n => below_drewN HL.out n
              go_wp2_with fail
              go_quiet (fail)
              go_wp2_with fail
              go_roundg (yn - (j + 1))
              case measure => omega
              case rel => exact ⟨j + 1, by omega, Nat.le_refl _, by go_num, HB2.out _, HL2.out _⟩
            · have hjt' : ¬ (j : Int) < (yn : Int) := by omega
              go_wp2_with fail
              go_roundg (bl.length - (i + 1))
              case measure => omega
              case rel => exact ⟨i + 1, by omega, Nat.le_refl _, by go_num, HB.out, HL.out⟩
        · have hlt' : ¬ (i : Int) < (bl.length : Int) := by omega
          clear hi hk
          go_wp2_with fail
          go_loopg [7] (pl.length + 1) (fun k vi wr => ∃ i : Nat, i ≤ pl.length ∧ pl.length - i ≤ k ∧ vi = .int .i64 i ∧ SlBox wr w.heap.size ⟨.slice ao al.length ac, .slice bo bl.length bc, .slice po pl.length pc, .slice no nl.length nc, m, al, bl, pl, nl⟩ ∧ Below w.heap.size w wr)
          case atStart => exact ⟨0, by omega, by omega, rfl, HB.out, HL.out⟩
          case round =>
            obtain ⟨i, hi, hk, rfl, hb, hbl⟩ := hrel
            clear HB HL
            have HB : Hid (SlBox wr w.heap.size ⟨.slice ao al.length ac, .slice bo bl.length bc, .slice po pl.length pc, .slice no nl.length nc, m, al, bl, pl, nl⟩) := hb
            have HL : Hid (Below w.heap.size w wr) := hbl
            have c0 := hb.c2
            have c4 := hb.c4
            simp only at c0 c4
            clear hb hbl
            by_cases hlt : i < pl.length
            · have gi := List.getElem?_eq_getElem hlt
              have hlt' : (i : Int) < (pl.length : Int) := by omega
              have hin := List.mem_of_getElem? gi
              generalize pl[i] = y at gi hin
              obtain ⟨yv, yn⟩ := y
              obtain ⟨hy1, hyo⟩ := HB.out.ok.p.each _ hin
              obtain ⟨yo, yc, hys⟩ := ownsRow_shape hyo
              simp only at hy1 hys
              subst hys
              obtain ⟨L, lc, hL, hLl, cL⟩ := rowAt HB.out.ok.p.row gi
              simp only [Value.slice.injEq] at hL
              obtain ⟨rfl, _, rfl⟩ := hL
              have HG : Hid (pl[i]? = some (.slice yo yn yc, yn)) := gi
              have HIN : Hid ((.slice yo yn yc, yn) ∈ pl) := hin
              clear hyo gi hin
              simp only at cL
              go_wp2_with fail
              go_loopg [8] (yn + 1) (fun k vi wr' => ∃ j : Nat, j ≤ yn ∧ yn - j ≤ k ∧ vi = .int .i64 j ∧ SlBox wr' w.heap.size ⟨.slice ao al.length ac, .slice bo bl.length bc, .slice (some ⟨L, 0, none⟩) pl.length pc, .slice no nl.length nc, m, al, bl, pl, nl⟩ ∧ Below w.heap.size w wr')
              case atStart => exact ⟨0, by omega, by omega, rfl, HB.out, HL.out⟩
              case round =>
                obtain ⟨j, hj, hkk, rfl, hb, hbl⟩ := hrel
                clear HB HL cL c0 c4 hLl
                have HB : Hid (SlBox wr w.heap.size ⟨.slice ao al.length ac, .slice bo bl.length bc, .slice (some ⟨L, 0, none⟩) pl.length pc, .slice no nl.length nc, m, al, bl, pl, nl⟩) := hb
                have HL : Hid (Below w.heap.size w wr) := hbl
                have c0 := hb.c2
                have c4 := hb.c4
                simp only at c0 c4
                obtain ⟨L', lc', hL, hLl, cL⟩ := rowAt hb.ok.p.row HG.out
                simp only [Value.slice.injEq, Option.some.injEq, Addr.mk.injEq, and_true, true_and] at hL cL
                obtain ⟨rfl, rfl⟩ := hL
                clear hb hbl
                by_cases hjt : j < yn
                · have hjt' : (j : Int) < (yn : Int) := by omega
                  obtain ⟨g, cap, hg, hgl, cg⟩ := markAt (c := pairMark m) (HB.out.ok.p.each _ HIN.out).2 (i := j) hjt
                  simp only [Value.slice.injEq] at hg
                  obtain ⟨rfl, _, rfl⟩ := hg
                  have g0 := cg 0 (by simp [pairMark])
                  have g1 := cg 1 (by simp [pairMark])
                  simp only [pairMark, List.length_cons, List.length_nil, Nat.add_zero, Nat.zero_add, List.getElem?_cons_zero, List.getElem?_cons_succ] at g0 g1
                  clear cg
                  have HB2 : Hid (∀ n, SlBox (wr.drewN n) w.heap.size ⟨.slice ao al.length ac, .slice bo bl.length bc, .slice (some ⟨L, 0, none⟩) pl.length pc, .slice no nl.length nc, m, al, bl, pl, nl⟩) := fun n => HB.out.drewN n
                  have HL2 : Hid (∀ n, Below w.heap.size w (wr.drewN n)) := fun n => below_drewN HL.out n
                  go_wp2_with fail
                  go_quiet (fail)
                  go_wp2_with fail
                  go_roundg (yn - (j + 1))
                  case measure => omega
                  case rel => exact ⟨j + 1, by omega, Nat.le_refl _, by go_num, HB2.out _, HL2.out _⟩
                · have hjt' : ¬ (j : Int) < (yn : Int) := by omega
                  go_wp2_with fail
                  go_roundg (pl.length - (i + 1))
                  case measure => omega
                  case rel => exact ⟨i + 1, by omega, Nat.le_refl _, by go_num, HB.out, HL.out⟩
            · have hlt' : ¬ (i : Int) < (pl.length : Int) := by omega
              clear hi hk
              go_wp2_with fail
              go_loopg [9] (nl.length + 1) (fun k vi wr => ∃ i : Nat, i ≤ nl.length ∧ nl.length - i ≤ k ∧ vi = .int .i64 i ∧ SlBox wr w.heap.size ⟨.slice ao al.length ac, .slice bo bl.length bc, .slice po pl.length pc, .slice no nl.length nc, m, al, bl, pl, nl⟩ ∧ Below w.heap.size w wr)
              case atStart => exact ⟨0, by omega, by omega, rfl, HB.out, HL.out⟩
              case round =>
                obtain ⟨i, hi, hk, rfl, hb, hbl⟩ := hrel
                clear HB HL
                have HB : Hid (SlBox wr w.heap.size ⟨.slice ao al.length ac, .slice bo bl.length bc, .slice po pl.length pc, .slice no nl.length nc, m, al, bl, pl, nl⟩) := hb
                have HL : Hid (Below w.heap.size w wr) := hbl
                have c0 := hb.c3
                have c4 := hb.c4
                simp only at c0 c4
                clear hb hbl
                by_cases hlt : i < nl.length
                · have gi := List.getElem?_eq_getElem hlt
                  have hlt' : (i : Int) < (nl.length : Int) := by omega
                  have hin := List.mem_of_getElem? gi
                  generalize nl[i] = y at gi hin
                  obtain ⟨yv, yn⟩ := y
                  obtain ⟨hy1, hyo⟩ := HB.out.ok.n.each _ hin
                  obtain ⟨yo, yc, hys⟩ := ownsRow_shape hyo
                  simp only at hy1 hys
                  subst hys
                  obtain ⟨L, lc, hL, hLl, cL⟩ := rowAt HB.out.ok.n.row gi
                  simp only [Value.slice.injEq] at hL
                  obtain ⟨rfl, _, rfl⟩ := hL
                  have HG : Hid (nl[i]? = some (.slice yo yn yc, yn)) := gi
                  have HIN : Hid ((.slice yo yn yc, yn) ∈ nl) := hin
                  clear hyo gi hin
                  simp only at cL
                  go_wp2_with fail
                  go_loopg [10] (yn + 1) (fun k vi wr' => ∃ j : Nat, j ≤ yn ∧ yn - j ≤ k ∧ vi = .int .i64 j ∧ SlBox wr' w.heap.size ⟨.slice ao al.length ac, .slice bo bl.length bc, .slice po pl.length pc, .slice (some ⟨L, 0, none⟩) nl.length nc, m, al, bl, pl, nl⟩ ∧ Below w.heap.size w wr')
                  case atStart => exact ⟨0, by omega, by omega, rfl, HB.out, HL.out⟩
                  case round =>
                    obtain ⟨j, hj, hkk, rfl, hb, hbl⟩ := hrel
                    clear HB HL cL c0 c4 hLl
                    have HB : Hid (SlBox wr w.heap.size ⟨.slice ao al.length ac, .slice bo bl.length bc, .slice po pl.length pc, .slice (some ⟨L, 0, none⟩) nl.length nc, m, al, bl, pl, nl⟩) := hb
                    have HL : Hid (Below w.heap.size w wr) := hbl
                    have c0 := hb.c3
                    have c4 := hb.c4
                    simp only at c0 c4
                    obtain ⟨L', lc', hL, hLl, cL⟩ := rowAt hb.ok.n.row HG.out
                    simp only [Value.slice.injEq, Option.some.injEq, Addr.mk.injEq, and_true, true_and] at hL cL
                    obtain ⟨rfl, rfl⟩ := hL
                    clear hb hbl
                    by_cases hjt : j < yn
                    · have hjt' : (j : Int) < (yn : Int) := by omega
                      obtain ⟨g, cap, hg, hgl, cg⟩ := markAt (c := intMark m) (HB.out.ok.n.each _ HIN.out).2 (i := j) hjt
                      simp only [Value.slice.injEq] at hg
                      obtain ⟨rfl, _, rfl⟩ := hg
                      have g0 := cg 0 (by simp [intMark])
                      simp only [intMark, List.length_cons, List.length_nil, Nat.add_zero, Nat.zero_add, Nat.mul_one, List.getElem?_cons_zero] at g0
                      clear cg
                      have HB2 : Hid (∀ n, SlBox (wr.drewN n) w.heap.size ⟨.slice ao al.length ac, .slice bo bl.length bc, .slice po pl.length pc, .slice (some ⟨L, 0, none⟩) nl.length nc, m, al, bl, pl, nl⟩) := fun n => HB.out.drewN n
                      have HL2 : Hid (∀ n, Below w.heap.size w (wr.drewN n)) := fun n => below_drewN HL.out n
                      go_wp2_with fail
                      go_quiet (fail)
                      go_wp2_with fail
                      go_roundg (yn - (j + 1))
                      case measure => omega
                      case rel => exact ⟨j + 1, by omega, Nat.le_refl _, by go_num, HB2.out _, HL2.out _⟩
                    · have hjt' : ¬ (j : Int) < (yn : Int) := by omega
                      go_wp2_with fail
                      go_roundg (nl.length - (i + 1))
                      case measure => omega
                      case rel => exact ⟨i + 1, by omega, Nat.le_refl _, by go_num, HB.out, HL.out⟩
                · have hlt' : ¬ (i : Int) < (nl.length : Int) := by omega
                  clear hi hk
                  go_wp2_with fail
                  go_ret
                  exact ⟨rfl, HL.out⟩
end
end Go.Proofs.YtcabaecbmkgclaaGreatDoor

namespace Go.Proofs.YtcabaecbmkgclaaGreatDoor
open Go.RowKit

structure BookOk (N : Nat) (w : World) (B : Nat) (l : List Sl) : Prop where
  base : N ≤ B
  bk : ∃ v, w.heap[B]? = some (.cells #[v] 58 (0, 0)) ∧ w.ownsRow N 84 5 v l.length (l.flatMap slCells)
  ok : ∀ x ∈ l, SlOk w x

theorem cell_of_heap {w : World} {B : Nat} {v : Value} {t : TypeId} (h : w.heap[B]? = some (.cells #[v] t (0, 0))) : w.cell? ⟨B, 0, none⟩ = some v ∧ w.frozen? ⟨B, 0, none⟩ = false ∧ B < w.heap.size := by
  have hlt : B < w.heap.size := (Array.getElem?_eq_some_iff.1 h).1
  refine ⟨?_, ?_, hlt⟩
  · simp [World.cell?, h]
  · simp [World.frozen?, h]

theorem BookOk.at {N : Nat} {w : World} {B : Nat} {l : List Sl} (h : BookOk N w B l) : ∃ bo bc, w.cell? ⟨B, 0, none⟩ = some (.slice bo l.length bc) ∧ w.frozen? ⟨B, 0, none⟩ = false ∧ B < w.heap.size ∧ w.heap[B]? = some (.cells #[.slice bo l.length bc] 58 (0, 0)) ∧ w.ownsRow N 84 5 (.slice bo l.length bc) l.length (l.flatMap slCells) := by
  obtain ⟨v, hv, ho⟩ := h.bk
  obtain ⟨bo, bc, rfl⟩ := ownsRow_shape ho
  obtain ⟨h1, h2, h3⟩ := cell_of_heap hv
  exact ⟨bo, bc, h1, h2, h3, hv, ho⟩

theorem BookOk.below {N : Nat} {w w' : World} {B : Nat} {l : List Sl} (h : BookOk N w B l) (hb : Below w.heap.size w w') : BookOk N w' B l := by
  obtain ⟨v, hv, ho⟩ := h.bk
  refine ⟨h.base, ⟨v, (hb.block B (cell_of_heap hv).2.2).trans hv, ownsRow_same ho fun k hk => hb.block k (ho.lt k hk).2⟩, fun x hx => (h.ok x hx).below hb⟩

theorem grownBy_trans {a b c : World} {r : Option Nat} (h : a.grownBy b r) (k : b.grownBy c r) : a.grownBy c r :=
  ⟨k.os.trans h.os, k.tape.trans h.tape, k.output.trans h.output, Nat.le_trans h.size k.size, fun i hi hr => (k.block i (Nat.lt_of_lt_of_le hi h.size) hr).trans (h.block i hi hr)⟩
theorem grownBy_alloc (w : World) (o : Obj) (r : Option Nat) : w.grownBy (w.alloc o) r := ⟨rfl, rfl, rfl, by simp, fun k hk _ => heap_alloc_lt w o k hk⟩
theorem grownBy_set (w : World) (g i : Nat) (u : Value) : w.grownBy (w.setCell ⟨g, i, none⟩ u) (some g) := ⟨rfl, rfl, rfl, by simp, fun k _ hr => Below.heap_setCell w _ u k (by intro e; exact hr (by rw [e]))⟩

theorem BookOk.row {N : Nat} {w : World} {B : Nat} {l : List Sl} (h : BookOk N w B l) {bv : Value} (hbv : w.cell? ⟨B, 0, none⟩ = some bv) : w.heap[B]? = some (.cells #[bv] 58 (0, 0)) ∧ w.ownsRow N 84 5 bv l.length (l.flatMap slCells) := by
  obtain ⟨v, hv, ho⟩ := h.bk
  rw [(cell_of_heap hv).1] at hbv
  cases hbv
  exact ⟨hv, ho⟩

/-- The blocks of the book: its own, its row's, its slips'. -/
def BookHas (w : World) (B : Nat) (l : List Sl) (k : Nat) : Prop := k = B ∨ (∃ v, w.cell? ⟨B, 0, none⟩ = some v ∧ v.ownBlock = some k) ∨ ∃ x ∈ l, x.has k

theorem BookOk.same {N : Nat} {w w' : World} {B : Nat} {l : List Sl} (h : BookOk N w B l) (hs : ∀ k, BookHas w B l k → w'.heap[k]? = w.heap[k]?) : BookOk N w' B l := by
  obtain ⟨v, hv, ho⟩ := h.bk
  exact ⟨h.base, ⟨v, (hs B (.inl rfl)).trans hv, ownsRow_same ho fun k hk => hs k (.inr (.inl ⟨v, (cell_of_heap hv).1, hk⟩))⟩, fun x hx => (h.ok x hx).same fun k hk => hs k (.inr (.inr ⟨x, hx, hk⟩))⟩

/-- What lies in the book's own block and in its row is told by its type. -/
theorem BookOk.not {N : Nat} {w : World} {B : Nat} {l : List Sl} (h : BookOk N w B l) {base : Nat} {e : TypeId} {size : Nat} {v : Value} {n : Nat} {xs : List Value} (ho : w.ownsRow base e size v n xs) (h1 : e ≠ 84) (h2 : e ≠ 58) {k : Nat} (hk : v.ownBlock = some k) :
    k ≠ B ∧ ∀ bv, w.cell? ⟨B, 0, none⟩ = some bv → bv.ownBlock ≠ some k := by
  obtain ⟨cur, hc⟩ := ownsRow_type ho hk
  refine ⟨?_, ?_⟩
  · rintro rfl
    obtain ⟨bv, hv, _⟩ := h.bk
    rw [hv] at hc
    simp at hc
    exact h2 hc.2.symm
  · intro bv hbv hk2
    obtain ⟨cur2, hc2⟩ := ownsRow_type (h.row hbv).2 hk2
    rw [hc2] at hc
    simp at hc
    exact h1 hc.2.symm

theorem heap_set_one {w : World} {B : Nat} {u v : Value} {t : TypeId} (h : w.heap[B]? = some (.cells #[u] t (0, 0))) : (w.setCell ⟨B, 0, none⟩ v).heap[B]? = some (.cells #[v] t (0, 0)) := by
  have := heap_setCell_same w B 0 #[u] t v h
  simpa using this

/-- A slip more. -/
theorem BookOk.added {N : Nat} {w w2 : World} {B : Nat} {l : List Sl} (h : BookOk N w B l) {bv : Value} (hbv : w.cell? ⟨B, 0, none⟩ = some bv) (x : Sl) (hx : SlOk w x) (v' : Value)
    (ho : w2.ownsRow N 84 5 v' (l.length + 1) (l.flatMap slCells ++ slCells x)) (hg : w.grownBy w2 bv.ownBlock) : BookOk N (w2.setCell ⟨B, 0, none⟩ v') B (l ++ [x]) := by
  obtain ⟨hB, hr⟩ := h.row hbv
  have hlt := (cell_of_heap hB).2.2
  have hnB : bv.ownBlock ≠ some B := by
    intro e
    obtain ⟨cur, hc⟩ := ownsRow_type hr e
    rw [hB] at hc
    simp at hc
  have hB2 : w2.heap[B]? = some (.cells #[bv] 58 (0, 0)) := (hg.block B hlt (fun e => hnB e.symm)).trans hB
  have hnB2 : v'.ownBlock ≠ some B := by
    intro e
    obtain ⟨cur, hc⟩ := ownsRow_type ho e
    rw [hB2] at hc
    simp at hc
  have hsl : ∀ y, SlOk w y → SlOk (w2.setCell ⟨B, 0, none⟩ v') y := by
    intro y hy
    refine hy.same fun k hk => ?_
    obtain ⟨cur, e, hc, n1, n2⟩ := hy.type hk
    have hkB : k ≠ B := by
      rintro rfl
      rw [hB] at hc
      simp at hc
      exact n2 hc.2.symm
    rw [Below.heap_setCell w2 _ _ k hkB]
    refine hg.block k (hy.lt hk) fun e2 => ?_
    obtain ⟨cur2, hc2⟩ := ownsRow_type hr e2.symm
    rw [hc2] at hc
    simp at hc
    exact n1 hc.2.symm
  refine ⟨h.base, ⟨v', heap_set_one hB2, ?_⟩, ?_⟩
  · have := ownsRow_setCell_other (a := ⟨B, 0, none⟩) ho hnB2 v'
    simpa using this
  · intro y hy
    rcases List.mem_append.1 hy with hy | hy
    · exact hsl y (h.ok y hy)
    · simp at hy
      subst hy
      exact hsl _ hx

theorem slAt {w : World} {base : Nat} {v : Value} {l : List Sl} (h : w.ownsRow base 84 5 v l.length (l.flatMap slCells)) {i : Nat} {x : Sl} (hi : l[i]? = some x) :
    ∃ g cap, v = .slice (some ⟨g, 0, none⟩) l.length cap ∧ g < w.heap.size ∧ w.cell? ⟨g, i * 5, none⟩ = some x.va ∧ w.cell? ⟨g, i * 5 + 1, none⟩ = some x.vb ∧ w.cell? ⟨g, i * 5 + 2, none⟩ = some x.vp ∧ w.cell? ⟨g, i * 5 + 3, none⟩ = some x.vn ∧ w.cell? ⟨g, i * 5 + 4, none⟩ = some (.int .i64 x.m) := by
  have hl := (List.getElem?_eq_some_iff.1 hi).1
  obtain ⟨g, cap, rfl, h1, h2, h3, h4⟩ := ownsRow_at h (by omega)
  have d0 := flatMap_get slCells 5 slCells_len _ i 0 x hi (by omega)
  rw [Nat.add_zero] at d0
  refine ⟨g, cap, rfl, h2, (h3 (i * 5) (by omega)).trans d0, ?_, ?_, ?_, ?_⟩
  · exact (h3 _ (by omega)).trans (flatMap_get slCells 5 slCells_len _ i 1 x hi (by omega))
  · exact (h3 _ (by omega)).trans (flatMap_get slCells 5 slCells_len _ i 2 x hi (by omega))
  · exact (h3 _ (by omega)).trans (flatMap_get slCells 5 slCells_len _ i 3 x hi (by omega))
  · exact (h3 _ (by omega)).trans (flatMap_get slCells 5 slCells_len _ i 4 x hi (by omega))

section
set_option maxRecDepth 100000 in
set_option maxHeartbeats 4000000 in
theorem looks_any {N : Nat} {w : World} {B : Nat} {l : List Sl} (h : BookOk N w B l) (hn : l.length ≤ 9000000) : Calls Tryz.prog 21 #[.pointer (some ⟨B, 0, none⟩)] w fun e w' => e = .returned (.bool true) ∧ Below w.heap.size w w' := by
  have HH : Hid (BookOk N w B l) := h
  clear h
  go_enter Tryz.func21, Tryz.ntmps21
  go_wp2_with fail
  go_loopg [3] (l.length + 1) (fun k vi wr => ∃ i : Nat, i ≤ l.length ∧ l.length - i ≤ k ∧ vi = .int .i64 i ∧ Below w.heap.size w wr)
  case atStart => exact ⟨0, by omega, by omega, rfl, Below.refl _ _⟩
  case round =>
    obtain ⟨i, hi, hk, rfl, hbl⟩ := hrel
    have HL : Hid (Below w.heap.size w wr) := hbl
    have HB : Hid (BookOk N wr B l) := HH.out.below hbl
    obtain ⟨bo, bc, c0, f0, hlt, _, ho⟩ := HB.out.at
    clear hbl
    by_cases hil : i < l.length
    · have gi := List.getElem?_eq_getElem hil
      have hil' : (i : Int) < (l.length : Int) := by omega
      have hin := List.mem_of_getElem? gi
      generalize l[i] = x at gi hin
      obtain ⟨g, cap, hv, hg, g0, g1, g2, g3, g4⟩ := slAt ho gi
      simp only [Value.slice.injEq] at hv
      obtain ⟨rfl, _, rfl⟩ := hv
      have HS : Hid (SlOk wr x) := HB.out.ok x hin
      obtain ⟨xa, xac, hxa⟩ := ownsRow_shape HS.out.a.row
      obtain ⟨xb, xbc, hxb⟩ := ownsRow_shape HS.out.b.row
      obtain ⟨xp, xpc, hxp⟩ := ownsRow_shape HS.out.p.row
      obtain ⟨xn, xnc, hxn⟩ := ownsRow_shape HS.out.n.row
      have HR := reads_any wr x HS.out
      rw [hxa, hxb, hxp, hxn] at HR
      rw [hxa] at g0
      rw [hxb] at g1
      rw [hxp] at g2
      rw [hxn] at g3
      clear hin gi ho
      go_wp2_with fail
      refine HR.mono ?_
      rintro e w2 ⟨rfl, hb2⟩
      have HL2 : Hid (Below w.heap.size w w2) := HL.out.trans (hb2.mono HL.out.size)
      clear hb2 HR
      go_wp2_with fail
      go_roundg (l.length - (i + 1))
      case measure => omega
      case rel => exact ⟨i + 1, by omega, Nat.le_refl _, by go_num, HL2.out⟩
    · have hil' : ¬ (i : Int) < (l.length : Int) := by omega
      clear ho
      go_wp2_with fail
      go_ret
      exact ⟨rfl, HL.out⟩
end
end Go.Proofs.YtcabaecbmkgclaaGreatDoor

namespace Go.Proofs.YtcabaecbmkgclaaGreatDoor
open Go.RowKit Bz

theorem or_bit_u32 (m b : Nat) (hm : m < 4294967296) (hb : b < 24) : bits .or .u32 (m : Int) ((2 : Int) ^ b % 4294967296) = ((m ||| 1 <<< b : Nat) : Int) := by
  have h1 : (2 : Nat) ^ b < 2 ^ 24 := Nat.pow_lt_pow_right (by decide) hb
  have h2 : (2 : Int) ^ b % (4294967296 : Int) = ((1 <<< b : Nat) : Int) := by
    rw [Nat.shiftLeft_eq, Nat.one_mul]
    have : (2 : Int) ^ b = ((2 ^ b : Nat) : Int) := by simp
    rw [this]
    generalize (2 : Nat) ^ b = q at *
    omega
  rw [h2, u32_or_nat m (1 <<< b) hm (by rw [Nat.shiftLeft_eq, Nat.one_mul]; omega)]

set_option maxHeartbeats 1000000 in
theorem join_cells (w : World) (B a b : Nat) (ha : a < 24) (hb : b < 24) (hab : a ≠ b) (m n : Nat) (hm : m < 4294967296) (hn : n < 4294967296)
    (ca : w.cell? ⟨B, 2 + a, none⟩ = some (.int .u32 m)) (cb : w.cell? ⟨B, 2 + b, none⟩ = some (.int .u32 n)) (fa : w.frozen? ⟨B, 2 + a, none⟩ = false) (fb : w.frozen? ⟨B, 2 + b, none⟩ = false) :
    Calls Tryz.prog 33 #[.pointer (some ⟨B, 2, none⟩), .int .i64 a, .int .i64 b] w fun e w' => e = .returned (.tuple #[]) ∧
      ∃ k, w' = ((w.setCell ⟨B, 2 + a, none⟩ (.int .u32 ((m ||| 1 <<< b : Nat) : Int))).setCell ⟨B, 2 + b, none⟩ (.int .u32 ((n ||| 1 <<< a : Nat) : Int))).drewN k := by
  have a24 : (a : Int) < 24 := by omega
  have b24 : (b : Int) < 24 := by omega
  go_enter Tryz.func33, Tryz.ntmps33
  go_wp2
  go_region
  go_wp2
  go_region
  go_wp2
  go_end0
  refine ⟨rfl, 2, ?_⟩
  rw [or_bit_u32 m b hm hb, or_bit_u32 n a hn ha]
  rfl

theorem bonded_bind (l : List Bnd) (a b : Nat) (o : Int) (pl k j : Nat) : bonded (l ++ [⟨min a b, max a b, o, pl⟩]) k j = (bonded l k j || ((k == a && j == b) || (k == b && j == a))) := by
  unfold bonded
  rw [List.any_append]
  congr 1
  simp only [List.any_cons, List.any_nil, Bool.or_false]
  rw [Bool.eq_iff_iff]
  simp
  omega

theorem testBit_or_bit (m b j : Nat) : (m ||| 1 <<< b).testBit j = (m.testBit j || decide (j = b)) := by
  rw [Nat.testBit_or, Nat.shiftLeft_eq, Nat.one_mul, Nat.testBit_two_pow]
  congr 1
  rw [Bool.eq_iff_iff]
  simp
  exact eq_comm

theorem or_bit_lt (m b : Nat) (hm : m < 4294967296) (hb : b < 24) : m ||| 1 <<< b < 4294967296 := by
  have : (1 <<< b : Nat) < 2 ^ 32 := by
    rw [Nat.shiftLeft_eq, Nat.one_mul]
    exact Nat.pow_lt_pow_right (by decide) (by omega)
  exact Nat.or_lt_two_pow (n := 32) hm this

section
variable {w : World} {B : Nat} {s : ByteArray} {p : St}

/-- The graph alone has turned: the bit of an edge, at both ends. (The list of bonds has yet to grow.) -/
structure RdJ (w : World) (B : Nat) (s : ByteArray) (p : St) (l : List Bnd) : Prop where
  text : w.cell? ⟨B, 0, none⟩ = some (.string s)
  pos : w.cell? ⟨B, 1, none⟩ = some (.int .i64 p.pos)
  near : ∀ k, k < 24 → ∃ m : Nat, w.cell? ⟨B, 2 + k, none⟩ = some (.int .u32 m) ∧ m < 4294967296 ∧ ∀ j, j < 24 → m.testBit j = bonded l k j
  atoms : ∃ v, w.cell? ⟨B, 26, none⟩ = some v ∧ w.ownsRow (B + 1) 124 6 v p.atoms.length (p.atoms.flatMap atmCells)
  bonds : ∃ v, w.cell? ⟨B, 27, none⟩ = some v ∧ w.ownsRow (B + 1) 102 4 v p.bonds.length (p.bonds.flatMap pbCells)
  err : ∃ v, w.cell? ⟨B, 28, none⟩ = some v
  plc : ∃ v, w.cell? ⟨B, 29, none⟩ = some v
  rings : ∀ n j v, n < 100 → (opnCells (p.rings n))[j]? = some v → w.cell? ⟨B, 30 + n * 5 + j, none⟩ = some v
  free : ∀ i, w.frozen? ⟨B, i, none⟩ = false

theorem join_any (h : Rd w B s p) (a b : Nat) (o : Int) (pl : Nat) (ha : a < 24) (hb : b < 24) (hab : a ≠ b) :
    Calls Tryz.prog 33 #[.pointer (some ⟨B, 2, none⟩), .int .i64 a, .int .i64 b] w fun e w' => e = .returned (.tuple #[]) ∧ RdJ w' B s p (p.bonds ++ [⟨min a b, max a b, o, pl⟩]) ∧ Fr B w w' := by
  obtain ⟨m, ca, hm, ta⟩ := h.near a ha
  obtain ⟨n, cb, hn, tb⟩ := h.near b hb
  refine (join_cells w B a b ha hb hab m n hm hn ca cb (h.free _) (h.free _)).mono ?_
  rintro e w' ⟨rfl, k, rfl⟩
  obtain ⟨va, hva, oa⟩ := h.atoms
  obtain ⟨vb, hvb, ob⟩ := h.bonds
  have hc : ∀ i, i ≠ 2 + a → i ≠ 2 + b → (((w.setCell ⟨B, 2 + a, none⟩ (.int .u32 ((m ||| 1 <<< b : Nat) : Int))).setCell ⟨B, 2 + b, none⟩ (.int .u32 ((n ||| 1 <<< a : Nat) : Int))).drewN k).cell? ⟨B, i, none⟩ = w.cell? ⟨B, i, none⟩ := by
    intro i h1 h2
    rw [World.cell?_drewN, cell_set_ne (by omega), cell_set_ne (by omega)]
  refine ⟨rfl, ⟨by rw [hc _ (by omega) (by omega)]; exact h.text, by rw [hc _ (by omega) (by omega)]; exact h.pos, ?_,
    ⟨va, by rw [hc _ (by omega) (by omega)]; exact hva, ownsRow_setB (ownsRow_setB oa _ _) _ _⟩, ⟨vb, by rw [hc _ (by omega) (by omega)]; exact hvb, ownsRow_setB (ownsRow_setB ob _ _) _ _⟩,
    by rw [hc _ (by omega) (by omega)]; exact h.err, by rw [hc _ (by omega) (by omega)]; exact h.plc, fun n j v hn hv => by rw [hc _ (by omega) (by omega)]; exact h.rings n j v hn hv,
    fun i => by rw [World.frozen?_drewN, World.frozen?_setCell, World.frozen?_setCell]; exact h.free i⟩,
    (((Fr.refl B w).setCell (.inl rfl) (fun _ => ⟨by simp; omega, by simp; omega⟩) _).setCell (.inl rfl) (fun _ => ⟨by simp; omega, by simp; omega⟩) _).drewN k⟩
  intro i hi
  by_cases e1 : i = a
  · subst e1
    refine ⟨_, by rw [World.cell?_drewN, cell_set_ne (by omega)]; exact World.cell?_setCell_same w _ _ ca, or_bit_lt m b hm hb, fun j hj => ?_⟩
    rw [testBit_or_bit, ta j hj, bonded_bind]
    congr 1
    rw [Bool.eq_iff_iff]
    simp
    omega
  · by_cases e2 : i = b
    · subst e2
      refine ⟨_, by rw [World.cell?_drewN]; exact World.cell?_setCell_same _ _ _ (by rw [cell_set_ne (by omega)]; exact cb), or_bit_lt n a hn ha, fun j hj => ?_⟩
      rw [testBit_or_bit, tb j hj, bonded_bind]
      congr 1
      rw [Bool.eq_iff_iff]
      simp
      omega
    · obtain ⟨q, cq, hq, tq⟩ := h.near i hi
      refine ⟨q, by rw [hc _ (by omega) (by omega)]; exact cq, hq, fun j hj => ?_⟩
      rw [tq j hj, bonded_bind]
      simp [e1, e2]
end
end Go.Proofs.YtcabaecbmkgclaaGreatDoor
