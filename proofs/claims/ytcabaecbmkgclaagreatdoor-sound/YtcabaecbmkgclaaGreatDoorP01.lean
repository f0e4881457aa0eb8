/-
  What the reader's full, name, fits and bracket do.
  What the molecule's Add does.
  What the graph's Join and Joined do.
  What Joined, Bind, BothAromatic and order do.
  What bondEnd and link do.
  What link, ringAhead and ringNumber do.
  What the reader's bracket does.
-/
import Derived.Test.YtcabaecbmkgclaaGreatDoorP00
import Derived.Deep.RegionWith
import Derived.Deep.RegionLaw
import Derived.Laws.DeepBits32
import Derived.Deep.DeepCutAuto
import Derived.Deep.Light

namespace Go.Proofs.YtcabaecbmkgclaaGreatDoor
open Go.RowKit Bz

section
variable {w : World} {B : Nat} {s : ByteArray} {p : St}

set_option maxHeartbeats 400000 in
theorem full_any (h : Rd w B s p) (_hn : p.atoms.length ≤ 24) :
    Calls Tryz.prog 151 #[.pointer (some ⟨B, 0, none⟩)] w fun e w' => e = .returned (.bool (full p)) ∧ w' = w := by
  obtain ⟨ao, cap, hc⟩ := h.atomsLen
  have he : ((p.atoms.length : Int) == 24) = full p := by rw [Bool.eq_iff_iff]; simp [full]; omega
  go_enter Tryz.func151, Tryz.ntmps151
  go_wp2
  go_ret
  exact ⟨ret_bool (by first | exact he | rfl), rfl⟩

def hungV (h : Hung) : Value := .agg #[.int .u8 h.mark, .int .i64 h.spot, .int .i64 h.atom]
def atmV (a : Atm) : Value := .agg #[.string a.el, .bool a.aro, .int .i64 a.ch, .int .i64 a.hy, .int .i64 a.pl, .bool a.br]

theorem Fr.two {B : Nat} {w : World} (hB : B < w.heap.size) (o o' : Obj) : Fr B w (((w.alloc o).alloc o').drew) :=
  (((Fr.refl B w).alloc hB o).alloc (by simp; omega) o').drew

set_option maxHeartbeats 1000000 in
theorem fits_bond (h : Rd w B s p) (g : Hung) (a : Atm) (hm : g.mark = 58) (ha : a.aro = false) :
    Calls Tryz.prog 126 #[.pointer (some ⟨B, 0, none⟩), hungV g, atmV a] w fun e w' => e = .returned (.bool false) ∧ Wrong w' B (3, g.spot) ∧ Fr B w w' := by
  have hB := h.lt
  unfold hungV atmV
  rw [hm, ha]
  go_enter Tryz.func126, Tryz.ntmps126
  go_wp2_with fail
  go_region_with (go_at_call 57; refine (fail_any ((h.alloc _).alloc _).drew _ _).mono ?_; rintro e w' ⟨rfl, hw, hf⟩)
  go_wp2
  go_ret
  exact ⟨rfl, hw, (Fr.two hB _ _).trans hf⟩

set_option maxHeartbeats 1000000 in
theorem fits_full (h : Rd w B s p) (hn : p.atoms.length ≤ 24) (g : Hung) (a : Atm) (hm : ¬ (g.mark = 58 ∧ a.aro = false)) (hu : full p = true) :
    Calls Tryz.prog 126 #[.pointer (some ⟨B, 0, none⟩), hungV g, atmV a] w fun e w' => e = .returned (.bool false) ∧ Wrong w' B (5, a.pl) ∧ Fr B w w' := by
  have hB := h.lt
  have hc : (g.mark == 58) = false ∨ (g.mark = 58 ∧ a.aro = true) := by
    by_cases e : g.mark = 58
    · exact .inr ⟨e, by cases ha : a.aro <;> simp_all⟩
    · exact .inl (by simpa using e)
  clear hm
  unfold hungV atmV
  rcases hc with hc | ⟨hc, ha⟩
  · go_enter Tryz.func126, Tryz.ntmps126
    go_wp2_with (go_at_call 151; refine (full_any ((h.alloc _).alloc _) hn).mono ?_; rintro e w' ⟨rfl, rfl⟩)
    go_region_with (go_at_call 57; refine (fail_any ((h.alloc _).alloc _).drew _ _).mono ?_; rintro e w' ⟨rfl, hw, hf⟩)
    go_wp2
    go_ret
    exact ⟨rfl, hw, (Fr.two hB _ _).trans hf⟩
  · rw [hc, ha]
    clear hc ha
    go_enter Tryz.func126, Tryz.ntmps126
    go_wp2_with (go_at_call 151; refine (full_any ((h.alloc _).alloc _) hn).mono ?_; rintro e w' ⟨rfl, rfl⟩)
    go_region_with (go_at_call 57; refine (fail_any ((h.alloc _).alloc _).drew _ _).mono ?_; rintro e w' ⟨rfl, hw, hf⟩)
    go_wp2
    go_ret
    exact ⟨rfl, hw, (Fr.two hB _ _).trans hf⟩

set_option maxHeartbeats 1000000 in
theorem fits_ok (h : Rd w B s p) (hn : p.atoms.length ≤ 24) (g : Hung) (a : Atm) (hm : ¬ (g.mark = 58 ∧ a.aro = false)) (hu : full p = false) :
    Calls Tryz.prog 126 #[.pointer (some ⟨B, 0, none⟩), hungV g, atmV a] w fun e w' => e = .returned (.bool true) ∧ Rd w' B s p ∧ Fr B w w' := by
  have hB := h.lt
  have hc : (g.mark == 58) = false ∨ (g.mark = 58 ∧ a.aro = true) := by
    by_cases e : g.mark = 58
    · exact .inr ⟨e, by cases ha : a.aro <;> simp_all⟩
    · exact .inl (by simpa using e)
  clear hm
  unfold hungV atmV
  rcases hc with hc | ⟨hc, ha⟩
  · go_enter Tryz.func126, Tryz.ntmps126
    go_wp2_with (go_at_call 151; refine (full_any ((h.alloc _).alloc _) hn).mono ?_; rintro e w' ⟨rfl, rfl⟩)
    go_ret
    exact ⟨rfl, (h.alloc _).alloc _, ((Fr.refl B w).alloc hB _).alloc (by simp; omega) _⟩
  · rw [hc, ha]
    clear hc ha
    go_enter Tryz.func126, Tryz.ntmps126
    go_wp2_with (go_at_call 151; refine (full_any ((h.alloc _).alloc _) hn).mono ?_; rintro e w' ⟨rfl, rfl⟩)
    go_ret
    exact ⟨rfl, (h.alloc _).alloc _, ((Fr.refl B w).alloc hB _).alloc (by simp; omega) _⟩

set_option maxHeartbeats 1000000 in
theorem name_ok (h : Rd w B s p) (hs : s.size ≤ 160) (hp : p.pos ≤ s.size) (L : Nat) (a : Atm) (hb : Bx w L a) (hm : ¬ Mine w B L) (x : ByteArray × Bool × Nat) (hx : element s p.pos = some x) :
    Calls Tryz.prog 125 #[.pointer (some ⟨B, 0, none⟩), .pointer (some ⟨L, 0, none⟩)] w fun e w' =>
      e = .returned (.bool true) ∧ Rd w' B s { p with pos := p.pos + x.2.2 } ∧ Bx w' L { a with el := x.1, aro := x.2.1 } ∧ ¬ Mine w' B L ∧ FrX B L w w' := by
  have HE := elem_any h hs hp
  unfold ElemPost at HE
  rw [hx] at HE
  simp only at HE
  have hLB := Rd.ne_of_notMine hm
  go_enter Tryz.func125, Tryz.ntmps125
  go_wp2_with fail
  refine HE.mono ?_
  rintro e w1 ⟨⟨rfl, hr⟩, hf⟩
  have hb1 := hb.fr hf hm
  have hm1 := hf.notMine hb.lt hm
  have c0 := hb1.c0
  have c1 := hb1.c1
  have f0 := hb1.fz 0
  have f1 := hb1.fz 1
  have hx1 := (hb1.setEl x.1).setAro x.2.1
  go_wp2_with fail
  go_ret
  refine ⟨rfl, (hr.setOther hm1 _).setOther ?_ _, hx1, ?_, ((hf.x L).set hLB _ _).set hLB _ _⟩
  · exact fun e => hm1 ((Mine.same (Below.heap_setCell _ _ _ _ (by simpa using fun e => hLB e.symm))).1 e)
  · exact (((hf.x L).set hLB _ _).set hLB _ _).notMine hb.lt hm

def noName (a : Atm) (p : St) : Int × Int := if a.br && full p then (5, a.pl) else (2, p.pos)

set_option maxHeartbeats 1000000 in
theorem name_no (h : Rd w B s p) (hs : s.size ≤ 160) (hp : p.pos ≤ s.size) (hn : p.atoms.length ≤ 24) (L : Nat) (a : Atm) (hb : Bx w L a) (hm : ¬ Mine w B L) (hx : element s p.pos = none) :
    Calls Tryz.prog 125 #[.pointer (some ⟨B, 0, none⟩), .pointer (some ⟨L, 0, none⟩)] w fun e w' =>
      e = .returned (.bool false) ∧ Wrong w' B (noName a p) ∧ FrX B L w w' := by
  have HE := elem_any h hs hp
  unfold ElemPost at HE
  rw [hx] at HE
  simp only at HE
  have hLB := Rd.ne_of_notMine hm
  go_enter Tryz.func125, Tryz.ntmps125
  go_wp2_with fail
  refine HE.mono ?_
  rintro e w1 ⟨⟨rfl, hr⟩, hf⟩
  have hb1 := hb.fr hf hm
  have hm1 := hf.notMine hb.lt hm
  have hx1 := (hb1.setEl ⟨#[]⟩).setAro false
  have hr1 := (hr.setOther hm1 (q := ⟨L, 0, none⟩) (.string ⟨#[]⟩)).setOther (q := ⟨L, 1, none⟩) (fun e => hm1 ((Mine.same (Below.heap_setCell _ _ _ _ (by simpa using fun e => hLB e.symm))).1 e)) (.bool false)
  have hfx := ((hf.x L).set hLB 0 (.string ⟨#[]⟩)).set hLB 1 (.bool false)
  have c0 := hb1.c0
  have c1 := hb1.c1
  have f0 := hb1.fz 0
  have f1 := hb1.fz 1
  have c4 := hx1.c4
  have c5 := hx1.c5
  have hps := hr1.pos
  simp only at c5 c4
  cases hbr : a.br
  · rw [hbr] at c5
    have hno : Hid (noName a p = ((2 : Int), (p.pos : Int))) := by unfold Hid; simp [noName, hbr]
    clear hbr
    go_wp2_with fail
    go_region_with (go_at_call 57; refine (fail_any hr1.drew _ _).mono ?_; rintro e w' ⟨rfl, hw, hf2⟩)
    go_wp2
    go_ret
    exact ⟨rfl, by rw [hno.out]; exact hw, (hfx.trans ((Fr.refl B _).drew.x L)).trans (hf2.x L)⟩
  · rw [hbr] at c5
    have hfull := full_any hr1 hn
    cases hfu : full p
    · rw [hfu] at hfull
      have hno : Hid (noName a p = ((2 : Int), (p.pos : Int))) := by unfold Hid; simp [noName, hfu]
      clear hbr hfu
      go_wp2_with (go_at_call 151; refine hfull.mono ?_; rintro e w' ⟨rfl, rfl⟩)
      go_region_with (go_at_call 57; refine (fail_any hr1.drew _ _).mono ?_; rintro e w' ⟨rfl, hw, hf2⟩)
      go_wp2
      go_ret
      exact ⟨rfl, by rw [hno.out]; exact hw, (hfx.trans ((Fr.refl B _).drew.x L)).trans (hf2.x L)⟩
    · rw [hfu] at hfull
      have hno : Hid (noName a p = ((5 : Int), (a.pl : Int))) := by unfold Hid; simp [noName, hbr, hfu]
      clear hbr hfu
      go_wp2_with (go_at_call 151; refine hfull.mono ?_; rintro e w' ⟨rfl, rfl⟩)
      go_region_with (go_at_call 57; refine (fail_any hr1.drew _ _).mono ?_; rintro e w' ⟨rfl, hw, hf2⟩)
      go_wp2
      go_ret
      exact ⟨rfl, by rw [hno.out]; exact hw, (hfx.trans ((Fr.refl B _).drew.x L)).trans (hf2.x L)⟩
end
end Go.Proofs.YtcabaecbmkgclaaGreatDoor

namespace Go.Proofs.YtcabaecbmkgclaaGreatDoor
open Go.RowKit Bz

theorem Tryz.infoMAtom : (Tryz.prog.info? 124).map (fun i => (i.zero, i.size, i.bytes)) = some (some (.agg #[.string ⟨#[]⟩, .bool false, .int .i64 0, .int .i64 0, .int .i64 0, .bool false]), 6, 56) := by kernel_rfl
theorem Tryz.infoMBond : (Tryz.prog.info? 102).map (fun i => (i.zero, i.size, i.bytes)) = some (some (.agg #[.int .i64 0, .int .i64 0, .int .i64 0, .int .i64 0]), 4, 32) := by kernel_rfl
theorem Tryz.infoBond : (Tryz.prog.info? 46).map (fun i => (i.zero, i.size, i.bytes)) = some (some (.agg #[.int .i64 0, .int .i64 0, .int .i64 0]), 3, 24) := by kernel_rfl

section
variable {w : World} {B : Nat} {s : ByteArray} {p : St}

theorem ownBlock_ne {w : World} {b1 b2 : Nat} {e1 e2 : TypeId} {s1 s2 : Nat} {v1 v2 : Value} {n1 n2 : Nat} {x1 x2 : List Value} (h1 : w.ownsRow b1 e1 s1 v1 n1 x1) (h2 : w.ownsRow b2 e2 s2 v2 n2 x2) (he : e1 ≠ e2) (k : Nat) (hk : v1.ownBlock = some k) : v2.ownBlock ≠ some k := by
  intro hk2
  rcases h1.2 with ⟨rfl, _⟩ | ⟨g, cap, cur, rfl, _, hg, _⟩
  · simp [Value.ownBlock] at hk
  rcases h2.2 with ⟨rfl, _⟩ | ⟨g', cap', cur', rfl, _, hg', _⟩
  · simp [Value.ownBlock] at hk2
  simp [Value.ownBlock] at hk hk2
  subst hk hk2
  rw [hg] at hg'
  simp at hg'
  exact he hg'.2

theorem Rd.atomAdded {w2 : World} (h : Rd w B s p) {av : Value} (hav : w.cell? ⟨B, 26, none⟩ = some av) (a : Atm) (v' : Value)
    (hown : w2.ownsRow (B + 1) 124 6 v' (p.atoms.length + 1) (p.atoms.flatMap atmCells ++ atmCells a)) (hg : w.grownBy w2 av.ownBlock)
    (hv : ∀ k, v'.ownBlock = some k → av.ownBlock = some k ∨ w.heap.size ≤ k) :
    Rd (w2.setCell ⟨B, 26, none⟩ v') B s { p with atoms := p.atoms ++ [a] } ∧ Fr B w (w2.setCell ⟨B, 26, none⟩ v') := by
  obtain ⟨va, ha, oa⟩ := h.atoms
  obtain ⟨vb, hb, ob⟩ := h.bonds
  rw [hav] at ha
  cases ha
  have hB : w2.heap[B]? = w.heap[B]? := hg.block B h.lt (fun e => by have := (oa.lt B e.symm).1; omega)
  have hc : ∀ i, w2.cell? ⟨B, i, none⟩ = w.cell? ⟨B, i, none⟩ := fun i => World.cell?_of_block (w := w) hB
  have hf : ∀ i, w2.frozen? ⟨B, i, none⟩ = w.frozen? ⟨B, i, none⟩ := fun i => World.frozen?_of_block (w := w) hB
  have ob2 : w2.ownsRow (B + 1) 102 4 vb p.bonds.length (p.bonds.flatMap pbCells) :=
    ownsRow_same ob fun k hk => hg.block k (ob.lt k hk).2 (fun e => ownBlock_ne ob oa (by decide) k hk e.symm)
  have h26 : (w2.setCell ⟨B, 26, none⟩ v').cell? ⟨B, 26, none⟩ = some v' := World.cell?_setCell_same w2 _ _ (by rw [hc]; exact hav)
  refine ⟨⟨by rw [cell_set_ne (by omega), hc]; exact h.text, by rw [cell_set_ne (by omega), hc]; exact h.pos, fun k hk => by rw [cell_set_ne (by omega), hc]; exact h.near k hk,
    ⟨v', h26, ?_⟩, ⟨vb, by rw [cell_set_ne (by omega), hc]; exact hb, ownsRow_setB ob2 _ _⟩,
    by rw [cell_set_ne (by omega), hc]; exact h.err, by rw [cell_set_ne (by omega), hc]; exact h.plc, fun n j v hn hv => by rw [cell_set_ne (by omega), hc]; exact h.rings n j v hn hv,
    fun i => by rw [World.frozen?_setCell, hf]; exact h.free i⟩, ⟨hg.os, hg.tape, hg.output, by simpa using hg.size, ?_, ?_⟩⟩
  · have := ownsRow_setB hown 26 v'
    simpa using this
  · intro k hk hm
    rw [Below.heap_setCell w2 _ _ k (by rintro rfl; exact hm (.inl rfl))]
    exact hg.block k hk (fun e => hm (.inr (.inl ⟨av, hav, e.symm⟩)))
  · intro k hk hm
    rcases hm with rfl | ⟨v, hv1, hv2⟩ | ⟨v, hv1, hv2⟩
    · exact .inl rfl
    · rw [h26] at hv1
      cases hv1
      rcases hv k hv2 with e | e
      · exact .inr (.inl ⟨av, hav, e⟩)
      · omega
    · rw [cell_set_ne (by omega), hc] at hv1
      exact .inr (.inr ⟨v, hv1, hv2⟩)

theorem Rd.atomCell {w2 : World} (h : Rd w B s p) {av : Value} (hav : w.cell? ⟨B, 26, none⟩ = some av) (hg : w.grownBy w2 av.ownBlock) : w2.cell? ⟨B, 26, none⟩ = some av ∧ w2.frozen? ⟨B, 26, none⟩ = false := by
  obtain ⟨va, ha, oa⟩ := h.atoms
  rw [hav] at ha
  cases ha
  have hB : w2.heap[B]? = w.heap[B]? := hg.block B h.lt (fun e => by have := (oa.lt B e.symm).1; omega)
  exact ⟨by rw [World.cell?_of_block (w := w) hB]; exact hav, by rw [World.frozen?_of_block (w := w) hB]; exact h.free 26⟩

theorem cells6 (w : World) (a : Atm) (t : TypeId) : ∀ j u, (atmCells a)[j]? = some u → (w.alloc (.cells #[.string a.el, .bool a.aro, .int .i64 a.ch, .int .i64 a.hy, .int .i64 a.pl, .bool a.br] t)).cell? ((⟨w.heap.size, 0, none⟩ : Addr).add j) = some u := by
  intro j u hj
  have hadd : (⟨w.heap.size, 0, none⟩ : Addr).add j = ⟨w.heap.size, j, none⟩ := by unfold Addr.add; split <;> simp_all
  rw [hadd, World.cell?_alloc_new]
  simpa [atmCells] using hj

set_option maxHeartbeats 1000000 in
theorem add_any (h : Rd w B s p) (a : Atm) (hn : p.atoms.length < 24) :
    Calls Tryz.prog 128 #[.pointer (some ⟨B, 2, none⟩), atmV a] w fun e w' => e = .returned (.int .i64 p.atoms.length) ∧ Rd w' B s { p with atoms := p.atoms ++ [a] } ∧ Fr B w w' := by
  have hB := h.lt
  obtain ⟨av, hav, oa⟩ := h.atoms
  obtain ⟨i0, hi, hz0, hz1, hz2⟩ := info_parts Tryz.infoMAtom
  have hnews : ∀ (o : Obj) (t : TypeId), ∀ j u, (atmCells a)[j]? = some u → (((w.alloc o).alloc (.cells #[.string a.el, .bool a.aro, .int .i64 a.ch, .int .i64 a.hy, .int .i64 a.pl, .bool a.br] t)).drew).cell? ((⟨w.heap.size + 1, 0, none⟩ : Addr).add j) = some u := by
    intro o t j u hj
    have := cells6 (w.alloc o) a t j u hj
    simpa using this
  have hav2 : Hid (∀ o o' : Obj, (((w.alloc o).alloc o').drew).cell? ⟨B, 26, none⟩ = some av) := by
    intro o o'
    rw [World.cell?_drew, World.cell?_alloc_lt _ _ _ (by simp; omega), World.cell?_alloc_lt _ _ _ (by simpa using hB)]
    exact hav
  have h1c : ∀ u ∈ atmCells a, u.oneCell' = true := by
    intro u hu
    simp [atmCells] at hu
    rcases hu with rfl | rfl | rfl | rfl | rfl | rfl <;> rfl
  unfold atmV
  go_enter Tryz.func128, Tryz.ntmps128
  go_wp2_with fail
  go_region_law (refine step_append_mine rfl (.tmp 9) (.tmp 11) 66 rfl (B + 1) 124 i0 (.agg #[.string ⟨#[]⟩, .bool false, .int .i64 0, .int .i64 0, .int .i64 0, .bool false]) 6 56 Tryz.underlying66 hi hz0 hz1 hz2 rfl (by decide) av p.atoms.length (p.atoms.flatMap atmCells) rfl (by exact ((oa.alloc _).alloc _).drew) ⟨w.heap.size + 1, 0, none⟩ 1 1 (atmCells a) rfl rfl (by exact hnews _ _) h1c (by unfold maxLen; omega) (by omega) (by simp; omega) ?_; intro v' w2 ho hg hk; obtain ⟨ao, cap, hv'⟩ := ownsRow_shape ho; subst hv'; have X := (((h.alloc _).alloc _).drew).atomAdded (hav2.out _ _) a _ ho hg hk; obtain ⟨c26, f26⟩ := (((h.alloc _).alloc _).drew).atomCell (hav2.out _ _) hg)
  all_goals
    go_wp2_with fail
    go_ret
    exact ⟨ret_int (by omega), X.1, (Fr.two hB _ _).trans X.2⟩
end
end Go.Proofs.YtcabaecbmkgclaaGreatDoor

namespace Go.Proofs.YtcabaecbmkgclaaGreatDoor
open Go.RowKit Bz

theorem or_bit_u32 (m b : Nat) (hm : m < 4294967296) (hb : b < 24) : bits .or .u32 (m : Int) ((2 : Int) ^ b % 4294967296) = ((m ||| 1 <<< b : Nat) : Int) := by
  have h1 : (2 : Nat) ^ b < 2 ^ 24 := Nat.pow_lt_pow_right (by decide) hb
  have h2 : (2 : Int) ^ b % (4294967296 : Int) = ((1 <<< b : Nat) : Int) := by
    rw [Nat.shiftLeft_eq, Nat.one_mul]
    have : (2 : Int) ^ b = ((2 ^ b : Nat) : Int) := by simp
    rw [this]
    generalize (2 : Nat) ^ b = q at *
    omega
  rw [h2, u32_or_nat m (1 <<< b) hm (by rw [Nat.shiftLeft_eq, Nat.one_mul]; omega)]

set_option maxHeartbeats 1000000 in
theorem join_cells (w : World) (B a b : Nat) (ha : a < 24) (hb : b < 24) (hab : a ≠ b) (m n : Nat) (hm : m < 4294967296) (hn : n < 4294967296)
    (ca : w.cell? ⟨B, 2 + a, none⟩ = some (.int .u32 m)) (cb : w.cell? ⟨B, 2 + b, none⟩ = some (.int .u32 n)) (fa : w.frozen? ⟨B, 2 + a, none⟩ = false) (fb : w.frozen? ⟨B, 2 + b, none⟩ = false) :
    Calls Tryz.prog 33 #[.pointer (some ⟨B, 2, none⟩), .int .i64 a, .int .i64 b] w fun e w' => e = .returned (.tuple #[]) ∧
      ∃ k, w' = ((w.setCell ⟨B, 2 + a, none⟩ (.int .u32 ((m ||| 1 <<< b : Nat) : Int))).setCell ⟨B, 2 + b, none⟩ (.int .u32 ((n ||| 1 <<< a : Nat) : Int))).drewN k := by
  have a24 : (a : Int) < 24 := by omega
  have b24 : (b : Int) < 24 := by omega
  go_enter Tryz.func33, Tryz.ntmps33
  go_wp2
  go_region
  go_wp2
  go_region
  go_wp2
  go_end0
  refine ⟨rfl, 2, ?_⟩
  rw [or_bit_u32 m b hm hb, or_bit_u32 n a hn ha]
  rfl

theorem bonded_bind (l : List Bnd) (a b : Nat) (o : Int) (pl k j : Nat) : bonded (l ++ [⟨min a b, max a b, o, pl⟩]) k j = (bonded l k j || ((k == a && j == b) || (k == b && j == a))) := by
  unfold bonded
  rw [List.any_append]
  congr 1
  simp only [List.any_cons, List.any_nil, Bool.or_false]
  rw [Bool.eq_iff_iff]
  simp
  omega

theorem testBit_or_bit (m b j : Nat) : (m ||| 1 <<< b).testBit j = (m.testBit j || decide (j = b)) := by
  rw [Nat.testBit_or, Nat.shiftLeft_eq, Nat.one_mul, Nat.testBit_two_pow]
  congr 1
  rw [Bool.eq_iff_iff]
  simp
  exact eq_comm

theorem or_bit_lt (m b : Nat) (hm : m < 4294967296) (hb : b < 24) : m ||| 1 <<< b < 4294967296 := by
  have : (1 <<< b : Nat) < 2 ^ 32 := by
    rw [Nat.shiftLeft_eq, Nat.one_mul]
    exact Nat.pow_lt_pow_right (by decide) (by omega)
  exact Nat.or_lt_two_pow (n := 32) hm this

section
variable {w : World} {B : Nat} {s : ByteArray} {p : St}

/-- The graph alone has turned: the bit of an edge, at both ends. (The list of bonds has yet to grow.) -/
structure RdJ (w : World) (B : Nat) (s : ByteArray) (p : St) (l : List Bnd) : Prop where
  text : w.cell? ⟨B, 0, none⟩ = some (.string s)
  pos : w.cell? ⟨B, 1, none⟩ = some (.int .i64 p.pos)
  near : ∀ k, k < 24 → ∃ m : Nat, w.cell? ⟨B, 2 + k, none⟩ = some (.int .u32 m) ∧ m < 4294967296 ∧ ∀ j, j < 24 → m.testBit j = bonded l k j
  atoms : ∃ v, w.cell? ⟨B, 26, none⟩ = some v ∧ w.ownsRow (B + 1) 124 6 v p.atoms.length (p.atoms.flatMap atmCells)
  bonds : ∃ v, w.cell? ⟨B, 27, none⟩ = some v ∧ w.ownsRow (B + 1) 102 4 v p.bonds.length (p.bonds.flatMap pbCells)
  err : ∃ v, w.cell? ⟨B, 28, none⟩ = some v
  plc : ∃ v, w.cell? ⟨B, 29, none⟩ = some v
  rings : ∀ n j v, n < 100 → (opnCells (p.rings n))[j]? = some v → w.cell? ⟨B, 30 + n * 5 + j, none⟩ = some v
  free : ∀ i, w.frozen? ⟨B, i, none⟩ = false

theorem join_any (h : Rd w B s p) (a b : Nat) (o : Int) (pl : Nat) (ha : a < 24) (hb : b < 24) (hab : a ≠ b) :
    Calls Tryz.prog 33 #[.pointer (some ⟨B, 2, none⟩), .int .i64 a, .int .i64 b] w fun e w' => e = .returned (.tuple #[]) ∧ RdJ w' B s p (p.bonds ++ [⟨min a b, max a b, o, pl⟩]) ∧ Fr B w w' := by
  obtain ⟨m, ca, hm, ta⟩ := h.near a ha
  obtain ⟨n, cb, hn, tb⟩ := h.near b hb
  refine (join_cells w B a b ha hb hab m n hm hn ca cb (h.free _) (h.free _)).mono ?_
  rintro e w' ⟨rfl, k, rfl⟩
  obtain ⟨va, hva, oa⟩ := h.atoms
  obtain ⟨vb, hvb, ob⟩ := h.bonds
  have hc : ∀ i, i ≠ 2 + a → i ≠ 2 + b → (((w.setCell ⟨B, 2 + a, none⟩ (.int .u32 ((m ||| 1 <<< b : Nat) : Int))).setCell ⟨B, 2 + b, none⟩ (.int .u32 ((n ||| 1 <<< a : Nat) : Int))).drewN k).cell? ⟨B, i, none⟩ = w.cell? ⟨B, i, none⟩ := by
    intro i h1 h2
    rw [World.cell?_drewN, cell_set_ne (by omega), cell_set_ne (by omega)]
  refine ⟨rfl, ⟨by rw [hc _ (by omega) (by omega)]; exact h.text, by rw [hc _ (by omega) (by omega)]; exact h.pos, ?_,
    ⟨va, by rw [hc _ (by omega) (by omega)]; exact hva, ownsRow_setB (ownsRow_setB oa _ _) _ _⟩, ⟨vb, by rw [hc _ (by omega) (by omega)]; exact hvb, ownsRow_setB (ownsRow_setB ob _ _) _ _⟩,
    by rw [hc _ (by omega) (by omega)]; exact h.err, by rw [hc _ (by omega) (by omega)]; exact h.plc, fun n j v hn hv => by rw [hc _ (by omega) (by omega)]; exact h.rings n j v hn hv,
    fun i => by rw [World.frozen?_drewN, World.frozen?_setCell, World.frozen?_setCell]; exact h.free i⟩,
    (((Fr.refl B w).setCell (.inl rfl) (fun _ => ⟨by simp; omega, by simp; omega⟩) _).setCell (.inl rfl) (fun _ => ⟨by simp; omega, by simp; omega⟩) _).drewN k⟩
  intro i hi
  by_cases e1 : i = a
  · subst e1
    refine ⟨_, by rw [World.cell?_drewN, cell_set_ne (by omega)]; exact World.cell?_setCell_same w _ _ ca, or_bit_lt m b hm hb, fun j hj => ?_⟩
    rw [testBit_or_bit, ta j hj, bonded_bind]
    congr 1
    rw [Bool.eq_iff_iff]
    simp
    omega
  · by_cases e2 : i = b
    · subst e2
      refine ⟨_, by rw [World.cell?_drewN]; exact World.cell?_setCell_same _ _ _ (by rw [cell_set_ne (by omega)]; exact cb), or_bit_lt n a hn ha, fun j hj => ?_⟩
      rw [testBit_or_bit, tb j hj, bonded_bind]
      congr 1
      rw [Bool.eq_iff_iff]
      simp
      omega
    · obtain ⟨q, cq, hq, tq⟩ := h.near i hi
      refine ⟨q, by rw [hc _ (by omega) (by omega)]; exact cq, hq, fun j hj => ?_⟩
      rw [tq j hj, bonded_bind]
      simp [e1, e2]
end
end Go.Proofs.YtcabaecbmkgclaaGreatDoor

namespace Go.Proofs.YtcabaecbmkgclaaGreatDoor
open Go.RowKit Bz

section
variable {w : World} {B : Nat} {s : ByteArray} {p : St}

theorem bit_u32 (m b : Nat) (hm : m < 4294967296) : (bits .and .u32 ((m : Int) / 2 ^ b) 1 == 1) = m.testBit b := by
  have h1 : ((m : Int) / 2 ^ b) = ((m / 2 ^ b : Nat) : Int) := by simp
  have h2 : m / 2 ^ b < 4294967296 := Nat.lt_of_le_of_lt (Nat.div_le_self _ _) hm
  rw [h1, show (1 : Int) = ((1 : Nat) : Int) from rfl, u32_and_nat _ 1 h2 (by decide)]
  rw [Nat.testBit_eq_decide_div_mod_eq, Nat.and_one_is_mod]
  rw [Bool.eq_iff_iff]
  simp
  omega

set_option maxHeartbeats 1000000 in
theorem joined_any (h : Rd w B s p) (a b : Nat) (ha : a < 24) (hb : b < 24) :
    Calls Tryz.prog 64 #[.pointer (some ⟨B, 2, none⟩), .int .i64 a, .int .i64 b] w fun e w' => e = .returned (.bool (bonded p.bonds a b)) ∧ w' = w := by
  obtain ⟨m, ca, hm, ta⟩ := h.near a ha
  have a24 : (a : Int) < 24 := by omega
  have b24 : (b : Int) < 24 := by omega
  rw [← ta b hb]
  have hbt := bit_u32 m b hm
  have HB : Hid _ := hbt
  clear hbt ta
  go_enter Tryz.func64, Tryz.ntmps64
  go_wp2
  go_ret
  exact ⟨ret_bool HB.out, rfl⟩

set_option maxHeartbeats 1000000 in
theorem both_any (h : Rd w B s p) (a b : Nat) (ha : a < p.atoms.length) (hb : b < p.atoms.length) (hn : p.atoms.length ≤ 24) :
    Calls Tryz.prog 154 #[.pointer (some ⟨B, 2, none⟩), .int .i64 a, .int .i64 b] w fun e w' => e = .returned (.bool (aro p a && aro p b)) ∧ w' = w := by
  obtain ⟨g, cap, hv, hc, _, _, _⟩ := h.atomsAt (by omega)
  have ga := List.getElem?_eq_getElem ha
  have gb := List.getElem?_eq_getElem hb
  have ca := hc a _ 1 (.bool (p.atoms[a]).aro) ga rfl
  have cb := hc b _ 1 (.bool (p.atoms[b]).aro) gb rfl
  have ea : aro p a = (p.atoms[a]).aro := by simp [aro, ga]
  have eb : aro p b = (p.atoms[b]).aro := by simp [aro, gb]
  rw [ea, eb]
  generalize (p.atoms[a]).aro = xa at *
  generalize (p.atoms[b]).aro = xb at *
  clear hc ga gb ea eb
  have ha' : (a : Int) < (p.atoms.length : Int) := by omega
  have hb' : (b : Int) < (p.atoms.length : Int) := by omega
  go_enter Tryz.func154, Tryz.ntmps154
  cases xa
  · go_wp2
    go_ret
    exact ⟨rfl, rfl⟩
  · go_wp2
    go_ret
    exact ⟨rfl, rfl⟩

set_option maxHeartbeats 1000000 in
theorem order_any (h : Rd w B s p) (mark : Int) (a b : Nat) (ha : a < p.atoms.length) (hb : b < p.atoms.length) (hn : p.atoms.length ≤ 24) :
    Calls Tryz.prog 130 #[.pointer (some ⟨B, 0, none⟩), .int .u8 mark, .int .i64 a, .int .i64 b] w fun e w' => e = .returned (.int .i64 (order p mark a b)) ∧ w' = w := by
  have hb2 := both_any h a b ha hb hn
  by_cases h1 : mark = 45
  · have e : order p mark a b = 1 := by simp [order, h1]
    rw [e, h1]
    go_enter Tryz.func130, Tryz.ntmps130
    go_wp2_with fail
    go_ret
    exact ⟨rfl, rfl⟩
  by_cases h2 : mark = 61
  · have e : order p mark a b = 2 := by simp [order, h2]
    rw [e, h2]
    go_enter Tryz.func130, Tryz.ntmps130
    go_wp2_with fail
    go_ret
    exact ⟨rfl, rfl⟩
  by_cases h3 : mark = 35
  · have e : order p mark a b = 3 := by simp [order, h3]
    rw [e, h3]
    go_enter Tryz.func130, Tryz.ntmps130
    go_wp2_with fail
    go_ret
    exact ⟨rfl, rfl⟩
  by_cases h4 : mark = 58
  · have e : order p mark a b = 4 := by simp [order, h4]
    rw [e, h4]
    go_enter Tryz.func130, Tryz.ntmps130
    go_wp2_with fail
    go_ret
    exact ⟨rfl, rfl⟩
  have t1 : (mark == 45) = false := by simpa using h1
  have t2 : (mark == 61) = false := by simpa using h2
  have t3 : (mark == 35) = false := by simpa using h3
  have t4 : (mark == 58) = false := by simpa using h4
  have e : order p mark a b = if aro p a && aro p b then 4 else 1 := by simp [order, h1, h2, h3, h4]
  rw [e]
  clear e h1 h2 h3 h4
  cases hx : (aro p a && aro p b)
  · rw [hx] at hb2
    simp only [Bool.false_eq_true, if_false]
    clear hx
    go_enter Tryz.func130, Tryz.ntmps130
    go_wp2_with fail
    refine hb2.mono ?_
    rintro e w' ⟨rfl, rfl⟩
    go_wp2_with fail
    go_ret
    exact ⟨rfl, rfl⟩
  · rw [hx] at hb2
    simp only [if_true]
    clear hx
    go_enter Tryz.func130, Tryz.ntmps130
    go_wp2_with fail
    refine hb2.mono ?_
    rintro e w' ⟨rfl, rfl⟩
    go_wp2_with fail
    go_ret
    exact ⟨rfl, rfl⟩

theorem RdJ.lt {l : List Bnd} (h : RdJ w B s p l) : B < w.heap.size := World.block_lt_of_cell? w ⟨B, 0, none⟩ h.text

theorem RdJ.cell27 {l : List Bnd} {w2 : World} (h : RdJ w B s p l) {bv : Value} (hbv : w.cell? ⟨B, 27, none⟩ = some bv) (hg : w.grownBy w2 bv.ownBlock) : w2.cell? ⟨B, 27, none⟩ = some bv ∧ w2.frozen? ⟨B, 27, none⟩ = false := by
  obtain ⟨va, ha, oa⟩ := h.bonds
  rw [hbv] at ha
  cases ha
  have hB : w2.heap[B]? = w.heap[B]? := hg.block B h.lt (fun e => by have := (oa.lt B e.symm).1; omega)
  exact ⟨by rw [World.cell?_of_block (w := w) hB]; exact hbv, by rw [World.frozen?_of_block (w := w) hB]; exact h.free 27⟩

theorem RdJ.alloc {l : List Bnd} (h : RdJ w B s p l) (o : Obj) : RdJ (w.alloc o) B s p l := by
  have hB := heap_alloc_lt w o B h.lt
  have hc : ∀ i, (w.alloc o).cell? ⟨B, i, none⟩ = w.cell? ⟨B, i, none⟩ := fun i => World.cell?_of_block (w := w) hB
  have hf : ∀ i, (w.alloc o).frozen? ⟨B, i, none⟩ = w.frozen? ⟨B, i, none⟩ := fun i => World.frozen?_of_block (w := w) hB
  obtain ⟨va, ha, oa⟩ := h.atoms
  obtain ⟨vb, hb, ob⟩ := h.bonds
  exact ⟨by rw [hc]; exact h.text, by rw [hc]; exact h.pos, fun k hk => by rw [hc]; exact h.near k hk, ⟨va, by rw [hc]; exact ha, oa.alloc o⟩, ⟨vb, by rw [hc]; exact hb, ob.alloc o⟩,
    by rw [hc]; exact h.err, by rw [hc]; exact h.plc, fun n j v hn hv => by rw [hc]; exact h.rings n j v hn hv, fun i => by rw [hf]; exact h.free i⟩

theorem RdJ.drew {l : List Bnd} (h : RdJ w B s p l) : RdJ w.drew B s p l := by
  obtain ⟨va, ha, oa⟩ := h.atoms
  obtain ⟨vb, hb, ob⟩ := h.bonds
  exact ⟨h.text, h.pos, h.near, ⟨va, ha, oa.drew⟩, ⟨vb, hb, ob.drew⟩, h.err, h.plc, h.rings, h.free⟩

theorem RdJ.bondAdded {w2 : World} (d : Bnd) (h : RdJ w B s p (p.bonds ++ [d])) {bv : Value} (hbv : w.cell? ⟨B, 27, none⟩ = some bv) (v' : Value)
    (hown : w2.ownsRow (B + 1) 102 4 v' (p.bonds.length + 1) (p.bonds.flatMap pbCells ++ pbCells d)) (hg : w.grownBy w2 bv.ownBlock)
    (hv : ∀ k, v'.ownBlock = some k → bv.ownBlock = some k ∨ w.heap.size ≤ k) :
    Rd (w2.setCell ⟨B, 27, none⟩ v') B s { p with bonds := p.bonds ++ [d] } ∧ Fr B w (w2.setCell ⟨B, 27, none⟩ v') := by
  obtain ⟨va, ha, oa⟩ := h.atoms
  obtain ⟨vb, hb, ob⟩ := h.bonds
  rw [hbv] at hb
  cases hb
  have hB : w2.heap[B]? = w.heap[B]? := hg.block B h.lt (fun e => by have := (ob.lt B e.symm).1; omega)
  have hc : ∀ i, w2.cell? ⟨B, i, none⟩ = w.cell? ⟨B, i, none⟩ := fun i => World.cell?_of_block (w := w) hB
  have hf : ∀ i, w2.frozen? ⟨B, i, none⟩ = w.frozen? ⟨B, i, none⟩ := fun i => World.frozen?_of_block (w := w) hB
  have oa2 : w2.ownsRow (B + 1) 124 6 va p.atoms.length (p.atoms.flatMap atmCells) :=
    ownsRow_same oa fun k hk => hg.block k (oa.lt k hk).2 (fun e => ownBlock_ne oa ob (by decide) k hk e.symm)
  have h27 : (w2.setCell ⟨B, 27, none⟩ v').cell? ⟨B, 27, none⟩ = some v' := World.cell?_setCell_same w2 _ _ (by rw [hc]; exact hbv)
  refine ⟨⟨by rw [cell_set_ne (by omega), hc]; exact h.text, by rw [cell_set_ne (by omega), hc]; exact h.pos, fun k hk => by rw [cell_set_ne (by omega), hc]; exact h.near k hk,
    ⟨va, by rw [cell_set_ne (by omega), hc]; exact ha, ownsRow_setB oa2 _ _⟩, ⟨v', h27, ?_⟩,
    by rw [cell_set_ne (by omega), hc]; exact h.err, by rw [cell_set_ne (by omega), hc]; exact h.plc, fun n j v hn hv => by rw [cell_set_ne (by omega), hc]; exact h.rings n j v hn hv,
    fun i => by rw [World.frozen?_setCell, hf]; exact h.free i⟩, ⟨hg.os, hg.tape, hg.output, by simpa using hg.size, ?_, ?_⟩⟩
  · have := ownsRow_setB hown 27 v'
    simpa using this
  · intro k hk hm
    rw [Below.heap_setCell w2 _ _ k (by rintro rfl; exact hm (.inl rfl))]
    exact hg.block k hk (fun e => hm (.inr (.inr ⟨bv, hbv, e.symm⟩)))
  · intro k hk hm
    rcases hm with rfl | ⟨v, hv1, hv2⟩ | ⟨v, hv1, hv2⟩
    · exact .inl rfl
    · rw [cell_set_ne (by omega), hc] at hv1
      exact .inr (.inl ⟨v, hv1, hv2⟩)
    · rw [h27] at hv1
      cases hv1
      rcases hv k hv2 with e | e
      · exact .inr (.inr ⟨bv, hbv, e⟩)
      · omega

theorem cells4 (w : World) (x y z u0 : Value) (t : TypeId) : ∀ j u, [x, y, z, u0][j]? = some u → (w.alloc (.cells #[x, y, z, u0] t)).cell? ((⟨w.heap.size, 0, none⟩ : Addr).add j) = some u := by
  intro j u hj
  have hadd : (⟨w.heap.size, 0, none⟩ : Addr).add j = ⟨w.heap.size, j, none⟩ := by unfold Addr.add; split <;> simp_all
  rw [hadd, World.cell?_alloc_new]
  simpa using hj

theorem pbCells_min (a b : Nat) (o : Int) (pl : Nat) (h : a < b) : pbCells ⟨min a b, max a b, o, pl⟩ = [.int .i64 (a : Int), .int .i64 (b : Int), .int .i64 o, .int .i64 (pl : Int)] := by
  unfold pbCells
  rw [Nat.min_eq_left (by omega), Nat.max_eq_right (by omega)]
theorem pbCells_max (a b : Nat) (o : Int) (pl : Nat) (h : b < a) : pbCells ⟨min a b, max a b, o, pl⟩ = [.int .i64 (b : Int), .int .i64 (a : Int), .int .i64 o, .int .i64 (pl : Int)] := by
  unfold pbCells
  rw [Nat.min_eq_right (by omega), Nat.max_eq_left (by omega)]

set_option maxHeartbeats 1000000 in
theorem bind_any (h : Rd w B s p) (a b : Nat) (o : Int) (pl : Nat) (ha : a < 24) (hb : b < 24) (hab : a ≠ b) (hn : p.bonds.length ≤ 1000) :
    Calls Tryz.prog 129 #[.pointer (some ⟨B, 2, none⟩), .int .i64 a, .int .i64 b, .int .i64 o, .int .i64 pl] w fun e w' => e = .returned (.tuple #[]) ∧ Rd w' B s (bind p a b o pl) ∧ Fr B w w' := by
  obtain ⟨i0, hi, hz0, hz1, hz2⟩ := info_parts Tryz.infoMBond
  have hJ := join_any h a b o pl ha hb hab
  go_enter Tryz.func129, Tryz.ntmps129
  go_wp2_with fail
  refine hJ.mono ?_
  rintro e w1 ⟨rfl, hj, hf⟩
  have hB := hj.lt
  obtain ⟨bv, hbv, ob⟩ := hj.bonds
  have hb2 : Hid (∀ o o' : Obj, (((w1.alloc o).alloc o').drew).cell? ⟨B, 27, none⟩ = some bv) := by
    intro o o'
    rw [World.cell?_drew, World.cell?_alloc_lt _ _ _ (by simp; omega), World.cell?_alloc_lt _ _ _ (by simpa using hB)]
    exact hbv
  clear hJ
  rcases Nat.lt_or_gt_of_ne hab with hlt | hlt
  · have hlt' : (a : Int) < (b : Int) := by omega
    have HC : Hid (pbCells ⟨min a b, max a b, o, pl⟩ = [.int .i64 (a : Int), .int .i64 (b : Int), .int .i64 o, .int .i64 (pl : Int)]) := pbCells_min a b o pl hlt
    have hnews : Hid (∀ (o1 : Obj) (t : TypeId), ∀ j u, [Value.int .i64 (a : Int), .int .i64 (b : Int), .int .i64 o, .int .i64 (pl : Int)][j]? = some u → (((w1.alloc o1).alloc (.cells #[.int .i64 (a : Int), .int .i64 (b : Int), .int .i64 o, .int .i64 (pl : Int)] t)).drew).cell? ((⟨w1.heap.size + 1, 0, none⟩ : Addr).add j) = some u) := by
      intro o1 t j u hj
      have := cells4 (w1.alloc o1) (.int .i64 (a : Int)) (.int .i64 (b : Int)) (.int .i64 o) (.int .i64 (pl : Int)) t j u hj
      simpa using this
    clear hlt hab
    go_wp2_with fail
    go_region_law (refine step_append_mine rfl (.tmp 29) (.tmp 34) 67 rfl (B + 1) 102 i0 (.agg #[.int .i64 0, .int .i64 0, .int .i64 0, .int .i64 0]) 4 32 Tryz.underlying67 hi hz0 hz1 hz2 rfl (by decide) bv p.bonds.length (p.bonds.flatMap pbCells) rfl (by exact ((ob.alloc _).alloc _).drew) ⟨w1.heap.size + 1, 0, none⟩ 1 1 [.int .i64 (a : Int), .int .i64 (b : Int), .int .i64 o, .int .i64 (pl : Int)] rfl rfl (by exact hnews.out _ _) (by intro u hu; simp at hu; rcases hu with rfl | rfl | rfl | rfl <;> rfl) (by unfold maxLen; omega) (by omega) (by simp; omega) ?_; intro v' w2 ho hg hk; obtain ⟨ao, cap, hv'⟩ := ownsRow_shape ho; subst hv'; have X := (((hj.alloc _).alloc _).drew).bondAdded ⟨min a b, max a b, o, pl⟩ (hb2.out _ _) _ (by rw [HC.out]; exact ho) hg hk; obtain ⟨c27, f27⟩ := (((hj.alloc _).alloc _).drew).cell27 (hb2.out _ _) hg; clear ho hg hk)
    all_goals
      go_wp2_with fail
      go_end0
      exact ⟨rfl, X.1, hf.trans ((Fr.two hB _ _).trans X.2)⟩
  · have hlt' : (b : Int) < (a : Int) := by omega
    have HC : Hid (pbCells ⟨min a b, max a b, o, pl⟩ = [.int .i64 (b : Int), .int .i64 (a : Int), .int .i64 o, .int .i64 (pl : Int)]) := pbCells_max a b o pl hlt
    have hnews : Hid (∀ (o1 : Obj) (t : TypeId), ∀ j u, [Value.int .i64 (b : Int), .int .i64 (a : Int), .int .i64 o, .int .i64 (pl : Int)][j]? = some u → (((w1.alloc o1).alloc (.cells #[.int .i64 (b : Int), .int .i64 (a : Int), .int .i64 o, .int .i64 (pl : Int)] t)).drew).cell? ((⟨w1.heap.size + 1, 0, none⟩ : Addr).add j) = some u) := by
      intro o1 t j u hj
      have := cells4 (w1.alloc o1) (.int .i64 (b : Int)) (.int .i64 (a : Int)) (.int .i64 o) (.int .i64 (pl : Int)) t j u hj
      simpa using this
    clear hlt hab
    go_wp2_with fail
    go_region_law (refine step_append_mine rfl (.tmp 29) (.tmp 34) 67 rfl (B + 1) 102 i0 (.agg #[.int .i64 0, .int .i64 0, .int .i64 0, .int .i64 0]) 4 32 Tryz.underlying67 hi hz0 hz1 hz2 rfl (by decide) bv p.bonds.length (p.bonds.flatMap pbCells) rfl (by exact ((ob.alloc _).alloc _).drew) ⟨w1.heap.size + 1, 0, none⟩ 1 1 [.int .i64 (b : Int), .int .i64 (a : Int), .int .i64 o, .int .i64 (pl : Int)] rfl rfl (by exact hnews.out _ _) (by intro u hu; simp at hu; rcases hu with rfl | rfl | rfl | rfl <;> rfl) (by unfold maxLen; omega) (by omega) (by simp; omega) ?_; intro v' w2 ho hg hk; obtain ⟨ao, cap, hv'⟩ := ownsRow_shape ho; subst hv'; have X := (((hj.alloc _).alloc _).drew).bondAdded ⟨min a b, max a b, o, pl⟩ (hb2.out _ _) _ (by rw [HC.out]; exact ho) hg hk; obtain ⟨c27, f27⟩ := (((hj.alloc _).alloc _).drew).cell27 (hb2.out _ _) hg; clear ho hg hk)
    all_goals
      go_wp2_with fail
      go_end0
      exact ⟨rfl, X.1, hf.trans ((Fr.two hB _ _).trans X.2)⟩
end
end Go.Proofs.YtcabaecbmkgclaaGreatDoor

namespace Go.Proofs.YtcabaecbmkgclaaGreatDoor
open Go.RowKit Bz

section
variable {w : World} {B : Nat} {s : ByteArray} {p : St}

def BePost (w : World) (B : Nat) (s : ByteArray) (r : R (Hung × St)) (e : Ending) (w' : World) : Prop :=
  (match r with
  | .ok x => e = .returned (.tuple #[hungV x.1, .bool true]) ∧ Rd w' B s x.2
  | .error er => (∃ g, e = .returned (.tuple #[hungV g, .bool false])) ∧ Wrong w' B er) ∧ Fr B w w'

theorem BePost.ok {w w' : World} {r : R (Hung × St)} {e : Ending} {g : Hung} {q : St} (hr : r = .ok (g, q)) (he : e = .returned (.tuple #[hungV g, .bool true])) (h1 : Rd w' B s q) (h2 : Fr B w w') : BePost w B s r e w' := by
  subst hr; exact ⟨⟨he, h1⟩, h2⟩
theorem BePost.error {w w' : World} {r : R (Hung × St)} {e : Ending} {g : Hung} {er : Int × Int} (hr : r = .error er) (he : e = .returned (.tuple #[hungV g, .bool false])) (h1 : Wrong w' B er) (h2 : Fr B w w') : BePost w B s r e w' := by
  subst hr; exact ⟨⟨⟨g, he⟩, h1⟩, h2⟩

theorem Fr.two' {B : Nat} {w : World} (hB : B < w.heap.size) (o o' : Obj) : Fr B w ((w.alloc o).alloc o') :=
  ((Fr.refl B w).alloc hB o).alloc (by simp; omega) o'

theorem Rd.below {w' : World} (h : Rd w B s p) (hb : Below w.heap.size w w') : Rd w' B s p := h.same fun k hk => hb.block k (h.mine hk).2
theorem Fr.below {B : Nat} {w w' : World} (hB : B < w.heap.size) (hb : Below w.heap.size w w') : Fr B w w' :=
  ⟨hb.os, hb.tape, hb.output, hb.size, fun k hk _ => hb.block k hk, fun _ _ hm => (Mine.same (hb.block B hB)).1 hm⟩

/-- The reader stands so, and all that is its own lies below block N. -/
structure RdN (w : World) (B : Nat) (s : ByteArray) (p : St) (N : Nat) : Prop where
  rd : Rd w B s p
  mine : ∀ k, Mine w B k → k < N

theorem Rd.n (h : Rd w B s p) : RdN w B s p w.heap.size := ⟨h, fun _ hk => (h.mine hk).2⟩
theorem RdN.below {w' : World} {N : Nat} (h : RdN w B s p N) (hb : Below N w w') : RdN w' B s p N :=
  ⟨h.rd.same fun k hk => hb.block k (h.mine k hk), fun k hk => h.mine k ((Mine.same (hb.block B (h.mine B (.inl rfl)))).1 hk)⟩
theorem Mine.setB {w : World} {B i k : Nat} (h1 : i ≠ 26) (h2 : i ≠ 27) (u : Value) : Mine (w.setCell ⟨B, i, none⟩ u) B k ↔ Mine w B k := by
  unfold Mine
  rw [cell_set_ne h1, cell_set_ne h2]
theorem RdN.setPos {N : Nat} (h : RdN w B s p N) (n : Nat) (u : Value) (hu : u = .int .i64 n) : RdN (w.setCell ⟨B, 1, none⟩ u) B s { p with pos := n } N :=
  ⟨h.rd.setPos n u hu, fun k hk => h.mine k ((Mine.setB (by decide) (by decide) u).1 hk)⟩

theorem RdN.drewN {N : Nat} (h : RdN w B s p N) (n : Nat) : RdN (w.drewN n) B s p N := ⟨h.rd.drewN n, h.mine⟩
theorem RdN.drew {N : Nat} (h : RdN w B s p N) : RdN w.drew B s p N := ⟨h.rd.drew, h.mine⟩
theorem RdN.setL {N L : Nat} (h : RdN w B s p N) (hL : N ≤ L) (i : Nat) (u : Value) : RdN (w.setCell ⟨L, i, none⟩ u) B s p N := h.below ((Below.refl _ _).setCell hL u)
theorem RdN.allocL {N : Nat} (h : RdN w B s p N) (hN : N ≤ w.heap.size) (o : Obj) : RdN (w.alloc o) B s p N := h.below ((Below.refl _ _).alloc hN o)

theorem Fr.setL {B L : Nat} {a w : World} (h : Fr B a w) (hL : a.heap.size ≤ L) (hB : B < a.heap.size) (i : Nat) (u : Value) : Fr B a (w.setCell ⟨L, i, none⟩ u) :=
  h.setCell (.inr hL) (fun e => absurd e (by simp; omega)) u
theorem Fr.allocL {B : Nat} {a w : World} (h : Fr B a w) (hB : B < a.heap.size) (o : Obj) : Fr B a (w.alloc o) := h.alloc (Nat.lt_of_lt_of_le hB h.size) o

set_option maxHeartbeats 1000000 in
theorem bondEnd_none (h : Rd w B s p) (hs : s.size ≤ 160) (hp : p.pos ≤ s.size) (a : Nat) (hc : isSign (byteAt s p.pos) = false) :
    Calls Tryz.prog 133 #[.pointer (some ⟨B, 0, none⟩), .int .i64 a] w (BePost w B s (bondEnd s a p)) := by
  have hB := h.lt
  have HR : Hid (bondEnd s a p = .ok (⟨0, 0, a⟩, p)) := by unfold Hid bondEnd; simp [hc]
  have HS := isSign_any (byteAt s p.pos)
  rw [hc] at HS
  have HS' : Hid _ := HS
  clear HS hc
  go_enter Tryz.func133, Tryz.ntmps133
  go_wp2_with fail
  refine (peek0 ((h.alloc _).alloc _) hs hp).mono ?_
  rintro e w1 ⟨rfl, k, rfl⟩
  go_wp2_with fail
  refine (HS'.out _).mono ?_
  rintro e w1 ⟨rfl, rfl⟩
  go_wp2_with fail
  refine bodyPost_ret (v := .tuple #[.agg #[.int .u8 0, .int .i64 0, .int .i64 a], .bool true]) (by simp [results, Tryz.results133, go_sem]) rfl ?_
  refine BePost.ok HR.out rfl (RdN.rd (N := w.heap.size) ?_) ?_
  · exact (by repeat (first | with_reducible exact Rd.n h | with_reducible refine RdN.drewN ?_ _ | with_reducible refine RdN.drew ?_ | with_reducible refine RdN.setL ?_ (by simp) _ _ | with_reducible refine RdN.allocL ?_ (by simp; try omega) _ | with_reducible refine RdN.setPos ?_ _ _ (by go_num)))
  · exact (by repeat (first | with_reducible exact Fr.refl _ _ | with_reducible refine Fr.drewN ?_ _ | with_reducible refine Fr.drew ?_ | with_reducible refine Fr.setPos ?_ _ | with_reducible refine Fr.setL ?_ (by simp) hB _ _ | with_reducible refine Fr.allocL ?_ hB _))

theorem Rd.aroCell (h : Rd w B s p) (a : Nat) (ha : a < p.atoms.length) : ∃ g cap, w.cell? ⟨B, 26, none⟩ = some (.slice (some ⟨g, 0, none⟩) p.atoms.length cap) ∧ w.cell? ⟨g, a * 6 + 1, none⟩ = some (.bool (aro p a)) ∧ B < g ∧ g < w.heap.size := by
  obtain ⟨g, cap, hv, hc, _, h1, h2⟩ := h.atomsAt (by omega)
  have ga := List.getElem?_eq_getElem ha
  have ca := hc a _ 1 (.bool (p.atoms[a]).aro) ga rfl
  have ea : aro p a = (p.atoms[a]).aro := by simp [aro, ga]
  exact ⟨g, cap, hv, by rw [ea]; exact ca, h1, h2⟩

/-- A box of three cells. -/
structure B3 (w : World) (L : Nat) (x y z : Value) : Prop where
  c0 : w.cell? ⟨L, 0, none⟩ = some x
  c1 : w.cell? ⟨L, 1, none⟩ = some y
  c2 : w.cell? ⟨L, 2, none⟩ = some z
  fz : ∀ i, w.frozen? ⟨L, i, none⟩ = false

theorem B3.lt {L : Nat} {x y z : Value} (h : B3 w L x y z) : L < w.heap.size := World.block_lt_of_cell? w ⟨L, 0, none⟩ h.c0
theorem B3.same {w' : World} {L : Nat} {x y z : Value} (h : B3 w L x y z) (hs : w'.heap[L]? = w.heap[L]?) : B3 w' L x y z := by
  have hc : ∀ i, w'.cell? ⟨L, i, none⟩ = w.cell? ⟨L, i, none⟩ := fun i => World.cell?_of_block (w := w) hs
  have hf : ∀ i, w'.frozen? ⟨L, i, none⟩ = w.frozen? ⟨L, i, none⟩ := fun i => World.frozen?_of_block (w := w) hs
  exact ⟨by rw [hc]; exact h.c0, by rw [hc]; exact h.c1, by rw [hc]; exact h.c2, fun i => by rw [hf]; exact h.fz i⟩
theorem B3.fr {w' : World} {L : Nat} {x y z : Value} (h : B3 w L x y z) (hf : Fr B w w') (hm : ¬ Mine w B L) : B3 w' L x y z := h.same (hf.block L h.lt hm)

theorem B3.stored {L : Nat} {x y z : Value} (h : B3 w L x y z) (a b c : Value) : (w.setCell ⟨L, 0, none⟩ a).cell? ⟨L, 0, none⟩ = some a ∧ ((w.setCell ⟨L, 0, none⟩ a).setCell ⟨L, 1, none⟩ b).cell? ⟨L, 1, none⟩ = some b ∧
    (((w.setCell ⟨L, 0, none⟩ a).setCell ⟨L, 1, none⟩ b).setCell ⟨L, 2, none⟩ c).cell? ⟨L, 2, none⟩ = some c :=
  ⟨World.cell?_setCell_same w _ _ h.c0, World.cell?_setCell_same _ _ _ (by rw [cell_set_ne (by omega)]; exact h.c1),
    World.cell?_setCell_same _ _ _ (by rw [cell_set_ne (by omega), cell_set_ne (by omega)]; exact h.c2)⟩
theorem B3.drew {L : Nat} {x y z : Value} (h : B3 w L x y z) : B3 w.drew L x y z := ⟨h.c0, h.c1, h.c2, h.fz⟩
theorem B3.setB {L : Nat} {x y z : Value} (h : B3 w L x y z) (hL : L ≠ B) (i : Nat) (u : Value) : B3 (w.setCell ⟨B, i, none⟩ u) L x y z := h.same (Below.heap_setCell w _ u L hL)

theorem Wrong.setL {w : World} {B L : Nat} {e : Int × Int} (h : Wrong w B e) (hL : L ≠ B) (i : Nat) (u : Value) : Wrong (w.setCell ⟨L, i, none⟩ u) B e :=
  ⟨by rw [World.cell?_setCell_other _ _ _ _ (fun e => hL (by simpa using congrArg Addr.block e))]; exact h.err,
   by rw [World.cell?_setCell_other _ _ _ _ (fun e => hL (by simpa using congrArg Addr.block e))]; exact h.plc⟩

theorem notMine_set {w : World} {B L : Nat} (hm : ¬ Mine w B L) (i : Nat) (u : Value) : ¬ Mine (w.setCell ⟨L, i, none⟩ u) B L := fun e =>
  hm ((Mine.same (Below.heap_setCell w _ u B (fun e => hm (.inl e.symm)))).1 e)
theorem Rd.set3 {L : Nat} (h : Rd w B s p) (hm : ¬ Mine w B L) (a b c : Value) : Rd (((w.setCell ⟨L, 0, none⟩ a).setCell ⟨L, 1, none⟩ b).setCell ⟨L, 2, none⟩ c) B s p :=
  ((h.setOther hm a).setOther (notMine_set hm _ _) b).setOther (notMine_set (notMine_set hm _ _) _ _) c

/-- Behind 'e.sign = sign{..}'. -/
structure BeCut (w wc : World) (B : Nat) (s : ByteArray) (p : St) (c : Int) (a : Nat) : Prop where
  rd : RdN wc B s p w.heap.size
  b0 : B3 wc w.heap.size (.int .u8 0) (.int .i64 0) (.int .i64 0)
  b1 : B3 wc (w.heap.size + 1) (.int .u8 c) (.int .i64 p.pos) (.int .i64 a)
  fr : Fr B w wc

theorem beCut_mk (h : Rd w B s p) (c : Int) (a k : Nat) (t : TypeId) : BeCut w (((((w.alloc (.cells #[.int .u8 0, .int .i64 0, .int .i64 0] t)).alloc (.cells #[.int .u8 0, .int .i64 0, .int .i64 (a : Int)] t)).drewN k).setCell ⟨w.heap.size + 1, 0, none⟩ (.int .u8 c)).setCell ⟨w.heap.size + 1, 1, none⟩ (.int .i64 p.pos)) B s p c a := by
  have hB := h.lt
  refine ⟨(by repeat (first | with_reducible exact Rd.n h | with_reducible refine RdN.drewN ?_ _ | with_reducible refine RdN.drew ?_ | with_reducible refine RdN.setL ?_ (by simp) _ _ | with_reducible refine RdN.allocL ?_ (by simp; try omega) _ | with_reducible refine RdN.setPos ?_ _ _ (by go_num))), ⟨?_, ?_, ?_, ?_⟩, ⟨?_, ?_, ?_, ?_⟩, (by repeat (first | with_reducible exact Fr.refl _ _ | with_reducible refine Fr.drewN ?_ _ | with_reducible refine Fr.drew ?_ | with_reducible refine Fr.setPos ?_ _ | with_reducible refine Fr.setL ?_ (by simp) hB _ _ | with_reducible refine Fr.allocL ?_ hB _))⟩
  · simp [go_sem]
  · simp [go_sem]
  · simp [go_sem]
  · intro i; simp [go_sem]
  · simp [go_sem]
  · simp [go_sem]
  · simp [go_sem]
  · intro i; simp [go_sem]

set_option maxHeartbeats 1000000 in
theorem bondEnd_sign (h : Rd w B s p) (hs : s.size ≤ 160) (hp : p.pos ≤ s.size) (a : Nat) (ha : a < p.atoms.length) (_hn : p.atoms.length ≤ 24) (hc : isSign (byteAt s p.pos) = true) :
    Calls Tryz.prog 133 #[.pointer (some ⟨B, 0, none⟩), .int .i64 a] w (BePost w B s (bondEnd s a p)) := by
  have hB := h.lt
  have HR : Hid (bondEnd s a p = if byteAt s p.pos = 58 ∧ aro p a = false then .error (3, (p.pos : Int)) else .ok (⟨byteAt s p.pos, p.pos, a⟩, { p with pos := p.pos + 1 })) := by unfold Hid bondEnd; simp only [hc, if_true]
  have HS := isSign_any (byteAt s p.pos)
  rw [hc] at HS
  have HS' : Hid _ := HS
  have hq := h.pos
  clear HS hc
  generalize hcc : byteAt s p.pos = c at *
  have HP : ∀ w, Rd w B s p → Calls Tryz.prog 80 #[.pointer (some ⟨B, 0, none⟩), .int .i64 0] w fun e w' => e = .returned (.int .u8 c) ∧ ∃ k, w' = w.drewN k := by
    intro w h
    have := peek0 h hs hp
    rw [hcc] at this
    exact this
  have HP' : Hid _ := HP
  clear HP hcc
  go_enter Tryz.func133, Tryz.ntmps133
  go_wp2_with fail
  refine (HP'.out _ ((h.alloc _).alloc _)).mono ?_
  rintro e w1 ⟨rfl, k, rfl⟩
  go_wp2_with fail
  refine (HS'.out _).mono ?_
  rintro e w1 ⟨rfl, rfl⟩
  go_upto_region 4 with fail
  go_cut [] (fun wc => BeCut w wc B s p c a)
  case first =>
    go_region_with (go_at_call 80; refine (HP'.out _ (((h.alloc _).alloc _).drewN _)).mono ?_; rintro e w1 ⟨rfl, k1, rfl⟩)
    all_goals
      go_wp2_with fail
      go_meet
      case rel => exact beCut_mk h c a _ _
  case rest =>
    have hq1 := hcut.rd.rd.pos
    have hz1 := hcut.rd.rd.free 1
    obtain ⟨g, cap, h26, hg, hBg, hgl⟩ := hcut.rd.rd.aroCell a ha
    have ha' : (a : Int) < (p.atoms.length : Int) := by omega
    have n0 : ¬ Mine wc B w.heap.size := fun e => Nat.lt_irrefl _ (hcut.rd.mine _ e)
    have n1 : ¬ Mine wc B (w.heap.size + 1) := fun e => by have := hcut.rd.mine _ e; omega
    have hgw : g < w.heap.size := hcut.rd.mine g (.inr (.inl ⟨_, h26, rfl⟩))
    have d0 := hcut.b0.c0
    have d1 := hcut.b0.c1
    have d2 := hcut.b0.c2
    have e0 := hcut.b1.c0
    have e1 := hcut.b1.c1
    have e2 := hcut.b1.c2
    have fd0 := hcut.b0.fz 0
    have fd1 := hcut.b0.fz 1
    have fd2 := hcut.b0.fz 2
    have r1 := hcut.rd.setPos (p.pos + 1) (.int .i64 ((p.pos : Int) + 1)) (by go_num)
    have hf1 := hcut.fr.setPos (.int .i64 ((p.pos : Int) + 1))
    have HLB : w.heap.size ≠ B := by omega
    have HLB' : w.heap.size + 1 ≠ B := by omega
    by_cases h58 : c = 58
    · subst h58
      cases har : aro p a
      · rw [har] at hg HR
        simp only [and_self, if_true] at HR
        clear har
        have b0' := hcut.b0.setB HLB 1 (.int .i64 ((p.pos : Int) + 1))
        have b1' := hcut.b1.setB HLB' 1 (.int .i64 ((p.pos : Int) + 1))
        have n0' : ¬ Mine (wc.setCell ⟨B, 1, none⟩ (.int .i64 ((p.pos : Int) + 1))) B w.heap.size := fun e => Nat.lt_irrefl _ (r1.mine _ e)
        have n1' : ¬ Mine (wc.setCell ⟨B, 1, none⟩ (.int .i64 ((p.pos : Int) + 1))) B (w.heap.size + 1) := fun e => by have := r1.mine _ e; omega
        have hfa := fail_any r1.rd.drew 3 (p.pos : Int)
        go_wp2_with fail
        go_region_with (go_at_call 57; refine hfa.mono ?_; rintro e w' ⟨rfl, hw, hf6⟩; have x0 := B3.fr b0'.drew hf6 n0'; have x1 := B3.fr b1'.drew hf6 n1'; have a0 := x0.c0; have a1 := x0.c1; have a2 := x0.c2; have g0 := x0.fz 0; have g1 := x0.fz 1; have g2 := x0.fz 2; have i0 := x1.c0; have i1 := x1.c1; have i2 := x1.c2)
        all_goals
          go_wp2_with fail
          obtain ⟨q0, q1, q2⟩ := x0.stored (.int .u8 58) (.int .i64 p.pos) (.int .i64 a)
          refine bodyPost_ret (v := .tuple #[.agg #[.int .u8 58, .int .i64 p.pos, .int .i64 a], .bool false]) (by simp [results, Tryz.results133, go_sem, q0, q1, q2]) rfl ?_
          exact BePost.error (g := ⟨58, p.pos, a⟩) HR.out rfl (((hw.setL HLB _ _).setL HLB _ _).setL HLB _ _) (((((hf1.drew).trans hf6).setL (Nat.le_refl _) hB _ _).setL (Nat.le_refl _) hB _ _).setL (Nat.le_refl _) hB _ _)
      · rw [har] at hg HR
        simp only [Bool.true_eq_false, and_false, if_false] at HR
        clear har
        go_wp2_with fail
        obtain ⟨q0, q1, q2⟩ := (hcut.b0.setB HLB 1 (.int .i64 ((p.pos : Int) + 1))).stored (.int .u8 58) (.int .i64 p.pos) (.int .i64 a)
        refine bodyPost_ret (v := .tuple #[.agg #[.int .u8 58, .int .i64 p.pos, .int .i64 a], .bool true]) (by simp [results, Tryz.results133, go_sem, q0, q1, q2]) rfl ?_
        refine BePost.ok HR.out rfl ((((r1.setL (Nat.le_refl _) _ _).setL (Nat.le_refl _) _ _).setL (Nat.le_refl _) _ _).rd) ((((hf1.setL (Nat.le_refl _) hB _ _).setL (Nat.le_refl _) hB _ _).setL (Nat.le_refl _) hB _ _))
    · have t58 : (c == 58) = false := by simpa using h58
      rw [if_neg (by simp [h58])] at HR
      clear h58
      go_wp2_with fail
      obtain ⟨q0, q1, q2⟩ := (hcut.b0.setB HLB 1 (.int .i64 ((p.pos : Int) + 1))).stored (.int .u8 c) (.int .i64 p.pos) (.int .i64 a)
      refine bodyPost_ret (v := .tuple #[.agg #[.int .u8 c, .int .i64 p.pos, .int .i64 a], .bool true]) (by simp [results, Tryz.results133, go_sem, q0, q1, q2]) rfl ?_
      refine BePost.ok HR.out rfl ((((r1.setL (Nat.le_refl _) _ _).setL (Nat.le_refl _) _ _).setL (Nat.le_refl _) _ _).rd) ((((hf1.setL (Nat.le_refl _) hB _ _).setL (Nat.le_refl _) hB _ _).setL (Nat.le_refl _) hB _ _))

theorem bondEnd_any (h : Rd w B s p) (hs : s.size ≤ 160) (hp : p.pos ≤ s.size) (a : Nat) (ha : a < p.atoms.length) (hn : p.atoms.length ≤ 24) :
    Calls Tryz.prog 133 #[.pointer (some ⟨B, 0, none⟩), .int .i64 a] w (BePost w B s (bondEnd s a p)) := by
  cases hc : isSign (byteAt s p.pos)
  · exact bondEnd_none h hs hp a hc
  · exact bondEnd_sign h hs hp a ha hn hc
end
end Go.Proofs.YtcabaecbmkgclaaGreatDoor

namespace Go.Proofs.YtcabaecbmkgclaaGreatDoor
open Go.RowKit Bz

section
variable {w : World} {B : Nat} {s : ByteArray} {p : St}

theorem b3_new (w : World) (x y z : Value) (t : TypeId) : B3 (w.alloc (.cells #[x, y, z] t)) w.heap.size x y z := ⟨by simp, by simp, by simp, by simp⟩

set_option maxHeartbeats 1000000 in
theorem link_any (h : Rd w B s p) (hs : s.size ≤ 160) (hp : p.pos ≤ s.size) (a : Nat) (ha : a < p.atoms.length) (hn : p.atoms.length ≤ 24) :
    Calls Tryz.prog 107 #[.pointer (some ⟨B, 0, none⟩), .int .i64 a] w (BePost w B s (link s a p)) := by
  have hB := h.lt
  have HLB : w.heap.size ≠ B := by omega
  have b0 := b3_new w (.int .u8 0) (.int .i64 0) (.int .i64 0) 92
  have n0 := h.notMine (.cells #[.int .u8 0, .int .i64 0, .int .i64 0] 92)
  have hT := take1 (h.alloc (.cells #[.int .u8 0, .int .i64 0, .int .i64 0] 92)) hs hp 46 46 rfl (by decide)
  by_cases h46 : byteAt s p.pos = 46
  · have HR : Hid (link s a p = .ok (⟨0, 0, -1⟩, { p with pos := p.pos + 1 })) := by unfold Hid link; rw [if_pos h46]
    simp only [h46, if_true, BEq.rfl] at hT
    clear h46
    go_enter Tryz.func107, Tryz.ntmps107
    go_wp2_with fail
    refine hT.mono ?_
    rintro e w1 ⟨rfl, hr1, hf1⟩
    have x0 := b0.fr hf1 n0
    have a0 := x0.c0
    have a1 := x0.c1
    have a2 := x0.c2
    have g0 := x0.fz 0
    have g1 := x0.fz 1
    have g2 := x0.fz 2
    have m1 := hf1.notMine (by simp) n0
    obtain ⟨q0, q1, q2⟩ := x0.stored (.int .u8 0) (.int .i64 0) (.int .i64 (-1))
    go_wp2_with fail
    refine bodyPost_ret (v := .tuple #[.agg #[.int .u8 0, .int .i64 0, .int .i64 (-1)], .bool true]) (by simp [results, Tryz.results107, go_sem, q0, q1, q2]) rfl ?_
    refine BePost.ok HR.out rfl (hr1.set3 m1 _ _ _) ((((((Fr.refl B w).allocL hB _).trans hf1).setL (Nat.le_refl _) hB _ _).setL (Nat.le_refl _) hB _ _).setL (Nat.le_refl _) hB _ _)
  · have t46 : (byteAt s p.pos == 46) = false := by simpa using h46
    have HR : Hid (link s a p = bondEnd s a p) := by unfold Hid link; rw [if_neg h46]
    simp only [h46, t46, if_false] at hT
    clear h46 t46
    go_enter Tryz.func107, Tryz.ntmps107
    go_wp2_with fail
    refine hT.mono ?_
    rintro e w1 ⟨rfl, hr1, hf1⟩
    have x0 := b0.fr hf1 n0
    have m1 := hf1.notMine (by simp) n0
    have hBE := bondEnd_any hr1 hs hp a ha hn
    go_wp2_with fail
    refine hBE.mono ?_
    rintro e w2 ⟨hm, hf2⟩
    have x2 := x0.fr hf2 m1
    have m2 := hf2.notMine x0.lt m1
    have a0 := x2.c0
    have a1 := x2.c1
    have a2 := x2.c2
    have g0 := x2.fz 0
    have g1 := x2.fz 1
    have g2 := x2.fz 2
    cases hbe : bondEnd s a p with
    | ok x =>
      rw [hbe] at hm HR
      obtain ⟨rfl, hr2⟩ := hm
      obtain ⟨q0, q1, q2⟩ := x2.stored (.int .u8 x.1.mark) (.int .i64 x.1.spot) (.int .i64 x.1.atom)
      clear hbe
      unfold hungV
      go_wp2_with fail
      refine bodyPost_ret (v := .tuple #[.agg #[.int .u8 x.1.mark, .int .i64 x.1.spot, .int .i64 x.1.atom], .bool true]) (by simp [results, Tryz.results107, go_sem, q0, q1, q2]) rfl ?_
      refine BePost.ok (g := x.1) (q := x.2) HR.out rfl (hr2.set3 m2 _ _ _) (((((((Fr.refl B w).allocL hB _).trans hf1).trans hf2).setL (Nat.le_refl _) hB _ _).setL (Nat.le_refl _) hB _ _).setL (Nat.le_refl _) hB _ _)
    | error er =>
      rw [hbe] at hm HR
      obtain ⟨⟨g, rfl⟩, hw2⟩ := hm
      obtain ⟨q0, q1, q2⟩ := x2.stored (.int .u8 g.mark) (.int .i64 g.spot) (.int .i64 g.atom)
      clear hbe
      unfold hungV
      go_wp2_with fail
      refine bodyPost_ret (v := .tuple #[.agg #[.int .u8 g.mark, .int .i64 g.spot, .int .i64 g.atom], .bool false]) (by simp [results, Tryz.results107, go_sem, q0, q1, q2]) rfl ?_
      refine BePost.error (g := g) HR.out rfl (((hw2.setL HLB _ _).setL HLB _ _).setL HLB _ _) (((((((Fr.refl B w).allocL hB _).trans hf1).trans hf2).setL (Nat.le_refl _) hB _ _).setL (Nat.le_refl _) hB _ _).setL (Nat.le_refl _) hB _ _)

set_option maxHeartbeats 1000000 in
theorem ringAhead_any (h : Rd w B s p) (hs : s.size ≤ 160) (hp : p.pos ≤ s.size) :
    Calls Tryz.prog 103 #[.pointer (some ⟨B, 0, none⟩)] w fun e w' => e = .returned (.bool (ringAhead s p)) ∧ ∃ k, w' = w.drewN k := by
  cases hc : isSign (byteAt s p.pos)
  · have HR : Hid (ringAhead s p = startsRing (byteAt s p.pos)) := by unfold Hid ringAhead; rw [hc]; rfl
    have HS := isSign_any (byteAt s p.pos)
    rw [hc] at HS
    have HS' : Hid _ := HS
    clear HS hc
    go_enter Tryz.func103, Tryz.ntmps103
    go_wp2_with fail
    refine (peek0 h hs hp).mono ?_
    rintro e w1 ⟨rfl, k, rfl⟩
    go_wp2_with fail
    refine (HS'.out _).mono ?_
    rintro e w1 ⟨rfl, rfl⟩
    go_wp2_with fail
    refine (peek0 (h.drewN k) hs hp).mono ?_
    rintro e w1 ⟨rfl, k1, rfl⟩
    go_wp2_with fail
    refine (startsRing_any _ _).mono ?_
    rintro e w1 ⟨rfl, rfl⟩
    go_wp2_with fail
    go_ret
    exact ⟨ret_bool HR.out.symm, _, rfl⟩
  · have HR : Hid (ringAhead s p = startsRing (byteAt s (p.pos + 1))) := by unfold Hid ringAhead; rw [hc]; rfl
    have HS := isSign_any (byteAt s p.pos)
    rw [hc] at HS
    have HS' : Hid _ := HS
    clear HS hc
    go_enter Tryz.func103, Tryz.ntmps103
    go_wp2_with fail
    refine (peek0 h hs hp).mono ?_
    rintro e w1 ⟨rfl, k, rfl⟩
    go_wp2_with fail
    refine (HS'.out _).mono ?_
    rintro e w1 ⟨rfl, rfl⟩
    go_wp2_with fail
    refine (peek1 (h.drewN k) hs hp).mono ?_
    rintro e w1 ⟨rfl, k1, rfl⟩
    go_wp2_with fail
    refine (startsRing_any _ _).mono ?_
    rintro e w1 ⟨rfl, rfl⟩
    go_wp2_with fail
    go_ret
    exact ⟨ret_bool HR.out.symm, _, rfl⟩
end
end Go.Proofs.YtcabaecbmkgclaaGreatDoor

namespace Go.Proofs.YtcabaecbmkgclaaGreatDoor
open Go.RowKit Bz

theorem byte_lt {s : ByteArray} {i : Nat} {c : Int} (h : byteAt s i = c) (hc : c ≠ 0) : i < s.size := lt_of_byteAt (by omega)

theorem hydro_le (s : ByteArray) (i : Nat) (h : i ≤ s.size) : (hydro s i).2 ≤ s.size := by
  unfold hydro
  split
  · split
    · rename_i h1 h2; have := byte_lt h1 (by omega); have := lt_of_byteAt (s := s) (i := i + 1) (by omega); simp; omega
    · rename_i h1 h2; have := byte_lt h1 (by omega); simp; omega
  · simpa using h
theorem charge_le (s : ByteArray) (i : Nat) (h : i ≤ s.size) : (charge s i).2 ≤ s.size := by
  unfold charge
  split
  · rename_i h1; have := byte_lt h1 (by omega); simp; omega
  · split
    · rename_i h1; have := byte_lt h1 (by omega); simp; omega
    · simpa using h

section
variable {w : World} {B : Nat} {s : ByteArray} {p : St}

def BrPost (w : World) (B : Nat) (s : ByteArray) (p : St) (L : Nat) (a : Atm) (e : Ending) (w' : World) : Prop :=
  match bracket s p.pos with
  | .ok x => e = .returned (.bool true) ∧ Rd w' B s { p with pos := x.2.2 } ∧ Bx w' L { a with ch := x.1, hy := x.2.1 } ∧ ¬ Mine w' B L ∧ FrX B L w w'
  | .error er => e = .returned (.bool false) ∧ Wrong w' B er ∧ FrX B L w w'

/-- Where the reader and the box stand behind the hydrogens. -/
structure AtH (w0 w : World) (B : Nat) (s : ByteArray) (p : St) (L : Nat) (a : Atm) : Prop where
  rd : Rd w B s p
  bx : Bx w L a
  nm : ¬ Mine w B L
  fr : FrX B L w0 w

theorem AtH.setBox {w0 w : World} {L : Nat} {a a' : Atm} (h : AtH w0 w B s p L a) (i : Nat) (u : Value) (hb : Bx (w.setCell ⟨L, i, none⟩ u) L a') : AtH w0 (w.setCell ⟨L, i, none⟩ u) B s p L a' := by
  have hLB := Rd.ne_of_notMine h.nm
  exact ⟨h.rd.setOther h.nm u, hb, fun e => h.nm ((Mine.same (Below.heap_setCell _ _ _ _ (by simpa using fun e => hLB e.symm))).1 e), h.fr.set hLB i u⟩

theorem AtH.step {w0 w w1 : World} {L : Nat} {a : Atm} {q : St} (h : AtH w0 w B s p L a) (hr : Rd w1 B s q) (hf : Fr B w w1) : AtH w0 w1 B s q L a :=
  ⟨hr, h.bx.fr hf h.nm, hf.notMine h.bx.lt h.nm, h.fr.trans (hf.x L)⟩

set_option maxHeartbeats 2000000 in
theorem bracket_any (h : Rd w B s p) (hs : s.size ≤ 160) (hp : p.pos ≤ s.size) (L : Nat) (a : Atm) (hb : Bx w L a) (hm : ¬ Mine w B L) (hch : a.ch = 0) (hhy : a.hy = 0) :
    Calls Tryz.prog 127 #[.pointer (some ⟨B, 0, none⟩), .pointer (some ⟨L, 0, none⟩)] w (BrPost w B s p L a) := by
  have H0 : AtH w w B s p L a := ⟨h, hb, hm, (Fr.refl B w).x L⟩
  go_enter Tryz.func127, Tryz.ntmps127
  go_wp2_with fail
  refine (take1 h hs hp 72 72 rfl (by decide)).mono ?_
  rintro e w1 ⟨rfl, hr1, hf1⟩
  go_upto_if 10 with fail
  go_cut [] (fun wc => AtH w wc B s { p with pos := (hydro s p.pos).2 } L { a with hy := (hydro s p.pos).1 })
  case first =>
    by_cases h72 : byteAt s p.pos = 72
    · have hlt := byte_lt h72 (by decide)
      rw [if_pos h72] at hr1
      have H1 := H0.step hr1 hf1
      have t72 : (byteAt s p.pos == 72) = true := by simpa using h72
      have H2 := H1.setBox 3 (.int .i64 1) (H1.bx.setHy 1)
      have c3 := H1.bx.c3
      have f3 := H1.bx.fz 3
      have HD := digit_any H2.rd hs (by show p.pos + 1 ≤ s.size; omega) 49 52 (by decide)
      by_cases hd : 49 ≤ byteAt s (p.pos + 1) ∧ byteAt s (p.pos + 1) ≤ 52
      · rw [if_pos hd, if_pos hd] at HD
        have hy : Hid (hydro s p.pos = (byteAt s (p.pos + 1) - 48, p.pos + 2)) := by unfold Hid hydro; rw [if_pos h72, if_pos hd]
        clear h72 hd
        go_wp2_with fail
        refine HD.mono ?_
        rintro e w2 ⟨rfl, hr2, hf2⟩
        have H3 := H2.step hr2 hf2
        have c3' := H3.bx.c3
        have f3' := H3.bx.fz 3
        have H4 := H3.setBox 3 (.int .i64 (byteAt s (p.pos + 1) - 48)) (H3.bx.setHy _)
        go_wp2_with fail
        go_meet
        case rel => rw [hy.out]; exact H4
      · rw [if_neg hd, if_neg hd] at HD
        have hy : Hid (hydro s p.pos = (1, p.pos + 1)) := by unfold Hid hydro; rw [if_pos h72, if_neg hd]
        clear h72 hd
        go_wp2_with fail
        refine HD.mono ?_
        rintro e w2 ⟨rfl, hr2, hf2⟩
        have H3 := H2.step hr2 hf2
        go_wp2_with fail
        go_meet
        case rel => rw [hy.out]; exact H3
    · rw [if_neg h72] at hr1
      have H1 := H0.step hr1 hf1
      have t72 : (byteAt s p.pos == 72) = false := by simpa using h72
      have hy : Hid (hydro s p.pos = (0, p.pos)) := by unfold Hid hydro; rw [if_neg h72]
      have HA : Hid (a = { a with hy := 0 }) := by unfold Hid; rw [← hhy]
      clear h72
      go_wp2_with fail
      go_meet
      case rel => rw [hy.out]; rw [HA.out] at H1; exact H1
  case rest =>
    have hle := hydro_le s p.pos hp
    have HB : Hid (bracket s p.pos = (if byteAt s (charge s (hydro s p.pos).2).2 = 93 then .ok ((charge s (hydro s p.pos).2).1, (hydro s p.pos).1, (charge s (hydro s p.pos).2).2 + 1) else .error (2, ((charge s (hydro s p.pos).2).2 : Int)))) := rfl
    generalize (hydro s p.pos).1 = hy at *
    generalize (hydro s p.pos).2 = i at *
    clear hr1 hf1
    have hpk := peek0 hcut.rd hs hle
    by_cases hc : byteAt s i = 45
    · have hlt := byte_lt hc (by decide)
      have hch1 : charge s i = (-1, i + 1) := by simp [charge, hc]
      rw [hch1] at HB
      clear hch1
      rw [hc] at hpk
      have hpk2 : Hid (∀ k, Calls Tryz.prog 80 #[.pointer (some ⟨B, 0, none⟩), .int .i64 0] (wc.drewN k) fun e w' => e = .returned (.int .u8 45) ∧ ∃ m, w' = (wc.drewN k).drewN m) := by
        intro k
        have := peek0 (hcut.rd.drewN k) hs hle
        rw [hc] at this
        exact this
      have hco : Hid (∀ w, Calls Tryz.prog 153 #[.int .u8 45] w fun e w' => e = .returned (.int .i64 (-1)) ∧ w' = w) := fun w => chargeOf_any 45 w
      clear hc
      go_wp2_with fail
      refine hpk.mono ?_
      rintro e w2 ⟨rfl, k, rfl⟩
      go_wp2_with fail
      refine (hpk2.out k).mono ?_
      rintro e w3 ⟨rfl, m, rfl⟩
      rw [World.drewN_drewN]
      have H2 := hcut.step (hcut.rd.drewN (k + m)) ((Fr.refl B wc).drewN (k + m))
      have c2 := H2.bx.c2
      have f2 := H2.bx.fz 2
      have H3 := H2.setBox 2 (.int .i64 (-1)) (H2.bx.setCh (-1))
      have q3 := H3.rd.pos
      have z3 := H3.rd.free 1
      have H4 : AtH w _ B s _ L _ := H3.step (H3.rd.setPos (i + 1) (.int .i64 ((i : Int) + 1)) (by go_num)) ((Fr.refl B _).setPos _)
      simp only at H4
      have hT := take1 H4.rd hs (by show i + 1 ≤ s.size; omega) 93 93 rfl (by decide)
      go_wp2_with fail
      refine (hco.out _).mono ?_
      rintro e w4 ⟨rfl, rfl⟩
      by_cases h93 : byteAt s (i + 1) = 93
      · simp only [h93, if_true, BEq.rfl] at hT
        rw [if_pos h93] at HB
        clear h93
        go_wp2_with fail
        refine hT.mono ?_
        rintro e w5 ⟨rfl, hr5, hf5⟩
        have H5 := H4.step hr5 hf5
        go_wp2_with fail
        go_ret
        unfold BrPost
        rw [HB.out]
        exact ⟨rfl, H5.rd, H5.bx, H5.nm, H5.fr⟩
      · have t93 : (byteAt s (i + 1) == 93) = false := by simpa using h93
        simp only [h93, t93, if_false] at hT
        rw [if_neg h93] at HB
        clear h93 t93
        go_wp2_with fail
        refine hT.mono ?_
        rintro e w5 ⟨rfl, hr5, hf5⟩
        have H5 := H4.step hr5 hf5
        have q5 := H5.rd.pos
        simp only at q5
        go_wp2_with fail
        go_region_with (go_at_call 57; refine (fail_any H5.rd.drew _ _).mono ?_; rintro e w' ⟨rfl, hw, hf6⟩)
        go_wp2
        go_ret
        unfold BrPost
        rw [HB.out]
        exact ⟨rfl, hw, (H5.fr.trans ((Fr.refl B _).drew.x L)).trans (hf6.x L)⟩
    have hn45 := hc
    clear hc
    by_cases hc : byteAt s i = 43
    · have hlt := byte_lt hc (by decide)
      have hch1 : charge s i = (1, i + 1) := by simp [charge, hc]
      rw [hch1] at HB
      clear hch1
      rw [hc] at hpk
      have hpk2 : Hid (∀ k, Calls Tryz.prog 80 #[.pointer (some ⟨B, 0, none⟩), .int .i64 0] (wc.drewN k) fun e w' => e = .returned (.int .u8 43) ∧ ∃ m, w' = (wc.drewN k).drewN m) := by
        intro k
        have := peek0 (hcut.rd.drewN k) hs hle
        rw [hc] at this
        exact this
      have hco : Hid (∀ w, Calls Tryz.prog 153 #[.int .u8 43] w fun e w' => e = .returned (.int .i64 (1)) ∧ w' = w) := fun w => chargeOf_any 43 w
      clear hc
      go_wp2_with fail
      refine hpk.mono ?_
      rintro e w2 ⟨rfl, k, rfl⟩
      go_wp2_with fail
      refine (hpk2.out k).mono ?_
      rintro e w3 ⟨rfl, m, rfl⟩
      rw [World.drewN_drewN]
      have H2 := hcut.step (hcut.rd.drewN (k + m)) ((Fr.refl B wc).drewN (k + m))
      have c2 := H2.bx.c2
      have f2 := H2.bx.fz 2
      have H3 := H2.setBox 2 (.int .i64 (1)) (H2.bx.setCh (1))
      have q3 := H3.rd.pos
      have z3 := H3.rd.free 1
      have H4 : AtH w _ B s _ L _ := H3.step (H3.rd.setPos (i + 1) (.int .i64 ((i : Int) + 1)) (by go_num)) ((Fr.refl B _).setPos _)
      simp only at H4
      have hT := take1 H4.rd hs (by show i + 1 ≤ s.size; omega) 93 93 rfl (by decide)
      go_wp2_with fail
      refine (hco.out _).mono ?_
      rintro e w4 ⟨rfl, rfl⟩
      by_cases h93 : byteAt s (i + 1) = 93
      · simp only [h93, if_true, BEq.rfl] at hT
        rw [if_pos h93] at HB
        clear h93
        go_wp2_with fail
        refine hT.mono ?_
        rintro e w5 ⟨rfl, hr5, hf5⟩
        have H5 := H4.step hr5 hf5
        go_wp2_with fail
        go_ret
        unfold BrPost
        rw [HB.out]
        exact ⟨rfl, H5.rd, H5.bx, H5.nm, H5.fr⟩
      · have t93 : (byteAt s (i + 1) == 93) = false := by simpa using h93
        simp only [h93, t93, if_false] at hT
        rw [if_neg h93] at HB
        clear h93 t93
        go_wp2_with fail
        refine hT.mono ?_
        rintro e w5 ⟨rfl, hr5, hf5⟩
        have H5 := H4.step hr5 hf5
        have q5 := H5.rd.pos
        simp only at q5
        go_wp2_with fail
        go_region_with (go_at_call 57; refine (fail_any H5.rd.drew _ _).mono ?_; rintro e w' ⟨rfl, hw, hf6⟩)
        go_wp2
        go_ret
        unfold BrPost
        rw [HB.out]
        exact ⟨rfl, hw, (H5.fr.trans ((Fr.refl B _).drew.x L)).trans (hf6.x L)⟩
    have hch0 : charge s i = (0, i) := by simp [charge, hc, hn45]
    rw [hch0] at HB
    clear hch0
    have HA : Hid ({ a with hy := hy } = { a with hy := hy, ch := 0 }) := by unfold Hid; rw [← hch]
    have t43 : (byteAt s i == 43) = false := by simpa using hc
    have t45 : (byteAt s i == 45) = false := by simpa using hn45
    have hT : ∀ k, _ := fun k => take1 (hcut.rd.drewN k) hs hle 93 93 rfl (by decide)
    by_cases h93 : byteAt s i = 93
    · simp only [h93, if_true, BEq.rfl] at hT
      have HT := (show Hid _ from hT)
      rw [if_pos h93] at HB
      rw [h93] at hpk
      clear h93 hc hn45 t43 t45 hT
      go_wp2_with fail
      refine hpk.mono ?_
      rintro e w2 ⟨rfl, k, rfl⟩
      have H2 := hcut.step (hcut.rd.drewN k) ((Fr.refl B wc).drewN k)
      go_wp2_with fail
      refine (HT.out k).mono ?_
      rintro e w5 ⟨rfl, hr5, hf5⟩
      have H5 := H2.step hr5 hf5
      go_wp2_with fail
      go_ret
      unfold BrPost
      rw [HB.out]
      refine ⟨rfl, H5.rd, ?_, H5.nm, H5.fr⟩
      have := H5.bx
      rw [HA.out] at this
      exact this
    · have t93 : (byteAt s i == 93) = false := by simpa using h93
      rw [if_neg h93] at HB
      clear h93 hc hn45 hT
      generalize byteAt s i = c at *
      go_wp2_with fail
      refine hpk.mono ?_
      rintro e w2 ⟨rfl, k, rfl⟩
      have q5 := hcut.rd.pos
      simp only at q5
      go_wp2_with fail
      go_region_with (go_at_call 57; refine (fail_any (hcut.rd.drewN (k + 1)) _ _).mono ?_; rintro e w' ⟨rfl, hw, hf6⟩)
      go_wp2
      go_ret
      unfold BrPost
      rw [HB.out]
      exact ⟨rfl, hw, (hcut.fr.trans (((Fr.refl B _).drewN (k + 1)).x L)).trans (hf6.x L)⟩
end
end Go.Proofs.YtcabaecbmkgclaaGreatDoor
