/-
  Apart, where both texts can be read and are not too great together.
-/
import Derived.Test.YtcabaecbmkgclaaGreatDoorP17
import Derived.Deep.LoopGhost

namespace Go.Proofs.YtcabaecbmkgclaaGreatDoor.Kd
open Go.RowKit Bz Mt Mg Rf

/-- Where Apart stands behind its calls. -/
structure ApS (w : World) (X1 X2 X3 Y1 Y2 Y3 : Nat) (a1 b1 a2 b2 a3 b3 : Value) (A1 A2 A3 : List Atm) (v1 v2 v3 : Int) (W : World) : Prop where
  m1 : ∃ base, MBx base X1 a1 b1 A1 W
  m2 : ∃ base, MBx base X2 a2 b2 A2 W
  m3 : ∃ base, MBx base X3 a3 b3 A3 W
  r1 : ∃ o, RBx Y1 (.int .i64 v1) o W
  r2 : ∃ o, RBx Y2 (.int .i64 v2) o W
  r3 : ∃ o, RBx Y3 (.int .i64 v3) o W
  below : Below w.heap.size w W

theorem MBx.drewN {base X : Nat} {av bv : Value} {ats : List Atm} {W : World} (h : MBx base X av bv ats W) (n : Nat) : MBx base X av bv ats (W.drewN n) := ⟨h.c0, h.c1, ownsRow_same h.row fun _ _ => rfl, h.lt⟩
theorem RBx.drewN {Y : Nat} {a b : Value} {W : World} (h : RBx Y a b W) (n : Nat) : RBx Y a b (W.drewN n) := ⟨h.r0, h.r1, h.lt⟩
theorem ApS.drewN {w : World} {X1 X2 X3 Y1 Y2 Y3 : Nat} {a1 b1 a2 b2 a3 b3 : Value} {A1 A2 A3 : List Atm} {v1 v2 v3 : Int} {W : World} (h : ApS w X1 X2 X3 Y1 Y2 Y3 a1 b1 a2 b2 a3 b3 A1 A2 A3 v1 v2 v3 W) (n : Nat) : ApS w X1 X2 X3 Y1 Y2 Y3 a1 b1 a2 b2 a3 b3 A1 A2 A3 v1 v2 v3 (W.drewN n) := by
  obtain ⟨⟨_, h1⟩, ⟨_, h2⟩, ⟨_, h3⟩, ⟨_, h4⟩, ⟨_, h5⟩, ⟨_, h6⟩, h7⟩ := h
  exact ⟨⟨_, h1.drewN n⟩, ⟨_, h2.drewN n⟩, ⟨_, h3.drewN n⟩, ⟨_, h4.drewN n⟩, ⟨_, h5.drewN n⟩, ⟨_, h6.drewN n⟩, below_drewN h7 n⟩

theorem shA_cells (D : Nat) (a : Atm) : plainCells (shA D a) = plainCells a := rfl

set_option maxRecDepth 100000 in
set_option maxHeartbeats 8000000 in
theorem apart_main (w : World) (a b : ByteArray) (ha : a.size ≤ maxLen) (hb : b.size ≤ maxLen) {q1 q2 : St} (hp : Bz.parse a = .ok (q1.atoms, q1.bonds)) (hp2 : Bz.parse b = .ok (q2.atoms, q2.bonds)) (hs : a.size + b.size + 1 ≤ 160) (hn : q1.atoms.length + q2.atoms.length ≤ 24) : Calls Tryz.prog 9 #[.string a, .string b] w fun e w' => e = .returned (.bool true) ∧ Below w.heap.size w w' := by
  obtain ⟨hp3, hpf⟩ := apart_is hp hp2 hs hn
  have hsz : (a ++ ⟨#[46]⟩ ++ b).size = a.size + 1 + b.size := (dot_emb a b).2.2.2
  have P1 := fun W => works_any W
  have P2 := fun W => (parse_any a W ha).mono fun e w' h => ParseIs.fine h hp
  have P3 := fun W => (parse_any b W hb).mono fun e w' h => ParseIs.fine h hp2
  have P4 := fun W => (parse_any (a ++ ⟨#[46]⟩ ++ b) W (by rw [hsz]; unfold maxLen; omega)).mono fun e w' h => ParseIs.fine h hp3
  have P5 := fun W => (kekulize_any a W ha).mono fun e w' h => KkIs.fine h hp
  have P6 := fun W => (kekulize_any b W hb).mono fun e w' h => KkIs.fine h hp2
  have P7 := fun W => (kekulize_any (a ++ ⟨#[46]⟩ ++ b) W (by rw [hsz]; unfold maxLen; omega)).mono fun e w' h => KkIs.fine h hp3
  have HPF : Hid (∀ q : St, q.atoms = q1.atoms ++ q2.atoms.map (shA (a.size + 1)) → q.bonds = q1.bonds ++ q2.bonds.map (shB q1.atoms.length (a.size + 1)) → (Perf q ↔ Perf q1 ∧ Perf q2)) := fun q e1 e2 => hpf q (by rw [hp3, e1, e2])
  have l3 : (q1.atoms ++ q2.atoms.map (shA (a.size + 1))).length = q1.atoms.length + q2.atoms.length := by simp
  have lb3 : (q1.bonds ++ q2.bonds.map (shB q1.atoms.length (a.size + 1))).length = q1.bonds.length + q2.bonds.length := by simp
  have hA3 : ∀ i x, (q1.atoms ++ q2.atoms.map (shA (a.size + 1)))[i]? = some x → (i < q1.atoms.length ∧ q1.atoms[i]? = some x) ∨ (q1.atoms.length ≤ i ∧ ∃ y, q2.atoms[i - q1.atoms.length]? = some y ∧ x = shA (a.size + 1) y) := fun i x hi => by
    by_cases hlt : i < q1.atoms.length
    · rw [List.getElem?_append_left hlt] at hi
      exact .inl ⟨hlt, hi⟩
    · rw [List.getElem?_append_right (by omega), List.getElem?_map] at hi
      cases hy : q2.atoms[i - q1.atoms.length]? with
      | none => rw [hy] at hi; cases hi
      | some y => rw [hy] at hi; cases hi; exact .inr ⟨by omega, y, rfl, rfl⟩
  have HA3 : Hid (∀ i x, (q1.atoms ++ q2.atoms.map (shA (a.size + 1)))[i]? = some x → (i < q1.atoms.length ∧ q1.atoms[i]? = some x) ∨ (q1.atoms.length ≤ i ∧ ∃ y, q2.atoms[i - q1.atoms.length]? = some y ∧ x = shA (a.size + 1) y)) := hA3
  have HL3 : Hid (_) := l3
  have HLB3 : Hid (_) := lb3
  clear hp hp2 hp3 hpf hA3 l3 lb3
  generalize q1.atoms ++ q2.atoms.map (shA (a.size + 1)) = A3 at *
  generalize q1.bonds ++ q2.bonds.map (shB q1.atoms.length (a.size + 1)) = B3 at *
  go_enter Tryz.func9, Tryz.ntmps9
  go_wp2_with fail
  refine (P1 _).mono ?_
  clear P1
  rintro e w1 ⟨rfl, hb1⟩
  go_wp2_with fail
  refine (P2 _).mono ?_
  clear P2
  rintro e w2 ⟨ao, ac, bo, bc, rfl, hr1, _, hb2, hn1, hl1⟩
  have M1 := MBx.new (bv := .slice bo q1.bonds.length bc) hr1
  have HB2 : Hid (Below w.heap.size w w2) := hb1.trans (hb2.mono hb1.size)
  have BW2 := HB2.out.alloc HB2.out.size (.cells #[.slice ao q1.atoms.length ac, .slice bo q1.bonds.length bc] 39)
  have HM1 : Hid (_) := M1
  have HBW : Hid (_) := BW2
  clear hb1 hb2 hr1 M1 BW2 HB2
  go_wp2_with fail
  refine (P3 _).mono ?_
  clear P3
  rintro e w3 ⟨ao2, ac2, bo2, bc2, rfl, hr2, _, hb3, hn2, hl2⟩
  have M1 := (HM1.out.on hb3).grow (.cells #[.slice ao2 q2.atoms.length ac2, .slice bo2 q2.bonds.length bc2] 39)
  have M2 := MBx.new (bv := .slice bo2 q2.bonds.length bc2) hr2
  have HB3 : Hid (Below w.heap.size w w3) := HBW.out.trans (hb3.mono HBW.out.size)
  have BW3 := HB3.out.alloc HB3.out.size (.cells #[.slice ao2 q2.atoms.length ac2, .slice bo2 q2.bonds.length bc2] 39)
  clear hb3 hr2 HM1 HBW HB3
  have HM1 : Hid (_) := M1
  have HM2 : Hid (_) := M2
  have HBW : Hid (_) := BW3
  have x0 := M1.c0
  clear M1 M2 BW3
  have hlen' : ¬ ((a.size : Int) + (b.size : Int) + 1 > 160) := by omega
  have hat : ¬ ((q1.atoms.length : Int) + (q2.atoms.length : Int) > 24) := by omega
  go_wp2_with fail
  refine (P4 _).mono ?_
  clear P4
  rintro e w4 ⟨ao3, ac3, bo3, bc3, rfl, hr3, _, hb4, hn3, hl3⟩
  clear x0
  have M1 := (HM1.out.on hb4).grow (.cells #[.slice ao3 A3.length ac3, .slice bo3 B3.length bc3] 39)
  have M2 := (HM2.out.on hb4).grow (.cells #[.slice ao3 A3.length ac3, .slice bo3 B3.length bc3] 39)
  have M3 := MBx.new (bv := .slice bo3 B3.length bc3) hr3
  have HB4 : Hid (Below w.heap.size w w4) := HBW.out.trans (hb4.mono HBW.out.size)
  have BW4 := HB4.out.alloc HB4.out.size (.cells #[.slice ao3 A3.length ac3, .slice bo3 B3.length bc3] 39)
  clear hb4 hr3 HM1 HM2 HBW HB4
  have HM1 : Hid (_) := M1
  have HM2 : Hid (_) := M2
  have HM3 : Hid (_) := M3
  have HBW : Hid (_) := BW4
  clear M1 M2 M3 BW4
  go_wp2_with fail
  refine (P5 _).mono ?_
  clear P5
  rintro e w5 ⟨q1', e1a, e1b, vd1, oo1, on1, oc1, tx1, co1, cn1, cc1, po1, pn1, pc1, uo1, un1, uc1, rfl, hv1, hb5⟩
  have M1 := (HM1.out.on hb5).grow (.cells #[.int .i64 (vd1 : Int), .slice oo1 on1 oc1, .string tx1, .slice co1 cn1 cc1, .slice po1 pn1 pc1, .slice uo1 un1 uc1] 31)
  have M2 := (HM2.out.on hb5).grow (.cells #[.int .i64 (vd1 : Int), .slice oo1 on1 oc1, .string tx1, .slice co1 cn1 cc1, .slice po1 pn1 pc1, .slice uo1 un1 uc1] 31)
  have M3 := (HM3.out.on hb5).grow (.cells #[.int .i64 (vd1 : Int), .slice oo1 on1 oc1, .string tx1, .slice co1 cn1 cc1, .slice po1 pn1 pc1, .slice uo1 un1 uc1] 31)
  have R1 := RBx.new w5 (.int .i64 (vd1 : Int)) (.slice oo1 on1 oc1) (.string tx1) (.slice co1 cn1 cc1) (.slice po1 pn1 pc1) (.slice uo1 un1 uc1)
  have HB5 : Hid (Below w.heap.size w w5) := HBW.out.trans (hb5.mono HBW.out.size)
  have BW5 := HB5.out.alloc HB5.out.size (.cells #[.int .i64 (vd1 : Int), .slice oo1 on1 oc1, .string tx1, .slice co1 cn1 cc1, .slice po1 pn1 pc1, .slice uo1 un1 uc1] 31)
  have HV1 : Hid ((vd1 = 1 ∧ Perf q1) ∨ (vd1 = 2 ∧ ¬ Perf q1)) := by
    have e : Perf q1' ↔ Perf q1 := by unfold Perf; rw [show q1' = ⟨q1'.pos, q1'.atoms, q1'.bonds, q1'.rings⟩ from rfl, e1a, e1b]; exact Iff.rfl
    rcases hv1 with ⟨k1, k2, _⟩ | ⟨k1, k2⟩
    · exact .inl ⟨k1, e.1 k2⟩
    · exact .inr ⟨k1, fun k => k2 (e.2 k)⟩
  clear hb5 HM1 HM2 HM3 HBW HB5 hv1 e1a e1b
  have HM1 : Hid (_) := M1
  have HM2 : Hid (_) := M2
  have HM3 : Hid (_) := M3
  have HR1 : Hid (_) := R1
  have HBW : Hid (_) := BW5
  clear M1 M2 M3 R1 BW5
  go_wp2_with fail
  refine (P6 _).mono ?_
  clear P6
  rintro e w6 ⟨q2', e2a, e2b, vd2, oo2', on2, oc2, tx2, co2, cn2, cc2, po2, pn2, pc2, uo2, un2, uc2, rfl, hv2, hb6⟩
  have M1 := (HM1.out.on hb6).grow (.cells #[.int .i64 (vd2 : Int), .slice oo2' on2 oc2, .string tx2, .slice co2 cn2 cc2, .slice po2 pn2 pc2, .slice uo2 un2 uc2] 31)
  have M2 := (HM2.out.on hb6).grow (.cells #[.int .i64 (vd2 : Int), .slice oo2' on2 oc2, .string tx2, .slice co2 cn2 cc2, .slice po2 pn2 pc2, .slice uo2 un2 uc2] 31)
  have M3 := (HM3.out.on hb6).grow (.cells #[.int .i64 (vd2 : Int), .slice oo2' on2 oc2, .string tx2, .slice co2 cn2 cc2, .slice po2 pn2 pc2, .slice uo2 un2 uc2] 31)
  have R1 := (HR1.out.on hb6).grow (.cells #[.int .i64 (vd2 : Int), .slice oo2' on2 oc2, .string tx2, .slice co2 cn2 cc2, .slice po2 pn2 pc2, .slice uo2 un2 uc2] 31)
  have R2 := RBx.new w6 (.int .i64 (vd2 : Int)) (.slice oo2' on2 oc2) (.string tx2) (.slice co2 cn2 cc2) (.slice po2 pn2 pc2) (.slice uo2 un2 uc2)
  have HB6 : Hid (Below w.heap.size w w6) := HBW.out.trans (hb6.mono HBW.out.size)
  have BW6 := HB6.out.alloc HB6.out.size (.cells #[.int .i64 (vd2 : Int), .slice oo2' on2 oc2, .string tx2, .slice co2 cn2 cc2, .slice po2 pn2 pc2, .slice uo2 un2 uc2] 31)
  have HV2 : Hid ((vd2 = 1 ∧ Perf q2) ∨ (vd2 = 2 ∧ ¬ Perf q2)) := by
    have e : Perf q2' ↔ Perf q2 := by unfold Perf; rw [show q2' = ⟨q2'.pos, q2'.atoms, q2'.bonds, q2'.rings⟩ from rfl, e2a, e2b]; exact Iff.rfl
    rcases hv2 with ⟨k1, k2, _⟩ | ⟨k1, k2⟩
    · exact .inl ⟨k1, e.1 k2⟩
    · exact .inr ⟨k1, fun k => k2 (e.2 k)⟩
  clear hb6 HM1 HM2 HM3 HR1 HBW HB6 hv2 e2a e2b
  have HM1 : Hid (_) := M1
  have HM2 : Hid (_) := M2
  have HM3 : Hid (_) := M3
  have HR1 : Hid (_) := R1
  have HR2 : Hid (_) := R2
  have HBW : Hid (_) := BW6
  clear M1 M2 M3 R1 R2 BW6
  go_wp2_with fail
  refine (P7 _).mono ?_
  clear P7
  rintro e w7 ⟨q3, e3a, e3b, vd3, oo3, on3, oc3, tx3, co3, cn3, cc3, po3, pn3, pc3, uo3, un3, uc3, rfl, hv3, hb7⟩
  have S0 : Hid (ApS w w2.heap.size w3.heap.size w4.heap.size w5.heap.size w6.heap.size w7.heap.size (.slice ao q1.atoms.length ac) (.slice bo q1.bonds.length bc) (.slice ao2 q2.atoms.length ac2) (.slice bo2 q2.bonds.length bc2) (.slice ao3 A3.length ac3) (.slice bo3 B3.length bc3) q1.atoms q2.atoms A3 vd1 vd2 vd3
      (w7.alloc (.cells #[.int .i64 (vd3 : Int), .slice oo3 on3 oc3, .string tx3, .slice co3 cn3 cc3, .slice po3 pn3 pc3, .slice uo3 un3 uc3] 31))) := by
    have B7 := HBW.out.trans (hb7.mono HBW.out.size)
    exact ⟨⟨_, (HM1.out.on hb7).grow _⟩, ⟨_, (HM2.out.on hb7).grow _⟩, ⟨_, (HM3.out.on hb7).grow _⟩, ⟨_, (HR1.out.on hb7).grow _⟩, ⟨_, (HR2.out.on hb7).grow _⟩, ⟨_, RBx.new _ _ _ _ _ _ _⟩, B7.alloc B7.size _⟩
  have HV3 : Hid ((vd3 = 1 ∧ vd1 = 1 ∧ vd2 = 1) ∨ (vd3 = 2 ∧ ¬ (vd1 = 1 ∧ vd2 = 1))) := by
    have e := HPF.out q3 e3a e3b
    have k1 := HV1.out
    have k2 := HV2.out
    rcases hv3 with ⟨k3, k4, _⟩ | ⟨k3, k4⟩
    · have := e.1 k4
      rcases k1 with ⟨v1, _⟩ | ⟨_, n1⟩
      · rcases k2 with ⟨v2, _⟩ | ⟨_, n2⟩
        · exact .inl ⟨k3, v1, v2⟩
        · exact absurd this.2 n2
      · exact absurd this.1 n1
    · refine .inr ⟨k3, fun hh => k4 (e.2 ⟨?_, ?_⟩)⟩
      · rcases k1 with ⟨_, p⟩ | ⟨v, _⟩
        · exact p
        · omega
      · rcases k2 with ⟨_, p⟩ | ⟨v, _⟩
        · exact p
        · omega
  have HVA : Hid ((vd1 = 1 ∨ vd1 = 2) ∧ (vd2 = 1 ∨ vd2 = 2)) := by
    have k1 := HV1.out
    have k2 := HV2.out
    exact ⟨by rcases k1 with h | h; exact .inl h.1; exact .inr h.1, by rcases k2 with h | h; exact .inl h.1; exact .inr h.1⟩
  clear hb7 HM1 HM2 HM3 HR1 HR2 HBW hv3 e3a e3b HPF HV1 HV2
  go_upto_region 10 with fail
  generalize w7.alloc (.cells #[.int .i64 (vd3 : Int), .slice oo3 on3 oc3, .string tx3, .slice co3 cn3 cc3, .slice po3 pn3 pc3, .slice uo3 un3 uc3] 31) = W at S0 ⊢
  generalize w2.heap.size = X1 at *
  generalize w3.heap.size = X2 at *
  generalize w4.heap.size = X3 at *
  generalize w5.heap.size = Y1 at *
  generalize w6.heap.size = Y2 at *
  generalize w7.heap.size = Y3 at *
  have c1 := S0.out.m1.choose_spec.c0
  have c2 := S0.out.m2.choose_spec.c0
  have c3 := S0.out.m3.choose_spec.c0
  have d1 := S0.out.m1.choose_spec.c1
  have d2 := S0.out.m2.choose_spec.c1
  have d3 := S0.out.m3.choose_spec.c1
  have hA' : (A3.length : Int) = (q1.atoms.length : Int) + (q2.atoms.length : Int) := by have := HL3.out; omega
  have hB' : (B3.length : Int) = (q1.bonds.length : Int) + (q2.bonds.length : Int) := by have := HLB3.out; omega
  go_wp2_with fail
  go_loopg [24] (A3.length + 1) (fun g v24 wr => ∃ i : Nat, i ≤ A3.length ∧ A3.length - i < g ∧ v24 = .int .i64 (i : Int) ∧ ApS w X1 X2 X3 Y1 Y2 Y3 (.slice ao q1.atoms.length ac) (.slice bo q1.bonds.length bc) (.slice ao2 q2.atoms.length ac2) (.slice bo2 q2.bonds.length bc2) (.slice ao3 A3.length ac3) (.slice bo3 B3.length bc3) q1.atoms q2.atoms A3 vd1 vd2 vd3 wr)
  case atStart => exact ⟨0, by omega, by omega, rfl, S0.out⟩
  case round =>
    obtain ⟨i, hi, hg, rfl, hS⟩ := hrel
    clear S0 c1 c2 c3 d1 d2 d3
    have HS : Hid (ApS w X1 X2 X3 Y1 Y2 Y3 (.slice ao q1.atoms.length ac) (.slice bo q1.bonds.length bc) (.slice ao2 q2.atoms.length ac2) (.slice bo2 q2.bonds.length bc2) (.slice ao3 A3.length ac3) (.slice bo3 B3.length bc3) q1.atoms q2.atoms A3 vd1 vd2 vd3 wr) := hS
    obtain ⟨⟨b1, m1⟩, ⟨b2, m2⟩, ⟨b3, m3⟩, ⟨o1, r1⟩, ⟨o2, r2⟩, ⟨o3, r3⟩, _⟩ := hS
    have c1 := m1.c0
    have c2 := m2.c0
    have c3 := m3.c0
    by_cases hlt : i < A3.length
    · have hlt' : (i : Int) < (A3.length : Int) := by omega
      obtain ⟨x, hx⟩ : ∃ x, A3[i]? = some x := ⟨_, List.getElem?_eq_getElem hlt⟩
      obtain ⟨g3, k3, e3, hg3, z0, z1, z2, z3⟩ := atom_at m3.row hx
      simp only [Value.slice.injEq, true_and] at e3
      obtain ⟨rfl, rfl⟩ := e3
      rcases HA3.out i x hx with ⟨hl, h1⟩ | ⟨hl, y, h1, rfl⟩
      · obtain ⟨g1, k1, e1, hg1, y0, y1, y2, y3⟩ := atom_at m1.row h1
        simp only [Value.slice.injEq, true_and] at e1
        obtain ⟨rfl, rfl⟩ := e1
        have hl' : (i : Int) < (q1.atoms.length : Int) := by omega
        have hd2 : decide ((q1.atoms.length : Int) ≤ (i : Int)) = false := decide_eq_false (by omega)
        have hd3 : decide (q1.atoms.length ≤ i) = false := decide_eq_false (by omega)
        have hd4 : ¬ (q1.atoms.length ≤ i) := by omega
        have HSN : Hid (∀ n, ApS w X1 X2 X3 Y1 Y2 Y3 _ _ _ _ _ _ q1.atoms q2.atoms A3 vd1 vd2 vd3 (wr.drewN n)) := fun n => HS.out.drewN n
        clear m1 m2 m3 r1 r2 r3 hx h1 HA3 HS
        go_wp2_with fail
        go_quiet (fail)
        go_wp2_with fail
        go_quiet (fail)
        go_wp2_with fail
        go_roundg (A3.length - i)
        case measure => omega
        case rel => exact ⟨i + 1, by omega, by omega, by go_num, HSN.out _⟩
      · obtain ⟨g1, k1, e1, hg1, y0, y1, y2, y3⟩ := atom_at m2.row h1
        simp only [Value.slice.injEq, true_and] at e1
        obtain ⟨rfl, rfl⟩ := e1
        have hl2 : ((q1.atoms.length : Int) ≤ (i : Int)) := by omega
        have hd2 : decide ((i : Int) < (q1.atoms.length : Int)) = false := decide_eq_false (by omega)
        have hd3 : decide (i < q1.atoms.length) = false := decide_eq_false (by omega)
        have hd4 : ¬ (i < q1.atoms.length) := by omega
        have HSN : Hid (∀ n, ApS w X1 X2 X3 Y1 Y2 Y3 _ _ _ _ _ _ q1.atoms q2.atoms A3 vd1 vd2 vd3 (wr.drewN n)) := fun n => HS.out.drewN n
        obtain ⟨j, hj⟩ : ∃ j, i - q1.atoms.length = j := ⟨_, rfl⟩
        have hsub : (i : Int) - (q1.atoms.length : Int) = (j : Int) := by omega
        have hj2 : (j : Int) < (q2.atoms.length : Int) := by omega
        have hwj : IntKind.i64.wrap (j : Int) = (j : Int) := by rw [IntKind.wrap_i64]; omega
        have hwi : IntKind.i64.wrap ((i : Int) - (q1.atoms.length : Int)) = (j : Int) := by rw [hsub]; exact hwj
        rw [hj] at y0 y1 y2 y3
        have z0' : wr.cell? ⟨g3, i * 4, none⟩ = some (.string y.el) := z0
        have z1' : wr.cell? ⟨g3, i * 4 + 1, none⟩ = some (.bool y.aro) := z1
        have z2' : wr.cell? ⟨g3, i * 4 + 2, none⟩ = some (.int .i64 y.ch) := z2
        have z3' : wr.cell? ⟨g3, i * 4 + 3, none⟩ = some (.int .i64 y.hy) := z3
        clear z0 z1 z2 z3
        clear m1 m2 m3 r1 r2 r3 hx h1 HA3 HS hj
        go_wp2_with fail
        go_quiet (fail)
        go_wp2_with fail
        go_quiet (fail)
        go_wp2_with fail
        go_roundg (A3.length - i)
        case measure => omega
        case rel => exact ⟨i + 1, by omega, by omega, by go_num, HSN.out _⟩
    · have hlt' : ¬ (i : Int) < (A3.length : Int) := by omega
      have x1 := r1.r0
      have x2 := r2.r0
      have x3 := r3.r0
      have v3 := HV3.out
      have va := HVA.out
      clear m1 m2 m3 r1 r2 r3 HA3
      rcases v3 with ⟨rfl, rfl, rfl⟩ | ⟨rfl, hn12⟩
      · go_wp2_with fail
        go_ret
        exact ⟨rfl, HS.out.below⟩
      · rcases va.1 with rfl | rfl
        · rcases va.2 with rfl | rfl
          · exact absurd ⟨rfl, rfl⟩ hn12
          · go_wp2_with fail
            go_ret
            exact ⟨rfl, HS.out.below⟩
        · go_wp2_with fail
          go_ret
          exact ⟨rfl, HS.out.below⟩
end Go.Proofs.YtcabaecbmkgclaaGreatDoor.Kd
