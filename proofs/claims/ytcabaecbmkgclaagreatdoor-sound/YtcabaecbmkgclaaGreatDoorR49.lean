/-
  Sound, where it is done.
  Sound, of any text.
-/
import Derived.Test.YtcabaecbmkgclaaGreatDoorR48
namespace Go.Proofs.YtcabaecbmkgclaaGreatDoor.Kd
open Go.RowKit Bz Mt Mg Rf
theorem ord_is {s : ByteArray} {q : St} {mate : Nat → Option Nat} {f : Fo} {gh : Gh} (S : Set4 s q mate f gh) {i : Nat} {b : Bnd} {x : Nat} (hb : q.bonds[i]? = some b) (hx : (osOf q mate)[i]? = some x) : x ≤ 3 ∧ (b.o ≠ 4 → (x : Int) = b.o) ∧ (b.o = 4 → x = 1 ∨ x = 2) := by
  have hm := List.mem_of_getElem? hb
  have h1 := ord_le S hm
  have h2 := S.pos b hm
  have e : x = ordN (pairsF q.atoms.length mate) b := by
    rw [List.getElem?_map, hb] at hx
    exact (Option.some.inj hx).symm
  refine ⟨by rw [e]; exact h1.1, fun h => ?_, fun h => ?_⟩
  · rw [e]
    unfold ordN
    rw [if_neg h]
    omega
  · rw [e]
    unfold ordN
    rw [if_pos h]
    split <;> simp

theorem str_is {el : ByteArray} {c : UInt8} (h : el = ⟨#[c]⟩) : (el.toList == [c]) = true := by
  rw [h, ByteArray.toList_eq]
  simp

theorem capL_len (t : List UInt8) : (Cp.capL t).length ≤ t.length := by
  induction t with
  | nil => exact Nat.le_refl 0
  | cons c t ih =>
    rw [Cp.capL_cons, List.length_append, List.length_cons]
    have : (Cp.capB c).length ≤ 1 := by unfold Cp.capB; split; exact Nat.zero_le _; split <;> exact Nat.le_refl _
    omega

theorem wrGo_len (t : List UInt8) : ∀ (l : List (Bnd × Nat)) (f : Nat), (wrGo t l f).length ≤ (t.length + 1) * (l.length + 1)
  | [], f => by
    rw [wrGo]
    have h1 := capL_len (t.drop f)
    have h2 : (t.drop f).length ≤ t.length := by rw [List.length_drop]; omega
    simp only [List.length_nil]
    omega
  | (b, x) :: l, f => by
    rw [wrGo, List.length_cons, Nat.mul_add, Nat.mul_one]
    split
    · have h1 := capL_len ((t.drop f).take (b.pl - f))
      have h2 : ((t.drop f).take (b.pl - f)).length ≤ t.length := by rw [List.length_take, List.length_drop]; omega
      have h3 := wrGo_len t l b.pl
      rw [List.length_append, List.length_append]
      simp only [List.length_cons, List.length_nil]
      omega
    · have h3 := wrGo_len t l f
      omega

section
variable {s : ByteArray} {q : St} {mate : Nat → Option Nat} {f : Fo} {gh : Gh}
theorem tot_c (S : Set4 s q mate f gh) {k : Nat} {a : Atm} (hk : q.atoms[k]? = some a) (hc : a.ch = 0) :
    (a.el = ⟨#[67]⟩ → a.hy + totS (q.bonds.zip (osOf q mate)) k = 4) ∧ (a.el = ⟨#[78]⟩ → a.hy + totS (q.bonds.zip (osOf q mate)) k = 3 ∨ a.hy + totS (q.bonds.zip (osOf q mate)) k = 5) ∧ (a.el = ⟨#[79]⟩ → a.hy + totS (q.bonds.zip (osOf q mate)) k = 2) := by
  have h := tot_ok S hk
  rw [hc] at h
  generalize a.hy + totS (q.bonds.zip (osOf q mate)) k = n at h ⊢
  have v1 : valences ⟨#[67]⟩ 0 = [4] := rfl
  have v2 : valences ⟨#[78]⟩ 0 = [3, 5] := rfl
  have v3 : valences ⟨#[79]⟩ 0 = [2] := rfl
  refine ⟨fun e => ?_, fun e => ?_, fun e => ?_⟩
  · rw [e, v1] at h; simpa using h
  · rw [e, v2] at h; simpa using h
  · rw [e, v3] at h; simpa using h
end
set_option maxRecDepth 100000 in
set_option maxHeartbeats 8000000 in
/-- It is done. -/
theorem sound_set (w : World) (s : ByteArray) (hs : s.size ≤ maxLen) {q : St} (hp : Bz.parse s = .ok (q.atoms, q.bonds)) (hhy : ∀ a ∈ q.atoms, 0 ≤ a.hy ∧ a.hy ≤ 9) (hK : ∀ W, Calls Tryz.prog 14 #[.string s] W fun e w' => ∃ mate f gh oo oc co cc, KkSet s q W e w' mate f gh oo oc co cc) : Calls Tryz.prog 8 #[.string s] w fun e w' => e = .returned (.bool true) ∧ Below w.heap.size w w' := by
  have HHY : Hid (∀ a ∈ q.atoms, 0 ≤ a.hy ∧ a.hy ≤ 9) := hhy
  have HSZ : Hid (s.size ≤ 160) := (parse_en hp).1
  clear hhy
  have P1 := fun W => works_any W
  have P2 := fun W => (parse_any s W hs).mono fun e w' h => ParseIs.fine h hp
  have hen : ∀ b ∈ q.bonds, b.a < b.b ∧ b.b < q.atoms.length := (parse_en hp).2.ends
  have HWH : Hid (∀ (W : World) (ao : Option Addr) (ac : Nat) (bo : Option Addr) (bc : Nat), q.bonds.length ≤ 160 → Rows2 (.slice ao q.atoms.length ac) (.slice bo q.bonds.length bc) q.atoms q.bonds W → Calls Tryz.prog 17 #[.agg #[.slice ao q.atoms.length ac, .slice bo q.bonds.length bc]] W fun e w' => e = .returned (.bool true) ∧ Below W.heap.size W w') := fun W ao ac bo bc hl h => whole_any W h hl hen
  have HEN : Hid (∀ b ∈ q.bonds, b.a < b.b ∧ b.b < q.atoms.length) := hen
  clear hp hen
  go_enter Tryz.func8, Tryz.ntmps8
  go_wp2_with fail
  refine (P1 _).mono ?_
  clear P1
  rintro e w1 ⟨rfl, hb1⟩
  go_wp2_with fail
  refine (P2 _).mono ?_
  clear P2
  rintro e w2 ⟨ao, ac, bo, bc, rfl, hr1, hr2, hb2, hn, hl⟩
  have B2 := hb1.trans (hb2.mono hb1.size)
  have BW := B2.alloc B2.size (.cells #[.slice ao q.atoms.length ac, .slice bo q.bonds.length bc] 39)
  have M2 := CellsAt.new w2 [.slice ao q.atoms.length ac, .slice bo q.bonds.length bc] 39
  have RW : Rows2 (.slice ao q.atoms.length ac) (.slice bo q.bonds.length bc) q.atoms q.bonds w2 := ⟨⟨_, hr1⟩, ⟨_, hr2⟩⟩
  have RW2 := RW.grow (.cells #[.slice ao q.atoms.length ac, .slice bo q.bonds.length bc] 39)
  have HM : Hid (_) := M2
  have HBW : Hid (_) := BW
  have HRW : Hid (_) := RW2
  clear hb1 hb2 B2 BW M2 RW RW2 hr1 hr2
  go_wp2_with fail
  refine (hK _).mono ?_
  clear hK
  rintro e w3 ⟨mate, f, gh, oo, oc, co, cc, S4, rfl, hoo, hcc, hb3⟩
  have HSET : Hid (Set4 s q mate f gh) := S4
  have hosl : (osOf q mate).length = q.bonds.length := List.length_map ..
  obtain ⟨tx, htx⟩ : ∃ tx : ByteArray, (⟨(wrL s.data.toList q.bonds (osOf q mate)).toArray⟩ : ByteArray) = tx := ⟨_, rfl⟩
  have HTX : Hid (tx.data.toList = wrL s.data.toList q.bonds (osOf q mate)) := by show _ = _; rw [← htx]
  have HTM : Hid (tx.size ≤ maxLen) := by
    show _ ≤ _
    have h1 := wrGo_len s.data.toList (q.bonds.zip (osOf q mate)) 0
    have h0 : wrL s.data.toList q.bonds (osOf q mate) = wrGo s.data.toList (q.bonds.zip (osOf q mate)) 0 := rfl
    rw [← h0] at h1
    have h4 : (q.bonds.zip (osOf q mate)).length ≤ 160 := by rw [List.length_zip]; omega
    have h2 : tx.size = (wrL s.data.toList q.bonds (osOf q mate)).length := by rw [← HTX.out]; simp
    have h3 : s.data.toList.length = s.size := by simp
    have h5 := HSZ.out
    have h6 : (s.data.toList.length + 1) * ((q.bonds.zip (osOf q mate)).length + 1) ≤ 161 * 161 := Nat.mul_le_mul (by omega) (by omega)
    unfold maxLen
    omega
  rw [htx]
  obtain ⟨os, hos⟩ : ∃ os, osOf q mate = os := ⟨_, rfl⟩
  have HOSE : Hid (osOf q mate = os) := hos
  rw [hos] at hoo hosl
  have M3 := (HM.out.on hb3).grow (.cells #[.int .i64 1, .slice oo q.bonds.length oc, .string tx, .slice co q.atoms.length cc, .slice none 0 0, .slice none 0 0] 31)
  have R3 := CellsAt.new w3 [.int .i64 1, .slice oo q.bonds.length oc, .string tx, .slice co q.atoms.length cc, .slice none 0 0, .slice none 0 0] 31
  have RW3 := (HRW.out.on hb3).grow (.cells #[.int .i64 1, .slice oo q.bonds.length oc, .string tx, .slice co q.atoms.length cc, .slice none 0 0, .slice none 0 0] 31)
  have B3 := HBW.out.trans (hb3.mono HBW.out.size)
  have B4 := B3.alloc B3.size (.cells #[.int .i64 1, .slice oo q.bonds.length oc, .string tx, .slice co q.atoms.length cc, .slice none 0 0, .slice none 0 0] 31)
  have I1 : IntsE (.slice oo q.bonds.length oc) os w3 := ⟨_, hoo⟩
  have I2 : IntsE (.slice co q.atoms.length cc) (List.range q.atoms.length) w3 := ⟨_, hcc⟩
  have I1z := IntsE.on I1 ((Below.refl _ w3).alloc (Nat.le_refl _) (.cells #[.int .i64 1, .slice oo q.bonds.length oc, .string tx, .slice co q.atoms.length cc, .slice none 0 0, .slice none 0 0] 31))
  have I2z := IntsE.on I2 ((Below.refl _ w3).alloc (Nat.le_refl _) (.cells #[.int .i64 1, .slice oo q.bonds.length oc, .string tx, .slice co q.atoms.length cc, .slice none 0 0, .slice none 0 0] 31))
  have HS : Hid (SoS w w2.heap.size w3.heap.size (.slice ao q.atoms.length ac) (.slice bo q.bonds.length bc) [.int .i64 1, .slice oo q.bonds.length oc, .string tx, .slice co q.atoms.length cc, .slice none 0 0, .slice none 0 0] q.atoms q.bonds (w3.alloc (.cells #[.int .i64 1, .slice oo q.bonds.length oc, .string tx, .slice co q.atoms.length cc, .slice none 0 0, .slice none 0 0] 31))) := ⟨M3, R3, RW3, B4⟩
  have HI1 : Hid (IntsE (.slice oo q.bonds.length oc) os (w3.alloc (.cells #[.int .i64 1, .slice oo q.bonds.length oc, .string tx, .slice co q.atoms.length cc, .slice none 0 0, .slice none 0 0] 31))) := I1z
  have HI2 : Hid (IntsE (.slice co q.atoms.length cc) (List.range q.atoms.length) (w3.alloc (.cells #[.int .i64 1, .slice oo q.bonds.length oc, .string tx, .slice co q.atoms.length cc, .slice none 0 0, .slice none 0 0] 31))) := I2z
  have WC := HWH.out _ ao ac bo bc hl RW3
  have x0 := M3.c 0 _ rfl
  have x1 := M3.c 1 _ rfl
  have HOL : Hid (os.length = q.bonds.length) := hosl
  clear hb3 M3 R3 RW3 B3 B4 I1 I2 I1z I2z HM HBW HRW HWH hoo hcc S4 hos hosl htx
  go_wp2_with fail
  refine WC.mono ?_
  clear WC
  rintro e w4 ⟨rfl, hb4⟩
  have HS4 : Hid (_) := HS.out.on hb4
  have HJ1 : Hid (IntsE (.slice oo q.bonds.length oc) os w4) := IntsE.on HI1.out hb4
  have HJ2 : Hid (IntsE (.slice co q.atoms.length cc) (List.range q.atoms.length) w4) := IntsE.on HI2.out hb4
  clear HS HI1 HI2 hb4 x0 x1
  generalize w2.heap.size = X at *
  generalize w3.heap.size = Y at *
  have x1 := HS4.out.m.c 1 _ rfl
  have r0 := HS4.out.r.c 0 _ rfl
  have r1 := HS4.out.r.c 1 _ rfl
  go_wp2_with fail
  go_loopg [15, 16] (q.bonds.length + 1) (fun g v15 v16 wr => ∃ i : Nat, i ≤ q.bonds.length ∧ q.bonds.length - i < g ∧ v16 = .int .i64 (i : Int) ∧ v15 = .bool true ∧ SoS w X Y (.slice ao q.atoms.length ac) (.slice bo q.bonds.length bc) [.int .i64 1, .slice oo q.bonds.length oc, .string tx, .slice co q.atoms.length cc, .slice none 0 0, .slice none 0 0] q.atoms q.bonds wr ∧ IntsE (.slice oo q.bonds.length oc) os wr ∧ IntsE (.slice co q.atoms.length cc) (List.range q.atoms.length) wr)
  case atStart => exact ⟨0, by omega, by omega, rfl, by simp, HS4.out, HJ1.out, HJ2.out⟩
  case round =>
    obtain ⟨i, hi, hg, rfl, rfl, hS, hJ1, hJ2⟩ := hrel
    clear HS4 HJ1 HJ2 x1 r0 r1
    have HS : Hid (SoS w X Y (.slice ao q.atoms.length ac) (.slice bo q.bonds.length bc) [.int .i64 1, .slice oo q.bonds.length oc, .string tx, .slice co q.atoms.length cc, .slice none 0 0, .slice none 0 0] q.atoms q.bonds wr) := hS
    have HJ1 : Hid (IntsE (.slice oo q.bonds.length oc) os wr) := hJ1
    have HJ2 : Hid (IntsE (.slice co q.atoms.length cc) (List.range q.atoms.length) wr) := hJ2
    have x0 := hS.m.c 0 _ rfl
    have x1 := hS.m.c 1 _ rfl
    have r1 := hS.r.c 1 _ rfl
    by_cases hlt : i < q.bonds.length
    · have hlt' : (i : Int) < (q.bonds.length : Int) := by omega
      obtain ⟨b, hb⟩ : ∃ b, q.bonds[i]? = some b := ⟨_, List.getElem?_eq_getElem hlt⟩
      obtain ⟨x, hx⟩ : ∃ x, os[i]? = some x := ⟨_, List.getElem?_eq_getElem (by have := HOL.out; omega)⟩
      obtain ⟨o1, o2, o3⟩ := ord_is HSET.out hb (by rw [HOSE.out]; exact hx)
      obtain ⟨go, eo, oc0⟩ := IntsE.cell hJ1 hx
      obtain ⟨_, hrow⟩ := hS.rm.b
      obtain ⟨gb, kb', eb, hgb, c0, c1, c2⟩ := bond_at hrow hb
      simp only [Value.slice.injEq, true_and] at eb
      obtain ⟨rfl, rfl⟩ := eb
      subst eo
      clear hS hJ1 hJ2 hrow hb hx x0
      go_upto_region 29 with fail
      obtain ⟨wz, hwz⟩ : ∃ wz, wr.alloc (.cells #[.int .i64 (b.a : Int), .int .i64 (b.b : Int), .int .i64 b.o] 46) = wz := ⟨_, rfl⟩
      have b2 : wz.cell? ⟨wr.heap.size, 2, none⟩ = some (.int .i64 b.o) := by rw [← hwz]; simp
      have r1z := cell_grow r1 (.cells #[.int .i64 (b.a : Int), .int .i64 (b.b : Int), .int .i64 b.o] 46)
      have oz := cell_grow oc0 (.cells #[.int .i64 (b.a : Int), .int .i64 (b.b : Int), .int .i64 b.o] 46)
      have S5 := (HS.out.grow (.cells #[.int .i64 (b.a : Int), .int .i64 (b.b : Int), .int .i64 b.o] 46))
      have A5 := IntsE.on HJ1.out ((Below.refl _ wr).alloc (Nat.le_refl _) (.cells #[.int .i64 (b.a : Int), .int .i64 (b.b : Int), .int .i64 b.o] 46))
      have B5 := IntsE.on HJ2.out ((Below.refl _ wr).alloc (Nat.le_refl _) (.cells #[.int .i64 (b.a : Int), .int .i64 (b.b : Int), .int .i64 b.o] 46))
      rw [hwz] at r1z oz S5 A5 B5 ⊢
      have HS5 : Hid (_) := S5.on ((Below.refl _ wz).drew)
      have HA5 : Hid (IntsE (.slice (some ⟨go, 0, none⟩) q.bonds.length oc) os wz.drew) := IntsE.on A5 ((Below.refl _ wz).drew)
      have HB5 : Hid (IntsE (.slice co q.atoms.length cc) (List.range q.atoms.length) wz.drew) := IntsE.on B5 ((Below.refl _ wz).drew)
      clear hwz S5 A5 B5 HS HJ1 HJ2 r1 oc0 x1 c0 c1 c2
      generalize wr.heap.size = PB at *
      have hx4 : (x : Int) < 4 := by omega
      by_cases h4 : b.o = 4
      · rw [h4] at b2
        rcases o3 h4 with rfl | rfl
        · clear o2 o3
          go_region
          go_wp2_with fail
          go_roundg (q.bonds.length - i)
          case measure => omega
          case rel => exact ⟨i + 1, by omega, by omega, by go_num, by simp, HS5.out, HA5.out, HB5.out⟩
        · clear o2 o3
          go_region
          go_wp2_with fail
          go_roundg (q.bonds.length - i)
          case measure => omega
          case rel => exact ⟨i + 1, by omega, by omega, by go_num, by simp, HS5.out, HA5.out, HB5.out⟩
      · have hx1 : ((x : Int) == b.o) = true := by simp [o2 h4]
        have hbo : b.o < 4 := by have := o2 h4; omega
        go_region
        go_wp2_with fail
        go_roundg (q.bonds.length - i)
        case measure => omega
        case rel => exact ⟨i + 1, by omega, by omega, by go_num, by simp, HS5.out, HA5.out, HB5.out⟩
    · have hlt' : ¬ (i : Int) < (q.bonds.length : Int) := by omega
      clear hS hJ1 hJ2
      have hob : ∀ x ∈ os, x ≤ 3 := fun x hx => by
        rw [← HOSE.out, List.mem_map] at hx
        obtain ⟨b, hb, rfl⟩ := hx
        exact (ord_le HSET.out hb).1
      have HT : Hid (∀ (W : World) (ao : Option Addr) (bo oo : Option Addr), Rows2 (.slice ao q.atoms.length ac) (.slice bo q.bonds.length bc) q.atoms q.bonds W → IntsE (.slice oo q.bonds.length oc) os W → ∀ (k : Nat) (a : Atm), q.atoms[k]? = some a → Calls Tryz.prog 18 #[.agg #[.slice ao q.atoms.length ac, .slice bo q.bonds.length bc], .slice oo q.bonds.length oc, .int .i64 (k : Int)] W fun e w' => e = .returned (.int .i64 (a.hy + totS (q.bonds.zip os) k)) ∧ Below W.heap.size W w') := fun W ao bo oo hr ho k a hk => by
        obtain ⟨b, ho⟩ := ho
        have h := total_any W hr hl (os := os) (oc := oc) (by rw [HOL.out]; exact ho) HOL.out (fun x hx => by have := hob x hx; omega) hk (HHY.out a (List.mem_of_getElem? hk))
        rw [HOL.out] at h
        exact h
      have HOB : Hid (∀ x ∈ os, x ≤ 3) := hob
      clear hob
      go_wp2_with fail
      go_loopg [18] (q.atoms.length + 1) (fun g v18 wr => ∃ k : Nat, k ≤ q.atoms.length ∧ q.atoms.length - k < g ∧ v18 = .int .i64 (k : Int) ∧ SoS w X Y (.slice ao q.atoms.length ac) (.slice bo q.bonds.length bc) [.int .i64 1, .slice oo q.bonds.length oc, .string tx, .slice co q.atoms.length cc, .slice none 0 0, .slice none 0 0] q.atoms q.bonds wr ∧ IntsE (.slice oo q.bonds.length oc) os wr ∧ IntsE (.slice co q.atoms.length cc) (List.range q.atoms.length) wr)
      case atStart => exact ⟨0, by omega, by omega, rfl, HS.out, HJ1.out, HJ2.out⟩
      case round =>
        obtain ⟨k, hk, hg2, rfl, hS, hJ1, hJ2⟩ := hrel
        clear HS HJ1 HJ2 x0 x1 r1
        have HS : Hid (SoS w X Y (.slice ao q.atoms.length ac) (.slice bo q.bonds.length bc) [.int .i64 1, .slice oo q.bonds.length oc, .string tx, .slice co q.atoms.length cc, .slice none 0 0, .slice none 0 0] q.atoms q.bonds wr) := hS
        have HJ1 : Hid (IntsE (.slice oo q.bonds.length oc) os wr) := hJ1
        have HJ2 : Hid (IntsE (.slice co q.atoms.length cc) (List.range q.atoms.length) wr) := hJ2
        have x0 := hS.m.c 0 _ rfl
        have x1 := hS.m.c 1 _ rfl
        have r0 := hS.r.c 0 _ rfl
        have r1 := hS.r.c 1 _ rfl
        have r2 := hS.r.c 2 _ rfl
        have r3 := hS.r.c 3 _ rfl
        have r4 := hS.r.c 4 _ rfl
        have r5 := hS.r.c 5 _ rfl
        by_cases hkt : k < q.atoms.length
        · have hkt' : (k : Int) < (q.atoms.length : Int) := by omega
          obtain ⟨a, ha⟩ : ∃ a, q.atoms[k]? = some a := ⟨_, List.getElem?_eq_getElem hkt⟩
          obtain ⟨_, hrow⟩ := hS.rm.a
          obtain ⟨ga, ka, ea, hga, z0, z1, z2, z3⟩ := atom_at hrow ha
          simp only [Value.slice.injEq, true_and] at ea
          obtain ⟨rfl, rfl⟩ := ea
          have S5 := HS.out.grow (.cells #[.string a.el, .bool a.aro, .int .i64 a.ch, .int .i64 a.hy] 50)
          have A5 := IntsE.on HJ1.out ((Below.refl _ wr).alloc (Nat.le_refl _) (.cells #[.string a.el, .bool a.aro, .int .i64 a.ch, .int .i64 a.hy] 50))
          have B5 := IntsE.on HJ2.out ((Below.refl _ wr).alloc (Nat.le_refl _) (.cells #[.string a.el, .bool a.aro, .int .i64 a.ch, .int .i64 a.hy] 50))
          have C5 := CellsAt.new wr [.string a.el, .bool a.aro, .int .i64 a.ch, .int .i64 a.hy] 50
          have TC := HT.out _ _ bo oo S5.rm A5 k a ha
          have x0z := cell_grow x0 (.cells #[.string a.el, .bool a.aro, .int .i64 a.ch, .int .i64 a.hy] 50)
          have x1z := cell_grow x1 (.cells #[.string a.el, .bool a.aro, .int .i64 a.ch, .int .i64 a.hy] 50)
          have r1z := cell_grow r1 (.cells #[.string a.el, .bool a.aro, .int .i64 a.ch, .int .i64 a.hy] 50)
          have htc := fun h => tot_c HSET.out ha h
          rw [HOSE.out] at htc
          have HTC : Hid (_) := htc
          have HS5 : Hid (_) := S5
          have HA5 : Hid (IntsE (.slice oo q.bonds.length oc) os (wr.alloc (.cells #[.string a.el, .bool a.aro, .int .i64 a.ch, .int .i64 a.hy] 50))) := A5
          have HB5 : Hid (IntsE (.slice co q.atoms.length cc) (List.range q.atoms.length) (wr.alloc (.cells #[.string a.el, .bool a.aro, .int .i64 a.ch, .int .i64 a.hy] 50))) := B5
          have HC5 : Hid (_) := C5
          clear hS hJ1 hJ2 hrow ha S5 A5 B5 C5 htc HS HJ1 HJ2
          go_wp2_with fail
          refine TC.mono ?_
          clear TC
          rintro e w5 ⟨rfl, hb5⟩
          have HS9 : Hid (_) := HS5.out.on hb5
          have HA9 : Hid (IntsE (.slice oo q.bonds.length oc) os w5) := IntsE.on HA5.out hb5
          have HB9 : Hid (IntsE (.slice co q.atoms.length cc) (List.range q.atoms.length) w5) := IntsE.on HB5.out hb5
          have C9 := HC5.out.on hb5
          have e0 := C9.c 0 _ rfl
          have e2 := C9.c 2 _ rfl
          clear C9 hb5 HS5 HA5 HB5 HC5 x0 x1 r0 r1 r2 r3 r4 r5 x0z x1z r1z z0 z1 z2 z3
          generalize wr.heap.size = PB at *
          have hT := HTC.out
          generalize a.hy + totS (q.bonds.zip os) k = tv at *
          clear HTC
          by_cases h0 : a.ch = 0
          · obtain ⟨k1, k2, k3⟩ := hT h0
            rw [h0] at e2
            clear hT
            by_cases hC : a.el = ⟨#[67]⟩
            · have u1 := str_is hC
              have u6 : (a.el.toList == [78]) = false := str_ne (by rw [hC]; decide)
              have u7 : (a.el.toList == [79]) = false := str_ne (by rw [hC]; decide)
              have u2 := k1 hC
              subst u2
              clear k1 k2 k3 hC
              go_wp2_with fail
              go_roundg (q.atoms.length - k)
              case measure => omega
              case rel => exact ⟨k + 1, by omega, by omega, by go_num, HS9.out, HA9.out, HB9.out⟩
            · have u1 := str_ne hC
              by_cases hN : a.el = ⟨#[78]⟩
              · have u2 := str_is hN
                have u7 : (a.el.toList == [79]) = false := str_ne (by rw [hN]; decide)
                have u3 := k2 hN
                clear k1 k2 k3 hN hC
                rcases u3 with rfl | rfl
                · go_wp2_with fail
                  go_roundg (q.atoms.length - k)
                  case measure => omega
                  case rel => exact ⟨k + 1, by omega, by omega, by go_num, HS9.out, HA9.out, HB9.out⟩
                · go_wp2_with fail
                  go_roundg (q.atoms.length - k)
                  case measure => omega
                  case rel => exact ⟨k + 1, by omega, by omega, by go_num, HS9.out, HA9.out, HB9.out⟩
              · have u2 := str_ne hN
                by_cases hO : a.el = ⟨#[79]⟩
                · have u3 := str_is hO
                  have u4 := k3 hO
                  subst u4
                  clear k1 k2 k3 hN hC hO
                  go_wp2_with fail
                  go_roundg (q.atoms.length - k)
                  case measure => omega
                  case rel => exact ⟨k + 1, by omega, by omega, by go_num, HS9.out, HA9.out, HB9.out⟩
                · have u3 := str_ne hO
                  clear k1 k2 k3 hN hC hO
                  go_wp2_with fail
                  go_roundg (q.atoms.length - k)
                  case measure => omega
                  case rel => exact ⟨k + 1, by omega, by omega, by go_num, HS9.out, HA9.out, HB9.out⟩
          · have h0' : (a.ch == 0) = false := by simp [h0]
            clear hT
            go_wp2_with fail
            go_roundg (q.atoms.length - k)
            case measure => omega
            case rel => exact ⟨k + 1, by omega, by omega, by go_num, HS9.out, HA9.out, HB9.out⟩
        · have hkt' : ¬ (k : Int) < (q.atoms.length : Int) := by omega
          have SH := shown_any wr (q := q) (os := os) (tx := tx) hS.rm hJ1 hJ2 HOL.out hl HEN.out HOB.out HTM.out (fun h => by
            obtain ⟨ats', l', h1, h2⟩ := again_is HSET.out HTX.out h
            rw [HOSE.out] at h2
            exact ⟨ats', l', h1, h2⟩)
          clear hS hJ1 hJ2
          go_wp2_with fail
          refine SH.mono ?_
          rintro e w6 ⟨rfl, hb6⟩
          have HB6 : Hid (Below w.heap.size w w6) := HS.out.below.trans (hb6.mono HS.out.below.size)
          clear hb6 SH
          go_wp2_with fail
          go_ret
          exact ⟨rfl, HB6.out⟩
/-- Barred or done: it hangs on the molecule alone. -/
theorem kk_which {s : ByteArray} {ats : List Atm} {l : List Bnd} (hs : s.size ≤ maxLen) (hp : Bz.parse s = .ok (ats, l)) :
    (∀ W, Calls Tryz.prog 14 #[.string s] W fun e w' => ∃ mate po pc uo un uc, KkBarred (stOf ats l) W e w' mate po pc uo un uc) ∨
    (∀ W, Calls Tryz.prog 14 #[.string s] W fun e w' => ∃ mate f gh oo oc co cc, KkSet s (stOf ats l) W e w' mate f gh oo oc co cc) := by
  have key : ∀ (W : World) (e : Ending) (w' : World), KkIs s W e w' → (¬ Perf (stOf ats l) ∧ ∃ mate po pc uo un uc, KkBarred (stOf ats l) W e w' mate po pc uo un uc) ∨ (Perf (stOf ats l) ∧ ∃ mate f gh oo oc co cc, KkSet s (stOf ats l) W e w' mate f gh oo oc co cc) := by
    intro W e w' h
    rcases h with ⟨er, h, _⟩ | ⟨q, mate, f, gh, h⟩
    · rw [hp] at h; cases h
    have hpq := h.h
    rw [hp] at hpq
    simp only [Except.ok.injEq, Prod.mk.injEq] at hpq
    have hpf := perf_iff h.en h.ho.atoms h.best
    obtain ⟨pos, atoms, bonds, rings⟩ := q
    simp only at hpq
    obtain ⟨rfl, rfl⟩ := hpq
    have epf : Perf ⟨pos, ats, l, rings⟩ ↔ Perf (stOf ats l) := Iff.rfl
    rcases h.case with ⟨hlow, pv, uv, hK⟩ | ⟨hlow, ov, cv, hK⟩
    · obtain ⟨he, hpp, hu, hb4⟩ := hK
      obtain ⟨po, pc, rfl⟩ := ownsRow_shape hpp
      obtain ⟨uo, uc, rfl⟩ := hu.shape
      refine .inl ⟨fun k => absurd hlow (hpf.2 (epf.2 k)), mate, po, pc, uo, _, uc, he, hpp, fun x y hxy => ?_, hb4⟩
      obtain ⟨b, hb, he, h1, h2⟩ := pair_bond h.en h.best hxy
      unfold isEdge at he
      simp only [Bool.and_eq_true, beq_iff_eq] at he
      exact ⟨b, hb, he.1, h1, h2⟩
    · obtain ⟨he, ho, hcv, _, hb4⟩ := hK
      obtain ⟨oo, oc, rfl⟩ := ho.shape
      obtain ⟨co, cc, rfl⟩ := hcv.shape
      have e1 : (l.map (ordN (pairsF ats.length mate))).length = l.length := List.length_map ..
      have e2 : (List.range ats.length).length = ats.length := List.length_range
      simp only at ho he hcv
      rw [e1] at ho he
      rw [e2] at hcv he
      exact .inr ⟨epf.1 (hpf.1 hlow), mate, f, gh, oo, oc, co, cc, ⟨h.h, h.en, h.ho.atoms, h.ho.ords, h.best, hlow⟩, he, ho, hcv, hb4⟩
  by_cases hP : Perf (stOf ats l)
  · refine .inr fun W => (kekulize_any s W hs).mono fun e w' h => ?_
    rcases key W e w' h with ⟨h1, _⟩ | ⟨_, h2⟩
    · exact absurd hP h1
    · exact h2
  · refine .inl fun W => (kekulize_any s W hs).mono fun e w' h => ?_
    rcases key W e w' h with ⟨_, h2⟩ | ⟨h1, _⟩
    · exact h2
    · exact absurd h1 hP

theorem parse_hy {s : ByteArray} {ats : List Atm} {l : List Bnd} (hp : Bz.parse s = .ok (ats, l)) : ∀ a ∈ ats, 0 ≤ a.hy ∧ a.hy ≤ 9 := by
  have hs := (parse_en hp).1
  rw [parse_whole s hs] at hp
  cases hq : wholeR s with
  | error e => rw [hq] at hp; cases hp
  | ok q =>
    rw [hq] at hp
    simp only [Except.map, Except.ok.injEq, Prod.mk.injEq] at hp
    have := (whole_wf hs hq).1.hys
    rw [hp.1] at this
    exact this

theorem sound_any (w : World) (s : ByteArray) (hs : s.size ≤ maxLen) : Calls Tryz.prog 8 #[.string s] w fun e w' => e = .returned (.bool true) ∧ Below w.heap.size w w' := by
  cases hp : Bz.parse s with
  | error er => exact sound_bad w s hs hp
  | ok x =>
    obtain ⟨ats, l⟩ := x
    rcases kk_which hs hp with h | h
    · exact sound_bar (q := stOf ats l) w s hs hp h
    · exact sound_set (q := stOf ats l) w s hs hp (parse_hy hp) h
end Go.Proofs.YtcabaecbmkgclaaGreatDoor.Kd
