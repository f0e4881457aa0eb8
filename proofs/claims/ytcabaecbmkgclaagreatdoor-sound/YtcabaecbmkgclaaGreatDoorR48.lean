/-
  Sound: the text that is written, looked at (shown).
  Sound.
-/
import Derived.Test.YtcabaecbmkgclaaGreatDoorR47
import Derived.BigQuiet
import Derived.Deep.CutBlock
import Derived.Deep.CutRange
import Derived.Deep.LoopGhost
namespace Go.Proofs.YtcabaecbmkgclaaGreatDoor.Kd
open Go.RowKit Bz Mt Mg Rf
theorem cell_grow {w : World} {a : Addr} {v : Value} (h : w.cell? a = some v) (o : Obj) : (w.alloc o).cell? a = some v := by rw [World.cell?_alloc_lt _ _ _ (World.block_lt_of_cell? w _ h)]; exact h

/-- What lies in a box. -/
structure CellsAt (X : Nat) (vs : List Value) (W : World) : Prop where
  c : ∀ j v, vs[j]? = some v → W.cell? ⟨X, j, none⟩ = some v
  lt : X < W.heap.size
theorem CellsAt.on {X : Nat} {vs : List Value} {W W' : World} (h : CellsAt X vs W) (hb : Below W.heap.size W W') : CellsAt X vs W' := ⟨fun j v hj => (hb.cell h.lt).trans (h.c j v hj), Nat.lt_of_lt_of_le h.lt hb.size⟩
theorem CellsAt.grow {X : Nat} {vs : List Value} {W : World} (h : CellsAt X vs W) (o : Obj) : CellsAt X vs (W.alloc o) := h.on ((Below.refl _ W).alloc (Nat.le_refl _) o)
theorem CellsAt.drewN {X : Nat} {vs : List Value} {W : World} (h : CellsAt X vs W) (n : Nat) : CellsAt X vs (W.drewN n) := ⟨fun j v hj => h.c j v hj, h.lt⟩
theorem CellsAt.new (w : World) (vs : List Value) (t : TypeId) : CellsAt w.heap.size vs (w.alloc (.cells vs.toArray t)) := ⟨fun j v hj => by rw [World.cell?_alloc_new]; simpa using hj, by simp⟩

/-- A list of numbers that came out. -/
def IntsE (v : Value) (l : List Nat) (W : World) : Prop := ∃ base, Ints W base v l
theorem IntsE.on {v : Value} {l : List Nat} {W W' : World} (h : IntsE v l W) (hb : Below W.heap.size W W') : IntsE v l W' := by
  obtain ⟨b, h⟩ := h
  exact ⟨b, ownsRow_same h fun k hk => hb.block k (h.lt k hk).2⟩
theorem IntsE.drewN {v : Value} {l : List Nat} {W : World} (h : IntsE v l W) (n : Nat) : IntsE v l (W.drewN n) := by
  obtain ⟨b, h⟩ := h
  exact ⟨b, ownsRow_same h fun _ _ => rfl⟩
theorem IntsE.cell {so : Option Addr} {n c : Nat} {l : List Nat} {W : World} (h : IntsE (.slice so n c) l W) {i x : Nat} (hi : l[i]? = some x) : ∃ g, so = some ⟨g, 0, none⟩ ∧ W.cell? ⟨g, i, none⟩ = some (.int .i64 (x : Int)) := by
  obtain ⟨b, h⟩ := h
  obtain ⟨g, cap, e, _, _, hc⟩ := h.at hi
  simp only [Value.slice.injEq] at e
  exact ⟨g, e.1, hc⟩

/-- Where 'shown' stands behind its calls. -/
structure ShS (w : World) (X1 Y1 X2 Y2 : Nat) (av bv ov tv dv xv zv yv : Value) (ats : List Atm) (l : List Bnd) (ats' : List Atm) (l' : List Bnd) (os : List Nat) (W : World) : Prop where
  m : CellsAt X1 [av, bv] W
  r : CellsAt Y1 [.int .i64 1, ov, tv, dv] W
  x : CellsAt X2 [xv, zv] W
  y : CellsAt Y2 [.int .i64 1, yv] W
  rm : Rows2 av bv ats l W
  rx : Rows2 xv zv ats' l' W
  o : IntsE ov os W
  d : IntsE dv (List.range ats.length) W
  o2 : IntsE yv (l'.map fun b => b.o.toNat) W
  below : Below w.heap.size w W
theorem ShS.on {w : World} {X1 Y1 X2 Y2 : Nat} {av bv ov tv dv xv zv yv : Value} {ats : List Atm} {l : List Bnd} {ats' : List Atm} {l' : List Bnd} {os : List Nat} {W W' : World} (h : ShS w X1 Y1 X2 Y2 av bv ov tv dv xv zv yv ats l ats' l' os W) (hb : Below W.heap.size W W') : ShS w X1 Y1 X2 Y2 av bv ov tv dv xv zv yv ats l ats' l' os W' :=
  ⟨h.m.on hb, h.r.on hb, h.x.on hb, h.y.on hb, h.rm.on hb, h.rx.on hb, h.o.on hb, h.d.on hb, h.o2.on hb, h.below.trans (hb.mono h.below.size)⟩
theorem ShS.grow {w : World} {X1 Y1 X2 Y2 : Nat} {av bv ov tv dv xv zv yv : Value} {ats : List Atm} {l : List Bnd} {ats' : List Atm} {l' : List Bnd} {os : List Nat} {W : World} (h : ShS w X1 Y1 X2 Y2 av bv ov tv dv xv zv yv ats l ats' l' os W) (o : Obj) : ShS w X1 Y1 X2 Y2 av bv ov tv dv xv zv yv ats l ats' l' os (W.alloc o) := h.on ((Below.refl _ W).alloc (Nat.le_refl _) o)
theorem ShS.drewN {w : World} {X1 Y1 X2 Y2 : Nat} {av bv ov tv dv xv zv yv : Value} {ats : List Atm} {l : List Bnd} {ats' : List Atm} {l' : List Bnd} {os : List Nat} {W : World} (h : ShS w X1 Y1 X2 Y2 av bv ov tv dv xv zv yv ats l ats' l' os W) (n : Nat) : ShS w X1 Y1 X2 Y2 av bv ov tv dv xv zv yv ats l ats' l' os (W.drewN n) :=
  ⟨h.m.drewN n, h.r.drewN n, h.x.drewN n, h.y.drewN n, h.rm.drewN n, h.rx.drewN n, h.o.drewN n, h.d.drewN n, h.o2.drewN n, below_drewN h.below n⟩

set_option maxRecDepth 100000 in
set_option maxHeartbeats 8000000 in
theorem shown_any (w : World) {q : St} {os : List Nat} {tx : ByteArray} {ao : Option Addr} {ac : Nat} {bo : Option Addr} {bc : Nat} {oo : Option Addr} {oc : Nat} {co : Option Addr} {cu : Nat} (hR : Rows2 (.slice ao q.atoms.length ac) (.slice bo q.bonds.length bc) q.atoms q.bonds w) (ho : IntsE (.slice oo q.bonds.length oc) os w) (hd : IntsE (.slice co q.atoms.length cu) (List.range q.atoms.length) w) (hos : os.length = q.bonds.length)
    (hl : q.bonds.length ≤ 160) (hen : ∀ b ∈ q.bonds, b.a < b.b ∧ b.b < q.atoms.length) (hob : ∀ x ∈ os, x ≤ 3) (htx : tx.size ≤ maxLen) (hA : tx.size ≤ 160 → ∃ ats' l', Bz.parse tx = .ok (ats', l') ∧ Again q os ats' l') :
    Calls Tryz.prog 19 #[.agg #[.slice ao q.atoms.length ac, .slice bo q.bonds.length bc], .agg #[.int .i64 1, .slice oo q.bonds.length oc, .string tx, .slice co q.atoms.length cu, .slice none 0 0, .slice none 0 0]] w fun e w' => e = .returned (.bool true) ∧ Below w.heap.size w w' := by
  have HB2 : Hid (∀ o o', Below w.heap.size w ((w.alloc o).alloc o')) := fun o o' => ((Below.refl _ w).alloc (Nat.le_refl _) o).alloc (by simp) o'
  by_cases hlong : 160 < tx.size
  · have hlong' : (tx.size : Int) > 160 := by omega
    clear hA hR ho hd
    go_enter Tryz.func19, Tryz.ntmps19
    go_wp2_with fail
    go_ret
    exact ⟨rfl, HB2.out _ _⟩
  · obtain ⟨ats', l', hp, A⟩ := hA (by omega)
    have hlong' : ¬ ((tx.size : Int) > 160) := by omega
    have P1 := fun W => (parse_any tx W htx).mono fun e w' h => ParseIs.fine h hp
    have P2 := fun W => (kekulize_any tx W htx).mono fun e w' h => again_done A hp h
    have hen' : ∀ b ∈ l', b.a < b.b ∧ b.b < ats'.length := (parse_en hp).2.ends
    have HPW : Hid (∀ (W : World) (xo : Option Addr) (xc : Nat) (zo : Option Addr) (zc : Nat), Rows2 (.slice xo ats'.length xc) (.slice zo l'.length zc) ats' l' W → Calls Tryz.prog 17 #[.agg #[.slice xo ats'.length xc, .slice zo l'.length zc]] W fun e w' => e = .returned (.bool true) ∧ Below W.heap.size W w') := fun W xo xc zo zc h => whole_any W h (by rw [A.lb]; exact hl) hen'
    have HRW : Hid (Rows2 (.slice ao q.atoms.length ac) (.slice bo q.bonds.length bc) q.atoms q.bonds w) := hR
    have HOW : Hid (IntsE (.slice oo q.bonds.length oc) os w) := ho
    have HDW : Hid (IntsE (.slice co q.atoms.length cu) (List.range q.atoms.length) w) := hd
    have HA : Hid (Again q os ats' l') := A
    have HEN : Hid (∀ b ∈ q.bonds, b.a < b.b ∧ b.b < q.atoms.length) := hen
    have HOB : Hid (∀ x ∈ os, x ≤ 3) := hob
    have HOS : Hid (os.length = q.bonds.length) := hos
    have hla := A.la
    have hlb := A.lb
    have HLA : Hid (_) := hla
    have HLB : Hid (_) := hlb
    have HLO : Hid ((l'.map fun b => b.o.toNat).length = l'.length) := List.length_map ..
    clear hA hR ho hd hp A hen' hen hob hos hla hlb
    go_enter Tryz.func19, Tryz.ntmps19
    go_wp2_with fail
    refine (P1 _).mono ?_
    clear P1
    rintro e w1 ⟨xo, xc, zo, zc, rfl, hr1, hr2, hb1, hn1, hl1⟩
    have hs0 : ((w.alloc (.cells #[.slice ao q.atoms.length ac, .slice bo q.bonds.length bc] 39)).alloc (.cells #[.int .i64 1, .slice oo q.bonds.length oc, .string tx, .slice co q.atoms.length cu, .slice none 0 0, .slice none 0 0] 31)).heap.size = w.heap.size + 2 := by simp
    have M0 := (CellsAt.new w [.slice ao q.atoms.length ac, .slice bo q.bonds.length bc] 39).grow (.cells #[.int .i64 1, .slice oo q.bonds.length oc, .string tx, .slice co q.atoms.length cu, .slice none 0 0, .slice none 0 0] 31)
    have R0 := CellsAt.new (w.alloc (.cells #[.slice ao q.atoms.length ac, .slice bo q.bonds.length bc] 39)) [.int .i64 1, .slice oo q.bonds.length oc, .string tx, .slice co q.atoms.length cu, .slice none 0 0, .slice none 0 0] 31
    have B0 := HB2.out (.cells #[.slice ao q.atoms.length ac, .slice bo q.bonds.length bc] 39) (.cells #[.int .i64 1, .slice oo q.bonds.length oc, .string tx, .slice co q.atoms.length cu, .slice none 0 0, .slice none 0 0] 31)
    have M1 := M0.on hb1
    have R1 := R0.on hb1
    have B1 := B0.trans (hb1.mono B0.size)
    have e1 : (w.alloc (.cells #[.slice ao q.atoms.length ac, .slice bo q.bonds.length bc] 39)).heap.size = w.heap.size + 1 := by simp
    rw [e1] at R1
    have X1 := CellsAt.new w1 [.slice xo ats'.length xc, .slice zo l'.length zc] 39
    have RX : Rows2 (.slice xo ats'.length xc) (.slice zo l'.length zc) ats' l' w1 := ⟨⟨_, hr1⟩, ⟨_, hr2⟩⟩
    have M2 := M1.grow (.cells #[.slice xo ats'.length xc, .slice zo l'.length zc] 39)
    have R2 := R1.grow (.cells #[.slice xo ats'.length xc, .slice zo l'.length zc] 39)
    have RX2 := RX.grow (.cells #[.slice xo ats'.length xc, .slice zo l'.length zc] 39)
    have B2 := B1.alloc B1.size (.cells #[.slice xo ats'.length xc, .slice zo l'.length zc] 39)
    have HM2 : Hid (_) := M2
    have HR2 : Hid (_) := R2
    have HX1 : Hid (_) := X1
    have HRX2 : Hid (_) := RX2
    have HB1 : Hid (_) := B2
    have tx2 := R2.c 2 _ rfl
    clear hb1 hr1 hr2 hs0 M0 R0 B0 M1 R1 B1 X1 RX M2 R2 RX2 B2 e1
    go_wp2_with fail
    refine (P2 _).mono ?_
    clear P2
    rintro e w2 ⟨yo, yc, ty, yco, ycn, ycc, rfl, hyo, hb2⟩
    rw [HLO.out] at hyo ⊢
    have M3 := (HM2.out.on hb2).grow (.cells #[.int .i64 1, .slice yo l'.length yc, .string ty, .slice yco ycn ycc, .slice none 0 0, .slice none 0 0] 31)
    have R3 := (HR2.out.on hb2).grow (.cells #[.int .i64 1, .slice yo l'.length yc, .string ty, .slice yco ycn ycc, .slice none 0 0, .slice none 0 0] 31)
    have X3 := (HX1.out.on hb2).grow (.cells #[.int .i64 1, .slice yo l'.length yc, .string ty, .slice yco ycn ycc, .slice none 0 0, .slice none 0 0] 31)
    have RX3 := (HRX2.out.on hb2).grow (.cells #[.int .i64 1, .slice yo l'.length yc, .string ty, .slice yco ycn ycc, .slice none 0 0, .slice none 0 0] 31)
    have Y3 := CellsAt.new w2 [.int .i64 1, .slice yo l'.length yc, .string ty, .slice yco ycn ycc, .slice none 0 0, .slice none 0 0] 31
    have B3 := HB1.out.trans (hb2.mono HB1.out.size)
    have OY : IntsE (.slice yo l'.length yc) (l'.map fun b => b.o.toNat) w2 := ⟨_, hyo⟩
    have OY3 := OY.on ((Below.refl _ w2).alloc (Nat.le_refl _) (.cells #[.int .i64 1, .slice yo l'.length yc, .string ty, .slice yco ycn ycc, .slice none 0 0, .slice none 0 0] 31))
    have B4 := B3.alloc B3.size (.cells #[.int .i64 1, .slice yo l'.length yc, .string ty, .slice yco ycn ycc, .slice none 0 0, .slice none 0 0] 31)
    have WC := HPW.out (w2.alloc (.cells #[.int .i64 1, .slice yo l'.length yc, .string ty, .slice yco ycn ycc, .slice none 0 0, .slice none 0 0] 31)) xo xc zo zc RX3
    have S0 : Hid (ShS w w.heap.size (w.heap.size + 1) w1.heap.size w2.heap.size (.slice ao q.atoms.length ac) (.slice bo q.bonds.length bc) (.slice oo q.bonds.length oc) (.string tx) (.slice co q.atoms.length cu) (.slice xo ats'.length xc) (.slice zo l'.length zc) (.slice yo l'.length yc) q.atoms q.bonds ats' l' os (w2.alloc (.cells #[.int .i64 1, .slice yo l'.length yc, .string ty, .slice yco ycn ycc, .slice none 0 0, .slice none 0 0] 31))) :=
      ⟨M3, ⟨fun j v hj => R3.c j v (by match j, hj with
        | 0, hj => exact hj
        | 1, hj => exact hj
        | 2, hj => exact hj
        | 3, hj => exact hj), R3.lt⟩, X3, ⟨fun j v hj => Y3.c j v (by match j, hj with
        | 0, hj => exact hj
        | 1, hj => exact hj), Y3.lt⟩, HRW.out.on B4, RX3, HOW.out.on B4, HDW.out.on B4, OY3, B4⟩
    have x0 := X3.c 0 _ rfl
    have x1 := X3.c 1 _ rfl
    clear hb2 hyo tx2 HM2 HR2 HX1 HRX2 HB1 M3 R3 X3 RX3 Y3 B3 OY OY3 B4 HRW HOW HDW HPW HB2
    go_wp2_with fail
    refine WC.mono ?_
    clear WC
    rintro e w3 ⟨rfl, hb3⟩
    have S1 : Hid (ShS w w.heap.size (w.heap.size + 1) w1.heap.size w2.heap.size (.slice ao q.atoms.length ac) (.slice bo q.bonds.length bc) (.slice oo q.bonds.length oc) (.string tx) (.slice co q.atoms.length cu) (.slice xo ats'.length xc) (.slice zo l'.length zc) (.slice yo l'.length yc) q.atoms q.bonds ats' l' os w3) := S0.out.on hb3
    clear S0 hb3 x0 x1
    generalize w.heap.size + 1 = Y1 at *
    generalize w1.heap.size = X2 at *
    generalize w2.heap.size = Y2 at *
    have m0 := S1.out.m.c 0 _ rfl
    have m1 := S1.out.m.c 1 _ rfl
    have r1 := S1.out.r.c 1 _ rfl
    have r3 := S1.out.r.c 3 _ rfl
    have x0 := S1.out.x.c 0 _ rfl
    have x1 := S1.out.x.c 1 _ rfl
    have y0 := S1.out.y.c 0 _ rfl
    have y1 := S1.out.y.c 1 _ rfl
    have hla' : (ats'.length : Int) = (q.atoms.length : Int) := by have := HLA.out; omega
    have hlb' : (l'.length : Int) = (q.bonds.length : Int) := by have := HLB.out; omega
    go_wp2_with fail
    go_loopg [12] (q.atoms.length + 1) (fun g v12 wr => ∃ i : Nat, i ≤ q.atoms.length ∧ q.atoms.length - i < g ∧ v12 = .int .i64 (i : Int) ∧ ShS w w.heap.size Y1 X2 Y2 (.slice ao q.atoms.length ac) (.slice bo q.bonds.length bc) (.slice oo q.bonds.length oc) (.string tx) (.slice co q.atoms.length cu) (.slice xo ats'.length xc) (.slice zo l'.length zc) (.slice yo l'.length yc) q.atoms q.bonds ats' l' os wr)
    case atStart => exact ⟨0, by omega, by omega, rfl, S1.out⟩
    case round =>
      obtain ⟨i, hi, hg, rfl, hS⟩ := hrel
      clear S1 m0 m1 r1 r3 x0 x1 y0 y1
      have HS : Hid (ShS w w.heap.size Y1 X2 Y2 (.slice ao q.atoms.length ac) (.slice bo q.bonds.length bc) (.slice oo q.bonds.length oc) (.string tx) (.slice co q.atoms.length cu) (.slice xo ats'.length xc) (.slice zo l'.length zc) (.slice yo l'.length yc) q.atoms q.bonds ats' l' os wr) := hS
      have m0 := hS.m.c 0 _ rfl
      have m1 := hS.m.c 1 _ rfl
      have r1 := hS.r.c 1 _ rfl
      have r3 := hS.r.c 3 _ rfl
      have x0 := hS.x.c 0 _ rfl
      have x1 := hS.x.c 1 _ rfl
      have y0 := hS.y.c 0 _ rfl
      have y1 := hS.y.c 1 _ rfl
      by_cases hlt : i < q.atoms.length
      · have hlt' : (i : Int) < (q.atoms.length : Int) := by omega
        obtain ⟨a, ha⟩ : ∃ a, q.atoms[i]? = some a := ⟨_, List.getElem?_eq_getElem hlt⟩
        obtain ⟨a', ha', k1, k2, k3, k4⟩ := HA.out.at_ i a ha
        obtain ⟨gd, ed, dc⟩ := hS.d.cell (show (List.range q.atoms.length)[i]? = some i by rw [List.getElem?_range hlt])
        obtain ⟨_, hrow⟩ := hS.rm.a
        obtain ⟨ga, ka, ea, hga, z0, z1, z2, z3⟩ := atom_at hrow ha
        simp only [Value.slice.injEq, true_and] at ea
        obtain ⟨rfl, rfl⟩ := ea
        obtain ⟨_, hrow'⟩ := hS.rx.a
        obtain ⟨ga', ka', ea', hga', u0, u1, u2, u3⟩ := atom_at hrow' ha'
        simp only [Value.slice.injEq, true_and] at ea'
        obtain ⟨rfl, rfl⟩ := ea'
        subst ed
        rw [k1] at u1
        rw [k2] at u0
        rw [k3] at u2
        rw [k4] at u3
        have dc1 : decide ((i : Int) < 0) = false := decide_eq_false (by omega)
        have dc2 : decide ((q.atoms.length : Int) ≤ (i : Int)) = false := decide_eq_false (by omega)
        have dc3 : decide (q.atoms.length ≤ i) = false := decide_eq_false (by omega)
        have hlt2 : (i : Int) < (ats'.length : Int) := by omega
        have HSN : Hid (∀ n, ShS w w.heap.size Y1 X2 Y2 _ _ _ _ _ _ _ _ q.atoms q.bonds ats' l' os (wr.drewN n)) := fun n => HS.out.drewN n
        clear hS hrow hrow' ha ha' k1 k2 k3 k4 m1 r1 x1 y0 y1 HS
        go_wp2_with fail
        go_quiet (fail)
        have HS : Hid (ShS w w.heap.size Y1 X2 Y2 _ _ _ _ _ _ _ _ q.atoms q.bonds ats' l' os (wr.drewN nq)) := HSN.out nq
        have m0' : (wr.drewN nq).cell? ⟨w.heap.size, 0, none⟩ = _ := m0
        have r3' : (wr.drewN nq).cell? ⟨Y1, 3, none⟩ = _ := r3
        have x0' : (wr.drewN nq).cell? ⟨X2, 0, none⟩ = _ := x0
        have dc' : (wr.drewN nq).cell? ⟨gd, i, none⟩ = _ := dc
        have z0' : (wr.drewN nq).cell? ⟨ga, i * 4, none⟩ = _ := z0
        have z1' : (wr.drewN nq).cell? ⟨ga, i * 4 + 1, none⟩ = _ := z1
        have z2' : (wr.drewN nq).cell? ⟨ga, i * 4 + 2, none⟩ = _ := z2
        have z3' : (wr.drewN nq).cell? ⟨ga, i * 4 + 3, none⟩ = _ := z3
        have u0' : (wr.drewN nq).cell? ⟨ga', i * 4, none⟩ = _ := u0
        have u1' : (wr.drewN nq).cell? ⟨ga', i * 4 + 1, none⟩ = _ := u1
        have u2' : (wr.drewN nq).cell? ⟨ga', i * 4 + 2, none⟩ = _ := u2
        have u3' : (wr.drewN nq).cell? ⟨ga', i * 4 + 3, none⟩ = _ := u3
        clear m0 r3 x0 dc z0 z1 z2 z3 u0 u1 u2 u3 HSN
        generalize wr.drewN nq = wq at *
        have hgaq : ga < wq.heap.size := World.block_lt_of_cell? wq _ z0'
        have hgdq : gd < wq.heap.size := World.block_lt_of_cell? wq _ dc'
        have hX1q : w.heap.size < wq.heap.size := World.block_lt_of_cell? wq _ m0'
        have hY1q : Y1 < wq.heap.size := World.block_lt_of_cell? wq _ r3'
        go_upto_region 14 with fail
        obtain ⟨wz, hwz⟩ : ∃ wz, wq.alloc (.cells #[.string a.el, .bool false, .int .i64 a.ch, .int .i64 a.hy] 50) = wz := ⟨_, rfl⟩
        have HS2 := HS.out.grow (.cells #[.string a.el, .bool false, .int .i64 a.ch, .int .i64 a.hy] 50)
        rw [hwz] at HS2
        have HSZ : Hid (_) := HS2
        clear HS2
        have p0 : wz.cell? ⟨wq.heap.size, 0, none⟩ = some (.string a.el) := by rw [← hwz]; simp
        have p1 : wz.cell? ⟨wq.heap.size, 1, none⟩ = some (.bool false) := by rw [← hwz]; simp
        have p2 : wz.cell? ⟨wq.heap.size, 2, none⟩ = some (.int .i64 a.ch) := by rw [← hwz]; simp
        have p3 : wz.cell? ⟨wq.heap.size, 3, none⟩ = some (.int .i64 a.hy) := by rw [← hwz]; simp
        have m0 := cell_grow m0' (.cells #[.string a.el, .bool false, .int .i64 a.ch, .int .i64 a.hy] 50)
        have r3 := cell_grow r3' (.cells #[.string a.el, .bool false, .int .i64 a.ch, .int .i64 a.hy] 50)
        have dc := cell_grow dc' (.cells #[.string a.el, .bool false, .int .i64 a.ch, .int .i64 a.hy] 50)
        have z0 := cell_grow z0' (.cells #[.string a.el, .bool false, .int .i64 a.ch, .int .i64 a.hy] 50)
        have z1 := cell_grow z1' (.cells #[.string a.el, .bool false, .int .i64 a.ch, .int .i64 a.hy] 50)
        have z2 := cell_grow z2' (.cells #[.string a.el, .bool false, .int .i64 a.ch, .int .i64 a.hy] 50)
        have z3 := cell_grow z3' (.cells #[.string a.el, .bool false, .int .i64 a.ch, .int .i64 a.hy] 50)
        rw [hwz] at m0 r3 dc z0 z1 z2 z3
        rw [hwz]
        have hPq : wq.heap.size < wz.heap.size := World.block_lt_of_cell? wz _ p0
        clear hwz HS m0' r3' dc' z0' z1' z2' z3' u0' u1' u2' u3' x0' hgaq hgdq hX1q hY1q
        generalize wq.heap.size = PA at *
        have m0z := cell_grow m0 (.cells #[.string ⟨#[]⟩, .bool false, .int .i64 0, .int .i64 0] 50)
        have r3z := cell_grow r3 (.cells #[.string ⟨#[]⟩, .bool false, .int .i64 0, .int .i64 0] 50)
        have dcz := cell_grow dc (.cells #[.string ⟨#[]⟩, .bool false, .int .i64 0, .int .i64 0] 50)
        have z0z := cell_grow z0 (.cells #[.string ⟨#[]⟩, .bool false, .int .i64 0, .int .i64 0] 50)
        have z1z := cell_grow z1 (.cells #[.string ⟨#[]⟩, .bool false, .int .i64 0, .int .i64 0] 50)
        have z2z := cell_grow z2 (.cells #[.string ⟨#[]⟩, .bool false, .int .i64 0, .int .i64 0] 50)
        have z3z := cell_grow z3 (.cells #[.string ⟨#[]⟩, .bool false, .int .i64 0, .int .i64 0] 50)
        go_region
        have HS5 := HSZ.out.on (((Below.refl _ wz).alloc (Nat.le_refl _) (.cells #[.string a.el, .bool a.aro, .int .i64 a.ch, .int .i64 a.hy] 50)).drew)
        have q0 := cell_grow p0 (.cells #[.string a.el, .bool a.aro, .int .i64 a.ch, .int .i64 a.hy] 50)
        have q1 := cell_grow p1 (.cells #[.string a.el, .bool a.aro, .int .i64 a.ch, .int .i64 a.hy] 50)
        have q2 := cell_grow p2 (.cells #[.string a.el, .bool a.aro, .int .i64 a.ch, .int .i64 a.hy] 50)
        have q3 := cell_grow p3 (.cells #[.string a.el, .bool a.aro, .int .i64 a.ch, .int .i64 a.hy] 50)
        clear p0 p1 p2 p3 m0 r3 dc z0 z1 z2 z3 m0z r3z dcz z0z z1z z2z z3z
        have p0 : (wz.alloc (.cells #[.string a.el, .bool a.aro, .int .i64 a.ch, .int .i64 a.hy] 50)).drew.cell? ⟨PA, 0, none⟩ = some (.string a.el) := q0
        have p1 : (wz.alloc (.cells #[.string a.el, .bool a.aro, .int .i64 a.ch, .int .i64 a.hy] 50)).drew.cell? ⟨PA, 1, none⟩ = some (.bool false) := q1
        have p2 : (wz.alloc (.cells #[.string a.el, .bool a.aro, .int .i64 a.ch, .int .i64 a.hy] 50)).drew.cell? ⟨PA, 2, none⟩ = some (.int .i64 a.ch) := q2
        have p3 : (wz.alloc (.cells #[.string a.el, .bool a.aro, .int .i64 a.ch, .int .i64 a.hy] 50)).drew.cell? ⟨PA, 3, none⟩ = some (.int .i64 a.hy) := q3
        have s0 : (wz.alloc (.cells #[.string a.el, .bool a.aro, .int .i64 a.ch, .int .i64 a.hy] 50)).drew.cell? ⟨wz.heap.size, 0, none⟩ = some (.string a.el) := by simp
        have s2 : (wz.alloc (.cells #[.string a.el, .bool a.aro, .int .i64 a.ch, .int .i64 a.hy] 50)).drew.cell? ⟨wz.heap.size, 2, none⟩ = some (.int .i64 a.ch) := by simp
        have s3 : (wz.alloc (.cells #[.string a.el, .bool a.aro, .int .i64 a.ch, .int .i64 a.hy] 50)).drew.cell? ⟨wz.heap.size, 3, none⟩ = some (.int .i64 a.hy) := by simp
        have HSF : Hid (_) := HS5
        clear HS5 HSZ q0 q1 q2 q3
        generalize (wz.alloc (.cells #[.string a.el, .bool a.aro, .int .i64 a.ch, .int .i64 a.hy] 50)).drew = w9 at *
        generalize wz.heap.size = PB at *
        go_wp2_with fail
        go_roundg (q.atoms.length - i)
        case measure => omega
        case rel => exact ⟨i + 1, by omega, by omega, by go_num, HSF.out⟩
      · have hlt' : ¬ (i : Int) < (q.atoms.length : Int) := by omega
        clear hS
        go_wp2_with fail
        go_loopg [15] (l'.length + 1) (fun g v15 wr => ∃ j : Nat, j ≤ l'.length ∧ l'.length - j < g ∧ v15 = .int .i64 (j : Int) ∧ ShS w w.heap.size Y1 X2 Y2 (.slice ao q.atoms.length ac) (.slice bo q.bonds.length bc) (.slice oo q.bonds.length oc) (.string tx) (.slice co q.atoms.length cu) (.slice xo ats'.length xc) (.slice zo l'.length zc) (.slice yo l'.length yc) q.atoms q.bonds ats' l' os wr)
        case atStart => exact ⟨0, by omega, by omega, rfl, HS.out⟩
        case round =>
          obtain ⟨j, hj, hg2, rfl, hS⟩ := hrel
          clear HS m0 m1 r1 r3 x0 x1 y0 y1
          have HS : Hid (ShS w w.heap.size Y1 X2 Y2 (.slice ao q.atoms.length ac) (.slice bo q.bonds.length bc) (.slice oo q.bonds.length oc) (.string tx) (.slice co q.atoms.length cu) (.slice xo ats'.length xc) (.slice zo l'.length zc) (.slice yo l'.length yc) q.atoms q.bonds ats' l' os wr) := hS
          have m1 := hS.m.c 1 _ rfl
          have r1 := hS.r.c 1 _ rfl
          have r3 := hS.r.c 3 _ rfl
          have x1 := hS.x.c 1 _ rfl
          have y1 := hS.y.c 1 _ rfl
          by_cases hjt : j < l'.length
          · have hjt' : (j : Int) < (l'.length : Int) := by omega
            have hjq : j < q.bonds.length := by have := HLB.out; omega
            obtain ⟨b, hb⟩ : ∃ b, q.bonds[j]? = some b := ⟨_, List.getElem?_eq_getElem (by have := HLB.out; omega)⟩
            obtain ⟨x, hx⟩ : ∃ x, os[j]? = some x := ⟨_, List.getElem?_eq_getElem (by have := HLB.out; have := HOS.out; omega)⟩
            obtain ⟨b', hb', k1, k2, k3⟩ := HA.out.bd j b x hb hx
            have hends := HEN.out b (List.mem_of_getElem? hb)
            obtain ⟨gy, ey, yc0⟩ := hS.o2.cell (show (l'.map fun b => b.o.toNat)[j]? = some x by rw [List.getElem?_map, hb']; simp [k3])
            obtain ⟨gd, ed, da⟩ := hS.d.cell (show (List.range q.atoms.length)[b.a]? = some b.a by rw [List.getElem?_range (by omega)])
            obtain ⟨gd2, ed2, db⟩ := hS.d.cell (show (List.range q.atoms.length)[b.b]? = some b.b by rw [List.getElem?_range (by omega)])
            obtain ⟨_, hrow⟩ := hS.rx.b
            obtain ⟨gz, kz, ez, hgz, z0, z1, z2⟩ := bond_at hrow hb'
            simp only [Value.slice.injEq, true_and] at ez
            obtain ⟨rfl, rfl⟩ := ez
            subst ed ey
            cases ed2
            rw [k1] at z0
            rw [k2] at z1
            rw [k3] at z2
            have hab1 : (b.a : Int) < (q.atoms.length : Int) := by omega
            have hab2 : (b.b : Int) < (q.atoms.length : Int) := by omega
            have HJ : Hid (q.bonds[j]? = some b ∧ os[j]? = some x) := ⟨hb, hx⟩
            clear hS hrow hb hx hb' k1 k2 k3
            go_wp2_with fail
            go_quiet (fail)
            go_wp2_with fail
            go_quiet (fail)
            go_wp2_with fail
            go_quiet (fail)
            go_wp2_with fail
            try rw [decide_eq_true hjq]
            go_loopg [18, 19] (q.bonds.length + 1) (fun g v18 v19 wr => ∃ (k : Nat) (isb : Bool), k ≤ q.bonds.length ∧ q.bonds.length - k < g ∧ v19 = .int .i64 (k : Int) ∧ v18 = .bool isb ∧ (j < k → isb = true) ∧ ShS w w.heap.size Y1 X2 Y2 (.slice ao q.atoms.length ac) (.slice bo q.bonds.length bc) (.slice oo q.bonds.length oc) (.string tx) (.slice (some ⟨gd, 0, none⟩) q.atoms.length cu) (.slice xo ats'.length xc) (.slice (some ⟨gz, 0, none⟩) l'.length zc) (.slice (some ⟨gy, 0, none⟩) l'.length yc) q.atoms q.bonds ats' l' os wr)
            case atStart => exact ⟨0, false, by omega, by omega, rfl, rfl, fun h => by omega, ((HS.out.drewN _).drewN _).drewN _⟩
            case round =>
              obtain ⟨k, isb, hk, hg3, rfl, rfl, hisb, hS⟩ := hrel
              clear HS m1 r1 r3 x1 y1 z0 z1 z2 yc0 da db
              have HS : Hid (ShS w w.heap.size Y1 X2 Y2 (.slice ao q.atoms.length ac) (.slice bo q.bonds.length bc) (.slice oo q.bonds.length oc) (.string tx) (.slice (some ⟨gd, 0, none⟩) q.atoms.length cu) (.slice xo ats'.length xc) (.slice (some ⟨gz, 0, none⟩) l'.length zc) (.slice (some ⟨gy, 0, none⟩) l'.length yc) q.atoms q.bonds ats' l' os wr) := hS
              have m1 := hS.m.c 1 _ rfl
              have r1 := hS.r.c 1 _ rfl
              have x1 := hS.x.c 1 _ rfl
              by_cases hkt : k < q.bonds.length
              · have hkt' : (k : Int) < (q.bonds.length : Int) := by omega
                obtain ⟨bk, hbk⟩ : ∃ bk, q.bonds[k]? = some bk := ⟨_, List.getElem?_eq_getElem hkt⟩
                obtain ⟨xk, hxk⟩ : ∃ xk, os[k]? = some xk := ⟨_, List.getElem?_eq_getElem (by have := HOS.out; omega)⟩
                obtain ⟨b', hb', k1, k2, k3⟩ := HA.out.bd j b x HJ.out.1 HJ.out.2
                obtain ⟨go, eo, oc0⟩ := hS.o.cell hxk
                obtain ⟨_, hrow⟩ := hS.rm.b
                obtain ⟨gb, kb, eb, hgb, c0, c1, c2⟩ := bond_at hrow hbk
                simp only [Value.slice.injEq, true_and] at eb
                obtain ⟨rfl, rfl⟩ := eb
                obtain ⟨_, hrow'⟩ := hS.rx.b
                obtain ⟨gz', kz', ez', hgz', z0, z1, z2⟩ := bond_at hrow' hb'
                simp only [Value.slice.injEq, Option.some.injEq, Addr.mk.injEq, true_and, and_true] at ez'
                obtain ⟨rfl, rfl⟩ := ez'
                subst eo
                rw [k3] at z2
                have hmin : min (b.a : Int) (b.b : Int) = (b.a : Int) := by omega
                have hmax : max (b.a : Int) (b.b : Int) = (b.b : Int) := by omega
                have HNX : Hid (j < k + 1 → bk.a = b.a ∧ bk.b = b.b ∧ xk = x ∨ isb = true) := fun h => by
                  rcases Nat.lt_or_ge j k with h1 | h1
                  · exact .inr (hisb h1)
                  · have e : j = k := by omega
                    subst e
                    have h2 := HJ.out
                    rw [hbk, hxk] at h2
                    have e1 := Option.some.inj h2.1
                    have e2 := Option.some.inj h2.2
                    exact .inl ⟨by rw [e1], by rw [e1], e2⟩
                clear hS hrow hrow' hb' k1 k2 k3 z0 z1 hbk hxk
                cases isb with
                | true =>
                  go_wp2_with fail
                  go_region
                  go_wp2_with fail
                  go_roundg (q.bonds.length - k)
                  case measure => omega
                  case rel => exact ⟨k + 1, true, by omega, by omega, by go_num, rfl, fun _ => rfl, HS.out.on ((Below.refl _ wr).drew)⟩
                | false =>
                  by_cases t1 : bk.a = b.a
                  · have t1' : ((bk.a : Int) == (b.a : Int)) = true := by simp [t1]
                    by_cases t2 : bk.b = b.b
                    · have t2' : ((bk.b : Int) == (b.b : Int)) = true := by simp [t2]
                      by_cases t3 : xk = x
                      · have t3' : ((xk : Int) == (x : Int)) = true := by simp [t3]
                        go_wp2_with fail
                        go_region
                        go_wp2_with fail
                        go_roundg (q.bonds.length - k)
                        case measure => omega
                        case rel => exact ⟨k + 1, true, by omega, by omega, by go_num, rfl, fun _ => rfl, HS.out.on ((Below.refl _ wr).drew)⟩
                      · have t3' : ((xk : Int) == (x : Int)) = false := by simp; omega
                        go_wp2_with fail
                        go_region
                        go_wp2_with fail
                        go_roundg (q.bonds.length - k)
                        case measure => omega
                        case rel => exact ⟨k + 1, false, by omega, by omega, by go_num, rfl, fun h => by rcases HNX.out h with h | h; exact absurd h.2.2 t3; exact h, HS.out.on ((Below.refl _ wr).drew)⟩
                    · have t2' : ((bk.b : Int) == (b.b : Int)) = false := by simp; omega
                      go_wp2_with fail
                      go_region
                      go_wp2_with fail
                      go_roundg (q.bonds.length - k)
                      case measure => omega
                      case rel => exact ⟨k + 1, false, by omega, by omega, by go_num, rfl, fun h => by rcases HNX.out h with h | h; exact absurd h.2.1 t2; exact h, HS.out.on ((Below.refl _ wr).drew)⟩
                  · have t1' : ((bk.a : Int) == (b.a : Int)) = false := by simp; omega
                    go_wp2_with fail
                    go_region
                    go_wp2_with fail
                    go_roundg (q.bonds.length - k)
                    case measure => omega
                    case rel => exact ⟨k + 1, false, by omega, by omega, by go_num, rfl, fun h => by rcases HNX.out h with h | h; exact absurd h.1 t1; exact h, HS.out.on ((Below.refl _ wr).drew)⟩
              · have hkt' : ¬ (k : Int) < (q.bonds.length : Int) := by omega
                obtain rfl : isb = true := hisb (by have := HLB.out; omega)
                clear hS
                go_wp2_with fail
                go_roundg (l'.length - j)
                case measure => omega
                case rel => exact ⟨j + 1, by omega, by omega, by go_num, HS.out⟩
          · have hjt' : ¬ (j : Int) < (l'.length : Int) := by omega
            clear hS
            go_wp2_with fail
            go_ret
            exact ⟨rfl, HS.out.below⟩
theorem KkIs.err {s : ByteArray} {w : World} {e : Ending} {w' : World} {er : Int × Int} (h : KkIs s w e w') (hp : Bz.parse s = .error er) : e = .returned (.tuple #[.agg #[.int .i64 0, .slice none 0 0, .string ⟨#[]⟩, .slice none 0 0, .slice none 0 0, .slice none 0 0], .int .i64 er.1, .int .i64 er.2]) ∧ Below w.heap.size w w' := by
  rcases h with ⟨er', h, he, _, hb⟩ | ⟨q, mate, f, gh, h⟩
  · rw [hp] at h; cases h
    exact ⟨he, hb⟩
  · have := h.h
    rw [hp] at this
    cases this

/-- Kekulize of a text that can be read: barred. -/
structure KkBarred (q : St) (w : World) (e : Ending) (w' : World) (mate : Nat → Option Nat) (po : Option Addr) (pc : Nat) (uo : Option Addr) (un uc : Nat) : Prop where
  he : e = .returned (.tuple #[.agg #[.int .i64 2, .slice none 0 0, .string ⟨#[]⟩, .slice none 0 0, .slice po (pairsF q.atoms.length mate).length pc, .slice uo un uc], .int .i64 0, .int .i64 0])
  hp : Prs w' w.heap.size (.slice po (pairsF q.atoms.length mate).length pc) (pairsF q.atoms.length mate)
  pr : ∀ x y, (x, y) ∈ pairsF q.atoms.length mate → ∃ b ∈ q.bonds, b.o = 4 ∧ b.a = x ∧ b.b = y
  hb : Below w.heap.size w w'
/-- Or done. -/
structure KkSet (s : ByteArray) (q : St) (w : World) (e : Ending) (w' : World) (mate : Nat → Option Nat) (f : Fo) (gh : Gh) (oo : Option Addr) (oc : Nat) (co : Option Addr) (cc : Nat) : Prop where
  S : Set4 s q mate f gh
  he : e = .returned (.tuple #[.agg #[.int .i64 1, .slice oo q.bonds.length oc, .string ⟨(wrL s.data.toList q.bonds (osOf q mate)).toArray⟩, .slice co q.atoms.length cc, .slice none 0 0, .slice none 0 0], .int .i64 0, .int .i64 0])
  ho : Ints w' w.heap.size (.slice oo q.bonds.length oc) (osOf q mate)
  hc : Ints w' w.heap.size (.slice co q.atoms.length cc) (List.range q.atoms.length)
  hb : Below w.heap.size w w'

theorem KkIs.parts {s : ByteArray} {w : World} {e : Ending} {w' : World} {ats : List Atm} {l : List Bnd} (h : KkIs s w e w') (hp : Bz.parse s = .ok (ats, l)) : ∃ q : St, q.atoms = ats ∧ q.bonds = l ∧ (∀ a ∈ q.atoms, 0 ≤ a.hy ∧ a.hy ≤ 9) ∧ (∀ b ∈ q.bonds, 1 ≤ b.o ∧ b.o ≤ 4) ∧ ((∃ mate po pc uo un uc, KkBarred q w e w' mate po pc uo un uc) ∨ ∃ mate f gh oo oc co cc, KkSet s q w e w' mate f gh oo oc co cc) := by
  rcases h with ⟨er, h, _⟩ | ⟨q, mate, f, gh, h⟩
  · rw [hp] at h; cases h
  have hpq := h.h
  rw [hp] at hpq
  simp only [Except.ok.injEq, Prod.mk.injEq] at hpq
  refine ⟨q, hpq.1.symm, hpq.2.symm, h.ho.hys, h.ho.ords, ?_⟩
  rcases h.case with ⟨hlow, pv, uv, hK⟩ | ⟨hlow, ov, cv, hK⟩
  · obtain ⟨he, hpp, hu, hb4⟩ := hK
    obtain ⟨po, pc, rfl⟩ := ownsRow_shape hpp
    obtain ⟨uo, uc, rfl⟩ := hu.shape
    refine .inl ⟨mate, po, pc, uo, _, uc, he, hpp, fun x y hxy => ?_, hb4⟩
    obtain ⟨b, hb, he, h1, h2⟩ := pair_bond h.en h.best hxy
    unfold isEdge at he
    simp only [Bool.and_eq_true, beq_iff_eq] at he
    exact ⟨b, hb, he.1, h1, h2⟩
  · obtain ⟨he, ho, hcv, _, hb4⟩ := hK
    obtain ⟨oo, oc, rfl⟩ := ho.shape
    obtain ⟨co, cc, rfl⟩ := hcv.shape
    have e1 : (osOf q mate).length = q.bonds.length := List.length_map ..
    have e2 : (List.range q.atoms.length).length = q.atoms.length := List.length_range
    rw [e1] at ho he
    rw [e2] at hcv he
    exact .inr ⟨mate, f, gh, oo, oc, co, cc, ⟨h.h, h.en, h.ho.atoms, h.ho.ords, h.best, hlow⟩, he, ho, hcv, hb4⟩

section
set_option maxRecDepth 100000 in
set_option maxHeartbeats 4000000 in
/-- The text can't be read. -/
theorem sound_bad (w : World) (s : ByteArray) (hs : s.size ≤ maxLen) {er : Int × Int} (hp : Bz.parse s = .error er) : Calls Tryz.prog 8 #[.string s] w fun e w' => e = .returned (.bool true) ∧ Below w.heap.size w w' := by
  have P1 := fun W => works_any W
  have P2 := fun W => (parse_any s W hs).mono fun e w' h => ParseIs.err h hp
  have P3 := fun W => (kekulize_any s W hs).mono fun e w' h => KkIs.err h hp
  have hnz : (er.1 != 0) = true := by simp [parse_nz hp]
  have hnz2 : ¬ er.1 = 0 := parse_nz hp
  clear hp
  go_enter Tryz.func8, Tryz.ntmps8
  go_wp2_with fail
  refine (P1 _).mono ?_
  clear P1
  rintro e w1 ⟨rfl, hb1⟩
  go_wp2_with fail
  refine (P2 _).mono ?_
  clear P2
  rintro e w2 ⟨rfl, hb2⟩
  have B2 := hb1.trans (hb2.mono hb1.size)
  have BW := B2.alloc B2.size (.cells #[.slice none 0 0, .slice none 0 0] 39)
  have M2 := CellsAt.new w2 [.slice none 0 0, .slice none 0 0] 39
  have HM : Hid (_) := M2
  have HBW : Hid (_) := BW
  clear hb1 hb2 B2 BW M2
  go_wp2_with fail
  refine (P3 _).mono ?_
  clear P3
  rintro e w3 ⟨rfl, hb3⟩
  have M3 := (HM.out.on hb3).grow (.cells #[.int .i64 0, .slice none 0 0, .string ⟨#[]⟩, .slice none 0 0, .slice none 0 0, .slice none 0 0] 31)
  have x0 := M3.c 0 _ rfl
  have B3 := HBW.out.trans (hb3.mono HBW.out.size)
  have HB4 : Hid (∀ o, Below w.heap.size w (w3.alloc o)) := fun o => B3.alloc B3.size o
  clear hb3 M3 B3 HM HBW
  go_wp2_with fail
  go_ret
  exact ⟨rfl, HB4.out _⟩

/-- Where Sound stands behind its calls. -/
structure SoS (w : World) (X Y : Nat) (av bv : Value) (vs : List Value) (ats : List Atm) (l : List Bnd) (W : World) : Prop where
  m : CellsAt X [av, bv] W
  r : CellsAt Y vs W
  rm : Rows2 av bv ats l W
  below : Below w.heap.size w W
theorem SoS.on {w : World} {X Y : Nat} {av bv : Value} {vs : List Value} {ats : List Atm} {l : List Bnd} {W W' : World} (h : SoS w X Y av bv vs ats l W) (hb : Below W.heap.size W W') : SoS w X Y av bv vs ats l W' :=
  ⟨h.m.on hb, h.r.on hb, h.rm.on hb, h.below.trans (hb.mono h.below.size)⟩
theorem SoS.grow {w : World} {X Y : Nat} {av bv : Value} {vs : List Value} {ats : List Atm} {l : List Bnd} {W : World} (h : SoS w X Y av bv vs ats l W) (o : Obj) : SoS w X Y av bv vs ats l (W.alloc o) := h.on ((Below.refl _ W).alloc (Nat.le_refl _) o)
theorem SoS.drewN {w : World} {X Y : Nat} {av bv : Value} {vs : List Value} {ats : List Atm} {l : List Bnd} {W : World} (h : SoS w X Y av bv vs ats l W) (n : Nat) : SoS w X Y av bv vs ats l (W.drewN n) :=
  ⟨h.m.drewN n, h.r.drewN n, h.rm.drewN n, below_drewN h.below n⟩

/-- A list of pairs that came out. -/
def PrsE (v : Value) (l : List (Nat × Nat)) (W : World) : Prop := ∃ base, Prs W base v l
theorem PrsE.on {v : Value} {l : List (Nat × Nat)} {W W' : World} (h : PrsE v l W) (hb : Below W.heap.size W W') : PrsE v l W' := by
  obtain ⟨b, h⟩ := h
  exact ⟨b, ownsRow_same h fun k hk => hb.block k (h.lt k hk).2⟩
theorem PrsE.drewN {v : Value} {l : List (Nat × Nat)} {W : World} (h : PrsE v l W) (n : Nat) : PrsE v l (W.drewN n) := by
  obtain ⟨b, h⟩ := h
  exact ⟨b, ownsRow_same h fun _ _ => rfl⟩

theorem PrsE.cell {so : Option Addr} {n c : Nat} {l : List (Nat × Nat)} {W : World} (h : PrsE (.slice so n c) l W) {i x y : Nat} (hi : l[i]? = some (x, y)) : ∃ g, so = some ⟨g, 0, none⟩ ∧ W.cell? ⟨g, i * 2, none⟩ = some (.int .i64 (x : Int)) ∧ W.cell? ⟨g, i * 2 + 1, none⟩ = some (.int .i64 (y : Int)) := by
  obtain ⟨b, h⟩ := h
  have hil := (List.getElem?_eq_some_iff.1 hi).1
  obtain ⟨g, cap', e, _, _, hc, _⟩ := ownsRow_at h (by omega)
  simp only [Value.slice.injEq] at e
  obtain ⟨h1, h2⟩ := pairCells_at hi
  exact ⟨g, e.1, (hc _ (by omega)).trans h1, (hc _ (by omega)).trans h2⟩

set_option maxRecDepth 100000 in
set_option maxHeartbeats 8000000 in
/-- It is barred. -/
theorem sound_bar (w : World) (s : ByteArray) (hs : s.size ≤ maxLen) {q : St} (hp : Bz.parse s = .ok (q.atoms, q.bonds)) (hK : ∀ W, Calls Tryz.prog 14 #[.string s] W fun e w' => ∃ mate po pc uo un uc, KkBarred q W e w' mate po pc uo un uc) : Calls Tryz.prog 8 #[.string s] w fun e w' => e = .returned (.bool true) ∧ Below w.heap.size w w' := by
  have P1 := fun W => works_any W
  have P2 := fun W => (parse_any s W hs).mono fun e w' h => ParseIs.fine h hp
  have hen : ∀ b ∈ q.bonds, b.a < b.b ∧ b.b < q.atoms.length := (parse_en hp).2.ends
  have HWH : Hid (∀ (W : World) (ao : Option Addr) (ac : Nat) (bo : Option Addr) (bc : Nat), q.bonds.length ≤ 160 → Rows2 (.slice ao q.atoms.length ac) (.slice bo q.bonds.length bc) q.atoms q.bonds W → Calls Tryz.prog 17 #[.agg #[.slice ao q.atoms.length ac, .slice bo q.bonds.length bc]] W fun e w' => e = .returned (.bool true) ∧ Below W.heap.size W w') := fun W ao ac bo bc hl h => whole_any W h hl hen
  clear hp hen
  go_enter Tryz.func8, Tryz.ntmps8
  go_wp2_with fail
  refine (P1 _).mono ?_
  clear P1
  rintro e w1 ⟨rfl, hb1⟩
  go_wp2_with fail
  refine (P2 _).mono ?_
  clear P2
  rintro e w2 ⟨ao, ac, bo, bc, rfl, hr1, hr2, hb2, hn, hl⟩
  have B2 := hb1.trans (hb2.mono hb1.size)
  have BW := B2.alloc B2.size (.cells #[.slice ao q.atoms.length ac, .slice bo q.bonds.length bc] 39)
  have M2 := CellsAt.new w2 [.slice ao q.atoms.length ac, .slice bo q.bonds.length bc] 39
  have RW : Rows2 (.slice ao q.atoms.length ac) (.slice bo q.bonds.length bc) q.atoms q.bonds w2 := ⟨⟨_, hr1⟩, ⟨_, hr2⟩⟩
  have RW2 := RW.grow (.cells #[.slice ao q.atoms.length ac, .slice bo q.bonds.length bc] 39)
  have HM : Hid (_) := M2
  have HBW : Hid (_) := BW
  have HRW : Hid (_) := RW2
  clear hb1 hb2 B2 BW M2 RW RW2 hr1 hr2
  go_wp2_with fail
  refine (hK _).mono ?_
  clear hK
  rintro e w3 ⟨mate, po, pc, uo, un, uc, rfl, hpp, hpr, hb3⟩
  have M3 := (HM.out.on hb3).grow (.cells #[.int .i64 2, .slice none 0 0, .string ⟨#[]⟩, .slice none 0 0, .slice po (pairsF q.atoms.length mate).length pc, .slice uo un uc] 31)
  have R3 := CellsAt.new w3 [.int .i64 2, .slice none 0 0, .string ⟨#[]⟩, .slice none 0 0, .slice po (pairsF q.atoms.length mate).length pc, .slice uo un uc] 31
  have RW3 := (HRW.out.on hb3).grow (.cells #[.int .i64 2, .slice none 0 0, .string ⟨#[]⟩, .slice none 0 0, .slice po (pairsF q.atoms.length mate).length pc, .slice uo un uc] 31)
  have B3 := HBW.out.trans (hb3.mono HBW.out.size)
  have B4 := B3.alloc B3.size (.cells #[.int .i64 2, .slice none 0 0, .string ⟨#[]⟩, .slice none 0 0, .slice po (pairsF q.atoms.length mate).length pc, .slice uo un uc] 31)
  have PR : PrsE (.slice po (pairsF q.atoms.length mate).length pc) (pairsF q.atoms.length mate) w3 := ⟨_, hpp⟩
  have PR4 := PR.on ((Below.refl _ w3).alloc (Nat.le_refl _) (.cells #[.int .i64 2, .slice none 0 0, .string ⟨#[]⟩, .slice none 0 0, .slice po (pairsF q.atoms.length mate).length pc, .slice uo un uc] 31))
  have HS : Hid (SoS w w2.heap.size w3.heap.size (.slice ao q.atoms.length ac) (.slice bo q.bonds.length bc) [.int .i64 2, .slice none 0 0, .string ⟨#[]⟩, .slice none 0 0, .slice po (pairsF q.atoms.length mate).length pc, .slice uo un uc] q.atoms q.bonds (w3.alloc (.cells #[.int .i64 2, .slice none 0 0, .string ⟨#[]⟩, .slice none 0 0, .slice po (pairsF q.atoms.length mate).length pc, .slice uo un uc] 31))) := ⟨M3, R3, RW3, B4⟩
  have HPR : Hid (_) := PR4
  have HPB : Hid (∀ x y, (x, y) ∈ pairsF q.atoms.length mate → ∃ b ∈ q.bonds, b.o = 4 ∧ b.a = x ∧ b.b = y) := hpr
  have WC := HWH.out _ ao ac bo bc hl RW3
  have x0 := M3.c 0 _ rfl
  have x1 := M3.c 1 _ rfl
  clear hb3 M3 R3 RW3 B3 B4 PR PR4 HM HBW HRW HWH hpp hpr
  go_wp2_with fail
  refine WC.mono ?_
  clear WC
  rintro e w4 ⟨rfl, hb4⟩
  have HS4 : Hid (_) := HS.out.on hb4
  have HPR4 : Hid (PrsE (.slice po (pairsF q.atoms.length mate).length pc) (pairsF q.atoms.length mate) w4) := PrsE.on HPR.out hb4
  clear HS HPR hb4 x0 x1
  generalize w2.heap.size = X at *
  generalize w3.heap.size = Y at *
  have x1 := HS4.out.m.c 1 _ rfl
  have r0 := HS4.out.r.c 0 _ rfl
  have r1 := HS4.out.r.c 1 _ rfl
  have r2 := HS4.out.r.c 2 _ rfl
  have r4 := HS4.out.r.c 4 _ rfl
  have hPl : (pairsF q.atoms.length mate).length ≤ 24 := by
    have : (pairsF q.atoms.length mate).length ≤ q.atoms.length := by
      unfold pairsF
      rw [List.length_map]
      exact Nat.le_trans (List.length_filter_le _ _) (by rw [List.length_range]; exact Nat.le_refl _)
    omega
  generalize pairsF q.atoms.length mate = P at *
  go_wp2_with fail
  go_loopg [11] (P.length + 1) (fun g v11 wr => ∃ i : Nat, i ≤ P.length ∧ P.length - i < g ∧ v11 = .int .i64 (i : Int) ∧ SoS w X Y (.slice ao q.atoms.length ac) (.slice bo q.bonds.length bc) [.int .i64 2, .slice none 0 0, .string ⟨#[]⟩, .slice none 0 0, .slice po P.length pc, .slice uo un uc] q.atoms q.bonds wr ∧ PrsE (.slice po P.length pc) P wr)
  case atStart => exact ⟨0, by omega, by omega, rfl, HS4.out, HPR4.out⟩
  case round =>
    obtain ⟨i, hi, hg, rfl, hS, hR⟩ := hrel
    clear HS4 HPR4 x1 r0 r1 r2 r4
    have HS : Hid (SoS w X Y (.slice ao q.atoms.length ac) (.slice bo q.bonds.length bc) [.int .i64 2, .slice none 0 0, .string ⟨#[]⟩, .slice none 0 0, .slice po P.length pc, .slice uo un uc] q.atoms q.bonds wr) := hS
    have HR : Hid (PrsE (.slice po P.length pc) P wr) := hR
    have x1 := hS.m.c 1 _ rfl
    have r0 := hS.r.c 0 _ rfl
    have r1 := hS.r.c 1 _ rfl
    have r2 := hS.r.c 2 _ rfl
    have r4 := hS.r.c 4 _ rfl
    by_cases hlt : i < P.length
    · have hlt' : (i : Int) < (P.length : Int) := by omega
      obtain ⟨px, py, hpi⟩ : ∃ px py, P[i]? = some (px, py) := ⟨_, _, List.getElem?_eq_getElem hlt⟩
      obtain ⟨bb, hbm, hb4, hba, hbb⟩ := HPB.out px py (List.mem_of_getElem? hpi)
      obtain ⟨kb, hkb, ekb⟩ := List.getElem_of_mem hbm
      have HKB : Hid (q.bonds[kb]? = some bb ∧ bb.o = 4 ∧ bb.a = px ∧ bb.b = py) := ⟨by rw [List.getElem?_eq_getElem hkb, ekb], hb4, hba, hbb⟩
      obtain ⟨gp, ep, _, _⟩ := hR.cell hpi
      subst ep
      have HPI : Hid (P[i]? = some (px, py)) := hpi
      clear hS hR hpi hbm hb4 hba hbb ekb
      go_wp2_with fail
      try rw [decide_eq_true hlt]
      go_loopg [12, 13] (q.bonds.length + 1) (fun g v12 v13 wr => ∃ (k : Nat) (isb : Bool), k ≤ q.bonds.length ∧ q.bonds.length - k < g ∧ v13 = .int .i64 (k : Int) ∧ v12 = .bool isb ∧ (kb < k → isb = true) ∧ SoS w X Y (.slice ao q.atoms.length ac) (.slice bo q.bonds.length bc) [.int .i64 2, .slice none 0 0, .string ⟨#[]⟩, .slice none 0 0, .slice (some ⟨gp, 0, none⟩) P.length pc, .slice uo un uc] q.atoms q.bonds wr ∧ PrsE (.slice (some ⟨gp, 0, none⟩) P.length pc) P wr)
      case atStart => exact ⟨0, false, by omega, by omega, rfl, rfl, fun h => by omega, HS.out, HR.out⟩
      case round =>
        obtain ⟨k, isb, hk, hg3, rfl, rfl, hisb, hS, hR⟩ := hrel
        clear HS HR x1 r0 r1 r2 r4
        have HS : Hid (SoS w X Y (.slice ao q.atoms.length ac) (.slice bo q.bonds.length bc) [.int .i64 2, .slice none 0 0, .string ⟨#[]⟩, .slice none 0 0, .slice (some ⟨gp, 0, none⟩) P.length pc, .slice uo un uc] q.atoms q.bonds wr) := hS
        have HR : Hid (PrsE (.slice (some ⟨gp, 0, none⟩) P.length pc) P wr) := hR
        have x1 := hS.m.c 1 _ rfl
        have r4 := hS.r.c 4 _ rfl
        by_cases hkt : k < q.bonds.length
        · have hkt' : (k : Int) < (q.bonds.length : Int) := by omega
          obtain ⟨bk, hbk⟩ : ∃ bk, q.bonds[k]? = some bk := ⟨_, List.getElem?_eq_getElem hkt⟩
          obtain ⟨gp', ep', pc0, pc1⟩ := hR.cell HPI.out
          cases ep'
          obtain ⟨_, hrow⟩ := hS.rm.b
          obtain ⟨gb, kb', eb, hgb, c0, c1, c2⟩ := bond_at hrow hbk
          simp only [Value.slice.injEq, true_and] at eb
          obtain ⟨rfl, rfl⟩ := eb
          have HNX : Hid (kb < k + 1 → (bk.o = 4 ∧ bk.a = px ∧ bk.b = py) ∨ isb = true) := fun h => by
            rcases Nat.lt_or_ge kb k with h1 | h1
            · exact .inr (hisb h1)
            · have e : kb = k := by omega
              subst e
              have h2 := HKB.out
              rw [hbk] at h2
              have e1 := Option.some.inj h2.1
              rw [e1]
              exact .inl h2.2
          clear hS hR hrow hbk
          go_upto_region 20 with fail
          obtain ⟨wz, hwz⟩ : ∃ wz, wr.alloc (.cells #[.int .i64 (bk.a : Int), .int .i64 (bk.b : Int), .int .i64 bk.o] 46) = wz := ⟨_, rfl⟩
          have b0 : wz.cell? ⟨wr.heap.size, 0, none⟩ = some (.int .i64 (bk.a : Int)) := by rw [← hwz]; simp
          have b1 : wz.cell? ⟨wr.heap.size, 1, none⟩ = some (.int .i64 (bk.b : Int)) := by rw [← hwz]; simp
          have b2 : wz.cell? ⟨wr.heap.size, 2, none⟩ = some (.int .i64 bk.o) := by rw [← hwz]; simp
          have r4z := cell_grow r4 (.cells #[.int .i64 (bk.a : Int), .int .i64 (bk.b : Int), .int .i64 bk.o] 46)
          have p0z := cell_grow pc0 (.cells #[.int .i64 (bk.a : Int), .int .i64 (bk.b : Int), .int .i64 bk.o] 46)
          have p1z := cell_grow pc1 (.cells #[.int .i64 (bk.a : Int), .int .i64 (bk.b : Int), .int .i64 bk.o] 46)
          have S5 := (HS.out.grow (.cells #[.int .i64 (bk.a : Int), .int .i64 (bk.b : Int), .int .i64 bk.o] 46))
          have R5 := PrsE.on HR.out ((Below.refl _ wr).alloc (Nat.le_refl _) (.cells #[.int .i64 (bk.a : Int), .int .i64 (bk.b : Int), .int .i64 bk.o] 46))
          rw [hwz] at r4z p0z p1z S5 R5 ⊢
          have HS5 : Hid (_) := S5.on ((Below.refl _ wz).drew)
          have HR5 : Hid (PrsE (.slice (some ⟨gp, 0, none⟩) P.length pc) P wz.drew) := PrsE.on R5 ((Below.refl _ wz).drew)
          clear hwz S5 R5 HS HR r4 pc0 pc1 x1 c0 c1 c2
          generalize wr.heap.size = PB at *
          cases isb with
          | true =>
            go_region
            go_wp2_with fail
            go_roundg (q.bonds.length - k)
            case measure => omega
            case rel => exact ⟨k + 1, true, by omega, by omega, by go_num, rfl, fun _ => rfl, HS5.out, HR5.out⟩
          | false =>
            by_cases t0 : bk.o = 4
            · have t0' : (bk.o == 4) = true := by simp [t0]
              by_cases t1 : bk.a = px
              · have t1' : ((bk.a : Int) == (px : Int)) = true := by simp [t1]
                by_cases t2 : bk.b = py
                · have t2' : ((bk.b : Int) == (py : Int)) = true := by simp [t2]
                  go_region
                  go_wp2_with fail
                  go_roundg (q.bonds.length - k)
                  case measure => omega
                  case rel => exact ⟨k + 1, true, by omega, by omega, by go_num, rfl, fun _ => rfl, HS5.out, HR5.out⟩
                · have t2' : ((bk.b : Int) == (py : Int)) = false := by simp; omega
                  go_region
                  go_wp2_with fail
                  go_roundg (q.bonds.length - k)
                  case measure => omega
                  case rel => exact ⟨k + 1, false, by omega, by omega, by go_num, rfl, fun h => by rcases HNX.out h with h | h; exact absurd h.2.2 t2; exact h, HS5.out, HR5.out⟩
              · have t1' : ((bk.a : Int) == (px : Int)) = false := by simp; omega
                go_region
                go_wp2_with fail
                go_roundg (q.bonds.length - k)
                case measure => omega
                case rel => exact ⟨k + 1, false, by omega, by omega, by go_num, rfl, fun h => by rcases HNX.out h with h | h; exact absurd h.2.1 t1; exact h, HS5.out, HR5.out⟩
            · have t0' : (bk.o == 4) = false := by simp [t0]
              go_region
              go_wp2_with fail
              go_roundg (q.bonds.length - k)
              case measure => omega
              case rel => exact ⟨k + 1, false, by omega, by omega, by go_num, rfl, fun h => by rcases HNX.out h with h | h; exact absurd h.1 t0; exact h, HS5.out, HR5.out⟩
        · have hkt' : ¬ (k : Int) < (q.bonds.length : Int) := by omega
          obtain rfl : isb = true := hisb (by omega)
          clear hS hR
          go_wp2_with fail
          go_roundg (P.length - i)
          case measure => omega
          case rel => exact ⟨i + 1, by omega, by omega, by go_num, HS.out, HR.out⟩
    · have hlt' : ¬ (i : Int) < (P.length : Int) := by omega
      clear hS hR
      go_wp2_with fail
      go_ret
      exact ⟨rfl, HS.out.below⟩
end
end Go.Proofs.YtcabaecbmkgclaaGreatDoor.Kd
