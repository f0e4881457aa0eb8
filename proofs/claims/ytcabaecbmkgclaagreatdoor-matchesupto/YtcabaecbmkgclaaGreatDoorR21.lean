/-
  What a step of a script leaves, and what it may have turned.
  One step of a script that is a Parse: both answers are the plain reader's, and the lists that came out are kept.
  A script is played step by step: what upTo does, whatever the steps that are played.
  A script that came in, read: its steps lie in memory as Script says.
-/
import Derived.Test.YtcabaecbmkgclaaGreatDoorR10
import Derived.Test.YtcabaecbmkgclaaGreatDoorR20
import Derived.Deep.CutRange
import Derived.Deep.Slices
import Derived.Lib.SmallJoins
import Derived.OpenShut
import Derived.ProofKit
namespace Go.Proofs.YtcabaecbmkgclaaGreatDoor
open Go.RowKit
/-- What a step of a script may have turned: the book's own block and row. -/
structure BFr (w w' : World) (B : Nat) : Prop where
  os : w'.os = w.os
  tape : w'.tape = w.tape
  output : w'.output = w.output
  size : w.heap.size ≤ w'.heap.size
  block : ∀ k, k < w.heap.size → k ≠ B → (∀ bv, w.cell? ⟨B, 0, none⟩ = some bv → bv.ownBlock ≠ some k) → w'.heap[k]? = w.heap[k]?
  row : ∀ bv', w'.cell? ⟨B, 0, none⟩ = some bv' → ∀ k, bv'.ownBlock = some k → k < w.heap.size → ∃ bv, w.cell? ⟨B, 0, none⟩ = some bv ∧ bv.ownBlock = some k

theorem BFr.of_below {w w' : World} {B : Nat} (h : Below w.heap.size w w') (hB : B < w.heap.size) : BFr w w' B :=
  ⟨h.os, h.tape, h.output, h.size, fun k hk _ _ => h.block k hk, fun bv' hb k hk _ => ⟨bv', by rw [← h.cell (p := ⟨B, 0, none⟩) hB]; exact hb, hk⟩⟩

theorem BFr.keep {w0 w w' : World} {B : Nat} {v : Value} (h : BFr w0 w B) (k : KFr w w' B v) (hv : ∀ i, v.ownBlock = some i → w0.heap.size ≤ i) : BFr w0 w' B := by
  refine ⟨k.os.trans h.os, k.tape.trans h.tape, k.output.trans h.output, Nat.le_trans h.size k.size, ?_, ?_⟩
  · intro i hi h1 h2
    refine (k.block i (Nat.lt_of_lt_of_le hi h.size) h1 ?_ (fun e => by have := hv i e; omega)).trans (h.block i hi h1 h2)
    intro bv hbv e
    obtain ⟨bv0, hb0, e0⟩ := h.row bv hbv i e hi
    exact h2 bv0 hb0 e0
  · intro bv' hb i hi hlt
    obtain ⟨bv, hb1, e1⟩ := k.row bv' hb i hi (Nat.lt_of_lt_of_le hlt h.size)
    exact h.row bv hb1 i e1 hlt

theorem BFr.below {N : Nat} {w w' : World} {B : Nat} {l : List Sl} (h : BFr w w' B) (bk : BookOk N w B l) (hN : N ≤ w.heap.size) : Below N w w' := by
  refine ⟨h.os, h.tape, h.output, h.size, fun k hk => h.block k (by omega) (by have := bk.base; omega) ?_⟩
  intro bv hbv e
  have := ((bk.row hbv).2.lt k e).1
  omega

/-- What a step of a script leaves. -/
def StepPost (N : Nat) (w : World) (B : Nat) (l : List Sl) (d : Nat) (e : Ending) (w' : World) : Prop := e = .returned (.bool true) ∧ (∃ l', BookOk N w' B l' ∧ l'.length ≤ l.length + d) ∧ BFr w w' B

end Go.Proofs.YtcabaecbmkgclaaGreatDoor
namespace Go.Proofs.YtcabaecbmkgclaaGreatDoor
open Go.RowKit Bz
/-- What a Parse gives, as lists and numbers. -/
structure POut where
  ats : List Atm
  bonds : List Bnd
  e : Int
  at_ : Int

def pOut (s : ByteArray) : POut := match Bz.parse s with
  | .error er => ⟨[], [], er.1, er.2⟩
  | .ok x => ⟨x.1, x.2, 0, 0⟩

/-- A molecule that came out. -/
structure MolOut (w w' : World) (o : POut) (va vb : Value) : Prop where
  a : w'.ownsRow w.heap.size 50 4 va o.ats.length (o.ats.flatMap plainCells)
  b : w'.ownsRow w.heap.size 46 3 vb o.bonds.length (o.bonds.flatMap bndCells)
  below : Below w.heap.size w w'
  n24 : o.ats.length ≤ 24
  n160 : o.bonds.length ≤ 160

theorem ParseIs.out {s : ByteArray} {w w' : World} {e : Ending} (h : ParseIs s w e w') : ∃ va vb, e = .returned (.tuple #[.agg #[va, vb], .int .i64 (pOut s).e, .int .i64 (pOut s).at_]) ∧ MolOut w w' (pOut s) va vb := by
  rcases h with ⟨er, h, he, hb⟩ | ⟨ats, l, v, v', h, he, ha, hl, hb, hne, hn, hln⟩
  · unfold pOut
    rw [h]
    exact ⟨_, _, he, World.ownsRow_nil _ _ _ _, World.ownsRow_nil _ _ _ _, hb, by simp, by simp⟩
  · unfold pOut
    rw [h]
    exact ⟨_, _, he, ha, hl, hb, hn, hln⟩

/-- Two molecules that came out, each in its box. -/
structure TwoOut (N : Nat) (w W : World) (B : Nat) (l : List Sl) (o : POut) (X Y : Nat) (va vb va' vb' : Value) : Prop where
  bk : BookOk N W B l
  a : W.ownsRow w.heap.size 50 4 va o.ats.length (o.ats.flatMap plainCells)
  b : W.ownsRow w.heap.size 46 3 vb o.bonds.length (o.bonds.flatMap bndCells)
  a' : W.ownsRow w.heap.size 50 4 va' o.ats.length (o.ats.flatMap plainCells)
  b' : W.ownsRow w.heap.size 46 3 vb' o.bonds.length (o.bonds.flatMap bndCells)
  x0 : W.cell? ⟨X, 0, none⟩ = some va
  x1 : W.cell? ⟨X, 1, none⟩ = some vb
  y0 : W.cell? ⟨Y, 0, none⟩ = some va'
  y1 : W.cell? ⟨Y, 1, none⟩ = some vb'
  xl : w.heap.size ≤ X
  xa : ∀ k, va.ownBlock = some k → k < X
  below : Below w.heap.size w W

theorem TwoOut.drewN {N : Nat} {w W : World} {B : Nat} {l : List Sl} {o : POut} {X Y : Nat} {va vb va' vb' : Value} (h : TwoOut N w W B l o X Y va vb va' vb') (n : Nat) : TwoOut N w (W.drewN n) B l o X Y va vb va' vb' :=
  ⟨h.bk.same fun _ _ => rfl, ownsRow_same h.a fun _ _ => rfl, ownsRow_same h.b fun _ _ => rfl, ownsRow_same h.a' fun _ _ => rfl, ownsRow_same h.b' fun _ _ => rfl, h.x0, h.x1, h.y0, h.y1, h.xl, h.xa, below_drewN h.below n⟩

theorem two_out {N : Nat} {w w1 w2 : World} {B : Nat} {l : List Sl} {o : POut} {va vb va' vb' : Value} (h : BookOk N w B l) (m1 : MolOut w w1 o va vb) (m2 : MolOut (w1.alloc (.cells #[va, vb] 39)) w2 o va' vb') :
    TwoOut N w (w2.alloc (.cells #[va', vb'] 39)) B l o w1.heap.size w2.heap.size va vb va' vb' := by
  have hs1 := m1.below.size
  have hs2 := m2.below.size
  have hs2' : w1.heap.size < w2.heap.size := by simp at hs2; omega
  have hb2 : Below w1.heap.size w1 w2 := ((Below.refl _ w1).alloc (Nat.le_refl _) _).trans (m2.below.mono (by simp))
  have hb3 : Below w1.heap.size w1 (w2.alloc (.cells #[va', vb'] 39)) := hb2.alloc (by omega) _
  have hX : ∀ i, (w2.alloc (.cells #[va', vb'] 39)).cell? ⟨w1.heap.size, i, none⟩ = (w1.alloc (.cells #[va, vb] 39)).cell? ⟨w1.heap.size, i, none⟩ := fun i => by
    rw [World.cell?_alloc_lt _ _ _ hs2']
    exact m2.below.cell (p := ⟨w1.heap.size, i, none⟩) (by simp)
  have hbw : Below w.heap.size w (w2.alloc (.cells #[va', vb'] 39)) := m1.below.trans (hb3.mono hs1)
  refine ⟨h.below hbw, ownsRow_same m1.a fun k hk => hb3.block k (m1.a.lt k hk).2, ownsRow_same m1.b fun k hk => hb3.block k (m1.b.lt k hk).2,
    ownsRow_mono (m2.a.alloc _) (by simp; omega), ownsRow_mono (m2.b.alloc _) (by simp; omega), ?_, ?_, ?_, ?_, hs1, fun k hk => (m1.a.lt k hk).2, hbw⟩
  · rw [hX]; simp
  · rw [hX]; simp
  · simp
  · simp

theorem bondAt {w : World} {base : Nat} {vb : Value} {l : List Bnd} (h : w.ownsRow base 46 3 vb l.length (l.flatMap bndCells)) {k : Nat} {b : Bnd} (hk : l[k]? = some b) :
    ∃ g cap, vb = .slice (some ⟨g, 0, none⟩) l.length cap ∧ g < w.heap.size ∧ w.cell? ⟨g, k * 3, none⟩ = some (.int .i64 b.a) ∧ w.cell? ⟨g, k * 3 + 1, none⟩ = some (.int .i64 b.b) ∧ w.cell? ⟨g, k * 3 + 2, none⟩ = some (.int .i64 b.o) := by
  have hl := (List.getElem?_eq_some_iff.1 hk).1
  obtain ⟨g, cap, rfl, h1, h2, h3, h4⟩ := ownsRow_at h (by omega)
  have d0 := flatMap_get bndCells 3 bndCells_len _ k 0 b hk (by omega)
  rw [Nat.add_zero] at d0
  refine ⟨g, cap, rfl, h2, (h3 (k * 3) (by omega)).trans d0, ?_, ?_⟩
  · exact (h3 _ (by omega)).trans (flatMap_get bndCells 3 bndCells_len _ k 1 b hk (by omega))
  · exact (h3 _ (by omega)).trans (flatMap_get bndCells 3 bndCells_len _ k 2 b hk (by omega))

section
set_option maxRecDepth 100000 in
set_option maxHeartbeats 4000000 in
theorem bparse_any {N : Nat} {w : World} {B : Nat} {l : List Sl} (h : BookOk N w B l) (hl : l.length ≤ 8999990) (s : ByteArray) (hm : s.size ≤ maxLen) :
    Calls Tryz.prog 27 #[.pointer (some ⟨B, 0, none⟩), .string s] w (StepPost N w B l 2) := by
  have HBK : Hid (BookOk N w B l) := h
  have P1 := parse_any s w hm
  have HP2 : Hid (∀ w, Calls Tryz.prog 43 #[.string s] w (ParseIs s w)) := fun w => rparse_any s w
  clear h
  go_enter Tryz.func27, Tryz.ntmps27
  go_wp2_with fail
  refine P1.mono ?_
  rintro e w1 hp1
  obtain ⟨va, vb, rfl, m1⟩ := hp1.out
  obtain ⟨ao, ac, hva⟩ := ownsRow_shape m1.a
  obtain ⟨bo, bc, hvb⟩ := ownsRow_shape m1.b
  subst hva hvb
  have HM1 : Hid (MolOut w w1 (pOut s) (.slice ao (pOut s).ats.length ac) (.slice bo (pOut s).bonds.length bc)) := m1
  clear m1 P1 hp1
  go_wp2_with fail
  refine (HP2.out _).mono ?_
  rintro e w2 hp2
  obtain ⟨va', vb', rfl, m2⟩ := hp2.out
  obtain ⟨ao', ac', hva⟩ := ownsRow_shape m2.a
  obtain ⟨bo', bc', hvb⟩ := ownsRow_shape m2.b
  subst hva hvb
  have HTW : Hid (TwoOut N w (w2.alloc (.cells #[.slice ao' (pOut s).ats.length ac', .slice bo' (pOut s).bonds.length bc'] 39)) B l (pOut s) w1.heap.size w2.heap.size (.slice ao (pOut s).ats.length ac) (.slice bo (pOut s).bonds.length bc) (.slice ao' (pOut s).ats.length ac') (.slice bo' (pOut s).bonds.length bc')) := two_out HBK.out HM1.out m2
  have h24 := HM1.out.n24
  have h160 := HM1.out.n160
  have hX : w1.heap.size < w2.heap.size := by have := m2.below.size; simp at this; omega
  clear m2 hp2 HP2
  generalize pOut s = o at *
  go_upto_region 3 with fail
  have HXB : Hid (∀ k, (∃ x ∈ l, x.has k) ∨ k = B ∨ (∃ bv, w.cell? ⟨B, 0, none⟩ = some bv ∧ bv.ownBlock = some k) → k < w.heap.size) := by
    rintro k (⟨x, hx, hk⟩ | rfl | ⟨bv, hbv, hk⟩)
    · exact (HBK.out.ok x hx).lt hk
    · obtain ⟨_, _, _, _, hlt, _, _⟩ := HBK.out.at
      exact hlt
    · exact ((HBK.out.row hbv).2.lt k hk).2
  generalize hX1 : w1.heap.size = X at *
  generalize hY1 : w2.heap.size = Y at *
  generalize hW1 : w2.alloc (.cells #[.slice ao' o.ats.length ac', .slice bo' o.bonds.length bc'] 39) = W at *
  clear hX1 hY1 hW1 HM1
  have x0 := HTW.out.x0
  have x1 := HTW.out.x1
  have y0 := HTW.out.y0
  have y1 := HTW.out.y1
  go_wp2_with fail
  go_loopg [11, 12] (o.ats.length + 1) (fun k v11 v12 wr => ∃ i : Nat, i ≤ o.ats.length ∧ o.ats.length - i ≤ k ∧ v12 = .int .i64 i ∧ v11 = .bool true ∧ TwoOut N w wr B l o X Y (.slice ao o.ats.length ac) (.slice bo o.bonds.length bc) (.slice ao' o.ats.length ac') (.slice bo' o.bonds.length bc'))
  case atStart => exact ⟨0, by omega, by omega, rfl, by simp, HTW.out⟩
  case round =>
    obtain ⟨i, hi, hk, rfl, rfl, hT⟩ := hrel
    clear HTW x0 x1 y0 y1
    have HTW : Hid (TwoOut N w wr B l o X Y (.slice ao o.ats.length ac) (.slice bo o.bonds.length bc) (.slice ao' o.ats.length ac') (.slice bo' o.bonds.length bc')) := hT
    have x0 := hT.x0
    have x1 := hT.x1
    have y0 := hT.y0
    have y1 := hT.y1
    clear hT
    by_cases hlt : i < o.ats.length
    · have hlt' : (i : Int) < (o.ats.length : Int) := by omega
      have gi := List.getElem?_eq_getElem hlt
      obtain ⟨g, cap, e1, hg, a0, a1, a2, a3⟩ := atomAt HTW.out.a gi
      obtain ⟨g', cap', e1', hg', b0, b1, b2, b3⟩ := atomAt HTW.out.a' gi
      simp only [Value.slice.injEq, true_and] at e1 e1'
      obtain ⟨rfl, rfl⟩ := e1
      obtain ⟨rfl, rfl⟩ := e1'
      generalize o.ats[i] = a at *
      have HT2 : Hid (∀ n, TwoOut N w (wr.drewN n) B l o X Y (.slice (some ⟨g, 0, none⟩) o.ats.length ac) (.slice bo o.bonds.length bc) (.slice (some ⟨g', 0, none⟩) o.ats.length ac') (.slice bo' o.bonds.length bc')) := fun n => HTW.out.drewN n
      clear gi
      go_wp2_with fail
      go_quiet (fail)
      go_wp2_with fail
      go_roundg (o.ats.length - (i + 1))
      case measure => omega
      case rel => exact ⟨i + 1, by omega, Nat.le_refl _, by go_num, by simp, HT2.out _⟩
    · have hlt' : ¬ (i : Int) < (o.ats.length : Int) := by omega
      clear hi hk hlt
      go_wp2_with fail
      go_loopg [11, 13] (o.bonds.length + 1) (fun k v11 v13 wr => ∃ i : Nat, i ≤ o.bonds.length ∧ o.bonds.length - i ≤ k ∧ v13 = .int .i64 i ∧ v11 = .bool true ∧ TwoOut N w wr B l o X Y (.slice ao o.ats.length ac) (.slice bo o.bonds.length bc) (.slice ao' o.ats.length ac') (.slice bo' o.bonds.length bc'))
      case atStart => exact ⟨0, by omega, by omega, rfl, rfl, HTW.out⟩
      case round =>
        obtain ⟨j, hi, hk, rfl, rfl, hT⟩ := hrel
        clear HTW x0 x1 y0 y1
        have HTW : Hid (TwoOut N w wr B l o X Y (.slice ao o.ats.length ac) (.slice bo o.bonds.length bc) (.slice ao' o.ats.length ac') (.slice bo' o.bonds.length bc')) := hT
        have x0 := hT.x0
        have x1 := hT.x1
        have y0 := hT.y0
        have y1 := hT.y1
        clear hT
        by_cases hlt : j < o.bonds.length
        · have hlt2 : (j : Int) < (o.bonds.length : Int) := by omega
          have gi := List.getElem?_eq_getElem hlt
          obtain ⟨g, cap, e1, hg, a0, a1, a2⟩ := bondAt HTW.out.b gi
          obtain ⟨g', cap', e1', hg', b0, b1, b2⟩ := bondAt HTW.out.b' gi
          simp only [Value.slice.injEq, true_and] at e1 e1'
          obtain ⟨rfl, rfl⟩ := e1
          obtain ⟨rfl, rfl⟩ := e1'
          generalize o.bonds[j] = a at *
          have HT2 : Hid (∀ n, TwoOut N w (wr.drewN n) B l o X Y (.slice ao o.ats.length ac) (.slice (some ⟨g, 0, none⟩) o.bonds.length bc) (.slice ao' o.ats.length ac') (.slice (some ⟨g', 0, none⟩) o.bonds.length bc')) := fun n => HTW.out.drewN n
          clear gi
          go_wp2_with fail
          go_quiet (fail)
          go_wp2_with fail
          go_roundg (o.bonds.length - (j + 1))
          case measure => omega
          case rel => exact ⟨j + 1, by omega, Nat.le_refl _, by go_num, by simp, HT2.out _⟩
        · have hlt2 : ¬ (j : Int) < (o.bonds.length : Int) := by omega
          have KA := keepA_any HTW.out.bk (by omega) HTW.out.a (by omega) HTW.out.below.size (fun k hk x hx hh => by
            have h1 := (HTW.out.a.lt k hk).1
            have h2 := HXB.out k (.inl ⟨x, hx, hh⟩)
            omega)
          clear y0 y1 hi hk hlt
          go_wp2_with fail
          refine KA.mono ?_
          rintro e w5 ⟨rfl, ⟨x, hbk5, hx5⟩, hf5⟩
          have hrow : ∀ bv, wr.cell? ⟨B, 0, none⟩ = some bv → ∀ k, bv.ownBlock = some k → k < w.heap.size := by
            intro bv hbv k hk
            obtain ⟨_, _, _, _, hlt, _, _⟩ := HBK.out.at
            rw [HTW.out.below.cell (p := ⟨B, 0, none⟩) hlt] at hbv
            exact HXB.out k (.inr (.inr ⟨bv, hbv, hk⟩))
          have hBl : B < w.heap.size := HXB.out B (.inr (.inl rfl))
          have hXl := HTW.out.xl
          have hXs : X < wr.heap.size := World.block_lt_of_cell? wr ⟨X, 0, none⟩ x0
          have hX5 : w5.heap[X]? = wr.heap[X]? := hf5.block X hXs (by omega) (fun bv hbv e => by have := hrow bv hbv X e; omega) (fun e => by have := HTW.out.xa X e; omega)
          have z1 : w5.cell? ⟨X, 1, none⟩ = some (.slice bo o.bonds.length bc) := (World.cell?_of_block (w := wr) (a := ⟨X, 1, none⟩) hX5).trans x1
          have hb5 : w5.ownsRow w.heap.size 46 3 (.slice bo o.bonds.length bc) o.bonds.length (o.bonds.flatMap bndCells) := by
            refine ownsRow_same HTW.out.b fun k hk => ?_
            have h1 := HTW.out.b.lt k hk
            exact hf5.block k h1.2 (by omega) (fun bv hbv e => by have := hrow bv hbv k e; omega) (fun e => ownBlock_ne HTW.out.b HTW.out.a (by decide) k hk e)
          have KB := keepB_any hbk5 (by simp; omega) hb5 (by omega) (Nat.le_trans HTW.out.below.size hf5.size) (fun k hk y hy hh => by
            have h1 := HTW.out.b.lt k hk
            rcases List.mem_append.1 hy with hy | hy
            · have h2 := HXB.out k (.inl ⟨y, hy, hh⟩)
              omega
            · simp at hy
              subst hy
              rcases hx5 k hh with e | e
              · exact ownBlock_ne HTW.out.b HTW.out.a (by decide) k hk e
              · omega)
          have HB5 : Hid (BFr w w5 B) := (BFr.of_below HTW.out.below hBl).keep hf5 (fun k hk => (HTW.out.a.lt k hk).1)
          have HVB : Hid (∀ k, (Value.slice bo o.bonds.length bc).ownBlock = some k → w.heap.size ≤ k) := fun k hk => (hb5.lt k hk).1
          clear hX5 hb5 hrow hf5 hx5 hbk5 KA x0 x1
          go_wp2_with fail
          refine KB.mono ?_
          rintro e w6 ⟨rfl, ⟨x', hbk6, _⟩, hf6⟩
          have HB6 : Hid (BFr w w6 B) := HB5.out.keep hf6 HVB.out
          have HK6 : Hid (BookOk N w6 B ((l ++ [x]) ++ [x'])) := hbk6
          clear hbk6 hf6 KB
          go_wp2_with fail
          go_ret
          exact ⟨by simp, ⟨_, HK6.out, by simp⟩, HB6.out⟩
end
theorem BFr.trans {a b c : World} {B : Nat} (h : BFr a b B) (k : BFr b c B) : BFr a c B := by
  refine ⟨k.os.trans h.os, k.tape.trans h.tape, k.output.trans h.output, Nat.le_trans h.size k.size, ?_, ?_⟩
  · intro i hi h1 h2
    refine (k.block i (Nat.lt_of_lt_of_le hi h.size) h1 ?_).trans (h.block i hi h1 h2)
    intro bv hbv e
    obtain ⟨bv0, hb0, e0⟩ := h.row bv hbv i e hi
    exact h2 bv0 hb0 e0
  · intro bv' hb i hi hlt
    obtain ⟨bv, hb1, e1⟩ := k.row bv' hb i hi (Nat.lt_of_lt_of_le hlt h.size)
    exact h.row bv hb1 i e1 hlt

/-- A step of a script. -/
structure OpD where
  kind : Int
  n : Int
  s : ByteArray
  lo : Option Addr
  ll : Nat
  lc : Nat

def opCells (o : OpD) : List Value := [.int .i64 o.kind, .int .i64 o.n, .string o.s, .slice o.lo o.ll o.lc]
theorem opCells_len (o : OpD) : (opCells o).length = 4 := rfl
def opV (o : OpD) : Value := .agg #[.int .i64 o.kind, .int .i64 o.n, .string o.s, .slice o.lo o.ll o.lc]

/-- A script in memory. -/
structure Script (w : World) (ao : Option Addr) (cap : Nat) (ops : List OpD) : Prop where
  few : ops.length ≤ 1048576
  at_ : 0 < ops.length → ∃ b off, ao = some ⟨b, off, none⟩ ∧ b < w.heap.size ∧ ∀ (i j : Nat) o v, ops[i]? = some o → (opCells o)[j]? = some v → w.cell? ⟨b, off + (i * 4 + j), none⟩ = some v

def firstOps (M : Nat) : List OpD := [⟨1, 0, ⟨#[67, 40, 61, 79, 41, 40, 67, 41, 67, 108]⟩, none, 0, 0⟩, ⟨2, 3, ⟨#[]⟩, some ⟨M + 1, 0, none⟩, 2, 2⟩, ⟨3, 0, ⟨#[99, 49, 99, 99, 99, 99, 99, 49]⟩, none, 0, 0⟩]
def firstPairs : Obj := .cells #[.int .i64 0, .int .i64 1, .int .i64 1, .int .i64 2] 48
def firstObj (M : Nat) : Obj := .cells #[.int .i64 1, .int .i64 0, .string ⟨#[67, 40, 61, 79, 41, 40, 67, 41, 67, 108]⟩, .slice none 0 0, .int .i64 2, .int .i64 3, .string ⟨#[]⟩, .slice (some ⟨M + 1, 0, none⟩) 2 2,
  .int .i64 3, .int .i64 0, .string ⟨#[99, 49, 99, 99, 99, 99, 99, 49]⟩, .slice none 0 0] 60

theorem first_cells {w : World} {M : Nat} (h : w.heap[M + 2]? = some (firstObj M)) {i : Nat} {o : OpD} (hi : (firstOps M)[i]? = some o) : ∀ (j : Nat) v, (opCells o)[j]? = some v → w.cell? ⟨M + 2, i * 4 + j, none⟩ = some v := by
  intro j v hj
  have hc : ∀ k, w.cell? ⟨M + 2, k, none⟩ = (#[Value.int .i64 1, .int .i64 0, .string ⟨#[67, 40, 61, 79, 41, 40, 67, 41, 67, 108]⟩, .slice none 0 0, .int .i64 2, .int .i64 3, .string ⟨#[]⟩, .slice (some ⟨M + 1, 0, none⟩) 2 2,
      .int .i64 3, .int .i64 0, .string ⟨#[99, 49, 99, 99, 99, 99, 99, 49]⟩, .slice none 0 0] : Array Value)[k]? := by
    intro k
    simp [World.cell?, h, firstObj]
  rw [hc]
  match i, hi with
  | 0, hi =>
    simp [firstOps] at hi
    subst hi
    match j, hj with
    | 0, hj => simpa [opCells] using hj
    | 1, hj => simpa [opCells] using hj
    | 2, hj => simpa [opCells] using hj
    | 3, hj => simpa [opCells] using hj
    | j + 4, hj => simp [opCells] at hj
  | 1, hi =>
    simp [firstOps] at hi
    subst hi
    match j, hj with
    | 0, hj => simpa [opCells] using hj
    | 1, hj => simpa [opCells] using hj
    | 2, hj => simpa [opCells] using hj
    | 3, hj => simpa [opCells] using hj
    | j + 4, hj => simp [opCells] at hj
  | 2, hi =>
    simp [firstOps] at hi
    subst hi
    match j, hj with
    | 0, hj => simpa [opCells] using hj
    | 1, hj => simpa [opCells] using hj
    | 2, hj => simpa [opCells] using hj
    | 3, hj => simpa [opCells] using hj
    | j + 4, hj => simp [opCells] at hj
  | i + 3, hi => simp [firstOps] at hi

/-- Where a script stands: the book, what came in, what was laid first. -/
structure Stand (w wr : World) (l : List Sl) : Prop where
  bk : BookOk w.heap.size wr w.heap.size l
  below : Below w.heap.size w wr
  ps : wr.heap[w.heap.size + 1]? = some firstPairs
  fs : wr.heap[w.heap.size + 2]? = some (firstObj w.heap.size)

theorem Stand.lt {w wr : World} {l : List Sl} (h : Stand w wr l) : w.heap.size + 2 < wr.heap.size := (Array.getElem?_eq_some_iff.1 h.fs).1

theorem Stand.step {w wr w' : World} {l l' : List Sl} (h : Stand w wr l) (bk : BookOk w.heap.size w' w.heap.size l') (f : BFr wr w' w.heap.size) : Stand w w' l' := by
  have hlt := h.lt
  have hrow : ∀ k obj t cur, wr.heap[k]? = some obj → obj = .cells cur t (0, 0) → t ≠ 84 → ∀ bv, wr.cell? ⟨w.heap.size, 0, none⟩ = some bv → bv.ownBlock ≠ some k := by
    intro k obj t cur hk ho ht bv hbv e
    obtain ⟨cur2, hc2⟩ := ownsRow_type (h.bk.row hbv).2 e
    rw [hk, ho] at hc2
    simp at hc2
    exact ht hc2.2
  refine ⟨bk, h.below.trans (f.below h.bk (by omega)), ?_, ?_⟩
  · rw [f.block _ (by omega) (by omega) (hrow _ _ _ _ h.ps rfl (by decide))]; exact h.ps
  · rw [f.block _ (by omega) (by omega) (hrow _ _ _ _ h.fs rfl (by decide))]; exact h.fs

theorem Stand.stepBelow {w wr w' : World} {l : List Sl} (h : Stand w wr l) (hb : Below wr.heap.size wr w') : Stand w w' l := by
  have hlt := h.lt
  exact h.step (h.bk.below hb) (BFr.of_below hb (by omega))

/-- The step in the loop's own box. -/
structure OpBox (w : World) (O : Nat) (o : OpD) : Prop where
  c0 : w.cell? ⟨O, 0, none⟩ = some (.int .i64 o.kind)
  c1 : w.cell? ⟨O, 1, none⟩ = some (.int .i64 o.n)
  c2 : w.cell? ⟨O, 2, none⟩ = some (.string o.s)
  c3 : w.cell? ⟨O, 3, none⟩ = some (.slice o.lo o.ll o.lc)

/-- What a step must do, if it is played: whatever it reads lies where it lay. -/
def Plays (lo hi : Int) (w : World) (o : OpD) : Prop :=
  lo ≤ o.kind → o.kind ≤ hi → ∀ (wr : World) (l : List Sl), Stand w wr l → l.length ≤ 8999990 →
    Calls Tryz.prog 20 #[.pointer (some ⟨w.heap.size, 0, none⟩), opV o] wr (StepPost w.heap.size wr w.heap.size l 4)

theorem stand_new (w : World) : Stand w (((w.alloc (.cells #[.slice none 0 0] 58)).alloc firstPairs).alloc (firstObj w.heap.size)) [] := by
  have b0 : (((w.alloc (.cells #[.slice none 0 0] 58)).alloc firstPairs).alloc (firstObj w.heap.size)).heap[w.heap.size]? = some (.cells #[.slice none 0 0] 58 (0, 0)) := by
    rw [heap_alloc_lt _ _ _ (by simp; omega), heap_alloc_lt _ _ _ (by simp)]
    exact heap_alloc_new w _
  refine ⟨⟨Nat.le_refl _, ⟨_, b0, World.ownsRow_nil _ _ _ _⟩, by intro x hx; cases hx⟩, (((Below.refl _ w).alloc (Nat.le_refl _) _).alloc (by simp) _).alloc (by simp; omega) _, ?_, ?_⟩
  · rw [heap_alloc_lt _ _ _ (by simp)]
    have := heap_alloc_new (w.alloc (.cells #[.slice none 0 0] 58)) firstPairs
    simpa using this
  · have := heap_alloc_new ((w.alloc (.cells #[.slice none 0 0] 58)).alloc firstPairs) (firstObj w.heap.size)
    simpa using this

section
set_option maxRecDepth 100000 in
set_option maxHeartbeats 4000000 in
theorem upTo_any {w : World} {ao : Option Addr} {cap : Nat} {ops : List OpD} (h : Script w ao cap ops) (lo hi : Int) (hp : ∀ o, o ∈ firstOps w.heap.size ++ ops → Plays lo hi w o) :
    Calls Tryz.prog 11 #[.slice ao ops.length cap, .int .i64 lo, .int .i64 hi] w fun e w' => e = .returned (.bool true) ∧ Below w.heap.size w w' := by
  have HS : Hid (Script w ao cap ops) := h
  have HP : Hid (∀ o, o ∈ firstOps w.heap.size ++ ops → Plays lo hi w o) := hp
  have HN : Hid (Stand w (((w.alloc (.cells #[.slice none 0 0] 58)).alloc firstPairs).alloc (firstObj w.heap.size)) []) := stand_new w
  have hfew := h.few
  clear h hp
  unfold firstPairs firstObj at HN
  go_enter Tryz.func11, Tryz.ntmps11
  go_wp2_with fail
  go_loopg [9] (ops.length + 4) (fun k vi wr => ∃ i : Nat, ∃ l : List Sl, i ≤ 3 + ops.length ∧ 3 + ops.length - i ≤ k ∧ vi = .int .i64 i ∧ Stand w wr l ∧ l.length ≤ 4 * i)
  case atStart => exact ⟨0, [], by omega, by omega, rfl, HN.out, by simp⟩
  case round =>
    obtain ⟨i, l, hi', hk, rfl, hst, hll⟩ := hrel
    clear HN
    have HST : Hid (Stand w wr l) := hst
    have hwl := hst.lt
    clear hst
    by_cases hlt : i < 3 + ops.length
    · have hlt' : (i : Int) < 3 + (ops.length : Int) := by omega
      have gi := List.getElem?_eq_getElem (l := firstOps w.heap.size ++ ops) (i := i) (by simp [firstOps]; omega)
      generalize (firstOps w.heap.size ++ ops)[i]'(by simp [firstOps]; omega) = o at gi
      have HGI : Hid ((firstOps w.heap.size ++ ops)[i]? = some o) := gi
      clear gi
      go_upto_if 35 with fail
      go_cut [36] from 22 to 67 (fun _ wc => Stand w wc l ∧ OpBox wc wr.heap.size o)
      case first =>
        have HST2 : Hid (∀ ob, Stand w (wr.alloc ob) l) := fun ob => HST.out.stepBelow ((Below.refl _ wr).alloc (Nat.le_refl _) _)
        have HOB : Hid (∀ t, OpBox (wr.alloc (.cells #[.int .i64 o.kind, .int .i64 o.n, .string o.s, .slice o.lo o.ll o.lc] t)) wr.heap.size o) := fun t => ⟨by simp, by simp, by simp, by simp⟩
        by_cases h3 : i < 3
        · have h3' : (i : Int) < 3 := by omega
          have gi := HGI.out
          rw [List.getElem?_append_left (by simp [firstOps]; omega)] at gi
          have hc := first_cells HST.out.fs gi
          have q0 : wr.cell? ⟨w.heap.size + 1 + 1, i * 4, none⟩ = some (.int .i64 o.kind) := hc 0 _ rfl
          have q1 : wr.cell? ⟨w.heap.size + 1 + 1, i * 4 + 1, none⟩ = some (.int .i64 o.n) := hc 1 _ rfl
          have q2 : wr.cell? ⟨w.heap.size + 1 + 1, i * 4 + 2, none⟩ = some (.string o.s) := hc 2 _ rfl
          have q3 : wr.cell? ⟨w.heap.size + 1 + 1, i * 4 + 3, none⟩ = some (.slice o.lo o.ll o.lc) := hc 3 _ rfl
          have hne : w.heap.size + 1 + 1 < wr.heap.size := by omega
          clear hc gi
          go_wp2_with fail
          go_meet
          case rel => exact ⟨HST2.out _, HOB.out _⟩
        · have h3' : ¬ (i : Int) < 3 := by omega
          obtain ⟨j, hj⟩ : ∃ j, i = 3 + j := ⟨i - 3, by omega⟩
          have hij : (i : Int) - 3 = (j : Int) := by omega
          have hjl : (j : Int) < (ops.length : Int) := by omega
          have gi := HGI.out
          rw [List.getElem?_append_right (by simp [firstOps]; omega), show i - (firstOps w.heap.size).length = j by simp [firstOps]; omega] at gi
          obtain ⟨b, off, hao, hb, hc⟩ := HS.out.at_ (by omega)
          subst hao
          have hbw : b < wr.heap.size := by have := HST.out.below.size; omega
          have q0 : wr.cell? ⟨b, off + j * 4, none⟩ = some (.int .i64 o.kind) := (HST.out.below.cell (p := ⟨b, off + j * 4, none⟩) hb).trans (hc j 0 o _ gi rfl)
          have q1 : wr.cell? ⟨b, off + j * 4 + 1, none⟩ = some (.int .i64 o.n) := (HST.out.below.cell (p := ⟨b, off + j * 4 + 1, none⟩) hb).trans (hc j 1 o _ gi rfl)
          have q2 : wr.cell? ⟨b, off + j * 4 + 2, none⟩ = some (.string o.s) := (HST.out.below.cell (p := ⟨b, off + j * 4 + 2, none⟩) hb).trans (hc j 2 o _ gi rfl)
          have q3 : wr.cell? ⟨b, off + j * 4 + 3, none⟩ = some (.slice o.lo o.ll o.lc) := (HST.out.below.cell (p := ⟨b, off + j * 4 + 3, none⟩) hb).trans (hc j 3 o _ gi rfl)
          clear hc gi hj
          go_wp2_with fail
          go_meet
          case rel => exact ⟨HST2.out _, HOB.out _⟩
      case rest =>
        obtain ⟨hst, hbx⟩ := hcut
        have c0 := hbx.c0
        have c1 := hbx.c1
        have c2 := hbx.c2
        have c3 := hbx.c3
        have HSc : Hid (Stand w wc l) := hst
        have hmem := List.mem_of_getElem? HGI.out
        have hlim : l.length ≤ 8999990 := by omega
        clear hst hbx HST
        by_cases h1 : lo ≤ o.kind
        · by_cases h2 : o.kind ≤ hi
          · have HPl := HP.out o hmem h1 h2 wc l HSc.out hlim
            unfold opV at HPl
            clear hmem
            go_wp2_with fail
            refine HPl.mono ?_
            rintro e w2 ⟨rfl, ⟨l', hbk, hl'⟩, hbf⟩
            have HS2 : Hid (Stand w w2 l') := HSc.out.step hbk hbf
            have HLk := looks_any hbk (by omega)
            clear hbk hbf HPl c0 c1 c2 c3
            go_wp2_with fail
            refine HLk.mono ?_
            rintro e w3 ⟨rfl, hb3⟩
            have HS3 : Hid (Stand w w3 l') := HS2.out.stepBelow hb3
            clear hb3 HLk
            go_wp2_with fail
            go_roundg (3 + ops.length - (i + 1))
            case measure => omega
            case rel => exact ⟨i + 1, l', by omega, Nat.le_refl _, by go_num, HS3.out, by omega⟩
          · clear hmem
            go_wp2_with fail
            go_roundg (3 + ops.length - (i + 1))
            case measure => omega
            case rel => exact ⟨i + 1, l, by omega, Nat.le_refl _, by go_num, HSc.out, by omega⟩
        · clear hmem
          go_wp2_with fail
          go_roundg (3 + ops.length - (i + 1))
          case measure => omega
          case rel => exact ⟨i + 1, l, by omega, Nat.le_refl _, by go_num, HSc.out, by omega⟩
    · have hlt' : ¬ (i : Int) < 3 + (ops.length : Int) := by omega
      go_wp2_with fail
      go_ret
      exact ⟨rfl, HST.out.below⟩
end
end Go.Proofs.YtcabaecbmkgclaaGreatDoor
namespace Go.Proofs.YtcabaecbmkgclaaGreatDoor
open Go.ChangeShapes Go.WideShapes Go.ChangeAt Go.RowKit Go.Deep Go.Joins
theorem Tryz.cellsOp : Tryz.prog.cellsOf 60 = 4 := by kernel_rfl
theorem Tryz.cellsInt : Tryz.prog.cellsOf 3 = 1 := by kernel_rfl
theorem Tryz.cellsStr : Tryz.prog.cellsOf 9 = 1 := by kernel_rfl
theorem Tryz.cellsPairs : Tryz.prog.cellsOf 29 = 1 := by kernel_rfl

/-- What is known of a step that came in. -/
structure OpIn {H : Type} (enc : TypeId × Value → H) (w : World) (o : OpD) (d : DataW H) : Prop where
  str : o.s.size ≤ maxLen
  kind : (Lit.int .i64 o.kind).wf = true
  n : (Lit.int .i64 o.n).wf = true
  list : ∃ m p x, DataW.trod enc Tryz.prog w 0 (fun _ => true) true m 29 [.slice o.lo o.ll o.lc] = some (x, p) ∧ d = .agg [.lit (.int .i64 o.kind), .lit (.int .i64 o.n), .lit (.string o.s.data.toList), x]

theorem list4 {α : Type} {l : List α} (h : l.length = 4) : ∃ a b c d, l = [a, b, c, d] := by
  match l, h with
  | [a, b, c, d], _ => exact ⟨a, b, c, d, rfl⟩

set_option maxRecDepth 100000 in
theorem op_in {H : Type} {enc : TypeId × Value → H} {w : World} {m : Nat} {cs : List Value} {x : DataW H × List MemPlace} (h : DataW.trod enc Tryz.prog w 0 (fun _ => true) true m 60 cs = some x) : ∃ o, cs = opCells o ∧ OpIn enc w o x.1 := by
  obtain ⟨y0, y1, y2, y3, n, rfl, hl, h0, h1, h2, h3⟩ := trod_struct4 Tryz.underlying60 h
  rw [Tryz.cellsOp] at hl
  obtain ⟨c0, c1, c2, c3, rfl⟩ := list4 hl
  · simp only [Tryz.cellsInt, Tryz.cellsStr, Tryz.cellsPairs, List.drop_zero, List.drop_succ_cons, List.take_succ_cons, List.take_zero] at h0 h1 h2 h3
    obtain ⟨k, e0, e0', w0⟩ := DataW.trod_int Tryz.underlying3 h0
    obtain ⟨q, e1, e1', w1⟩ := DataW.trod_int Tryz.underlying3 h1
    obtain ⟨s, e2, e2', w2⟩ := DataW.trod_string Tryz.underlying9 h2
    simp only [List.cons.injEq, and_true] at e0 e1 e2
    subst e0 e1 e2 e0' e1' e2'
    rcases open_slice Tryz.underlying29 h3 with ⟨e3, _⟩ | ⟨a, len, cap, _, _, _, _, e3, _⟩
    · simp only [List.cons.injEq, and_true] at e3
      subst e3
      exact ⟨⟨k, q, s, none, 0, 0⟩, rfl, w2, w0, w1, n, y3.2, y3.1, h3, rfl⟩
    · simp only [List.cons.injEq, and_true] at e3
      subst e3
      exact ⟨⟨k, q, s, some a, len, cap⟩, rfl, w2, w0, w1, n, y3.2, y3.1, h3, rfl⟩

theorem add_none {a : Addr} {b off : Nat} (h : a = ⟨b, off, none⟩) (j : Nat) : a.add j = ⟨b, off + j, none⟩ := by
  subst h
  unfold Addr.add
  split <;> simp_all

/-- A script that came in. -/
theorem script_in {H : Type} {enc : TypeId × Value → H} {w : World} {m : Nat} {v : Value} {x : DataW H × List MemPlace} (h : DataW.trod enc Tryz.prog w 0 (fun _ => true) true m 22 [v] = some x) (hk : Rows.uptoBulk x.1 ≤ 1048576) :
    ∃ ao cap ops, v = .slice ao ops.length cap ∧ Script w ao cap ops ∧ ∀ o ∈ ops, ∃ d, OpIn enc w o d ∧ Rows.uptoBulk d ≤ 1048576 := by
  rcases open_slice Tryz.underlying22 h with ⟨e, _⟩ | ⟨a, len, cap, k, n, D, Pl, e, _, hlc, _, hm, hx, hel⟩
  · simp only [List.cons.injEq, and_true] at e
    subst e
    exact ⟨none, 0, [], rfl, ⟨by simp, by simp⟩, by intro o ho; cases ho⟩
  · simp only [List.cons.injEq, and_true] at e
    subst e hx
    simp only [if_true] at hm
    subst hm
    rw [Tryz.cellsOp] at hel
    have hbulk : ∀ l : List (DataW H), l.length ≤ Rows.uptoBulkAll l ∧ ∀ d ∈ l, Rows.uptoBulk d ≤ Rows.uptoBulkAll l := by
      intro l
      induction l with
      | nil => simp [Rows.uptoBulkAll]
      | cons d r ih =>
        have h1 : 1 ≤ Rows.uptoBulk d := by
          cases d with
          | lit l => cases l <;> simp [Rows.uptoBulk]
          | _ => simp [Rows.uptoBulk]
        refine ⟨by simp only [Rows.uptoBulkAll, List.length_cons]; omega, ?_⟩
        intro e he
        simp only [Rows.uptoBulkAll]
        rcases List.mem_cons.1 he with rfl | he
        · omega
        · have := ih.2 e he
          omega
    simp only [Rows.uptoBulk] at hk
    have hB := hbulk ((List.range len).map D)
    have hlen : len ≤ 1048576 := by
      have := hB.1
      simp at this
      omega
    have hop : ∀ i, i < len → ∃ o, w.cells? 0 (a.add (i * 4)) 4 = some (opCells o) ∧ OpIn enc w o (D i) := by
      intro i hi
      obtain ⟨cs', hc, ht⟩ := hel i (by omega)
      obtain ⟨o, rfl, ho⟩ := op_in ht
      exact ⟨o, hc, ho⟩
    let dflt : OpD := ⟨0, 0, ⟨#[]⟩, none, 0, 0⟩
    haveI : Inhabited OpD := ⟨dflt⟩
    obtain ⟨f, hf⟩ := choose_lt hop
    have hget : ∀ (i : Nat) o, ((List.range len).map f)[i]? = some o → i < len ∧ o = f i := by
      intro i o hi
      rw [List.getElem?_map] at hi
      by_cases hil : i < len
      · rw [List.getElem?_range hil] at hi
        simp at hi
        exact ⟨hil, hi.symm⟩
      · rw [List.getElem?_eq_none (by simp; omega)] at hi
        cases hi
    refine ⟨some a, k, (List.range len).map f, by simp, ⟨by simp; omega, ?_⟩, ?_⟩
    · intro h0
      have h0' : 0 < len := by simpa using h0
      obtain ⟨b, off, spot⟩ := a
      have hc0 := (World.cells?_some (hf 0 h0').1).2.2 0 (by omega)
      simp only [Nat.zero_mul] at hc0
      have hc0' : w.cell? ⟨b, off, spot⟩ = some (.int .i64 (f 0).kind) := by simpa [Addr.add, opCells] using hc0
      have hsp : spot = none := by simpa using World.cell?_spot hc0'
      subst hsp
      refine ⟨b, off, rfl, World.block_lt_of_cell? w _ hc0', ?_⟩
      intro i j o v hi hj
      obtain ⟨hil, rfl⟩ := hget i o hi
      have hj4 : j < 4 := by
        have := (List.getElem?_eq_some_iff.1 hj).1
        simpa [opCells_len] using this
      have := (World.cells?_some (hf i hil).1).2.2 j hj4
      rw [hj, add_none rfl, add_none rfl] at this
      rw [← this]
      congr 2
      omega
    · intro o ho
      obtain ⟨i, hi, rfl⟩ := List.mem_map.1 ho
      have hil := List.mem_range.1 hi
      refine ⟨D i, (hf i hil).2, ?_⟩
      have := hB.2 (D i) (List.mem_map.2 ⟨i, hi, rfl⟩)
      omega
end Go.Proofs.YtcabaecbmkgclaaGreatDoor
