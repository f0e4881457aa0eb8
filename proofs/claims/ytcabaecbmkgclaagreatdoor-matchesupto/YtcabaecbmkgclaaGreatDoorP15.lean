/-
  What a step of a script leaves, and what it may have turned.
  A script is played step by step: what upTo does, whatever the steps that are played.
  A script that came in, read: its steps lie in memory as Script says.
  A step's list of pairs that came in.
  One step of a script that is a Match: the answer is right by the document, what was handed in stays, and the lists that came out are kept.
  A world in which Go's two tables lie as the program's text lays them: for the witness of each row.
-/
import Derived.Test.YtcabaecbmkgclaaGreatDoorP14
import Derived.Deep.CutRange
import Derived.ProofKit
import Derived.OpenShut
import Derived.Deep.Slices
import Derived.Lib.SmallJoins
import Derived.Deep.SlicePairs
import Derived.Test.YtcabaecbmkgclaaGreatDoorCards
import Derived.Test.YtcabaecbmkgclaaGreatDoorTie
import Derived.WalkKit
import Derived.Deep.DeepHandedRow
import Derived.Lib.LaidTab

namespace Go.Proofs.YtcabaecbmkgclaaGreatDoor
open Go.RowKit

/-- What a step of a script may have turned: the book's own block and row. -/
structure BFr (w w' : World) (B : Nat) : Prop where
  os : w'.os = w.os
  tape : w'.tape = w.tape
  output : w'.output = w.output
  size : w.heap.size ≤ w'.heap.size
  block : ∀ k, k < w.heap.size → k ≠ B → (∀ bv, w.cell? ⟨B, 0, none⟩ = some bv → bv.ownBlock ≠ some k) → w'.heap[k]? = w.heap[k]?
  row : ∀ bv', w'.cell? ⟨B, 0, none⟩ = some bv' → ∀ k, bv'.ownBlock = some k → k < w.heap.size → ∃ bv, w.cell? ⟨B, 0, none⟩ = some bv ∧ bv.ownBlock = some k

theorem BFr.of_below {w w' : World} {B : Nat} (h : Below w.heap.size w w') (hB : B < w.heap.size) : BFr w w' B :=
  ⟨h.os, h.tape, h.output, h.size, fun k hk _ _ => h.block k hk, fun bv' hb k hk _ => ⟨bv', by rw [← h.cell (p := ⟨B, 0, none⟩) hB]; exact hb, hk⟩⟩

theorem BFr.keep {w0 w w' : World} {B : Nat} {v : Value} (h : BFr w0 w B) (k : KFr w w' B v) (hv : ∀ i, v.ownBlock = some i → w0.heap.size ≤ i) : BFr w0 w' B := by
  refine ⟨k.os.trans h.os, k.tape.trans h.tape, k.output.trans h.output, Nat.le_trans h.size k.size, ?_, ?_⟩
  · intro i hi h1 h2
    refine (k.block i (Nat.lt_of_lt_of_le hi h.size) h1 ?_ (fun e => by have := hv i e; omega)).trans (h.block i hi h1 h2)
    intro bv hbv e
    obtain ⟨bv0, hb0, e0⟩ := h.row bv hbv i e hi
    exact h2 bv0 hb0 e0
  · intro bv' hb i hi hlt
    obtain ⟨bv, hb1, e1⟩ := k.row bv' hb i hi (Nat.lt_of_lt_of_le hlt h.size)
    exact h.row bv hb1 i e1 hlt

theorem BFr.below {N : Nat} {w w' : World} {B : Nat} {l : List Sl} (h : BFr w w' B) (bk : BookOk N w B l) (hN : N ≤ w.heap.size) : Below N w w' := by
  refine ⟨h.os, h.tape, h.output, h.size, fun k hk => h.block k (by omega) (by have := bk.base; omega) ?_⟩
  intro bv hbv e
  have := ((bk.row hbv).2.lt k e).1
  omega

/-- What a step of a script leaves. -/
def StepPost (N : Nat) (w : World) (B : Nat) (l : List Sl) (d : Nat) (e : Ending) (w' : World) : Prop := e = .returned (.bool true) ∧ (∃ l', BookOk N w' B l' ∧ l'.length ≤ l.length + d) ∧ BFr w w' B

theorem BookOk.low {N : Nat} {w : World} {B : Nat} {l : List Sl} (h : BookOk N w B l) : N ≤ w.heap.size := by
  obtain ⟨_, _, _, _, hlt, _, _⟩ := h.at
  have := h.base
  omega
end Go.Proofs.YtcabaecbmkgclaaGreatDoor

namespace Go.Proofs.YtcabaecbmkgclaaGreatDoor
open Go.RowKit Bz

theorem BFr.trans {a b c : World} {B : Nat} (h : BFr a b B) (k : BFr b c B) : BFr a c B := by
  refine ⟨k.os.trans h.os, k.tape.trans h.tape, k.output.trans h.output, Nat.le_trans h.size k.size, ?_, ?_⟩
  · intro i hi h1 h2
    refine (k.block i (Nat.lt_of_lt_of_le hi h.size) h1 ?_).trans (h.block i hi h1 h2)
    intro bv hbv e
    obtain ⟨bv0, hb0, e0⟩ := h.row bv hbv i e hi
    exact h2 bv0 hb0 e0
  · intro bv' hb i hi hlt
    obtain ⟨bv, hb1, e1⟩ := k.row bv' hb i hi (Nat.lt_of_lt_of_le hlt h.size)
    exact h.row bv hb1 i e1 hlt

/-- A step of a script. -/
structure OpD where
  kind : Int
  n : Int
  s : ByteArray
  lo : Option Addr
  ll : Nat
  lc : Nat

def opCells (o : OpD) : List Value := [.int .i64 o.kind, .int .i64 o.n, .string o.s, .slice o.lo o.ll o.lc]
theorem opCells_len (o : OpD) : (opCells o).length = 4 := rfl
def opV (o : OpD) : Value := .agg #[.int .i64 o.kind, .int .i64 o.n, .string o.s, .slice o.lo o.ll o.lc]

/-- A script in memory. -/
structure Script (w : World) (ao : Option Addr) (cap : Nat) (ops : List OpD) : Prop where
  few : ops.length ≤ 1048576
  at_ : 0 < ops.length → ∃ b off, ao = some ⟨b, off, none⟩ ∧ b < w.heap.size ∧ ∀ (i j : Nat) o v, ops[i]? = some o → (opCells o)[j]? = some v → w.cell? ⟨b, off + (i * 4 + j), none⟩ = some v

def firstOps (M : Nat) : List OpD := [⟨1, 0, ⟨#[67, 40, 61, 79, 41, 40, 67, 41, 67, 108]⟩, none, 0, 0⟩, ⟨2, 3, ⟨#[]⟩, some ⟨M + 1, 0, none⟩, 2, 2⟩, ⟨3, 0, ⟨#[99, 49, 99, 99, 99, 99, 99, 49]⟩, none, 0, 0⟩]
def firstPairs : Obj := .cells #[.int .i64 0, .int .i64 1, .int .i64 1, .int .i64 2] 48
def firstObj (M : Nat) : Obj := .cells #[.int .i64 1, .int .i64 0, .string ⟨#[67, 40, 61, 79, 41, 40, 67, 41, 67, 108]⟩, .slice none 0 0, .int .i64 2, .int .i64 3, .string ⟨#[]⟩, .slice (some ⟨M + 1, 0, none⟩) 2 2,
  .int .i64 3, .int .i64 0, .string ⟨#[99, 49, 99, 99, 99, 99, 99, 49]⟩, .slice none 0 0] 60

theorem first_cells {w : World} {M : Nat} (h : w.heap[M + 2]? = some (firstObj M)) {i : Nat} {o : OpD} (hi : (firstOps M)[i]? = some o) : ∀ (j : Nat) v, (opCells o)[j]? = some v → w.cell? ⟨M + 2, i * 4 + j, none⟩ = some v := by
  intro j v hj
  have hc : ∀ k, w.cell? ⟨M + 2, k, none⟩ = (#[Value.int .i64 1, .int .i64 0, .string ⟨#[67, 40, 61, 79, 41, 40, 67, 41, 67, 108]⟩, .slice none 0 0, .int .i64 2, .int .i64 3, .string ⟨#[]⟩, .slice (some ⟨M + 1, 0, none⟩) 2 2,
      .int .i64 3, .int .i64 0, .string ⟨#[99, 49, 99, 99, 99, 99, 99, 49]⟩, .slice none 0 0] : Array Value)[k]? := by
    intro k
    simp [World.cell?, h, firstObj]
  rw [hc]
  match i, hi with
  | 0, hi =>
    simp [firstOps] at hi
    subst hi
    match j, hj with
    | 0, hj => simpa [opCells] using hj
    | 1, hj => simpa [opCells] using hj
    | 2, hj => simpa [opCells] using hj
    | 3, hj => simpa [opCells] using hj
    | j + 4, hj => simp [opCells] at hj
  | 1, hi =>
    simp [firstOps] at hi
    subst hi
    match j, hj with
    | 0, hj => simpa [opCells] using hj
    | 1, hj => simpa [opCells] using hj
    | 2, hj => simpa [opCells] using hj
    | 3, hj => simpa [opCells] using hj
    | j + 4, hj => simp [opCells] at hj
  | 2, hi =>
    simp [firstOps] at hi
    subst hi
    match j, hj with
    | 0, hj => simpa [opCells] using hj
    | 1, hj => simpa [opCells] using hj
    | 2, hj => simpa [opCells] using hj
    | 3, hj => simpa [opCells] using hj
    | j + 4, hj => simp [opCells] at hj
  | i + 3, hi => simp [firstOps] at hi

/-- Where a script stands: the book, what came in, what was laid first. -/
structure Stand (w wr : World) (l : List Sl) : Prop where
  bk : BookOk w.heap.size wr w.heap.size l
  below : Below w.heap.size w wr
  ps : wr.heap[w.heap.size + 1]? = some firstPairs
  fs : wr.heap[w.heap.size + 2]? = some (firstObj w.heap.size)

theorem Stand.lt {w wr : World} {l : List Sl} (h : Stand w wr l) : w.heap.size + 2 < wr.heap.size := (Array.getElem?_eq_some_iff.1 h.fs).1

theorem Stand.step {w wr w' : World} {l l' : List Sl} (h : Stand w wr l) (bk : BookOk w.heap.size w' w.heap.size l') (f : BFr wr w' w.heap.size) : Stand w w' l' := by
  have hlt := h.lt
  have hrow : ∀ k obj t cur, wr.heap[k]? = some obj → obj = .cells cur t (0, 0) → t ≠ 84 → ∀ bv, wr.cell? ⟨w.heap.size, 0, none⟩ = some bv → bv.ownBlock ≠ some k := by
    intro k obj t cur hk ho ht bv hbv e
    obtain ⟨cur2, hc2⟩ := ownsRow_type (h.bk.row hbv).2 e
    rw [hk, ho] at hc2
    simp at hc2
    exact ht hc2.2
  refine ⟨bk, h.below.trans (f.below h.bk (by omega)), ?_, ?_⟩
  · rw [f.block _ (by omega) (by omega) (hrow _ _ _ _ h.ps rfl (by decide))]; exact h.ps
  · rw [f.block _ (by omega) (by omega) (hrow _ _ _ _ h.fs rfl (by decide))]; exact h.fs

theorem Stand.stepBelow {w wr w' : World} {l : List Sl} (h : Stand w wr l) (hb : Below wr.heap.size wr w') : Stand w w' l := by
  have hlt := h.lt
  exact h.step (h.bk.below hb) (BFr.of_below hb (by omega))

/-- The step in the loop's own box. -/
structure OpBox (w : World) (O : Nat) (o : OpD) : Prop where
  c0 : w.cell? ⟨O, 0, none⟩ = some (.int .i64 o.kind)
  c1 : w.cell? ⟨O, 1, none⟩ = some (.int .i64 o.n)
  c2 : w.cell? ⟨O, 2, none⟩ = some (.string o.s)
  c3 : w.cell? ⟨O, 3, none⟩ = some (.slice o.lo o.ll o.lc)

/-- What a step must do, if it is played: whatever it reads lies where it lay. -/
def Plays (lo hi : Int) (w : World) (o : OpD) : Prop :=
  lo ≤ o.kind → o.kind ≤ hi → ∀ (wr : World) (l : List Sl), Stand w wr l → l.length ≤ 8999990 →
    Calls Tryz.prog 20 #[.pointer (some ⟨w.heap.size, 0, none⟩), opV o] wr (StepPost w.heap.size wr w.heap.size l 4)

theorem stand_new (w : World) : Stand w (((w.alloc (.cells #[.slice none 0 0] 58)).alloc firstPairs).alloc (firstObj w.heap.size)) [] := by
  have b0 : (((w.alloc (.cells #[.slice none 0 0] 58)).alloc firstPairs).alloc (firstObj w.heap.size)).heap[w.heap.size]? = some (.cells #[.slice none 0 0] 58 (0, 0)) := by
    rw [heap_alloc_lt _ _ _ (by simp; omega), heap_alloc_lt _ _ _ (by simp)]
    exact heap_alloc_new w _
  refine ⟨⟨Nat.le_refl _, ⟨_, b0, World.ownsRow_nil _ _ _ _⟩, by intro x hx; cases hx⟩, (((Below.refl _ w).alloc (Nat.le_refl _) _).alloc (by simp) _).alloc (by simp; omega) _, ?_, ?_⟩
  · rw [heap_alloc_lt _ _ _ (by simp)]
    have := heap_alloc_new (w.alloc (.cells #[.slice none 0 0] 58)) firstPairs
    simpa using this
  · have := heap_alloc_new ((w.alloc (.cells #[.slice none 0 0] 58)).alloc firstPairs) (firstObj w.heap.size)
    simpa using this

section
set_option maxRecDepth 100000 in
set_option maxHeartbeats 4000000 in
theorem upTo_any {w : World} {ao : Option Addr} {cap : Nat} {ops : List OpD} (h : Script w ao cap ops) (lo hi : Int) (hp : ∀ o, o ∈ firstOps w.heap.size ++ ops → Plays lo hi w o) :
    Calls Tryz.prog 11 #[.slice ao ops.length cap, .int .i64 lo, .int .i64 hi] w fun e w' => e = .returned (.bool true) ∧ Below w.heap.size w w' := by
  have HS : Hid (Script w ao cap ops) := h
  have HP : Hid (∀ o, o ∈ firstOps w.heap.size ++ ops → Plays lo hi w o) := hp
  have HN : Hid (Stand w (((w.alloc (.cells #[.slice none 0 0] 58)).alloc firstPairs).alloc (firstObj w.heap.size)) []) := stand_new w
  have hfew := h.few
  clear h hp
  unfold firstPairs firstObj at HN
  go_enter Tryz.func11, Tryz.ntmps11
  go_wp2_with fail
  go_loopg [9] (ops.length + 4) (fun k vi wr => ∃ i : Nat, ∃ l : List Sl, i ≤ 3 + ops.length ∧ 3 + ops.length - i ≤ k ∧ vi = .int .i64 i ∧ Stand w wr l ∧ l.length ≤ 4 * i)
  case atStart => exact ⟨0, [], by omega, by omega, rfl, HN.out, by simp⟩
  case round =>
    obtain ⟨i, l, hi', hk, rfl, hst, hll⟩ := hrel
    clear HN
    have HST : Hid (Stand w wr l) := hst
    have hwl := hst.lt
    clear hst
    by_cases hlt : i < 3 + ops.length
    · have hlt' : (i : Int) < 3 + (ops.length : Int) := by omega
      have gi := List.getElem?_eq_getElem (l := firstOps w.heap.size ++ ops) (i := i) (by simp [firstOps]; omega)
      generalize (firstOps w.heap.size ++ ops)[i]'(by simp [firstOps]; omega) = o at gi
      have HGI : Hid ((firstOps w.heap.size ++ ops)[i]? = some o) := gi
      clear gi
      go_upto_if 35 with fail
      go_cut [36] from 22 to 67 (fun _ wc => Stand w wc l ∧ OpBox wc wr.heap.size o)
      case first =>
        have HST2 : Hid (∀ ob, Stand w (wr.alloc ob) l) := fun ob => HST.out.stepBelow ((Below.refl _ wr).alloc (Nat.le_refl _) _)
        have HOB : Hid (∀ t, OpBox (wr.alloc (.cells #[.int .i64 o.kind, .int .i64 o.n, .string o.s, .slice o.lo o.ll o.lc] t)) wr.heap.size o) := fun t => ⟨by simp, by simp, by simp, by simp⟩
        by_cases h3 : i < 3
        · have h3' : (i : Int) < 3 := by omega
          have gi := HGI.out
          rw [List.getElem?_append_left (by simp [firstOps]; omega)] at gi
          have hc := first_cells HST.out.fs gi
          have q0 : wr.cell? ⟨w.heap.size + 1 + 1, i * 4, none⟩ = some (.int .i64 o.kind) := hc 0 _ rfl
          have q1 : wr.cell? ⟨w.heap.size + 1 + 1, i * 4 + 1, none⟩ = some (.int .i64 o.n) := hc 1 _ rfl
          have q2 : wr.cell? ⟨w.heap.size + 1 + 1, i * 4 + 2, none⟩ = some (.string o.s) := hc 2 _ rfl
          have q3 : wr.cell? ⟨w.heap.size + 1 + 1, i * 4 + 3, none⟩ = some (.slice o.lo o.ll o.lc) := hc 3 _ rfl
          have hne : w.heap.size + 1 + 1 < wr.heap.size := by omega
          clear hc gi
          go_wp2_with fail
          go_meet
          case rel => exact ⟨HST2.out _, HOB.out _⟩
        · have h3' : ¬ (i : Int) < 3 := by omega
          obtain ⟨j, hj⟩ : ∃ j, i = 3 + j := ⟨i - 3, by omega⟩
          have hij : (i : Int) - 3 = (j : Int) := by omega
          have hjl : (j : Int) < (ops.length : Int) := by omega
          have gi := HGI.out
          rw [List.getElem?_append_right (by simp [firstOps]; omega), show i - (firstOps w.heap.size).length = j by simp [firstOps]; omega] at gi
          obtain ⟨b, off, hao, hb, hc⟩ := HS.out.at_ (by omega)
          subst hao
          have hbw : b < wr.heap.size := by have := HST.out.below.size; omega
          have q0 : wr.cell? ⟨b, off + j * 4, none⟩ = some (.int .i64 o.kind) := (HST.out.below.cell (p := ⟨b, off + j * 4, none⟩) hb).trans (hc j 0 o _ gi rfl)
          have q1 : wr.cell? ⟨b, off + j * 4 + 1, none⟩ = some (.int .i64 o.n) := (HST.out.below.cell (p := ⟨b, off + j * 4 + 1, none⟩) hb).trans (hc j 1 o _ gi rfl)
          have q2 : wr.cell? ⟨b, off + j * 4 + 2, none⟩ = some (.string o.s) := (HST.out.below.cell (p := ⟨b, off + j * 4 + 2, none⟩) hb).trans (hc j 2 o _ gi rfl)
          have q3 : wr.cell? ⟨b, off + j * 4 + 3, none⟩ = some (.slice o.lo o.ll o.lc) := (HST.out.below.cell (p := ⟨b, off + j * 4 + 3, none⟩) hb).trans (hc j 3 o _ gi rfl)
          clear hc gi hj
          go_wp2_with fail
          go_meet
          case rel => exact ⟨HST2.out _, HOB.out _⟩
      case rest =>
        obtain ⟨hst, hbx⟩ := hcut
        have c0 := hbx.c0
        have c1 := hbx.c1
        have c2 := hbx.c2
        have c3 := hbx.c3
        have HSc : Hid (Stand w wc l) := hst
        have hmem := List.mem_of_getElem? HGI.out
        have hlim : l.length ≤ 8999990 := by omega
        clear hst hbx HST
        by_cases h1 : lo ≤ o.kind
        · by_cases h2 : o.kind ≤ hi
          · have HPl := HP.out o hmem h1 h2 wc l HSc.out hlim
            unfold opV at HPl
            clear hmem
            go_wp2_with fail
            refine HPl.mono ?_
            rintro e w2 ⟨rfl, ⟨l', hbk, hl'⟩, hbf⟩
            have HS2 : Hid (Stand w w2 l') := HSc.out.step hbk hbf
            have HLk := looks_any hbk (by omega)
            clear hbk hbf HPl c0 c1 c2 c3
            go_wp2_with fail
            refine HLk.mono ?_
            rintro e w3 ⟨rfl, hb3⟩
            have HS3 : Hid (Stand w w3 l') := HS2.out.stepBelow hb3
            clear hb3 HLk
            go_wp2_with fail
            go_roundg (3 + ops.length - (i + 1))
            case measure => omega
            case rel => exact ⟨i + 1, l', by omega, Nat.le_refl _, by go_num, HS3.out, by omega⟩
          · clear hmem
            go_wp2_with fail
            go_roundg (3 + ops.length - (i + 1))
            case measure => omega
            case rel => exact ⟨i + 1, l, by omega, Nat.le_refl _, by go_num, HSc.out, by omega⟩
        · clear hmem
          go_wp2_with fail
          go_roundg (3 + ops.length - (i + 1))
          case measure => omega
          case rel => exact ⟨i + 1, l, by omega, Nat.le_refl _, by go_num, HSc.out, by omega⟩
    · have hlt' : ¬ (i : Int) < 3 + (ops.length : Int) := by omega
      go_wp2_with fail
      go_ret
      exact ⟨rfl, HST.out.below⟩
end
end Go.Proofs.YtcabaecbmkgclaaGreatDoor

namespace Go.Proofs.YtcabaecbmkgclaaGreatDoor
open Go.ChangeShapes Go.WideShapes Go.ChangeAt Go.RowKit Go.Deep Go.Joins

theorem Tryz.cellsOp : Tryz.prog.cellsOf 60 = 4 := by kernel_rfl
theorem Tryz.cellsInt : Tryz.prog.cellsOf 3 = 1 := by kernel_rfl
theorem Tryz.cellsStr : Tryz.prog.cellsOf 9 = 1 := by kernel_rfl
theorem Tryz.cellsPairs : Tryz.prog.cellsOf 29 = 1 := by kernel_rfl

/-- What is known of a step that came in. -/
structure OpIn {H : Type} (enc : TypeId × Value → H) (w : World) (o : OpD) (d : DataW H) : Prop where
  str : o.s.size ≤ maxLen
  kind : (Lit.int .i64 o.kind).wf = true
  n : (Lit.int .i64 o.n).wf = true
  list : ∃ m p x, DataW.trod enc Tryz.prog w 0 (fun _ => true) true m 29 [.slice o.lo o.ll o.lc] = some (x, p) ∧ d = .agg [.lit (.int .i64 o.kind), .lit (.int .i64 o.n), .lit (.string o.s.data.toList), x]

theorem list4 {α : Type} {l : List α} (h : l.length = 4) : ∃ a b c d, l = [a, b, c, d] := by
  match l, h with
  | [a, b, c, d], _ => exact ⟨a, b, c, d, rfl⟩

set_option maxRecDepth 100000 in
theorem op_in {H : Type} {enc : TypeId × Value → H} {w : World} {m : Nat} {cs : List Value} {x : DataW H × List MemPlace} (h : DataW.trod enc Tryz.prog w 0 (fun _ => true) true m 60 cs = some x) : ∃ o, cs = opCells o ∧ OpIn enc w o x.1 := by
  obtain ⟨y0, y1, y2, y3, n, rfl, hl, h0, h1, h2, h3⟩ := trod_struct4 Tryz.underlying60 h
  rw [Tryz.cellsOp] at hl
  obtain ⟨c0, c1, c2, c3, rfl⟩ := list4 hl
  · simp only [Tryz.cellsInt, Tryz.cellsStr, Tryz.cellsPairs, List.drop_zero, List.drop_succ_cons, List.take_succ_cons, List.take_zero] at h0 h1 h2 h3
    obtain ⟨k, e0, e0', w0⟩ := DataW.trod_int Tryz.underlying3 h0
    obtain ⟨q, e1, e1', w1⟩ := DataW.trod_int Tryz.underlying3 h1
    obtain ⟨s, e2, e2', w2⟩ := DataW.trod_string Tryz.underlying9 h2
    simp only [List.cons.injEq, and_true] at e0 e1 e2
    subst e0 e1 e2 e0' e1' e2'
    rcases open_slice Tryz.underlying29 h3 with ⟨e3, _⟩ | ⟨a, len, cap, _, _, _, _, e3, _⟩
    · simp only [List.cons.injEq, and_true] at e3
      subst e3
      exact ⟨⟨k, q, s, none, 0, 0⟩, rfl, w2, w0, w1, n, y3.2, y3.1, h3, rfl⟩
    · simp only [List.cons.injEq, and_true] at e3
      subst e3
      exact ⟨⟨k, q, s, some a, len, cap⟩, rfl, w2, w0, w1, n, y3.2, y3.1, h3, rfl⟩

theorem add_none {a : Addr} {b off : Nat} (h : a = ⟨b, off, none⟩) (j : Nat) : a.add j = ⟨b, off + j, none⟩ := by
  subst h
  unfold Addr.add
  split <;> simp_all

/-- A script that came in. -/
theorem script_in {H : Type} {enc : TypeId × Value → H} {w : World} {m : Nat} {v : Value} {x : DataW H × List MemPlace} (h : DataW.trod enc Tryz.prog w 0 (fun _ => true) true m 22 [v] = some x) (hk : Rows.uptoBulk x.1 ≤ 1048576) :
    ∃ ao cap ops, v = .slice ao ops.length cap ∧ Script w ao cap ops ∧ ∀ o ∈ ops, ∃ d, OpIn enc w o d ∧ Rows.uptoBulk d ≤ 1048576 := by
  rcases open_slice Tryz.underlying22 h with ⟨e, _⟩ | ⟨a, len, cap, k, n, D, Pl, e, _, hlc, _, hm, hx, hel⟩
  · simp only [List.cons.injEq, and_true] at e
    subst e
    exact ⟨none, 0, [], rfl, ⟨by simp, by simp⟩, by intro o ho; cases ho⟩
  · simp only [List.cons.injEq, and_true] at e
    subst e hx
    simp only [if_true] at hm
    subst hm
    rw [Tryz.cellsOp] at hel
    have hbulk : ∀ l : List (DataW H), l.length ≤ Rows.uptoBulkAll l ∧ ∀ d ∈ l, Rows.uptoBulk d ≤ Rows.uptoBulkAll l := by
      intro l
      induction l with
      | nil => simp [Rows.uptoBulkAll]
      | cons d r ih =>
        have h1 : 1 ≤ Rows.uptoBulk d := by
          cases d with
          | lit l => cases l <;> simp [Rows.uptoBulk]
          | _ => simp [Rows.uptoBulk]
        refine ⟨by simp only [Rows.uptoBulkAll, List.length_cons]; omega, ?_⟩
        intro e he
        simp only [Rows.uptoBulkAll]
        rcases List.mem_cons.1 he with rfl | he
        · omega
        · have := ih.2 e he
          omega
    simp only [Rows.uptoBulk] at hk
    have hB := hbulk ((List.range len).map D)
    have hlen : len ≤ 1048576 := by
      have := hB.1
      simp at this
      omega
    have hop : ∀ i, i < len → ∃ o, w.cells? 0 (a.add (i * 4)) 4 = some (opCells o) ∧ OpIn enc w o (D i) := by
      intro i hi
      obtain ⟨cs', hc, ht⟩ := hel i (by omega)
      obtain ⟨o, rfl, ho⟩ := op_in ht
      exact ⟨o, hc, ho⟩
    let dflt : OpD := ⟨0, 0, ⟨#[]⟩, none, 0, 0⟩
    haveI : Inhabited OpD := ⟨dflt⟩
    obtain ⟨f, hf⟩ := choose_lt hop
    have hget : ∀ (i : Nat) o, ((List.range len).map f)[i]? = some o → i < len ∧ o = f i := by
      intro i o hi
      rw [List.getElem?_map] at hi
      by_cases hil : i < len
      · rw [List.getElem?_range hil] at hi
        simp at hi
        exact ⟨hil, hi.symm⟩
      · rw [List.getElem?_eq_none (by simp; omega)] at hi
        cases hi
    refine ⟨some a, k, (List.range len).map f, by simp, ⟨by simp; omega, ?_⟩, ?_⟩
    · intro h0
      have h0' : 0 < len := by simpa using h0
      obtain ⟨b, off, spot⟩ := a
      have hc0 := (World.cells?_some (hf 0 h0').1).2.2 0 (by omega)
      simp only [Nat.zero_mul] at hc0
      have hc0' : w.cell? ⟨b, off, spot⟩ = some (.int .i64 (f 0).kind) := by simpa [Addr.add, opCells] using hc0
      have hsp : spot = none := by simpa using World.cell?_spot hc0'
      subst hsp
      refine ⟨b, off, rfl, World.block_lt_of_cell? w _ hc0', ?_⟩
      intro i j o v hi hj
      obtain ⟨hil, rfl⟩ := hget i o hi
      have hj4 : j < 4 := by
        have := (List.getElem?_eq_some_iff.1 hj).1
        simpa [opCells_len] using this
      have := (World.cells?_some (hf i hil).1).2.2 j hj4
      rw [hj, add_none rfl, add_none rfl] at this
      rw [← this]
      congr 2
      omega
    · intro o ho
      obtain ⟨i, hi, rfl⟩ := List.mem_map.1 ho
      have hil := List.mem_range.1 hi
      refine ⟨D i, (hf i hil).2, ?_⟩
      have := hB.2 (D i) (List.mem_map.2 ⟨i, hi, rfl⟩)
      omega
end Go.Proofs.YtcabaecbmkgclaaGreatDoor

namespace Go.Proofs.YtcabaecbmkgclaaGreatDoor.Rf
open Go.RowKit Mt Mg Go.Deep

theorem Tryz.cellsPair2 : Tryz.prog.cellsOf 48 = 2 := by kernel_rfl
theorem Tryz.cellsInt2 : Tryz.prog.cellsOf 3 = 1 := by kernel_rfl

theorem bulk_len {H : Type} : ∀ l : List (DataW H), l.length ≤ Rows.uptoBulkAll l
  | [] => by simp [Rows.uptoBulkAll]
  | d :: r => by
    have ih := bulk_len r
    have h1 : 1 ≤ Rows.uptoBulk d := by
      cases d with
      | lit l => cases l <;> simp [Rows.uptoBulk]
      | _ => simp [Rows.uptoBulk]
    simp only [Rows.uptoBulkAll, List.length_cons]
    omega

set_option maxRecDepth 100000 in
theorem list_in {H : Type} {enc : TypeId × Value → H} {w : World} {o : OpD} {d : DataW H} (h : OpIn enc w o d) (hk : Rows.uptoBulk d ≤ 1048576) :
    ∃ L : List (Int × Int), o.ll = L.length ∧ IPr w (.slice o.lo o.ll o.lc) L ∧ L.length ≤ o.lc ∧ L.length ≤ 1048576 := by
  obtain ⟨m, p, x, ht, rfl⟩ := h.list
  have hx : Rows.uptoBulk x ≤ 1048576 := by
    simp only [Rows.uptoBulk, Rows.uptoBulkAll] at hk
    omega
  rcases open_slice_pairs Tryz.underlying29 Tryz.underlying48 Tryz.cellsPair2 rfl rfl Tryz.cellsInt2 Tryz.cellsInt2 ht with ⟨e, _⟩ | ⟨a, len, cap, q, n, V0, V1, D0, D1, P0, P1, e, _, hlc, _, hm, hd, hel⟩
  · simp only [List.cons.injEq, Value.slice.injEq, and_true] at e
    obtain ⟨e1, e2, e3⟩ := e
    refine ⟨[], by simpa using e2, ⟨o.lo, o.lc, by rw [e2]; rfl, fun i a c hi => by simp at hi⟩, by simp, by simp⟩
  · simp only [List.cons.injEq, Value.slice.injEq, and_true] at e
    obtain ⟨e1, e2, e3⟩ := e
    simp only [if_true] at hm
    subst hm
    simp only [Prod.mk.injEq] at hd
    have hlen : len ≤ 1048576 := by
      have h1 := hd.1
      rw [h1] at hx
      simp only [Rows.uptoBulk] at hx
      have := bulk_len ((List.range len).map fun i => DataW.agg [D0 i, D1 i])
      simp at this
      omega
    have each : ∀ i, i < len → ∃ z : Int × Int, w.cell? (a.add (i * 2)) = some (.int .i64 z.1) ∧ w.cell? (a.add (i * 2 + 1)) = some (.int .i64 z.2) := fun i hi => by
      obtain ⟨h0, h1, t0, t1⟩ := hel i (by omega)
      obtain ⟨k0, g0, _⟩ := DataW.trod_int Tryz.underlying3 t0
      obtain ⟨k1, g1, _⟩ := DataW.trod_int Tryz.underlying3 t1
      simp only [List.cons.injEq, and_true] at g0 g1
      exact ⟨(k0, k1), by rw [h0, g0], by rw [h1, g1]⟩
    obtain ⟨z, hz⟩ := choose_lt each
    refine ⟨(List.range len).map z, by simp [e2], ⟨o.lo, o.lc, by simp [e2], fun i x y hi => ?_⟩, by simp; omega, by simp; omega⟩
    rw [List.getElem?_map] at hi
    by_cases hil : i < len
    · rw [List.getElem?_range hil] at hi
      simp only [Option.map_some, Option.some.injEq] at hi
      obtain ⟨h0, h1⟩ := hz i hil
      obtain ⟨b, off, spot⟩ := a
      have hsp : spot = none := by
        have := World.cell?_spot (hz 0 (by omega)).1
        simpa [Addr.add] using this
      subst hsp
      rw [add_none rfl] at h0 h1
      refine ⟨b, off, e1, ?_, ?_⟩
      · rw [h0, hi]
      · rw [Nat.add_assoc, h1, hi]
    · rw [List.getElem?_eq_none (by simp; omega)] at hi
      cases hi
end Go.Proofs.YtcabaecbmkgclaaGreatDoor.Rf

namespace Go.Proofs.YtcabaecbmkgclaaGreatDoor.Rf
open Go.RowKit Mt Mg

set_option maxRecDepth 100000 in
set_option maxHeartbeats 8000000 in
theorem bmatch_any {N : Nat} {w : World} {B : Nat} {l : List Sl} (h : BookOk N w B l) (hl : l.length ≤ 8999990) (n : Int) {ov : Value} {L : List (Int × Int)} (hL : IPr w ov L) (hc : ∀ so cap, ov = .slice so L.length cap → L.length ≤ cap) (hlen : L.length ≤ 1048576) :
    Calls Tryz.prog 28 #[.pointer (some ⟨B, 0, none⟩), .int .i64 n, ov] w (StepPost N w B l 2) := by
  obtain ⟨j0, hj0, hy0, hy1, hy2⟩ := info_parts Tryz.infoPair2
  obtain ⟨b0, hb0, hbz0, hbz1, hbz2⟩ := info_parts Tryz.infoBool
  have HBK : Hid (BookOk N w B l) := h
  have HL : Hid (IPr w ov L) := hL
  have HC : Hid (∀ so cap, ov = .slice so L.length cap → L.length ≤ cap) := hc
  obtain ⟨so, cap, hv, hcc⟩ := hL
  have HNL : Hid (so = none → L = []) := fun e => by
    cases hq : L with
    | nil => rfl
    | cons p r =>
      obtain ⟨b, o, e', _⟩ := hcc 0 p.1 p.2 (by rw [hq]; rfl)
      rw [e] at e'
      cases e'
  subst hv
  clear h hcc hc
  go_enter Tryz.func28, Tryz.ntmps28
  go_wp2_with (at_make; go_must (refine wpList_make_full _ rfl _ _ 29 rfl w.heap.size 48 j0 (.agg #[.int .i64 0, .int .i64 0]) 2 Tryz.underlying29 hj0 hy0 hy1 .i64 .i64 _ _ (L.length + 4) rfl rfl (by omega) (by omega) ?c1 ?c2 ?c3 ?_))
  case c1 => rw [hy2]; omega
  case c2 => unfold maxLen; omega
  case c3 => exact Nat.le_refl _
  intro w1 hown hgrow
  have HST : Hid (MaAt w w1 w.heap.size (L.length + 4) fun _ => (0, 0)) := ⟨Ars.made hown (by omega), (Below.refl _ w).grown hgrow (Nat.le_refl _) (by simp), Nat.le_refl _, (hown.lt _ rfl).2⟩
  clear hown hgrow
  generalize w.heap.size = A at HST ⊢
  go_wp2_with fail
  go_loopg [8] (L.length + 5) (fun k v8 wr => ∃ i : Nat, i ≤ L.length + 4 ∧ L.length + 4 - i < k ∧ v8 = .int .i64 (i : Nat) ∧ MaAt w wr A (L.length + 4) fun x => if x < i then origC L x else (0, 0))
  case atStart => exact ⟨0, by omega, by omega, rfl, HST.out⟩
  case round =>
    clear HST
    obtain ⟨i, hi, hk, rfl, hat⟩ := hrel
    have HAT : Hid (MaAt w wr A (L.length + 4) fun x => if x < i then origC L x else (0, 0)) := hat
    clear hat
    by_cases hlt : i < L.length + 4
    · have hlt' : (i : Int) < (L.length : Int) + 4 := by omega
      have hlt2 : (i : Int) < ((L.length + 4 : Nat) : Int) := by omega
      have c0 := HAT.out.ars.fst i hlt
      have c1 := HAT.out.ars.snd i hlt
      have f0 := HAT.out.ars.free (i * 2)
      have f1 := HAT.out.ars.free (i * 2 + 1)
      have HM2 : Hid (MaAt w ((wr.setCell ⟨A, i * 2, none⟩ (.int .i64 0)).setCell ⟨A, i * 2 + 1, none⟩ (.int .i64 1)) A (L.length + 4) (setAt (fun x => if x < i then origC L x else (0, 0)) i (0, 1))) := HAT.out.set hlt 0 1
      clear HAT
      go_upto_region 6 with fail
      generalize (wr.setCell ⟨A, i * 2, none⟩ (.int .i64 0)).setCell ⟨A, i * 2 + 1, none⟩ (.int .i64 1) = w2 at HM2 ⊢
      clear c0 c1 f0 f1
      by_cases hil : i < L.length
      · have hil' : (i : Int) < (L.length : Int) := by omega
        obtain ⟨x, y, gi⟩ : ∃ x y, L[i]? = some (x, y) := ⟨_, _, List.getElem?_eq_getElem hil⟩
        obtain ⟨so', cap', es, hx⟩ := HL.out.below HM2.out.below
        simp only [Value.slice.injEq, true_and] at es
        obtain ⟨rfl, rfl⟩ := es
        obtain ⟨bb, oo, rfl, d0, d1⟩ := hx i x y gi
        have HO : Hid (origC L i = (x, y)) := (by unfold origC; rw [List.getD_eq_getElem?_getD, gi]; rfl : origC L i = (x, y))
        have c0 := HM2.out.ars.fst i hlt
        have c1 := HM2.out.ars.snd i hlt
        have f0 := HM2.out.ars.free (i * 2)
        have f1 := HM2.out.ars.free (i * 2 + 1)
        have HM3 : Hid (MaAt w ((w2.setCell ⟨A, i * 2, none⟩ (.int .i64 x)).setCell ⟨A, i * 2 + 1, none⟩ (.int .i64 y)) A (L.length + 4) (fun z => if z < i + 1 then origC L z else (0, 0))) := (HM2.out.set hlt x y).congr fun z hz => by
          simp only [setAt]
          by_cases e : z = i
          · rw [if_pos (by omega), if_pos e, e, HO.out]
          · rw [if_neg e, if_neg e]
            by_cases e2 : z < i
            · rw [if_pos (by omega), if_pos e2]
            · rw [if_neg (by omega), if_neg e2]
        clear gi hx HM2
        go_wp2_with fail
        go_roundg (L.length + 4 - i)
        case measure => omega
        case rel => exact ⟨i + 1, by omega, by omega, by go_num, HM3.out⟩
      · have hil' : ¬ (i : Int) < (L.length : Int) := by omega
        have HM3 : Hid (MaAt w w2 A (L.length + 4) (fun z => if z < i + 1 then origC L z else (0, 0))) := HM2.out.congr fun z hz => by
          simp only [setAt]
          by_cases e : z = i
          · rw [if_pos (by omega), if_pos e, e]
            unfold origC
            rw [List.getD_eq_getElem?_getD, List.getElem?_eq_none (by omega)]
            rfl
          · rw [if_neg e]
            by_cases e2 : z < i
            · rw [if_pos (by omega), if_pos e2]
            · rw [if_neg (by omega), if_neg e2]
        clear HM2
        go_wp2_with fail
        go_roundg (L.length + 4 - i)
        case measure => omega
        case rel => exact ⟨i + 1, by omega, by omega, by go_num, HM3.out⟩
    · have hlt' : ¬ (i : Int) < (L.length : Int) + 4 := by omega
      have hlt2 : ¬ (i : Int) < ((L.length + 4 : Nat) : Int) := by omega
      have HMA : Hid (MaAt w wr A (L.length + 4) (origC L)) := HAT.out.congr fun z hz => by rw [if_pos (by omega)]
      clear HAT
      generalize wr = wb at HMA ⊢
      have hnil : ∀ wx, Sem.run Tryz.prog (binOp BinOp.eql 29 (Value.slice so L.length cap) (Value.slice none 0 0)) wx = .ok (.bool so.isNone) wx := fun wx => by cases so <;> rfl
      go_upto_if 50 with fail
      clear hnil
      go_cut [9] from 51 to 57 (fun v9 wc => IPr wc v9 L ∧ (∃ so cap, v9 = .slice so L.length cap) ∧ wb = wc)
      case first =>
        cases so with
        | some ad =>
          simp only [Option.isNone_some]
          go_wp2_with fail
          go_meet
          exact ⟨HMA.out.ipr, ⟨_, _, rfl⟩, rfl⟩
        | none =>
          simp only [Option.isNone_none]
          have HLE : Hid (IPr wb (.slice none 0 0) L ∧ ∃ so cap, Value.slice none 0 0 = .slice so L.length cap) := by
            rw [HNL.out rfl]
            exact ⟨⟨none, 0, rfl, fun i a c hi => by simp at hi⟩, ⟨none, 0, rfl⟩⟩
          go_wp2_with fail
          go_meet
          exact ⟨HLE.out.1, HLE.out.2, rfl⟩
      case rest =>
        obtain ⟨hip, ⟨lso, lcap, rfl⟩, hw⟩ := hcut
        subst hw
        have MT := match_any wb hip n (by omega)
        clear hip
        go_wp2_with fail
        refine MT.mono ?_
        intro e w2 hmt
        obtain ⟨hb2, P, U, ec, pv, uv, rfl, hmr, hPr, hUr⟩ := MtIs.both hmt
        clear MT hmt
        obtain ⟨po, pc, hs1⟩ := ownsRow_shape hPr
        obtain ⟨uo, uc, hs2⟩ := ownsRow_shape hUr
        subst hs1 hs2
        have HMR : Hid (MrIs n L P U ec) := hmr
        have hpl := hmr.small.1
        have hul := hmr.small.2
        have HS2 : Hid (MaAt w w2 A (L.length + 4) (fun x => if x < 0 then (-5, -5) else origC L x)) := (HMA.out.on hb2).congr fun z _ => by rw [if_neg (by omega)]
        have HPr : Hid (Prs w2 wb.heap.size (.slice po P.length pc) P) := hPr
        have HUr : Hid (Ints w2 wb.heap.size (.slice uo U.length uc) U) := hUr
        have HAL : Hid (A < wb.heap.size) := HMA.out.lt
        have HWB : Hid (w.heap.size ≤ wb.heap.size) := HMA.out.below.size
        clear hb2 hmr hPr hUr HMA
        go_wp2_with fail
        go_loopg [13, 14] (L.length + 5) (fun k v13 v14 wr => ∃ i : Nat, i ≤ L.length + 4 ∧ L.length + 4 - i < k ∧ v13 = .bool true ∧ v14 = .int .i64 (i : Nat) ∧ MaAt w wr A (L.length + 4) (fun x => if x < i then (-5, -5) else origC L x) ∧ MFr A w2 wr)
        case atStart => exact ⟨0, by omega, by omega, rfl, rfl, HS2.out, MFr.refl _ _⟩
        case round =>
          clear HS2
          obtain ⟨i, hi, hk, rfl, rfl, hat, hfr⟩ := hrel
          have HAT : Hid (MaAt w wr A (L.length + 4) fun x => if x < i then (-5, -5) else origC L x) := hat
          have HFR : Hid (MFr A w2 wr) := hfr
          clear hat hfr
          by_cases hlt : i < L.length + 4
          · have hlt' : (i : Int) < (L.length : Int) + 4 := by omega
            have hlt2 : (i : Int) < ((L.length + 4 : Nat) : Int) := by omega
            by_cases hil : i < L.length
            · have hil' : (i : Int) < (L.length : Int) := by omega
              obtain ⟨x, y, gi⟩ : ∃ x y, L[i]? = some (x, y) := ⟨_, _, List.getElem?_eq_getElem hil⟩
              obtain ⟨so', cap', es, hx⟩ := HL.out.below HAT.out.below
              simp only [Value.slice.injEq, true_and] at es
              obtain ⟨rfl, rfl⟩ := es
              obtain ⟨bb, oo, rfl, d0, d1⟩ := hx i x y gi
              have eo : origC L i = (x, y) := by unfold origC; rw [List.getD_eq_getElem?_getD, gi]; rfl
              have HM2 : Hid (MaAt w (wr.alloc (.cells #[.int .i64 x, .int .i64 y] 48)) A (L.length + 4) fun x => if x < i then (-5, -5) else origC L x) := HAT.out.on ((Below.refl _ wr).alloc (Nat.le_refl _) _)
              have HF2 : Hid (MFr A w2 (wr.alloc (.cells #[.int .i64 x, .int .i64 y] 48))) := HFR.out.trans (MFr.of_below ((Below.refl _ wr).alloc (Nat.le_refl _) _))
              have q0 : (wr.alloc (.cells #[.int .i64 x, .int .i64 y] 48)).cell? ⟨wr.heap.size, 0, none⟩ = some (.int .i64 x) := by rw [World.cell?_alloc_new]; rfl
              have q1 : (wr.alloc (.cells #[.int .i64 x, .int .i64 y] 48)).cell? ⟨wr.heap.size, 1, none⟩ = some (.int .i64 y) := by rw [World.cell?_alloc_new]; rfl
              have HO : Hid (origC L i = (x, y)) := eo
              have d0a : (wr.alloc (.cells #[.int .i64 0, .int .i64 1] 48)).cell? ⟨bb, oo + i * 2, none⟩ = some (.int .i64 x) := by rw [World.cell?_alloc_lt _ _ _ (World.block_lt_of_cell? wr ⟨bb, oo + i * 2, none⟩ d0)]; exact d0
              have d1a : (wr.alloc (.cells #[.int .i64 0, .int .i64 1] 48)).cell? ⟨bb, oo + i * 2 + 1, none⟩ = some (.int .i64 y) := by rw [World.cell?_alloc_lt _ _ _ (World.block_lt_of_cell? wr ⟨bb, oo + i * 2 + 1, none⟩ d1)]; exact d1
              clear gi hx HAT HFR eo
              go_upto_region 19 with fail
              have o0 := HM2.out.ars.fst i hlt
              have o1 := HM2.out.ars.snd i hlt
              simp only [Nat.lt_irrefl, if_false, HO.out] at o0 o1
              generalize wr.heap.size = X at *
              generalize wr.alloc _ = wq at *
              clear d0 d1 d0a d1a
              go_wp2_with fail
              go_quiet (fail)
              have HM3 : Hid (MaAt w (wq.drewN nq) A (L.length + 4) fun x => if x < i then (-5, -5) else origC L x) := HM2.out.drewN nq
              have HF3 : Hid (MFr A w2 (wq.drewN nq)) := HF2.out.drewN nq
              clear o0 o1 q0 q1 HM2 HF2
              generalize wq.drewN nq = w4 at HM3 HF3 ⊢
              have c0 := HM3.out.ars.fst i hlt
              have c1 := HM3.out.ars.snd i hlt
              have f0 := HM3.out.ars.free (i * 2)
              have f1 := HM3.out.ars.free (i * 2 + 1)
              have HM4 : Hid (MaAt w ((w4.setCell ⟨A, i * 2, none⟩ (.int .i64 (-5))).setCell ⟨A, i * 2 + 1, none⟩ (.int .i64 (-5))) A (L.length + 4) (fun z => if z < i + 1 then (-5, -5) else origC L z)) := (HM3.out.set hlt (-5) (-5)).congr fun z hz => by
                simp only [setAt]
                by_cases e : z = i
                · rw [if_pos (by omega), if_pos e]
                · rw [if_neg e]
                  by_cases e2 : z < i
                  · rw [if_pos (by omega), if_pos e2]
                  · rw [if_neg (by omega), if_neg e2]
              have HF4 : Hid (MFr A w2 ((w4.setCell ⟨A, i * 2, none⟩ (.int .i64 (-5))).setCell ⟨A, i * 2 + 1, none⟩ (.int .i64 (-5)))) := (HF3.out.set _ _).set _ _
              go_wp2_with fail
              go_roundg (L.length + 4 - i)
              case measure => omega
              case rel => exact ⟨i + 1, by omega, by omega, rfl, by go_num, HM4.out, HF4.out⟩
            · have hil' : ¬ (i : Int) < (L.length : Int) := by omega
              have eo : origC L i = (0, 1) := by
                unfold origC
                rw [List.getD_eq_getElem?_getD, List.getElem?_eq_none (by omega)]
                rfl
              obtain ⟨x, hx0⟩ : ∃ x : Int, x = 0 := ⟨_, rfl⟩
              obtain ⟨y, hy1⟩ : ∃ y : Int, y = 1 := ⟨_, rfl⟩
              have HM2 : Hid (MaAt w (wr.alloc (.cells #[.int .i64 0, .int .i64 1] 48)) A (L.length + 4) fun x => if x < i then (-5, -5) else origC L x) := HAT.out.on ((Below.refl _ wr).alloc (Nat.le_refl _) _)
              have HF2 : Hid (MFr A w2 (wr.alloc (.cells #[.int .i64 0, .int .i64 1] 48))) := HFR.out.trans (MFr.of_below ((Below.refl _ wr).alloc (Nat.le_refl _) _))
              have q0 : (wr.alloc (.cells #[.int .i64 0, .int .i64 1] 48)).cell? ⟨wr.heap.size, 0, none⟩ = some (.int .i64 x) := by rw [World.cell?_alloc_new, hx0]; rfl
              have q1 : (wr.alloc (.cells #[.int .i64 0, .int .i64 1] 48)).cell? ⟨wr.heap.size, 1, none⟩ = some (.int .i64 y) := by rw [World.cell?_alloc_new, hy1]; rfl
              have HO : Hid (origC L i = (x, y)) := eo.trans (by rw [hx0, hy1])
              clear HAT HFR eo hx0 hy1
              go_upto_region 19 with fail
              have o0 := HM2.out.ars.fst i hlt
              have o1 := HM2.out.ars.snd i hlt
              simp only [Nat.lt_irrefl, if_false, HO.out] at o0 o1
              generalize wr.heap.size = X at *
              generalize wr.alloc _ = wq at *
              go_wp2_with fail
              go_quiet (fail)
              have HM3 : Hid (MaAt w (wq.drewN nq) A (L.length + 4) fun x => if x < i then (-5, -5) else origC L x) := HM2.out.drewN nq
              have HF3 : Hid (MFr A w2 (wq.drewN nq)) := HF2.out.drewN nq
              clear o0 o1 q0 q1 HM2 HF2
              generalize wq.drewN nq = w4 at HM3 HF3 ⊢
              have c0 := HM3.out.ars.fst i hlt
              have c1 := HM3.out.ars.snd i hlt
              have f0 := HM3.out.ars.free (i * 2)
              have f1 := HM3.out.ars.free (i * 2 + 1)
              have HM4 : Hid (MaAt w ((w4.setCell ⟨A, i * 2, none⟩ (.int .i64 (-5))).setCell ⟨A, i * 2 + 1, none⟩ (.int .i64 (-5))) A (L.length + 4) (fun z => if z < i + 1 then (-5, -5) else origC L z)) := (HM3.out.set hlt (-5) (-5)).congr fun z hz => by
                simp only [setAt]
                by_cases e : z = i
                · rw [if_pos (by omega), if_pos e]
                · rw [if_neg e]
                  by_cases e2 : z < i
                  · rw [if_pos (by omega), if_pos e2]
                  · rw [if_neg (by omega), if_neg e2]
              have HF4 : Hid (MFr A w2 ((w4.setCell ⟨A, i * 2, none⟩ (.int .i64 (-5))).setCell ⟨A, i * 2 + 1, none⟩ (.int .i64 (-5)))) := (HF3.out.set _ _).set _ _
              go_wp2_with fail
              go_roundg (L.length + 4 - i)
              case measure => omega
              case rel => exact ⟨i + 1, by omega, by omega, rfl, by go_num, HM4.out, HF4.out⟩
          · have hlt' : ¬ (i : Int) < (L.length : Int) + 4 := by omega
            have hlt2 : ¬ (i : Int) < ((L.length + 4 : Nat) : Int) := by omega
            have HB4 : Hid (Below w.heap.size w wr) := HAT.out.below
            have HP4 : Hid (Prs wr w.heap.size (.slice po P.length pc) P) := ownsRow_mono (ownsRow_same HPr.out fun q hq => HFR.out.block q (HPr.out.lt q hq).2 (by have h1 := (HPr.out.lt q hq).1; have h2 := HAL.out; omega)) HWB.out
            have HU4 : Hid (Ints wr w.heap.size (.slice uo U.length uc) U) := ownsRow_mono (ownsRow_same HUr.out fun q hq => HFR.out.block q (HUr.out.lt q hq).2 (by have h1 := (HUr.out.lt q hq).1; have h2 := HAL.out; omega)) HWB.out
            clear HAT HFR HPr HUr HAL HWB
            generalize wr = w4 at HB4 HP4 HU4 ⊢
            have RG := rgraph_any w4 (HL.out.below HB4.out) n (by omega)
            go_wp2_with fail
            refine RG.mono ?_
            rintro e w5 ⟨rfl, hb5⟩
            clear RG
            have HB5 : Hid (Below w.heap.size w w5) := HB4.out.trans (hb5.mono HB4.out.size)
            have HP5 : Hid (Prs w5 w.heap.size (.slice po P.length pc) P) := ownsRow_same HP4.out fun q hq => hb5.block q (HP4.out.lt q hq).2
            have HU5 : Hid (Ints w5 w.heap.size (.slice uo U.length uc) U) := ownsRow_same HU4.out fun q hq => hb5.block q (HU4.out.lt q hq).2
            clear HB4 HP4 HU4 hb5
            generalize hok : okG n L = ok at *
            have HOK : Hid (okG n L = ok) := hok
            clear hok
            go_upto_region 22 with fail
            go_cut [17] from 89 to 100 (fun v17 wc => ∃ b : Bool, v17 = .bool b ∧ (ok = false → b = true) ∧ w5 = wc)
            case first =>
              by_cases hp0 : P.length = 0
              · by_cases hu0 : U.length = 0
                · have hp1 : ((P.length : Int) == 0) = true := by rw [show (P.length : Int) = 0 by omega]; rfl
                  have hu1 : ((U.length : Int) == 0) = true := by rw [show (U.length : Int) = 0 by omega]; rfl
                  by_cases he : ec = 7
                  · have he1 : (ec == (7 : Int)) = true := by rw [he]; rfl
                    clear he hp0 hu0
                    go_wp2_with fail
                    go_meet
                    exact ⟨true, rfl, fun _ => rfl, rfl⟩
                  · have he1 : (ec == (7 : Int)) = false := beq_false_of_ne he
                    have HNO : Hid (ok ≠ false) := fun e => he (HMR.out.no (HOK.out.trans e)).2.2
                    clear he hp0 hu0
                    go_wp2_with fail
                    go_meet
                    exact ⟨false, rfl, fun e => absurd e HNO.out, rfl⟩
                · have hp1 : ((P.length : Int) == 0) = true := by rw [show (P.length : Int) = 0 by omega]; rfl
                  have hu1 : ((U.length : Int) == 0) = false := beq_false_of_ne (by omega)
                  have HNO : Hid (ok ≠ false) := fun e => hu0 (by rw [(HMR.out.no (HOK.out.trans e)).2.1]; rfl)
                  clear hp0 hu0
                  go_wp2_with fail
                  go_meet
                  exact ⟨false, rfl, fun e => absurd e HNO.out, rfl⟩
              · have hp1 : ((P.length : Int) == 0) = false := beq_false_of_ne (by omega)
                have HNO : Hid (ok ≠ false) := fun e => hp0 (by rw [(HMR.out.no (HOK.out.trans e)).1]; rfl)
                clear hp0
                go_wp2_with fail
                go_meet
                exact ⟨false, rfl, fun e => absurd e HNO.out, rfl⟩
            case rest =>
              obtain ⟨bq, rfl, hbq, hw⟩ := hcut
              subst hw
              go_upto_if 101 with fail
              go_cut [17, 18, 19] from 102 to 121 (fun v17 v18 v19 wc => v17 = .bool true ∧ v18 = v18 ∧ v19 = v19 ∧ Below w5.heap.size w5 wc)
              case first =>
                cases ok
                · have hb1 := hbq rfl
                  subst hb1
                  go_wp2_with fail
                  go_meet
                  exact ⟨rfl, trivial, trivial, Below.refl _ _⟩
                · obtain ⟨hn24, hnn, hed⟩ := okG_ed HOK.out
                  obtain ⟨k, hkn⟩ : ∃ k : Nat, n = (k : Int) := ⟨n.toNat, hnn.symm⟩
                  subst hkn
                  obtain ⟨mate, f, hh, hB, eP, eU, eec⟩ := HMR.out.yes HOK.out
                  simp only [Int.toNat_natCast] at hn24 hed hB eP eU
                  subst eP eU eec
                  have HBE : Hid (Best (grL k (natL L)) mate f hh) := hB
                  have HED : Hid (EdOk k (natL L)) := hed
                  have HNP : Hid (NPr w5 (.slice so L.length cap) (natL L)) := (ipr_nat (HL.out.below HB5.out) HC.out HOK.out).1
                  clear hB hed hnn
                  go_wp2_with (at_make; go_must (refine wpList_make_full _ rfl _ _ 129 rfl w5.heap.size 4 b0 (.bool false) 1 Tryz.underlying129 hb0 hbz0 hbz1 .i64 .i64 _ _ k rfl rfl rfl rfl ?m1 ?m2 ?m3 ?_))
                  case m1 => first | omega | (rw [hbz2]; omega)
                  case m2 => unfold maxLen; omega
                  intro w6 hown hgrow
                  have HS3 : Hid (GrS w5 w6 w5.heap.size k fun x => decide (x < 0)) := ⟨Bls.made hown, (Below.refl _ w5).grown hgrow (Nat.le_refl _) (by simp), Nat.le_refl _, (hown.lt _ rfl).2⟩
                  clear hown hgrow
                  generalize w5.heap.size = I at HS3 ⊢
                  go_wp2_with fail
                  go_loopg [19] 26 (fun g v19 wr => ∃ i : Nat, i ≤ k ∧ 25 - i ≤ g ∧ v19 = .int .i64 (i : Nat) ∧ GrS w5 wr I k fun x => decide (x < i))
                  case atStart => exact ⟨0, by omega, by omega, rfl, HS3.out⟩
                  case round =>
                    clear HS3
                    obtain ⟨i, hi3, hk3, rfl, hat⟩ := hrel
                    have HAT : Hid (GrS w5 wr I k fun x => decide (x < i)) := hat
                    clear hat
                    by_cases hik : i < k
                    · have hik' : (i : Int) < (k : Int) := by omega
                      have ci := HAT.out.bls.cell i hik
                      have fi := HAT.out.bls.free i
                      have HN : Hid (GrS w5 (wr.setCell ⟨I, i, none⟩ (.bool true)) I k fun x => decide (x < i + 1)) := by
                        have := HAT.out.set hik true
                        rw [show setAt (fun x => decide (x < i)) i true = fun x => decide (x < i + 1) by
                          funext x
                          simp only [setAt]
                          by_cases e : x = i
                          · rw [if_pos e, e]; simp
                          · rw [if_neg e]
                            by_cases e2 : x < i
                            · rw [decide_eq_true e2, decide_eq_true (by omega)]
                            · rw [decide_eq_false e2, decide_eq_false (by omega)]] at this
                        exact this
                      go_wp2_with fail
                      go_roundg (25 - (i + 1))
                      case measure => omega
                      case rel => exact ⟨i + 1, by omega, Nat.le_refl _, by go_num, HN.out⟩
                    · have hik' : ¬ (i : Int) < (k : Int) := by omega
                      obtain rfl : k = i := by omega
                      have GR := rgreatest_any wr (ic := k) (HNP.out.below HAT.out.below) HAT.out.bls HAT.out.lt hn24 HED.out (by simp [natL]; omega) (fun x y hxy => by
                        obtain ⟨h1, h2⟩ := (HED.out.gr hn24).lt x y hxy
                        exact ⟨decide_eq_true h1, decide_eq_true h2⟩) HBE.out ((NPr.of HP5.out).below HAT.out.below) (ownsRow_same HU5.out fun q hq => HAT.out.below.block q (HU5.out.lt q hq).2)
                      have HBW : Hid (Below w5.heap.size w5 wr) := HAT.out.below
                      clear HAT
                      go_wp2_with fail
                      refine GR.mono ?_
                      rintro e w7 ⟨rfl, hb7⟩
                      have HB7 : Hid (Below w5.heap.size w5 w7) := HBW.out.trans (hb7.mono HBW.out.size)
                      clear GR hb7
                      go_wp2_with fail
                      go_meet
                      exact ⟨rfl, trivial, trivial, HB7.out⟩
              case rest =>
                obtain ⟨rfl, _, _, hb6⟩ := hcut
                have HB6 : Hid (Below w.heap.size w wc) := HB5.out.trans (hb6.mono HB5.out.size)
                have HP6 : Hid (Prs wc w.heap.size (.slice po P.length pc) P) := ownsRow_same HP5.out fun q hq => hb6.block q (HP5.out.lt q hq).2
                have HU6 : Hid (Ints wc w.heap.size (.slice uo U.length uc) U) := ownsRow_same HU5.out fun q hq => hb6.block q (HU5.out.lt q hq).2
                have HXB : Hid (∀ k, (∃ x ∈ l, x.has k) ∨ k = B ∨ (∃ bv, w.cell? ⟨B, 0, none⟩ = some bv ∧ bv.ownBlock = some k) → k < w.heap.size) := by
                  rintro k (⟨x, hx, hk⟩ | rfl | ⟨bv, hbv, hk⟩)
                  · exact (HBK.out.ok x hx).lt hk
                  · obtain ⟨_, _, _, _, hlt, _, _⟩ := HBK.out.at
                    exact hlt
                  · exact ((HBK.out.row hbv).2.lt k hk).2
                have hBl : B < w.heap.size := HXB.out B (.inr (.inl rfl))
                have KA := keepP_any (HBK.out.below HB6.out) (by omega) HP6.out (by omega) HB6.out.size (fun k hk x hx hh => by
                  have h1 := (HP6.out.lt k hk).1
                  have h2 := HXB.out k (.inl ⟨x, hx, hh⟩)
                  omega)
                clear hb6 HB5 HP5 HU5
                go_wp2_with fail
                refine KA.mono ?_
                rintro e w7 ⟨rfl, ⟨x, hbk7, hx7⟩, hf7⟩
                have hrow : ∀ bv, wc.cell? ⟨B, 0, none⟩ = some bv → ∀ k, bv.ownBlock = some k → k < w.heap.size := by
                  intro bv hbv k hk
                  rw [HB6.out.cell (p := ⟨B, 0, none⟩) hBl] at hbv
                  exact HXB.out k (.inr (.inr ⟨bv, hbv, hk⟩))
                have hu7 : w7.ownsRow w.heap.size 3 1 (.slice uo U.length uc) U.length (intCells U) := by
                  refine ownsRow_same HU6.out fun k hk => ?_
                  have h1 := HU6.out.lt k hk
                  exact hf7.block k h1.2 (by omega) (fun bv hbv e => by have := hrow bv hbv k e; omega) (fun e => ownBlock_ne HU6.out HP6.out (by decide) k hk e)
                have KB := keepN_any hbk7 (by simp; omega) hu7 (by omega) (Nat.le_trans HB6.out.size hf7.size) (fun k hk y hy hh => by
                  have h1 := HU6.out.lt k hk
                  rcases List.mem_append.1 hy with hy | hy
                  · have h2 := HXB.out k (.inl ⟨y, hy, hh⟩)
                    omega
                  · simp at hy
                    subst hy
                    rcases hx7 k hh with e | e
                    · exact ownBlock_ne HU6.out HP6.out (by decide) k hk e
                    · omega)
                have HB7 : Hid (BFr w w7 B) := (BFr.of_below HB6.out hBl).keep hf7 (fun k hk => (HP6.out.lt k hk).1)
                have HVB : Hid (∀ k, (Value.slice uo U.length uc).ownBlock = some k → w.heap.size ≤ k) := fun k hk => (hu7.lt k hk).1
                clear hu7 hrow hf7 hx7 hbk7 KA
                go_wp2_with fail
                refine KB.mono ?_
                rintro e w8 ⟨rfl, ⟨x', hbk8, _⟩, hf8⟩
                have HB8 : Hid (BFr w w8 B) := HB7.out.keep hf8 HVB.out
                have HK8 : Hid (BookOk N w8 B ((l ++ [x]) ++ [x'])) := hbk8
                clear hbk8 hf8 KB
                go_wp2_with fail
                go_ret
                exact ⟨rfl, ⟨_, HK8.out, by simp⟩, HB8.out⟩
end Go.Proofs.YtcabaecbmkgclaaGreatDoor.Rf

namespace Go.Proofs.YtcabaecbmkgclaaGreatDoor
open Go.ChangeShapes Go.WideShapes Go.ChangeAt Go.RowKit

theorem own : ownKnob Tryz.prog.godebug = none := by kernel_rfl
theorem laidOut : laidOutB Tryz.prog = true := by kernel_rfl

def layWith (cs : Array Value) : Obj → Obj
  | .cells _ t frozen => .cells cs t frozen
  | o => o
def acceptCells : Array Value := #[.int .u8 128, .int .u8 191, .int .u8 160, .int .u8 191, .int .u8 128, .int .u8 159, .int .u8 144, .int .u8 191, .int .u8 128, .int .u8 143, .int .u8 0, .int .u8 0, .int .u8 0, .int .u8 0, .int .u8 0, .int .u8 0,
  .int .u8 0, .int .u8 0, .int .u8 0, .int .u8 0, .int .u8 0, .int .u8 0, .int .u8 0, .int .u8 0, .int .u8 0, .int .u8 0, .int .u8 0, .int .u8 0, .int .u8 0, .int .u8 0, .int .u8 0, .int .u8 0]
def firstCells : Array Value := (Pinned.utf8FirstZ.map fun (n : Nat) => Value.int .u8 n).toArray

/-- The settled world, the two tables holding what their initialisers lay. -/
noncomputable def laidWorld (os : Os) : World :=
  { World.holding Tryz.prog os ⟨#[], #[], []⟩ with heap := ((World.holding Tryz.prog os ⟨#[], #[], []⟩).heap.modify 0 (layWith firstCells)).modify 1 (layWith acceptCells) }

set_option maxRecDepth 100000 in
theorem laid_script (os : Os) : laidMet Tryz.prog Rows.parsesRow.laid ((laidWorld os).forCall (fun _ _ => 0) ⟨#[], #[.slice none 0 0], []⟩).memory :=
  laidMet_of_run' 8 (by kernel_rfl) (by kernel_rfl)
end Go.Proofs.YtcabaecbmkgclaaGreatDoor
