/-
  What a step of a script leaves, and what it may have turned.
  A script is played step by step: what upTo does, whatever the steps that are played.
  A script that came in, read: its steps lie in memory as Script says.
  Matchings, with odd rings contracted, said on numbers and lists alone: what stands while a search grows, and that it goes on standing.
  An odd ring is contracted: what stood goes on standing.
-/
import Derived.Test.YtcabaecbmkgclaaGreatDoorP06
import Derived.Deep.CutRange
import Derived.ProofKit
import Derived.OpenShut
import Derived.Deep.Slices
import Derived.Lib.SmallJoins

namespace Go.Proofs.YtcabaecbmkgclaaGreatDoor
open Go.RowKit

/-- What a step of a script may have turned: the book's own block and row. -/
structure BFr (w w' : World) (B : Nat) : Prop where
  os : w'.os = w.os
  tape : w'.tape = w.tape
  output : w'.output = w.output
  size : w.heap.size ≤ w'.heap.size
  block : ∀ k, k < w.heap.size → k ≠ B → (∀ bv, w.cell? ⟨B, 0, none⟩ = some bv → bv.ownBlock ≠ some k) → w'.heap[k]? = w.heap[k]?
  row : ∀ bv', w'.cell? ⟨B, 0, none⟩ = some bv' → ∀ k, bv'.ownBlock = some k → k < w.heap.size → ∃ bv, w.cell? ⟨B, 0, none⟩ = some bv ∧ bv.ownBlock = some k

theorem BFr.of_below {w w' : World} {B : Nat} (h : Below w.heap.size w w') (hB : B < w.heap.size) : BFr w w' B :=
  ⟨h.os, h.tape, h.output, h.size, fun k hk _ _ => h.block k hk, fun bv' hb k hk _ => ⟨bv', by rw [← h.cell (p := ⟨B, 0, none⟩) hB]; exact hb, hk⟩⟩

theorem BFr.keep {w0 w w' : World} {B : Nat} {v : Value} (h : BFr w0 w B) (k : KFr w w' B v) (hv : ∀ i, v.ownBlock = some i → w0.heap.size ≤ i) : BFr w0 w' B := by
  refine ⟨k.os.trans h.os, k.tape.trans h.tape, k.output.trans h.output, Nat.le_trans h.size k.size, ?_, ?_⟩
  · intro i hi h1 h2
    refine (k.block i (Nat.lt_of_lt_of_le hi h.size) h1 ?_ (fun e => by have := hv i e; omega)).trans (h.block i hi h1 h2)
    intro bv hbv e
    obtain ⟨bv0, hb0, e0⟩ := h.row bv hbv i e hi
    exact h2 bv0 hb0 e0
  · intro bv' hb i hi hlt
    obtain ⟨bv, hb1, e1⟩ := k.row bv' hb i hi (Nat.lt_of_lt_of_le hlt h.size)
    exact h.row bv hb1 i e1 hlt

theorem BFr.below {N : Nat} {w w' : World} {B : Nat} {l : List Sl} (h : BFr w w' B) (bk : BookOk N w B l) (hN : N ≤ w.heap.size) : Below N w w' := by
  refine ⟨h.os, h.tape, h.output, h.size, fun k hk => h.block k (by omega) (by have := bk.base; omega) ?_⟩
  intro bv hbv e
  have := ((bk.row hbv).2.lt k e).1
  omega

/-- What a step of a script leaves. -/
def StepPost (N : Nat) (w : World) (B : Nat) (l : List Sl) (d : Nat) (e : Ending) (w' : World) : Prop := e = .returned (.bool true) ∧ (∃ l', BookOk N w' B l' ∧ l'.length ≤ l.length + d) ∧ BFr w w' B

theorem BookOk.low {N : Nat} {w : World} {B : Nat} {l : List Sl} (h : BookOk N w B l) : N ≤ w.heap.size := by
  obtain ⟨_, _, _, _, hlt, _, _⟩ := h.at
  have := h.base
  omega
end Go.Proofs.YtcabaecbmkgclaaGreatDoor

namespace Go.Proofs.YtcabaecbmkgclaaGreatDoor
open Go.RowKit Bz

theorem BFr.trans {a b c : World} {B : Nat} (h : BFr a b B) (k : BFr b c B) : BFr a c B := by
  refine ⟨k.os.trans h.os, k.tape.trans h.tape, k.output.trans h.output, Nat.le_trans h.size k.size, ?_, ?_⟩
  · intro i hi h1 h2
    refine (k.block i (Nat.lt_of_lt_of_le hi h.size) h1 ?_).trans (h.block i hi h1 h2)
    intro bv hbv e
    obtain ⟨bv0, hb0, e0⟩ := h.row bv hbv i e hi
    exact h2 bv0 hb0 e0
  · intro bv' hb i hi hlt
    obtain ⟨bv, hb1, e1⟩ := k.row bv' hb i hi (Nat.lt_of_lt_of_le hlt h.size)
    exact h.row bv hb1 i e1 hlt

/-- A step of a script. -/
structure OpD where
  kind : Int
  n : Int
  s : ByteArray
  lo : Option Addr
  ll : Nat
  lc : Nat

def opCells (o : OpD) : List Value := [.int .i64 o.kind, .int .i64 o.n, .string o.s, .slice o.lo o.ll o.lc]
theorem opCells_len (o : OpD) : (opCells o).length = 4 := rfl
def opV (o : OpD) : Value := .agg #[.int .i64 o.kind, .int .i64 o.n, .string o.s, .slice o.lo o.ll o.lc]

/-- A script in memory. -/
structure Script (w : World) (ao : Option Addr) (cap : Nat) (ops : List OpD) : Prop where
  few : ops.length ≤ 1048576
  at_ : 0 < ops.length → ∃ b off, ao = some ⟨b, off, none⟩ ∧ b < w.heap.size ∧ ∀ (i j : Nat) o v, ops[i]? = some o → (opCells o)[j]? = some v → w.cell? ⟨b, off + (i * 4 + j), none⟩ = some v

def firstOps (M : Nat) : List OpD := [⟨1, 0, ⟨#[67, 40, 61, 79, 41, 40, 67, 41, 67, 108]⟩, none, 0, 0⟩, ⟨2, 3, ⟨#[]⟩, some ⟨M + 1, 0, none⟩, 2, 2⟩, ⟨3, 0, ⟨#[99, 49, 99, 99, 99, 99, 99, 49]⟩, none, 0, 0⟩]
def firstPairs : Obj := .cells #[.int .i64 0, .int .i64 1, .int .i64 1, .int .i64 2] 48
def firstObj (M : Nat) : Obj := .cells #[.int .i64 1, .int .i64 0, .string ⟨#[67, 40, 61, 79, 41, 40, 67, 41, 67, 108]⟩, .slice none 0 0, .int .i64 2, .int .i64 3, .string ⟨#[]⟩, .slice (some ⟨M + 1, 0, none⟩) 2 2,
  .int .i64 3, .int .i64 0, .string ⟨#[99, 49, 99, 99, 99, 99, 99, 49]⟩, .slice none 0 0] 60

theorem first_cells {w : World} {M : Nat} (h : w.heap[M + 2]? = some (firstObj M)) {i : Nat} {o : OpD} (hi : (firstOps M)[i]? = some o) : ∀ (j : Nat) v, (opCells o)[j]? = some v → w.cell? ⟨M + 2, i * 4 + j, none⟩ = some v := by
  intro j v hj
  have hc : ∀ k, w.cell? ⟨M + 2, k, none⟩ = (#[Value.int .i64 1, .int .i64 0, .string ⟨#[67, 40, 61, 79, 41, 40, 67, 41, 67, 108]⟩, .slice none 0 0, .int .i64 2, .int .i64 3, .string ⟨#[]⟩, .slice (some ⟨M + 1, 0, none⟩) 2 2,
      .int .i64 3, .int .i64 0, .string ⟨#[99, 49, 99, 99, 99, 99, 99, 49]⟩, .slice none 0 0] : Array Value)[k]? := by
    intro k
    simp [World.cell?, h, firstObj]
  rw [hc]
  match i, hi with
  | 0, hi =>
    simp [firstOps] at hi
    subst hi
    match j, hj with
    | 0, hj => simpa [opCells] using hj
    | 1, hj => simpa [opCells] using hj
    | 2, hj => simpa [opCells] using hj
    | 3, hj => simpa [opCells] using hj
    | j + 4, hj => simp [opCells] at hj
  | 1, hi =>
    simp [firstOps] at hi
    subst hi
    match j, hj with
    | 0, hj => simpa [opCells] using hj
    | 1, hj => simpa [opCells] using hj
    | 2, hj => simpa [opCells] using hj
    | 3, hj => simpa [opCells] using hj
    | j + 4, hj => simp [opCells] at hj
  | 2, hi =>
    simp [firstOps] at hi
    subst hi
    match j, hj with
    | 0, hj => simpa [opCells] using hj
    | 1, hj => simpa [opCells] using hj
    | 2, hj => simpa [opCells] using hj
    | 3, hj => simpa [opCells] using hj
    | j + 4, hj => simp [opCells] at hj
  | i + 3, hi => simp [firstOps] at hi

/-- Where a script stands: the book, what came in, what was laid first. -/
structure Stand (w wr : World) (l : List Sl) : Prop where
  bk : BookOk w.heap.size wr w.heap.size l
  below : Below w.heap.size w wr
  ps : wr.heap[w.heap.size + 1]? = some firstPairs
  fs : wr.heap[w.heap.size + 2]? = some (firstObj w.heap.size)

theorem Stand.lt {w wr : World} {l : List Sl} (h : Stand w wr l) : w.heap.size + 2 < wr.heap.size := (Array.getElem?_eq_some_iff.1 h.fs).1

theorem Stand.step {w wr w' : World} {l l' : List Sl} (h : Stand w wr l) (bk : BookOk w.heap.size w' w.heap.size l') (f : BFr wr w' w.heap.size) : Stand w w' l' := by
  have hlt := h.lt
  have hrow : ∀ k obj t cur, wr.heap[k]? = some obj → obj = .cells cur t (0, 0) → t ≠ 84 → ∀ bv, wr.cell? ⟨w.heap.size, 0, none⟩ = some bv → bv.ownBlock ≠ some k := by
    intro k obj t cur hk ho ht bv hbv e
    obtain ⟨cur2, hc2⟩ := ownsRow_type (h.bk.row hbv).2 e
    rw [hk, ho] at hc2
    simp at hc2
    exact ht hc2.2
  refine ⟨bk, h.below.trans (f.below h.bk (by omega)), ?_, ?_⟩
  · rw [f.block _ (by omega) (by omega) (hrow _ _ _ _ h.ps rfl (by decide))]; exact h.ps
  · rw [f.block _ (by omega) (by omega) (hrow _ _ _ _ h.fs rfl (by decide))]; exact h.fs

theorem Stand.stepBelow {w wr w' : World} {l : List Sl} (h : Stand w wr l) (hb : Below wr.heap.size wr w') : Stand w w' l := by
  have hlt := h.lt
  exact h.step (h.bk.below hb) (BFr.of_below hb (by omega))

/-- The step in the loop's own box. -/
structure OpBox (w : World) (O : Nat) (o : OpD) : Prop where
  c0 : w.cell? ⟨O, 0, none⟩ = some (.int .i64 o.kind)
  c1 : w.cell? ⟨O, 1, none⟩ = some (.int .i64 o.n)
  c2 : w.cell? ⟨O, 2, none⟩ = some (.string o.s)
  c3 : w.cell? ⟨O, 3, none⟩ = some (.slice o.lo o.ll o.lc)

/-- What a step must do, if it is played: whatever it reads lies where it lay. -/
def Plays (lo hi : Int) (w : World) (o : OpD) : Prop :=
  lo ≤ o.kind → o.kind ≤ hi → ∀ (wr : World) (l : List Sl), Stand w wr l → l.length ≤ 8999990 →
    Calls Tryz.prog 20 #[.pointer (some ⟨w.heap.size, 0, none⟩), opV o] wr (StepPost w.heap.size wr w.heap.size l 4)

theorem stand_new (w : World) : Stand w (((w.alloc (.cells #[.slice none 0 0] 58)).alloc firstPairs).alloc (firstObj w.heap.size)) [] := by
  have b0 : (((w.alloc (.cells #[.slice none 0 0] 58)).alloc firstPairs).alloc (firstObj w.heap.size)).heap[w.heap.size]? = some (.cells #[.slice none 0 0] 58 (0, 0)) := by
    rw [heap_alloc_lt _ _ _ (by simp; omega), heap_alloc_lt _ _ _ (by simp)]
    exact heap_alloc_new w _
  refine ⟨⟨Nat.le_refl _, ⟨_, b0, World.ownsRow_nil _ _ _ _⟩, by intro x hx; cases hx⟩, (((Below.refl _ w).alloc (Nat.le_refl _) _).alloc (by simp) _).alloc (by simp; omega) _, ?_, ?_⟩
  · rw [heap_alloc_lt _ _ _ (by simp)]
    have := heap_alloc_new (w.alloc (.cells #[.slice none 0 0] 58)) firstPairs
    simpa using this
  · have := heap_alloc_new ((w.alloc (.cells #[.slice none 0 0] 58)).alloc firstPairs) (firstObj w.heap.size)
    simpa using this

section
set_option maxRecDepth 100000 in
set_option maxHeartbeats 4000000 in
theorem upTo_any {w : World} {ao : Option Addr} {cap : Nat} {ops : List OpD} (h : Script w ao cap ops) (lo hi : Int) (hp : ∀ o, o ∈ firstOps w.heap.size ++ ops → Plays lo hi w o) :
    Calls Tryz.prog 11 #[.slice ao ops.length cap, .int .i64 lo, .int .i64 hi] w fun e w' => e = .returned (.bool true) ∧ Below w.heap.size w w' := by
  have HS : Hid (Script w ao cap ops) := h
  have HP : Hid (∀ o, o ∈ firstOps w.heap.size ++ ops → Plays lo hi w o) := hp
  have HN : Hid (Stand w (((w.alloc (.cells #[.slice none 0 0] 58)).alloc firstPairs).alloc (firstObj w.heap.size)) []) := stand_new w
  have hfew := h.few
  clear h hp
  unfold firstPairs firstObj at HN
  go_enter Tryz.func11, Tryz.ntmps11
  go_wp2_with fail
  go_loopg [9] (ops.length + 4) (fun k vi wr => ∃ i : Nat, ∃ l : List Sl, i ≤ 3 + ops.length ∧ 3 + ops.length - i ≤ k ∧ vi = .int .i64 i ∧ Stand w wr l ∧ l.length ≤ 4 * i)
  case atStart => exact ⟨0, [], by omega, by omega, rfl, HN.out, by simp⟩
  case round =>
    obtain ⟨i, l, hi', hk, rfl, hst, hll⟩ := hrel
    clear HN
    have HST : Hid (Stand w wr l) := hst
    have hwl := hst.lt
    clear hst
    by_cases hlt : i < 3 + ops.length
    · have hlt' : (i : Int) < 3 + (ops.length : Int) := by omega
      have gi := List.getElem?_eq_getElem (l := firstOps w.heap.size ++ ops) (i := i) (by simp [firstOps]; omega)
      generalize (firstOps w.heap.size ++ ops)[i]'(by simp [firstOps]; omega) = o at gi
      have HGI : Hid ((firstOps w.heap.size ++ ops)[i]? = some o) := gi
      clear gi
      go_upto_if 35 with fail
      go_cut [36] from 22 to 67 (fun _ wc => Stand w wc l ∧ OpBox wc wr.heap.size o)
      case first =>
        have HST2 : Hid (∀ ob, Stand w (wr.alloc ob) l) := fun ob => HST.out.stepBelow ((Below.refl _ wr).alloc (Nat.le_refl _) _)
        have HOB : Hid (∀ t, OpBox (wr.alloc (.cells #[.int .i64 o.kind, .int .i64 o.n, .string o.s, .slice o.lo o.ll o.lc] t)) wr.heap.size o) := fun t => ⟨by simp, by simp, by simp, by simp⟩
        by_cases h3 : i < 3
        · have h3' : (i : Int) < 3 := by omega
          have gi := HGI.out
          rw [List.getElem?_append_left (by simp [firstOps]; omega)] at gi
          have hc := first_cells HST.out.fs gi
          have q0 : wr.cell? ⟨w.heap.size + 1 + 1, i * 4, none⟩ = some (.int .i64 o.kind) := hc 0 _ rfl
          have q1 : wr.cell? ⟨w.heap.size + 1 + 1, i * 4 + 1, none⟩ = some (.int .i64 o.n) := hc 1 _ rfl
          have q2 : wr.cell? ⟨w.heap.size + 1 + 1, i * 4 + 2, none⟩ = some (.string o.s) := hc 2 _ rfl
          have q3 : wr.cell? ⟨w.heap.size + 1 + 1, i * 4 + 3, none⟩ = some (.slice o.lo o.ll o.lc) := hc 3 _ rfl
          have hne : w.heap.size + 1 + 1 < wr.heap.size := by omega
          clear hc gi
          go_wp2_with fail
          go_meet
          case rel => exact ⟨HST2.out _, HOB.out _⟩
        · have h3' : ¬ (i : Int) < 3 := by omega
          obtain ⟨j, hj⟩ : ∃ j, i = 3 + j := ⟨i - 3, by omega⟩
          have hij : (i : Int) - 3 = (j : Int) := by omega
          have hjl : (j : Int) < (ops.length : Int) := by omega
          have gi := HGI.out
          rw [List.getElem?_append_right (by simp [firstOps]; omega), show i - (firstOps w.heap.size).length = j by simp [firstOps]; omega] at gi
          obtain ⟨b, off, hao, hb, hc⟩ := HS.out.at_ (by omega)
          subst hao
          have hbw : b < wr.heap.size := by have := HST.out.below.size; omega
          have q0 : wr.cell? ⟨b, off + j * 4, none⟩ = some (.int .i64 o.kind) := (HST.out.below.cell (p := ⟨b, off + j * 4, none⟩) hb).trans (hc j 0 o _ gi rfl)
          have q1 : wr.cell? ⟨b, off + j * 4 + 1, none⟩ = some (.int .i64 o.n) := (HST.out.below.cell (p := ⟨b, off + j * 4 + 1, none⟩) hb).trans (hc j 1 o _ gi rfl)
          have q2 : wr.cell? ⟨b, off + j * 4 + 2, none⟩ = some (.string o.s) := (HST.out.below.cell (p := ⟨b, off + j * 4 + 2, none⟩) hb).trans (hc j 2 o _ gi rfl)
          have q3 : wr.cell? ⟨b, off + j * 4 + 3, none⟩ = some (.slice o.lo o.ll o.lc) := (HST.out.below.cell (p := ⟨b, off + j * 4 + 3, none⟩) hb).trans (hc j 3 o _ gi rfl)
          clear hc gi hj
          go_wp2_with fail
          go_meet
          case rel => exact ⟨HST2.out _, HOB.out _⟩
      case rest =>
        obtain ⟨hst, hbx⟩ := hcut
        have c0 := hbx.c0
        have c1 := hbx.c1
        have c2 := hbx.c2
        have c3 := hbx.c3
        have HSc : Hid (Stand w wc l) := hst
        have hmem := List.mem_of_getElem? HGI.out
        have hlim : l.length ≤ 8999990 := by omega
        clear hst hbx HST
        by_cases h1 : lo ≤ o.kind
        · by_cases h2 : o.kind ≤ hi
          · have HPl := HP.out o hmem h1 h2 wc l HSc.out hlim
            unfold opV at HPl
            clear hmem
            go_wp2_with fail
            refine HPl.mono ?_
            rintro e w2 ⟨rfl, ⟨l', hbk, hl'⟩, hbf⟩
            have HS2 : Hid (Stand w w2 l') := HSc.out.step hbk hbf
            have HLk := looks_any hbk (by omega)
            clear hbk hbf HPl c0 c1 c2 c3
            go_wp2_with fail
            refine HLk.mono ?_
            rintro e w3 ⟨rfl, hb3⟩
            have HS3 : Hid (Stand w w3 l') := HS2.out.stepBelow hb3
            clear hb3 HLk
            go_wp2_with fail
            go_roundg (3 + ops.length - (i + 1))
            case measure => omega
            case rel => exact ⟨i + 1, l', by omega, Nat.le_refl _, by go_num, HS3.out, by omega⟩
          · clear hmem
            go_wp2_with fail
            go_roundg (3 + ops.length - (i + 1))
            case measure => omega
            case rel => exact ⟨i + 1, l, by omega, Nat.le_refl _, by go_num, HSc.out, by omega⟩
        · clear hmem
          go_wp2_with fail
          go_roundg (3 + ops.length - (i + 1))
          case measure => omega
          case rel => exact ⟨i + 1, l, by omega, Nat.le_refl _, by go_num, HSc.out, by omega⟩
    · have hlt' : ¬ (i : Int) < 3 + (ops.length : Int) := by omega
      go_wp2_with fail
      go_ret
      exact ⟨rfl, HST.out.below⟩
end
end Go.Proofs.YtcabaecbmkgclaaGreatDoor

namespace Go.Proofs.YtcabaecbmkgclaaGreatDoor
open Go.ChangeShapes Go.WideShapes Go.ChangeAt Go.RowKit Go.Deep Go.Joins

theorem Tryz.cellsOp : Tryz.prog.cellsOf 60 = 4 := by kernel_rfl
theorem Tryz.cellsInt : Tryz.prog.cellsOf 3 = 1 := by kernel_rfl
theorem Tryz.cellsStr : Tryz.prog.cellsOf 9 = 1 := by kernel_rfl
theorem Tryz.cellsPairs : Tryz.prog.cellsOf 29 = 1 := by kernel_rfl

/-- What is known of a step that came in. -/
structure OpIn {H : Type} (enc : TypeId × Value → H) (w : World) (o : OpD) (d : DataW H) : Prop where
  str : o.s.size ≤ maxLen
  kind : (Lit.int .i64 o.kind).wf = true
  n : (Lit.int .i64 o.n).wf = true
  list : ∃ m p x, DataW.trod enc Tryz.prog w 0 (fun _ => true) true m 29 [.slice o.lo o.ll o.lc] = some (x, p) ∧ d = .agg [.lit (.int .i64 o.kind), .lit (.int .i64 o.n), .lit (.string o.s.data.toList), x]

theorem list4 {α : Type} {l : List α} (h : l.length = 4) : ∃ a b c d, l = [a, b, c, d] := by
  match l, h with
  | [a, b, c, d], _ => exact ⟨a, b, c, d, rfl⟩

set_option maxRecDepth 100000 in
theorem op_in {H : Type} {enc : TypeId × Value → H} {w : World} {m : Nat} {cs : List Value} {x : DataW H × List MemPlace} (h : DataW.trod enc Tryz.prog w 0 (fun _ => true) true m 60 cs = some x) : ∃ o, cs = opCells o ∧ OpIn enc w o x.1 := by
  obtain ⟨y0, y1, y2, y3, n, rfl, hl, h0, h1, h2, h3⟩ := trod_struct4 Tryz.underlying60 h
  rw [Tryz.cellsOp] at hl
  obtain ⟨c0, c1, c2, c3, rfl⟩ := list4 hl
  · simp only [Tryz.cellsInt, Tryz.cellsStr, Tryz.cellsPairs, List.drop_zero, List.drop_succ_cons, List.take_succ_cons, List.take_zero] at h0 h1 h2 h3
    obtain ⟨k, e0, e0', w0⟩ := DataW.trod_int Tryz.underlying3 h0
    obtain ⟨q, e1, e1', w1⟩ := DataW.trod_int Tryz.underlying3 h1
    obtain ⟨s, e2, e2', w2⟩ := DataW.trod_string Tryz.underlying9 h2
    simp only [List.cons.injEq, and_true] at e0 e1 e2
    subst e0 e1 e2 e0' e1' e2'
    rcases open_slice Tryz.underlying29 h3 with ⟨e3, _⟩ | ⟨a, len, cap, _, _, _, _, e3, _⟩
    · simp only [List.cons.injEq, and_true] at e3
      subst e3
      exact ⟨⟨k, q, s, none, 0, 0⟩, rfl, w2, w0, w1, n, y3.2, y3.1, h3, rfl⟩
    · simp only [List.cons.injEq, and_true] at e3
      subst e3
      exact ⟨⟨k, q, s, some a, len, cap⟩, rfl, w2, w0, w1, n, y3.2, y3.1, h3, rfl⟩

theorem add_none {a : Addr} {b off : Nat} (h : a = ⟨b, off, none⟩) (j : Nat) : a.add j = ⟨b, off + j, none⟩ := by
  subst h
  unfold Addr.add
  split <;> simp_all

/-- A script that came in. -/
theorem script_in {H : Type} {enc : TypeId × Value → H} {w : World} {m : Nat} {v : Value} {x : DataW H × List MemPlace} (h : DataW.trod enc Tryz.prog w 0 (fun _ => true) true m 22 [v] = some x) (hk : Rows.uptoBulk x.1 ≤ 1048576) :
    ∃ ao cap ops, v = .slice ao ops.length cap ∧ Script w ao cap ops ∧ ∀ o ∈ ops, ∃ d, OpIn enc w o d ∧ Rows.uptoBulk d ≤ 1048576 := by
  rcases open_slice Tryz.underlying22 h with ⟨e, _⟩ | ⟨a, len, cap, k, n, D, Pl, e, _, hlc, _, hm, hx, hel⟩
  · simp only [List.cons.injEq, and_true] at e
    subst e
    exact ⟨none, 0, [], rfl, ⟨by simp, by simp⟩, by intro o ho; cases ho⟩
  · simp only [List.cons.injEq, and_true] at e
    subst e hx
    simp only [if_true] at hm
    subst hm
    rw [Tryz.cellsOp] at hel
    have hbulk : ∀ l : List (DataW H), l.length ≤ Rows.uptoBulkAll l ∧ ∀ d ∈ l, Rows.uptoBulk d ≤ Rows.uptoBulkAll l := by
      intro l
      induction l with
      | nil => simp [Rows.uptoBulkAll]
      | cons d r ih =>
        have h1 : 1 ≤ Rows.uptoBulk d := by
          cases d with
          | lit l => cases l <;> simp [Rows.uptoBulk]
          | _ => simp [Rows.uptoBulk]
        refine ⟨by simp only [Rows.uptoBulkAll, List.length_cons]; omega, ?_⟩
        intro e he
        simp only [Rows.uptoBulkAll]
        rcases List.mem_cons.1 he with rfl | he
        · omega
        · have := ih.2 e he
          omega
    simp only [Rows.uptoBulk] at hk
    have hB := hbulk ((List.range len).map D)
    have hlen : len ≤ 1048576 := by
      have := hB.1
      simp at this
      omega
    have hop : ∀ i, i < len → ∃ o, w.cells? 0 (a.add (i * 4)) 4 = some (opCells o) ∧ OpIn enc w o (D i) := by
      intro i hi
      obtain ⟨cs', hc, ht⟩ := hel i (by omega)
      obtain ⟨o, rfl, ho⟩ := op_in ht
      exact ⟨o, hc, ho⟩
    let dflt : OpD := ⟨0, 0, ⟨#[]⟩, none, 0, 0⟩
    haveI : Inhabited OpD := ⟨dflt⟩
    obtain ⟨f, hf⟩ := choose_lt hop
    have hget : ∀ (i : Nat) o, ((List.range len).map f)[i]? = some o → i < len ∧ o = f i := by
      intro i o hi
      rw [List.getElem?_map] at hi
      by_cases hil : i < len
      · rw [List.getElem?_range hil] at hi
        simp at hi
        exact ⟨hil, hi.symm⟩
      · rw [List.getElem?_eq_none (by simp; omega)] at hi
        cases hi
    refine ⟨some a, k, (List.range len).map f, by simp, ⟨by simp; omega, ?_⟩, ?_⟩
    · intro h0
      have h0' : 0 < len := by simpa using h0
      obtain ⟨b, off, spot⟩ := a
      have hc0 := (World.cells?_some (hf 0 h0').1).2.2 0 (by omega)
      simp only [Nat.zero_mul] at hc0
      have hc0' : w.cell? ⟨b, off, spot⟩ = some (.int .i64 (f 0).kind) := by simpa [Addr.add, opCells] using hc0
      have hsp : spot = none := by simpa using World.cell?_spot hc0'
      subst hsp
      refine ⟨b, off, rfl, World.block_lt_of_cell? w _ hc0', ?_⟩
      intro i j o v hi hj
      obtain ⟨hil, rfl⟩ := hget i o hi
      have hj4 : j < 4 := by
        have := (List.getElem?_eq_some_iff.1 hj).1
        simpa [opCells_len] using this
      have := (World.cells?_some (hf i hil).1).2.2 j hj4
      rw [hj, add_none rfl, add_none rfl] at this
      rw [← this]
      congr 2
      omega
    · intro o ho
      obtain ⟨i, hi, rfl⟩ := List.mem_map.1 ho
      have hil := List.mem_range.1 hi
      refine ⟨D i, (hf i hil).2, ?_⟩
      have := hB.2 (D i) (List.mem_map.2 ⟨i, hi, rfl⟩)
      omega
end Go.Proofs.YtcabaecbmkgclaaGreatDoor

namespace Go.Proofs.YtcabaecbmkgclaaGreatDoor.Mt

structure Gr where
  n : Nat
  adj : Nat → Nat → Bool

structure GrOk (g : Gr) : Prop where
  n24 : g.n ≤ 24
  lt : ∀ a b, g.adj a b = true → a < g.n ∧ b < g.n
  sym : ∀ a b, g.adj a b = true → g.adj b a = true
  irr : ∀ a, g.adj a a = false

structure MtOk (g : Gr) (mate : Nat → Option Nat) : Prop where
  adj : ∀ a b, mate a = some b → g.adj a b = true
  back : ∀ a b, mate a = some b → mate b = some a

/-- What a search has reached. -/
structure Fo where
  ring : Nat → Nat → Bool
  next : Nat → Nat
  outer : Nat → Bool
  inner : Nat → Bool
  queue : List Nat

/-- By turns a pair and an edge, up to t. -/
def Alt (g : Gr) (mate : Nat → Option Nat) (next : Nat → Nat) (t : Nat) : List Nat → Prop
  | [] => False
  | [x] => x = t
  | x :: m :: l => mate x = some m ∧ g.adj m (next m) = true ∧ l.head? = some (next m) ∧ Alt g mate next t l

def Pairs (mate : Nat → Option Nat) : List Nat → Prop
  | [] => True
  | [_] => False
  | x :: m :: l => mate x = some m ∧ Pairs mate l

def EvO (outer : Nat → Bool) : List Nat → Prop
  | [] => True
  | [x] => outer x = true
  | x :: _ :: l => outer x = true ∧ EvO outer l

/-- What is kept in mind beside: each ring's base, its level, its tree. -/
structure Gh where
  base : Nat → Nat
  lev : Nat → Nat
  root : Nat → Nat

structure Inv (g : Gr) (mate : Nat → Option Nat) (f : Fo) (h : Gh) : Prop where
  olt : ∀ v, f.outer v = true → v < g.n
  ilt : ∀ v, f.inner v = true → v < g.n
  self : ∀ v, v < 24 → f.ring v v = true
  rlt : ∀ v x, f.ring v x = true → v < 24 ∧ x < 24
  same : ∀ v x, f.ring v x = true → f.ring x = f.ring v
  single : ∀ v x, f.outer v = false → f.ring v x = true → x = v
  rout : ∀ v x, f.outer v = true → f.ring v x = true → f.outer x = true
  base : ∀ v, f.outer v = true → f.ring v (h.base v) = true
  baseC : ∀ v x, f.outer v = true → f.ring v x = true → h.base x = h.base v ∧ h.lev x = h.lev v ∧ h.root x = h.root v
  seg : ∀ v, f.outer v = true → ∃ s, s.head? = some v ∧ Alt g mate f.next (h.base v) s ∧ (∀ x ∈ s, f.ring v x = true) ∧ s.Nodup
  up : ∀ b m, f.outer b = true → h.base b = b → mate b = some m → f.inner m = true ∧ f.outer m = false ∧ g.adj m (f.next m) = true ∧ f.outer (f.next m) = true ∧ h.lev (f.next m) < h.lev b ∧ h.root (f.next m) = h.root b
  inn : ∀ m, f.inner m = true → f.outer m = false → ∃ b, mate m = some b ∧ f.outer b = true ∧ h.base b = b
  rootO : ∀ v, v < g.n → mate v = none → f.outer v = true ∧ h.base v = v ∧ h.root v = v
  q : ∀ v, v ∈ f.queue ↔ f.outer v = true
  qn : f.queue.Nodup

section
variable {g : Gr} {mate : Nat → Option Nat} {next : Nat → Nat} {t : Nat}

theorem Alt.ne {l : List Nat} (h : Alt g mate next t l) : l ≠ [] := by
  rintro rfl
  exact h

theorem Alt.append : ∀ {s : List Nat} {b m : Nat} {l : List Nat}, Alt g mate next b s → mate b = some m → g.adj m (next m) = true → l.head? = some (next m) → Alt g mate next t l → Alt g mate next t (s ++ m :: l)
  | [x], b, m, l, h, hb, ha, hl, hr => by
    have : x = b := h
    subst this
    exact ⟨hb, ha, hl, hr⟩
  | x :: y :: s, b, m, l, h, hb, ha, hl, hr => by
    obtain ⟨h1, h2, h3, h4⟩ := h
    refine ⟨h1, h2, ?_, Alt.append h4 hb ha hl hr⟩
    cases s with
    | nil => cases h3
    | cons z s => exact h3

/-- The last of it. -/
theorem Alt.mem : ∀ {s : List Nat}, Alt g mate next t s → t ∈ s
  | [x], h => by have : x = t := h; subst this; simp
  | _ :: _ :: s, h => by
    have := Alt.mem h.2.2.2
    simp [this]

theorem Alt.unique {t' : Nat} (ht : mate t = none) (ht' : mate t' = none) : ∀ {l l' : List Nat}, Alt g mate next t l → Alt g mate next t' l' → l.head? = l'.head? → l = l'
  | [x], [y], _, _, e => by simpa using e
  | [x], y :: m :: l', h, h', e => by
    have hx : x = t := h
    simp at e
    have k := h'.1
    rw [← e, hx, ht] at k
    cases k
  | x :: m :: l, [y], h, h', e => by
    have hy : y = t' := h'
    simp at e
    have k := h.1
    rw [e, hy, ht'] at k
    cases k
  | x :: m :: l, y :: m' :: l', h, h', e => by
    simp at e
    subst e
    obtain ⟨h1, h2, h3, h4⟩ := h
    obtain ⟨k1, k2, k3, k4⟩ := h'
    rw [h1] at k1
    cases k1
    rw [Alt.unique ht ht' h4 k4 (h3.trans k3.symm)]

theorem Alt.evo {outer : Nat → Bool} : ∀ {s : List Nat}, Alt g mate next t s → (∀ x ∈ s, outer x = true) → EvO outer s
  | [x], _, h => h x (by simp)
  | x :: m :: s, ha, h => ⟨h x (by simp), Alt.evo ha.2.2.2 fun y hy => h y (by simp [hy])⟩

theorem EvO.append {outer : Nat → Bool} : ∀ {s : List Nat} {m : Nat} {l : List Nat} {b : Nat}, Alt g mate next b s → EvO outer s → EvO outer l → EvO outer (s ++ m :: l)
  | [_], _, _, _, _, h, k => ⟨h, k⟩
  | _ :: _ :: _, _, _, _, ha, h, k => ⟨h.1, EvO.append ha.2.2.2 h.2 k⟩

theorem Alt.pairs : ∀ {s : List Nat} {b m : Nat} {l : List Nat}, Alt g mate next b s → mate b = some m → Pairs mate l → Pairs mate (s ++ m :: l)
  | [x], b, m, l, h, hb, hl => by
    have : x = b := h
    subst this
    exact ⟨hb, hl⟩
  | _ :: _ :: _, _, _, _, h, hb, hl => ⟨h.1, Alt.pairs h.2.2.2 hb hl⟩

theorem Pairs.closed (back : ∀ a b, mate a = some b → mate b = some a) : ∀ {l : List Nat}, Pairs mate l → ∀ x ∈ l, ∃ y ∈ l, mate x = some y
  | [], _, x, hx => by cases hx
  | a :: m :: l, h, x, hx => by
    rcases List.mem_cons.1 hx with rfl | hx
    · exact ⟨m, by simp, h.1⟩
    rcases List.mem_cons.1 hx with rfl | hx
    · exact ⟨a, by simp, back _ _ h.1⟩
    · obtain ⟨y, hy, e⟩ := Pairs.closed back h.2 x hx
      exact ⟨y, by simp [hy], e⟩

/-- What is not outer stands behind its mate. -/
theorem EvO.before {outer : Nat → Bool} (back : ∀ a b, mate a = some b → mate b = some a) : ∀ {l : List Nat} {pre post : List Nat} {x : Nat}, Alt g mate next t l → EvO outer l → l = pre ++ x :: post → outer x = false → ∃ b ∈ pre, mate x = some b
  | [a], pre, post, x, _, ho, e, hx => by
    cases pre with
    | nil =>
      simp at e
      rw [← e.1] at hx
      have : outer a = true := ho
      rw [this] at hx
      cases hx
    | cons p pre => simp at e
  | a :: m :: l, pre, post, x, ha, ho, e, hx => by
    match pre, e with
    | [], e =>
      simp at e
      rw [← e.1] at hx
      rw [ho.1] at hx
      cases hx
    | [p], e =>
      simp at e
      obtain ⟨rfl, rfl, _⟩ := e
      exact ⟨_, by simp, back _ _ ha.1⟩
    | p :: p' :: pre, e =>
      simp at e
      obtain ⟨rfl, rfl, e⟩ := e
      obtain ⟨b, hb, hm⟩ := EvO.before back ha.2.2.2 ho.2 e hx
      exact ⟨b, by simp [hb], hm⟩
end

section
variable {g : Gr} {mate : Nat → Option Nat} {f : Fo} {h : Gh}

/-- Where what stands on a route belongs. -/
def Lab (mate : Nat → Option Nat) (f : Fo) (h : Gh) (v y : Nat) : Prop :=
  (f.outer y = true ∧ h.lev y ≤ h.lev v ∧ h.root y = h.root v) ∨ (f.outer y = false ∧ ∃ b, mate y = some b ∧ f.outer b = true ∧ h.base b = b ∧ h.lev b ≤ h.lev v ∧ h.root b = h.root v)

/-- The route from an outer vertex to its root. -/
structure Rt (g : Gr) (mate : Nat → Option Nat) (f : Fo) (h : Gh) (v : Nat) (l : List Nat) : Prop where
  head : l.head? = some v
  alt : Alt g mate f.next (h.root v) l
  nodup : l.Nodup
  free : mate (h.root v) = none
  lab : ∀ y ∈ l, Lab mate f h v y
  evo : EvO f.outer l

theorem Inv.baseB (I : Inv g mate f h) {v : Nat} (hv : f.outer v = true) : f.outer (h.base v) = true ∧ h.base (h.base v) = h.base v ∧ h.lev (h.base v) = h.lev v ∧ h.root (h.base v) = h.root v :=
  ⟨I.rout v _ hv (I.base v hv), I.baseC v _ hv (I.base v hv)⟩

theorem Lab.up {v u y : Nat} (hl : h.lev u ≤ h.lev v) (hr : h.root u = h.root v) (k : Lab mate f h u y) : Lab mate f h v y := by
  rcases k with ⟨a, b, c⟩ | ⟨a, b, c, d, e, e2, e3⟩
  · exact .inl ⟨a, by omega, by omega⟩
  · exact .inr ⟨a, b, c, d, e, by omega, by omega⟩

/-- A route is the way through its first ring, and what comes behind. -/
theorem Rt.ring (M : MtOk g mate) (I : Inv g mate f h) {v : Nat} (hv : f.outer v = true) {s : List Nat} (h1 : s.head? = some v) (h2 : Alt g mate f.next (h.base v) s) (h3 : ∀ x ∈ s, f.ring v x = true) (h4 : s.Nodup) {m : Nat} (hm : mate (h.base v) = some m) {l : List Nat} (r : Rt g mate f h (f.next m) l) :
    Rt g mate f h v (s ++ m :: l) := by
  obtain ⟨b1, b2, b3, b4⟩ := I.baseB hv
  obtain ⟨u1, u2, u3, u4, u5, u6⟩ := I.up _ _ b1 b2 hm
  have hroot : h.root (f.next m) = h.root v := u6.trans b4
  have hlev : h.lev (f.next m) < h.lev v := by omega
  have hsl : ∀ x ∈ s, f.outer x = true ∧ h.lev x = h.lev v ∧ h.root x = h.root v := fun x hx => ⟨I.rout v x hv (h3 x hx), (I.baseC v x hv (h3 x hx)).2⟩
  have hml : ∀ y ∈ l, f.outer y = true → h.lev y < h.lev v := by
    intro y hy ho
    rcases r.lab y hy with ⟨_, k, _⟩ | ⟨k, _⟩
    · omega
    · rw [ho] at k; cases k
  refine ⟨?_, ?_, ?_, ?_, ?_, ?_⟩
  · cases s with
    | nil => cases h1
    | cons a s => exact h1
  · rw [← hroot]; exact Alt.append h2 hm u3 r.head r.alt
  · rw [List.nodup_append]
    refine ⟨h4, ?_, ?_⟩
    · rw [List.nodup_cons]
      refine ⟨?_, r.nodup⟩
      intro hml2
      rcases r.lab m hml2 with ⟨k, _⟩ | ⟨_, b, k1, _, _, k4, _⟩
      · rw [u2] at k; cases k
      · rw [M.back _ _ hm] at k1
        cases k1
        omega
    · intro a ha b hb
      rcases List.mem_cons.1 hb with rfl | hb
      · rintro rfl
        have := (hsl _ ha).1
        rw [u2] at this
        cases this
      · rintro rfl
        have k1 := hsl _ ha
        have k2 := hml _ hb k1.1
        omega
  · rw [← hroot]; exact r.free
  · intro y hy
    rcases List.mem_append.1 hy with hy | hy
    · have k := hsl y hy
      exact .inl ⟨k.1, by omega, k.2.2⟩
    · rcases List.mem_cons.1 hy with rfl | hy
      · exact .inr ⟨u2, h.base v, M.back _ _ hm, b1, b2, by omega, b4⟩
      · exact (r.lab y hy).up (by omega) hroot
  · exact EvO.append h2 (h2.evo fun x hx => (hsl x hx).1) r.evo

theorem Rt.last (I : Inv g mate f h) {v : Nat} (hv : f.outer v = true) {s : List Nat} (h1 : s.head? = some v) (h2 : Alt g mate f.next (h.base v) s) (h3 : ∀ x ∈ s, f.ring v x = true) (h4 : s.Nodup) (hm : mate (h.base v) = none) : Rt g mate f h v s := by
  obtain ⟨b1, b2, b3, b4⟩ := I.baseB hv
  have k := (I.rootO _ (I.olt _ b1) hm).2.2
  have hroot : h.root v = h.base v := by rw [← b4]; exact k
  have hsl : ∀ x ∈ s, f.outer x = true ∧ h.lev x = h.lev v ∧ h.root x = h.root v := fun x hx => ⟨I.rout v x hv (h3 x hx), (I.baseC v x hv (h3 x hx)).2⟩
  exact ⟨h1, by rw [hroot]; exact h2, h4, by rw [hroot]; exact hm, fun y hy => .inl ⟨(hsl y hy).1, by have := (hsl y hy).2.1; omega, (hsl y hy).2.2⟩, h2.evo fun x hx => (hsl x hx).1⟩

theorem route_ex (M : MtOk g mate) (I : Inv g mate f h) : ∀ k v, f.outer v = true → h.lev v < k → ∃ l, Rt g mate f h v l
  | 0, _, _, hk => absurd hk (Nat.not_lt_zero _)
  | k + 1, v, hv, hk => by
    obtain ⟨s, h1, h2, h3, h4⟩ := I.seg v hv
    obtain ⟨b1, b2, b3, b4⟩ := I.baseB hv
    cases hm : mate (h.base v) with
    | none => exact ⟨s, Rt.last I hv h1 h2 h3 h4 hm⟩
    | some m =>
      obtain ⟨u1, u2, u3, u4, u5, u6⟩ := I.up _ _ b1 b2 hm
      obtain ⟨l, r⟩ := route_ex M I k _ u4 (by omega)
      exact ⟨_, Rt.ring M I hv h1 h2 h3 h4 hm r⟩

theorem Inv.route (M : MtOk g mate) (I : Inv g mate f h) {v : Nat} (hv : f.outer v = true) : ∃ l, Rt g mate f h v l := route_ex M I (h.lev v + 1) v hv (by omega)

theorem Rt.unique {v : Nat} {l l' : List Nat} (r : Rt g mate f h v l) (r' : Rt g mate f h v l') : l = l' := Alt.unique r.free r'.free r.alt r'.alt (r.head.trans r'.head.symm)

/-- A route up to a ring T on it. -/
structure Climb (g : Gr) (mate : Nat → Option Nat) (f : Fo) (h : Gh) (T : Nat → Bool) (v : Nat) (L : List Nat) (e : Nat) (R : List Nat) : Prop where
  rt : Rt g mate f h v (L ++ e :: R)
  ring : f.ring e = T
  eo : f.outer e = true
  er : Rt g mate f h e (e :: R)
  out : ∀ x ∈ L, f.ring x ≠ T
  pairs : Pairs mate L
  base : ∀ x ∈ L, f.outer x = true → h.base x ∈ L
  lev : h.lev e ≤ h.lev v
  levs : ∀ x ∈ L, f.outer x = true → h.lev e ≤ h.lev x

theorem climb_ex (G : GrOk g) (M : MtOk g mate) (I : Inv g mate f h) (T : Nat → Bool) : ∀ k v l, f.outer v = true → h.lev v < k → Rt g mate f h v l → (∃ y ∈ l, f.outer y = true ∧ f.ring y = T) → ∃ L e R, Climb g mate f h T v L e R
  | 0, _, _, _, hk, _, _ => absurd hk (Nat.not_lt_zero _)
  | k + 1, v, l, hv, hk, r, ⟨y, hy, hyo, hyT⟩ => by
    by_cases hT : f.ring v = T
    · cases l with
      | nil => exact absurd r.head (by simp)
      | cons a R =>
        have : a = v := by simpa using r.head
        subst this
        exact ⟨[], a, R, ⟨r, hT, hv, r, by simp, trivial, by simp, Nat.le_refl _, by simp⟩⟩
    · obtain ⟨s, h1, h2, h3, h4⟩ := I.seg v hv
      obtain ⟨b1, b2, b3, b4⟩ := I.baseB hv
      have hsT : ∀ x ∈ s, f.ring x ≠ T := fun x hx e => hT (by rw [← I.same v x (h3 x hx)]; exact e)
      cases hm : mate (h.base v) with
      | none =>
        have e := r.unique (Rt.last I hv h1 h2 h3 h4 hm)
        subst e
        exact absurd hyT (hsT y hy)
      | some m =>
        obtain ⟨u1, u2, u3, u4, u5, u6⟩ := I.up _ _ b1 b2 hm
        obtain ⟨l', r'⟩ := route_ex M I k _ u4 (by omega)
        have hr := Rt.ring M I hv h1 h2 h3 h4 hm r'
        have e := r.unique hr
        subst e
        have hy' : y ∈ l' := by
          rcases List.mem_append.1 hy with hy | hy
          · exact absurd hyT (hsT y hy)
          · rcases List.mem_cons.1 hy with rfl | hy
            · rw [u2] at hyo; cases hyo
            · exact hy
        obtain ⟨L, e, R, c⟩ := climb_ex G M I T k _ l' u4 (by omega) r' ⟨y, hy', hyo, hyT⟩
        have e2 := r'.unique c.rt
        subst e2
        refine ⟨s ++ m :: L, e, R, ⟨by simpa using hr, c.ring, c.eo, c.er, ?_, Alt.pairs h2 hm c.pairs, ?_, by have := c.lev; omega, ?_⟩⟩
        · intro x hx
          rcases List.mem_append.1 hx with hx | hx
          · exact hsT x hx
          · rcases List.mem_cons.1 hx with rfl | hx
            · intro e
              have hx24 := I.ilt _ u1
              have k1 : f.ring y x = true := by rw [hyT, ← e]; exact I.self x (by have := G.n24; omega)
              have := I.rout y x hyo k1
              rw [u2] at this
              cases this
            · exact c.out x hx
        · intro x hx hxo
          rcases List.mem_append.1 hx with hx | hx
          · rw [(I.baseC v x hv (h3 x hx)).1]
            exact List.mem_append_left _ h2.mem
          · rcases List.mem_cons.1 hx with rfl | hx
            · rw [u2] at hxo; cases hxo
            · exact List.mem_append_right _ (List.mem_cons_of_mem _ (c.base x hx hxo))
        · intro x hx hxo
          rcases List.mem_append.1 hx with hx | hx
          · have k := (I.baseC v x hv (h3 x hx)).2.1
            have := c.lev
            omega
          · rcases List.mem_cons.1 hx with rfl | hx
            · rw [u2] at hxo; cases hxo
            · exact c.levs x hx hxo
end
end Go.Proofs.YtcabaecbmkgclaaGreatDoor.Mt

namespace Go.Proofs.YtcabaecbmkgclaaGreatDoor.Mt

def setAt {α : Type} (f : Nat → α) (k : Nat) (v : α) : Nat → α := fun x => if x = k then v else f x

/-- Routes that come to one side of a ring from a mate go back down that side. -/
def turn (next : Nat → Nat) : List Nat → Nat → (Nat → Nat)
  | x :: m :: l, b => turn (setAt next x b) l m
  | [_], _ => next
  | [], _ => next

def Turned (N : Nat → Nat) : List Nat → Nat → Prop
  | x :: m :: l, b => N x = b ∧ Turned N l m
  | [_], _ => True
  | [], _ => True

def Edges (g : Gr) : List Nat → Nat → Prop
  | x :: m :: l, b => g.adj x b = true ∧ Edges g l m
  | [_], _ => True
  | [], _ => True

def OddIn : List Nat → Nat → Prop
  | _ :: m :: l, y => y = m ∨ OddIn l y
  | [_], _ => False
  | [], _ => False

def EvenIn : List Nat → Nat → Prop
  | x :: _ :: l, y => y = x ∨ EvenIn l y
  | [x], y => y = x
  | [], _ => False

theorem oddIn_mem : ∀ {l : List Nat} {y : Nat}, OddIn l y → y ∈ l
  | _ :: m :: l, y, h => by
    rcases h with rfl | h
    · simp
    · simp [oddIn_mem h]
theorem evenIn_mem : ∀ {l : List Nat} {y : Nat}, EvenIn l y → y ∈ l
  | [x], y, h => by have : y = x := h; simp [this]
  | x :: m :: l, y, h => by
    rcases h with rfl | h
    · simp
    · simp [evenIn_mem h]
theorem mem_even_or_odd : ∀ {l : List Nat} {y : Nat}, y ∈ l → EvenIn l y ∨ OddIn l y
  | [x], y, h => by simp at h; exact .inl h
  | x :: m :: l, y, h => by
    rcases List.mem_cons.1 h with rfl | h
    · exact .inl (.inl rfl)
    rcases List.mem_cons.1 h with rfl | h
    · exact .inr (.inl rfl)
    · rcases mem_even_or_odd h with h | h
      · exact .inl (.inr h)
      · exact .inr (.inr h)

theorem odd_not_even : ∀ {l : List Nat} {y : Nat}, l.Nodup → OddIn l y → ¬ EvenIn l y
  | x :: m :: l, y, hn, ho, he => by
    simp only [List.nodup_cons, List.mem_cons, not_or] at hn
    rcases ho with rfl | ho
    · rcases he with rfl | he
      · exact hn.1.1 rfl
      · exact hn.2.1 (evenIn_mem he)
    · rcases he with rfl | he
      · exact hn.1.2 (oddIn_mem ho)
      · exact odd_not_even hn.2.2 ho he

theorem turn_other : ∀ {l : List Nat} {next : Nat → Nat} {b y : Nat}, ¬ EvenIn l y → turn next l b y = next y
  | [], _, _, _, _ => rfl
  | [_], _, _, _, _ => rfl
  | x :: m :: l, next, b, y, h => by
    have h1 : ¬ y = x := fun e => h (.inl e)
    have h2 : ¬ EvenIn l y := fun e => h (.inr e)
    show turn (setAt next x b) l m y = next y
    rw [turn_other h2, setAt, if_neg h1]

theorem turned_congr : ∀ {l : List Nat} {N N' : Nat → Nat} {b : Nat}, Turned N l b → (∀ y, y ∈ l → N' y = N y) → Turned N' l b
  | [], _, _, _, _, _ => trivial
  | [_], _, _, _, _, _ => trivial
  | x :: m :: l, N, N', b, h, hc => ⟨(hc x (by simp)).trans h.1, turned_congr h.2 fun y hy => hc y (by simp [hy])⟩

theorem turn_turned : ∀ {l : List Nat} {next : Nat → Nat} {b : Nat}, l.Nodup → Turned (turn next l b) l b
  | [], _, _, _ => trivial
  | [_], _, _, _ => trivial
  | x :: m :: l, next, b, hn => by
    simp only [List.nodup_cons, List.mem_cons, not_or] at hn
    refine ⟨?_, turn_turned hn.2.2⟩
    show turn (setAt next x b) l m x = b
    rw [turn_other (fun e => hn.1.2 (evenIn_mem e)), setAt, if_pos rfl]

section
variable {g : Gr} {mate : Nat → Option Nat} {next N : Nat → Nat} {t : Nat}

theorem Alt.congr : ∀ {l : List Nat}, Alt g mate next t l → (∀ m, OddIn l m → N m = next m) → Alt g mate N t l
  | [x], h, _ => h
  | x :: m :: l, h, hc => by
    obtain ⟨h1, h2, h3, h4⟩ := h
    have e := hc m (.inl rfl)
    exact ⟨h1, by rw [e]; exact h2, by rw [e]; exact h3, Alt.congr h4 fun y hy => hc y (.inr hy)⟩

theorem oddIn_append : ∀ {L s : List Nat} {y : Nat}, Pairs mate L → OddIn (L ++ s) y → OddIn L y ∨ OddIn s y
  | [], _, _, _, h => .inr h
  | _ :: m :: L, s, y, hp, h => by
    rcases h with rfl | h
    · exact .inl (.inl rfl)
    · rcases oddIn_append hp.2 h with h | h
      · exact .inl (.inr h)
      · exact .inr h

/-- The same way up to e, and another way on from there. -/
theorem Alt.swap {r e : Nat} : ∀ {L R s : List Nat}, Alt g mate next r (L ++ e :: R) → Pairs mate L → Alt g mate next t s → s.head? = some e → Alt g mate next t (L ++ s)
  | [], _, _, _, _, h, _ => h
  | x :: m :: L, R, s, ha, hp, h, hs => by
    obtain ⟨h1, h2, h3, h4⟩ := ha
    refine ⟨h1, h2, ?_, Alt.swap h4 hp.2 h hs⟩
    cases L with
    | nil =>
      show s.head? = some (next m)
      rw [hs]; exact h3
    | cons y L => exact h3

theorem Alt.edges (G : GrOk g) {r e : Nat} : ∀ {L R : List Nat} {b : Nat}, Alt g mate next r (L ++ e :: R) → Pairs mate L → (∀ x, (L ++ e :: R).head? = some x → g.adj x b = true) → Edges g L b
  | [], _, _, _, _, _ => trivial
  | x :: m :: L, R, b, ha, hp, hb => by
    obtain ⟨h1, h2, h3, h4⟩ := ha
    refine ⟨hb x rfl, Alt.edges G h4 hp.2 fun y hy => ?_⟩
    have h3' : (L ++ e :: R).head? = some (next m) := h3
    rw [h3'] at hy
    cases hy
    exact G.sym _ _ h2

theorem fwd_ex : ∀ {L s : List Nat} {y : Nat}, Alt g mate N t (L ++ s) → Pairs mate L → (L ++ s).Nodup → EvenIn L y → ∃ l, l.head? = some y ∧ Alt g mate N t l ∧ (∀ z ∈ l, z ∈ L ++ s) ∧ l.Nodup
  | x :: m :: L, s, y, ha, hp, hn, he => by
    rcases he with rfl | he
    · exact ⟨_, rfl, ha, fun z hz => hz, hn⟩
    · have hn2 : (L ++ s).Nodup := by
        simp only [List.cons_append, List.nodup_cons] at hn
        exact hn.2.2
      obtain ⟨l, h1, h2, h3, h4⟩ := fwd_ex (L := L) ha.2.2.2 hp.2 hn2 he
      exact ⟨l, h1, h2, fun z hz => by have := h3 z hz; simp only [List.cons_append, List.mem_cons]; exact .inr (.inr this), h4⟩

theorem back_ex (back : ∀ a b, mate a = some b → mate b = some a) : ∀ {L r : List Nat} {b y : Nat}, Pairs mate L → Turned N L b → Edges g L b → L.Nodup → r.head? = some b → Alt g mate N t r → r.Nodup → (∀ x ∈ L, x ∉ r) → OddIn L y →
    ∃ l, l.head? = some y ∧ Alt g mate N t l ∧ (∀ z ∈ l, z ∈ L ∨ z ∈ r) ∧ l.Nodup
  | x :: m :: L, r, b, y, hp, ht, he, hn, hr, ha, hrn, hd, ho => by
    simp only [List.nodup_cons, List.mem_cons, not_or] at hn
    have hr2 : Alt g mate N t (m :: x :: r) := ⟨back _ _ hp.1, by rw [ht.1]; exact he.1, by rw [ht.1]; exact hr, ha⟩
    have hn2 : (m :: x :: r).Nodup := by
      simp only [List.nodup_cons, List.mem_cons, not_or]
      exact ⟨⟨fun e => hn.1.1 e.symm, hd m (by simp)⟩, hd x (by simp), hrn⟩
    rcases ho with rfl | ho
    · exact ⟨_, rfl, hr2, fun z hz => by simp only [List.mem_cons] at hz ⊢; rcases hz with h | h | h <;> simp [h], hn2⟩
    · obtain ⟨l, h1, h2, h3, h4⟩ := back_ex back hp.2 ht.2 he.2 hn.2.2 rfl hr2 hn2 (fun z hz => by
        simp only [List.mem_cons, not_or]
        exact ⟨fun e => hn.2.1 (e ▸ hz), fun e => hn.1.2 (e ▸ hz), hd z (by simp [hz])⟩) ho
      refine ⟨l, h1, h2, fun z hz => ?_, h4⟩
      rcases h3 z hz with h | h
      · exact .inl (by simp [h])
      · simp only [List.mem_cons] at h
        rcases h with h | h | h
        · exact .inl (by simp [h])
        · exact .inl (by simp [h])
        · exact .inr h

/-- From a vertex of a ring that the side passes, by its old way till it meets the side, and then by the new one. -/
theorem ring_ex (back : ∀ a b, mate a = some b → mate b = some a) {L : List Nat} (A : Nat → Prop) (O : Nat → Prop) (hcl : ∀ x ∈ L, ∃ y ∈ L, mate x = some y)
    (hside : ∀ x ∈ L, ∃ l, l.head? = some x ∧ Alt g mate N t l ∧ (∀ z ∈ l, z ∈ L ∨ O z) ∧ l.Nodup) (hO : ∀ z, A z → ¬ O z) (hN : ∀ m, A m → m ∉ L → N m = next m) {b : Nat} (hb : b ∈ L) :
    ∀ {s : List Nat}, Alt g mate next b s → (∀ x ∈ s, A x) → s.Nodup → ∃ l, l.head? = s.head? ∧ Alt g mate N t l ∧ (∀ z ∈ l, z ∈ s ∨ z ∈ L ∨ O z) ∧ l.Nodup
  | [x], ha, _, _ => by
    have : x = b := ha
    subst this
    obtain ⟨l, h1, h2, h3, h4⟩ := hside x hb
    exact ⟨l, h1, h2, fun z hz => .inr (h3 z hz), h4⟩
  | x :: m :: s, ha, hA, hn => by
    by_cases hx : x ∈ L
    · obtain ⟨l, h1, h2, h3, h4⟩ := hside x hx
      exact ⟨l, h1, h2, fun z hz => .inr (h3 z hz), h4⟩
    · obtain ⟨a1, a2, a3, a4⟩ := ha
      have hm : m ∉ L := by
        intro hm
        obtain ⟨y, hy, e⟩ := hcl m hm
        rw [back _ _ a1] at e
        cases e
        exact hx hy
      have e := hN m (hA m (by simp)) hm
      simp only [List.nodup_cons, List.mem_cons, not_or] at hn
      obtain ⟨l, h1, h2, h3, h4⟩ := ring_ex back A O hcl hside hO hN hb a4 (fun y hy => hA y (by simp [hy])) hn.2.2
      refine ⟨x :: m :: l, rfl, ⟨a1, by rw [e]; exact a2, by rw [e, h1]; exact a3, h2⟩, ?_, ?_⟩
      · intro z hz
        simp only [List.mem_cons] at hz ⊢
        rcases hz with h | h | h
        · exact .inl (.inl h)
        · exact .inl (.inr (.inl h))
        · rcases h3 z h with k | k
          · exact .inl (.inr (.inr k))
          · exact .inr k
      · simp only [List.nodup_cons, List.mem_cons, not_or]
        refine ⟨⟨hn.1.1, ?_⟩, ?_, h4⟩
        · intro hz
          rcases h3 x hz with k | k | k
          · exact hn.1.2 k
          · exact hx k
          · exact hO x (hA x (by simp)) k
        · intro hz
          rcases h3 m hz with k | k | k
          · exact hn.2.1 k
          · exact hm k
          · exact hO m (hA m (by simp)) k
end

section
variable {g : Gr} {mate : Nat → Option Nat} {f : Fo} {h : Gh}

/-- Two ways that meet in one ring first. -/
structure Meet (g : Gr) (mate : Nat → Option Nat) (f : Fo) (h : Gh) (T : Nat → Bool) (v w : Nat) (L L' : List Nat) (e e' : Nat) (R R' : List Nat) : Prop where
  l : Climb g mate f h T v L e R
  r : Climb g mate f h T w L' e' R'
  apart : ∀ x ∈ L, ∀ y ∈ L', f.ring x ≠ f.ring y
  vw : g.adj v w = true

theorem Meet.flip (G : GrOk g) {T : Nat → Bool} {v w : Nat} {L L' : List Nat} {e e' : Nat} {R R' : List Nat} (m : Meet g mate f h T v w L L' e e' R R') : Meet g mate f h T w v L' L e' e R' R :=
  ⟨m.r, m.l, fun x hx y hy k => m.apart y hy x hx k.symm, G.sym _ _ m.vw⟩

/-- All that a contraction takes up. -/
def whole (f : Fo) (T : Nat → Bool) (l : List Nat) : Nat → Bool := fun x => T x || l.any fun y => f.ring y x

theorem whole_iff {T : Nat → Bool} {l : List Nat} {x : Nat} : whole f T l x = true ↔ T x = true ∨ ∃ y ∈ l, f.ring y x = true := by
  unfold whole
  simp

theorem Inv.cls (I : Inv g mate f h) {y z x : Nat} (hy : f.ring y x = true) (hz : f.ring z x = true) : f.ring y = f.ring z := (I.same y x hy).symm.trans (I.same z x hz)

theorem Climb.memLt (G : GrOk g) (M : MtOk g mate) (I : Inv g mate f h) {T : Nat → Bool} {v : Nat} {L : List Nat} {e : Nat} {R : List Nat} (c : Climb g mate f h T v L e R) : ∀ x ∈ L, x < g.n := by
  intro x hx
  rcases c.rt.lab x (List.mem_append_left _ hx) with k | ⟨_, b, k, _⟩
  · exact I.olt x k.1
  · exact (G.lt _ _ (M.adj _ _ k)).1

/-- The way within the top ring, from where a side comes into it. -/
theorem Climb.top (I : Inv g mate f h) {T : Nat → Bool} {v : Nat} {L : List Nat} {e : Nat} {R : List Nat} (c : Climb g mate f h T v L e R) : ∃ s, s.head? = some e ∧ Alt g mate f.next (h.base e) s ∧ (∀ x ∈ s, T x = true) ∧ s.Nodup := by
  obtain ⟨s, h1, h2, h3, h4⟩ := I.seg e c.eo
  exact ⟨s, h1, h2, fun x hx => by rw [← c.ring]; exact h3 x hx, h4⟩

/-- Each vertex of the rings of a side has its way to the base of the top ring. -/
theorem side_ex (G : GrOk g) (M : MtOk g mate) (I : Inv g mate f h) {T : Nat → Bool} {v w : Nat} {L L' : List Nat} {e e' : Nat} {R R' : List Nat} (m : Meet g mate f h T v w L L' e e' R R') (N : Nat → Nat)
    (hN : ∀ y, ¬ EvenIn L y → ¬ EvenIn L' y → N y = f.next y) (hT : Turned N L w) {x y : Nat} (hy : y ∈ L) (hx : f.ring y x = true) :
    ∃ l, l.head? = some x ∧ Alt g mate N (h.base e) l ∧ (∀ z ∈ l, whole f T (L ++ L') z = true) ∧ l.Nodup := by
  have hLn : ∀ z ∈ L, z < 24 := fun z hz => Nat.lt_of_lt_of_le (m.l.memLt G M I z hz) G.n24
  have hLn' : ∀ z ∈ L', z < 24 := fun z hz => Nat.lt_of_lt_of_le (m.r.memLt G M I z hz) G.n24
  have hnT : ∀ z, z ∈ L → T z ≠ true := fun z hz k => m.l.out z hz (by rw [← m.l.ring] at k ⊢; exact I.same e z k)
  have hnT' : ∀ z, z ∈ L' → T z ≠ true := fun z hz k => m.r.out z hz (by rw [← m.r.ring] at k ⊢; exact I.same e' z k)
  have hLL : ∀ z, z ∈ L → z ∉ L' := fun z hz hz' => m.apart z hz z hz' rfl
  have hndL : L.Nodup := (List.nodup_append.1 m.l.rt.nodup).1
  have hndL' : L'.Nodup := (List.nodup_append.1 m.r.rt.nodup).1
  have hbb : h.base e' = h.base e := by
    have k : f.ring e e' = true := by
      rw [m.l.ring, ← m.r.ring]
      exact I.self e' (Nat.lt_of_lt_of_le (I.olt _ m.r.eo) G.n24)
    exact (I.baseC e e' m.l.eo k).1
  obtain ⟨s, s1, s2, s3, s4⟩ := m.l.top I
  obtain ⟨s', s1', s2', s3', s4'⟩ := m.r.top I
  have fL : Alt g mate N (h.base e) (L ++ s) := by
    refine Alt.congr (Alt.swap m.l.rt.alt m.l.pairs s2 s1) fun z hz => ?_
    rcases oddIn_append m.l.pairs hz with hz | hz
    · exact hN z (odd_not_even hndL hz) (fun k => hLL z (oddIn_mem hz) (evenIn_mem k))
    · exact hN z (fun k => hnT z (evenIn_mem k) (s3 z (oddIn_mem hz))) (fun k => hnT' z (evenIn_mem k) (s3 z (oddIn_mem hz)))
  have fR : Alt g mate N (h.base e) (L' ++ s') := by
    rw [← hbb]
    refine Alt.congr (Alt.swap m.r.rt.alt m.r.pairs s2' s1') fun z hz => ?_
    rcases oddIn_append m.r.pairs hz with hz | hz
    · exact hN z (fun k => hLL z (evenIn_mem k) (oddIn_mem hz)) (odd_not_even hndL' hz)
    · exact hN z (fun k => hnT z (evenIn_mem k) (s3' z (oddIn_mem hz))) (fun k => hnT' z (evenIn_mem k) (s3' z (oddIn_mem hz)))
  have nL : (L ++ s).Nodup := List.nodup_append.2 ⟨hndL, s4, fun a ha b hb k => hnT a ha (k ▸ s3 b hb)⟩
  have nR : (L' ++ s').Nodup := List.nodup_append.2 ⟨hndL', s4', fun a ha b hb k => hnT' a ha (k ▸ s3' b hb)⟩
  have hR0 : (L' ++ s').head? = some w := by
    have k := m.r.rt.head
    cases L' with
    | nil =>
      simp at k
      rw [List.nil_append, s1', k]
    | cons a l => simpa using k
  have hv : (L ++ e :: R).head? = some v := m.l.rt.head
  have hed : Edges g L w := Alt.edges G m.l.rt.alt m.l.pairs fun z hz => by
    rw [hv] at hz
    cases hz
    exact m.vw
  have hdis : ∀ z ∈ L, z ∉ L' ++ s' := by
    intro z hz k
    rcases List.mem_append.1 k with k | k
    · exact hLL z hz k
    · exact hnT z hz (s3' z k)
  have hside : ∀ z ∈ L, ∃ l, l.head? = some z ∧ Alt g mate N (h.base e) l ∧ (∀ u ∈ l, u ∈ L ∨ (T u = true ∨ u ∈ L')) ∧ l.Nodup := by
    intro z hz
    rcases mem_even_or_odd hz with k | k
    · obtain ⟨l, h1, h2, h3, h4⟩ := fwd_ex fL m.l.pairs nL k
      refine ⟨l, h1, h2, fun u hu => ?_, h4⟩
      rcases List.mem_append.1 (h3 u hu) with k | k
      · exact .inl k
      · exact .inr (.inl (s3 u k))
    · obtain ⟨l, h1, h2, h3, h4⟩ := back_ex M.back m.l.pairs hT hed hndL hR0 fR nR hdis k
      refine ⟨l, h1, h2, fun u hu => ?_, h4⟩
      rcases h3 u hu with k | k
      · exact .inl k
      · rcases List.mem_append.1 k with k | k
        · exact .inr (.inr k)
        · exact .inr (.inl (s3' u k))
  have wh : ∀ u, u ∈ L ∨ (T u = true ∨ u ∈ L') → whole f T (L ++ L') u = true := by
    rintro u (k | k | k)
    · exact whole_iff.2 (.inr ⟨u, List.mem_append_left _ k, I.self u (hLn u k)⟩)
    · exact whole_iff.2 (.inl k)
    · exact whole_iff.2 (.inr ⟨u, List.mem_append_right _ k, I.self u (hLn' u k)⟩)
  by_cases hyo : f.outer y = true
  · have hxo := I.rout y x hyo hx
    obtain ⟨s0, k1, k2, k3, k4⟩ := I.seg x hxo
    have hb : h.base x ∈ L := by
      rw [(I.baseC y x hyo hx).1]
      exact m.l.base y hy hyo
    have hA : ∀ z, f.ring x z = true → f.ring y z = true := fun z hz => by rw [← I.same y x hx]; exact hz
    obtain ⟨l, h1, h2, h3, h4⟩ := ring_ex (g := g) (N := N) (next := f.next) M.back (L := L) (fun z => f.ring x z = true) (fun z => T z = true ∨ z ∈ L') (Pairs.closed M.back m.l.pairs) hside (by
        rintro z hz (k | k)
        · refine m.l.out y hy ?_
          rw [← m.l.ring] at k ⊢
          exact I.cls (hA z hz) k
        · exact m.apart y hy z k ((I.same y z (hA z hz)).symm)) (by
        intro z hz hzL
        refine hN z (fun k => hzL (evenIn_mem k)) (fun k => ?_)
        exact m.apart y hy z (evenIn_mem k) ((I.same y z (hA z hz)).symm)) hb k2 k3 k4
    refine ⟨l, h1.trans k1, h2, fun z hz => ?_, h4⟩
    rcases h3 z hz with k | k
    · exact whole_iff.2 (.inr ⟨y, List.mem_append_left _ hy, hA z (k3 z k)⟩)
    · exact wh z k
  · have hyo : f.outer y = false := by simpa using hyo
    have := I.single y x hyo hx
    subst this
    obtain ⟨l, h1, h2, h3, h4⟩ := hside x hy
    exact ⟨l, h1, h2, fun z hz => wh z (h3 z hz), h4⟩
end
end Go.Proofs.YtcabaecbmkgclaaGreatDoor.Mt
