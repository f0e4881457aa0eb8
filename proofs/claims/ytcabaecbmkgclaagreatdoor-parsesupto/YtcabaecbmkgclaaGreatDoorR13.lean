/-
  The document's brackets.
-/
import Derived.Test.YtcabaecbmkgclaaGreatDoorR12
import Derived.Deep.DeepCutAuto
namespace Go.Proofs.YtcabaecbmkgclaaGreatDoor
open Go.RowKit Bz
theorem byteAt_extract (s : ByteArray) (i j : Nat) : byteAt (s.extract i s.size) j = byteAt s (i + j) := by
  by_cases h2 : i + j < s.size
  · have h : j < (s.extract i s.size).size := by rw [size_extract]; omega
    rw [byteAt_lt _ _ h, byteAt_lt _ _ h2, ByteArray.getElem_extract]
  · have h : ¬ j < (s.extract i s.size).size := by rw [size_extract]; omega
    rw [byteAt_ge _ _ h, byteAt_ge _ _ h2]

theorem rname_extract (s : ByteArray) (i : Nat) : rname (s.extract i s.size) 0 = rname s i := by
  unfold rname element
  simp only [byteAt_extract, Nat.add_zero, Nat.zero_add]

theorem rname_at (w : World) (s : ByteArray) (i : Nat) (hs : s.size ≤ 160) : Calls Tryz.prog 120 #[.string (s.extract i s.size)] w fun e w' => e = .returned (nameV (rname s i)) ∧ Below w.heap.size w w' := by
  have := rname_any w (s.extract i s.size) (by rw [size_extract]; omega)
  rw [rname_extract] at this
  exact this

theorem rname_none {s : ByteArray} {i : Nat} (h : element s i = none) : rname s i = (⟨#[]⟩, false, 0) := by unfold rname; rw [h]
theorem rname_some {s : ByteArray} {i : Nat} {x : ByteArray × Bool × Nat} (h : element s i = some x) : rname s i = x := by unfold rname; rw [h]

def plainV (a : Atm) : Value := .agg #[.string a.el, .bool a.aro, .int .i64 a.ch, .int .i64 a.hy]

/-- What stands in brackets behind the first. -/
def inner (s : ByteArray) (i : Nat) : R (ByteArray × Bool × Int × Int × Nat) := match element s i with
  | none => .error (2, (i : Int))
  | some (el, ar, n) => match bracket s (i + n) with
    | .error e => .error e
    | .ok (ch, hy, j) => .ok (el, ar, ch, hy, j)

/-- The reader, and an atom in its box. -/
structure AtR (w0 w : World) (B : Nat) (s : ByteArray) (p : RSt) (L : Nat) (a : Atm) : Prop where
  rd : RRd w B s p
  c0 : w.cell? ⟨L, 0, none⟩ = some (.string a.el)
  c1 : w.cell? ⟨L, 1, none⟩ = some (.bool a.aro)
  c2 : w.cell? ⟨L, 2, none⟩ = some (.int .i64 a.ch)
  c3 : w.cell? ⟨L, 3, none⟩ = some (.int .i64 a.hy)
  fz : ∀ i, w.frozen? ⟨L, i, none⟩ = false
  nm : ¬ RMine w B L
  ge : w0.heap.size ≤ L
  fr : RFr B w0 w

section
variable {w0 w w1 : World} {B : Nat} {s : ByteArray} {p q : RSt} {L : Nat} {a : Atm}
theorem AtR.lt (h : AtR w0 w B s p L a) : L < w.heap.size := World.block_lt_of_cell? w ⟨L, 0, none⟩ h.c0
theorem AtR.ne (h : AtR w0 w B s p L a) : L ≠ B := fun e => h.nm (.inl e)

theorem AtR.step (h : AtR w0 w B s p L a) (hr : RRd w1 B s q) (hf : RFr B w w1) : AtR w0 w1 B s q L a :=
  ⟨hr, by rw [hf.cell h.lt h.nm]; exact h.c0, by rw [hf.cell h.lt h.nm]; exact h.c1, by rw [hf.cell h.lt h.nm]; exact h.c2, by rw [hf.cell h.lt h.nm]; exact h.c3,
    fun i => by rw [hf.frozen h.lt h.nm]; exact h.fz i, fun e => h.nm (hf.mine L h.lt e), h.ge, h.fr.trans hf⟩

theorem AtR.drewN (h : AtR w0 w B s p L a) (n : Nat) : AtR w0 (w.drewN n) B s p L a := h.step (h.rd.drewN n) ((RFr.refl B w).drewN n)
theorem AtR.drew (h : AtR w0 w B s p L a) : AtR w0 w.drew B s p L a := h.step h.rd.drew (RFr.refl B w).drew
theorem AtR.below (h : AtR w0 w B s p L a) (hb : Below w.heap.size w w1) : AtR w0 w1 B s p L a := h.step (h.rd.below hb) ((RFr.refl B w).below h.rd.lt hb)
theorem AtR.setPos (h : AtR w0 w B s p L a) (n : Nat) (u : Value) (hu : u = .int .i64 n) : AtR w0 (w.setCell ⟨B, 1, none⟩ u) B s { p with pos := n } L a := h.step (h.rd.setPos n u hu) ((RFr.refl B w).setPos u)

theorem nm_set {w : World} {B L M : Nat} (h : ¬ RMine w B L) (hM : M ≠ B) (i : Nat) (u : Value) : ¬ RMine (w.setCell ⟨M, i, none⟩ u) B L := fun e => h ((RMine.same (Below.heap_setCell _ _ _ _ (by simpa using fun e => hM e.symm))).1 e)

/-- A store into another box. -/
theorem AtR.setO (h : AtR w0 w B s p L a) (M i : Nat) (u : Value) (hM : M ≠ L) (hm : ¬ RMine w B M) (hg : w0.heap.size ≤ M) : AtR w0 (w.setCell ⟨M, i, none⟩ u) B s p L a := by
  have hMB : M ≠ B := fun e => hm (.inl e)
  have hc : ∀ j, (w.setCell ⟨M, i, none⟩ u).cell? ⟨L, j, none⟩ = w.cell? ⟨L, j, none⟩ := fun j => World.cell?_setCell_other w _ _ u (fun e => hM (by simpa using congrArg Addr.block e))
  exact ⟨h.rd.setOther hm u, by rw [hc]; exact h.c0, by rw [hc]; exact h.c1, by rw [hc]; exact h.c2, by rw [hc]; exact h.c3, fun j => by rw [World.frozen?_setCell]; exact h.fz j,
    nm_set h.nm hMB i u, h.ge, h.fr.setCell (.inr hg) (fun e => absurd e hMB) u⟩

theorem AtR.setEl (h : AtR w0 w B s p L a) (x : ByteArray) : AtR w0 (w.setCell ⟨L, 0, none⟩ (.string x)) B s p L { a with el := x } :=
  ⟨h.rd.setOther h.nm _, World.cell?_setCell_same w _ _ h.c0, by rw [cell_set_ne (by omega)]; exact h.c1, by rw [cell_set_ne (by omega)]; exact h.c2, by rw [cell_set_ne (by omega)]; exact h.c3, fun j => by rw [World.frozen?_setCell]; exact h.fz j,
    nm_set h.nm h.ne _ _, h.ge, h.fr.setCell (.inr h.ge) (fun e => absurd e h.ne) _⟩
theorem AtR.setAro (h : AtR w0 w B s p L a) (x : Bool) : AtR w0 (w.setCell ⟨L, 1, none⟩ (.bool x)) B s p L { a with aro := x } :=
  ⟨h.rd.setOther h.nm _, by rw [cell_set_ne (by omega)]; exact h.c0, World.cell?_setCell_same w _ _ h.c1, by rw [cell_set_ne (by omega)]; exact h.c2, by rw [cell_set_ne (by omega)]; exact h.c3, fun j => by rw [World.frozen?_setCell]; exact h.fz j,
    nm_set h.nm h.ne _ _, h.ge, h.fr.setCell (.inr h.ge) (fun e => absurd e h.ne) _⟩
theorem AtR.setCh (h : AtR w0 w B s p L a) (x : Int) : AtR w0 (w.setCell ⟨L, 2, none⟩ (.int .i64 x)) B s p L { a with ch := x } :=
  ⟨h.rd.setOther h.nm _, by rw [cell_set_ne (by omega)]; exact h.c0, by rw [cell_set_ne (by omega)]; exact h.c1, World.cell?_setCell_same w _ _ h.c2, by rw [cell_set_ne (by omega)]; exact h.c3, fun j => by rw [World.frozen?_setCell]; exact h.fz j,
    nm_set h.nm h.ne _ _, h.ge, h.fr.setCell (.inr h.ge) (fun e => absurd e h.ne) _⟩
theorem AtR.setHy (h : AtR w0 w B s p L a) (x : Int) : AtR w0 (w.setCell ⟨L, 3, none⟩ (.int .i64 x)) B s p L { a with hy := x } :=
  ⟨h.rd.setOther h.nm _, by rw [cell_set_ne (by omega)]; exact h.c0, by rw [cell_set_ne (by omega)]; exact h.c1, by rw [cell_set_ne (by omega)]; exact h.c2, World.cell?_setCell_same w _ _ h.c3, fun j => by rw [World.frozen?_setCell]; exact h.fz j,
    nm_set h.nm h.ne _ _, h.ge, h.fr.setCell (.inr h.ge) (fun e => absurd e h.ne) _⟩

/-- A new box for an atom. -/
theorem AtR.mk0 (h : RRd w B s p) (hf : RFr B w0 w) (t : TypeId) : AtR w0 (w.alloc (.cells #[.string ⟨#[]⟩, .bool false, .int .i64 0, .int .i64 0] t)) B s p w.heap.size ⟨⟨#[]⟩, false, 0, 0, 0, false⟩ := by
  refine ⟨h.alloc _, ?_, ?_, ?_, ?_, ?_, h.notMine _, hf.size, hf.alloc h.lt _⟩
  · simp [go_sem]
  · simp [go_sem]
  · simp [go_sem]
  · simp [go_sem]
  · intro i; simp [go_sem]
theorem AtR.alloc (h : AtR w0 w B s p L a) (o : Obj) : AtR w0 (w.alloc o) B s p L a := h.step (h.rd.alloc o) ((RFr.refl B w).alloc h.rd.lt o)

def noAtm : Atm := ⟨⟨#[]⟩, false, 0, 0, 0, false⟩

/-- The boxes of the answer and of the atom. -/
structure AtRR (w0 w : World) (B : Nat) (s : ByteArray) (p : RSt) (M L : Nat) (m a : Atm) : Prop where
  x : AtR w0 w B s p M m
  y : AtR w0 w B s p L a
  ne : M ≠ L

theorem AtRR.mk0 (h : RRd w B s p) (t : TypeId) : AtRR w ((w.alloc (.cells #[.string ⟨#[]⟩, .bool false, .int .i64 0, .int .i64 0] t)).alloc (.cells #[.string ⟨#[]⟩, .bool false, .int .i64 0, .int .i64 0] t)) B s p w.heap.size (w.heap.size + 1) noAtm noAtm := by
  have h1 := AtR.mk0 h (RFr.refl B w) t
  have h2 := AtR.mk0 h1.rd h1.fr t
  rw [show (w.alloc (.cells #[.string ⟨#[]⟩, .bool false, .int .i64 0, .int .i64 0] t)).heap.size = w.heap.size + 1 by simp] at h2
  exact ⟨h1.alloc _, h2, by omega⟩

theorem AtRR.step {M : Nat} {m : Atm} (h : AtRR w0 w B s p M L m a) (hr : RRd w1 B s q) (hf : RFr B w w1) : AtRR w0 w1 B s q M L m a := ⟨h.x.step hr hf, h.y.step hr hf, h.ne⟩
theorem AtRR.drew {M : Nat} {m : Atm} (h : AtRR w0 w B s p M L m a) : AtRR w0 w.drew B s p M L m a := ⟨h.x.drew, h.y.drew, h.ne⟩
theorem AtRR.drewN {M : Nat} {m : Atm} (h : AtRR w0 w B s p M L m a) (n : Nat) : AtRR w0 (w.drewN n) B s p M L m a := ⟨h.x.drewN n, h.y.drewN n, h.ne⟩
theorem AtRR.below {M : Nat} {m : Atm} (h : AtRR w0 w B s p M L m a) (hb : Below w.heap.size w w1) : AtRR w0 w1 B s p M L m a := ⟨h.x.below hb, h.y.below hb, h.ne⟩
theorem AtRR.setPos {M : Nat} {m : Atm} (h : AtRR w0 w B s p M L m a) (n : Nat) (u : Value) (hu : u = .int .i64 n) : AtRR w0 (w.setCell ⟨B, 1, none⟩ u) B s { p with pos := n } M L m a := ⟨h.x.setPos n u hu, h.y.setPos n u hu, h.ne⟩
theorem AtRR.setEl {M : Nat} {m : Atm} (h : AtRR w0 w B s p M L m a) (x : ByteArray) : AtRR w0 (w.setCell ⟨L, 0, none⟩ (.string x)) B s p M L m { a with el := x } := ⟨h.x.setO L 0 _ h.ne.symm h.y.nm h.y.ge, h.y.setEl x, h.ne⟩
theorem AtRR.setAro {M : Nat} {m : Atm} (h : AtRR w0 w B s p M L m a) (x : Bool) : AtRR w0 (w.setCell ⟨L, 1, none⟩ (.bool x)) B s p M L m { a with aro := x } := ⟨h.x.setO L 1 _ h.ne.symm h.y.nm h.y.ge, h.y.setAro x, h.ne⟩
theorem AtRR.setCh {M : Nat} {m : Atm} (h : AtRR w0 w B s p M L m a) (x : Int) : AtRR w0 (w.setCell ⟨L, 2, none⟩ (.int .i64 x)) B s p M L m { a with ch := x } := ⟨h.x.setO L 2 _ h.ne.symm h.y.nm h.y.ge, h.y.setCh x, h.ne⟩
theorem AtRR.setHy {M : Nat} {m : Atm} (h : AtRR w0 w B s p M L m a) (x : Int) : AtRR w0 (w.setCell ⟨L, 3, none⟩ (.int .i64 x)) B s p M L m { a with hy := x } := ⟨h.x.setO L 3 _ h.ne.symm h.y.nm h.y.ge, h.y.setHy x, h.ne⟩
/-- The answer is laid into its box. -/
theorem AtRR.answer {M : Nat} {m : Atm} (h : AtRR w0 w B s p M L m a) : AtRR w0 ((((w.setCell ⟨M, 0, none⟩ (.string a.el)).setCell ⟨M, 1, none⟩ (.bool a.aro)).setCell ⟨M, 2, none⟩ (.int .i64 a.ch)).setCell ⟨M, 3, none⟩ (.int .i64 a.hy)) B s p M L { m with el := a.el, aro := a.aro, ch := a.ch, hy := a.hy } a := by
  have h1 := h.x.setEl a.el
  have h2 := h1.setAro a.aro
  have h3 := h2.setCh a.ch
  have h4 := h3.setHy a.hy
  exact ⟨h4, (((h.y.setO M 0 _ h.ne h.x.nm h.x.ge).setO M 1 _ h.ne h1.nm h1.ge).setO M 2 _ h.ne h2.nm h2.ge).setO M 3 _ h.ne h3.nm h3.ge, h.ne⟩

def RBrPost (w : World) (B : Nat) (s : ByteArray) (p : RSt) (e : Ending) (w' : World) : Prop :=
  (match inner s p.pos with
  | .ok (el, ar, ch, hy, j) => e = .returned (.agg #[.string el, .bool ar, .int .i64 ch, .int .i64 hy]) ∧ RRd w' B s { p with pos := j }
  | .error er => er.1 = 2 ∧ (∃ a : Atm, e = .returned (plainV a)) ∧ ∃ j, j ≤ s.size ∧ RRd w' B s { p with pos := j, e := er.1, place := er.2 }) ∧ RFr B w w'

theorem RBrPost.err {w w' : World} {er : Int × Int} {e : Ending} {a : Atm} {j : Nat} (h : inner s p.pos = .error er) (h2 : er.1 = 2) (he : e = .returned (plainV a)) (hj : j ≤ s.size) (hr : RRd w' B s { p with pos := j, e := er.1, place := er.2 }) (hf : RFr B w w') : RBrPost w B s p e w' := by
  unfold RBrPost; rw [h]; exact ⟨⟨h2, ⟨a, he⟩, j, hj, hr⟩, hf⟩
theorem RBrPost.ok {w w' : World} {e : Ending} {x : ByteArray × Bool × Int × Int × Nat} (h : inner s p.pos = .ok x) (he : e = .returned (.agg #[.string x.1, .bool x.2.1, .int .i64 x.2.2.1, .int .i64 x.2.2.2.1])) (hr : RRd w' B s { p with pos := x.2.2.2.2 }) (hf : RFr B w w') : RBrPost w B s p e w' := by
  unfold RBrPost; rw [h]; exact ⟨⟨he, hr⟩, hf⟩

/-- What is written behind the name, by the place behind the hydrogens. -/
theorem inner_some {i : Nat} {el : ByteArray} {ar : Bool} {n : Nat} (h : element s i = some (el, ar, n)) :
    inner s i = if byteAt s (charge s (hydro s (i + n)).2).2 = 93 then .ok (el, ar, (charge s (hydro s (i + n)).2).1, (hydro s (i + n)).1, (charge s (hydro s (i + n)).2).2 + 1) else .error (2, ((charge s (hydro s (i + n)).2).2 : Int)) := by
  unfold inner
  rw [h]
  simp only
  unfold bracket
  simp only
  by_cases e : byteAt s (charge s (hydro s (i + n)).2).2 = 93
  · rw [if_pos e, if_pos e]
  · rw [if_neg e, if_neg e]

theorem rnext_ok (h : RRd w B s p) (he : p.e = 0) : Calls Tryz.prog 94 #[.pointer (some ⟨B, 0, none⟩)] w fun e w' => e = .returned (.int .u8 (byteAt s p.pos)) ∧ ∃ k, w' = w.drewN k := by
  have := rnext_any h
  unfold rnext at this
  rw [if_pos he] at this
  exact this

set_option maxRecDepth 100000 in
set_option maxHeartbeats 2000000 in
theorem rbrackets_none (h : RRd w B s p) (he : p.e = 0) (hs : s.size ≤ 160) (hp : p.pos ≤ s.size) (hx : element s p.pos = none) :
    Calls Tryz.prog 121 #[.pointer (some ⟨B, 0, none⟩)] w (RBrPost w B s p) := by
  have hB := h.lt
  have HI : Hid (inner s p.pos = .error (2, (p.pos : Int))) := by unfold Hid inner; rw [hx]
  have q0 := h.text
  have q1 := h.pos
  have hq : (p.pos : Int) ≤ (s.size : Int) := by omega
  have A0 := AtRR.mk0 h 50
  go_enter Tryz.func121, Tryz.ntmps121
  go_wp2_with fail
  go_region_with (go_at_call 120; refine (rname_at _ s p.pos hs).mono ?_; rintro e w1 ⟨rfl, hb1⟩; rw [rname_none hx]; unfold nameV; have A1 := A0.drew.below hb1; have a0 := A1.y.c0; have a1 := A1.y.c1; have z0 := A1.y.fz 0; have z1 := A1.y.fz 1)
  all_goals
    have A2 := (A1.setEl ⟨#[]⟩).setAro false
    clear A0 A1 hb1 a0 a1 z0 z1
    generalize World.setCell _ _ _ = w2 at *
    have q1' := A2.y.rd.pos
    have R2 := rfail_any A2.y.rd 2 p.pos
    go_wp2_with fail
    refine R2.mono ?_
    rintro e w3 ⟨rfl, hr3, hf3⟩
    have A3 := A2.step hr3 hf3
    have a0 := A3.y.c0
    have a1 := A3.y.c1
    have a2 := A3.y.c2
    have a3 := A3.y.c3
    have m0 := A3.x.c0
    have m1 := A3.x.c1
    have m2 := A3.x.c2
    have m3 := A3.x.c3
    have z0 := A3.x.fz 0
    have z1 := A3.x.fz 1
    have z2 := A3.x.fz 2
    have z3 := A3.x.fz 3
    have A4 := A3.answer
    go_wp2_with fail
    refine bodyPost_ret (v := plainV noAtm) (by simp [results, Tryz.results121, go_sem, m0, m1, m2, m3, plainV, noAtm]) rfl ?_
    exact RBrPost.err (er := (2, (p.pos : Int))) (a := noAtm) (j := p.pos) HI.out rfl rfl hp (by have := A4.x.rd; unfold RSt.fails at this; rw [if_pos he] at this; exact this) A4.x.fr

/-- What is done behind the hydrogens. -/
def brEnd (s : ByteArray) (el : ByteArray) (ar : Bool) (hy : Int) (i : Nat) : R (ByteArray × Bool × Int × Int × Nat) :=
  if byteAt s (charge s i).2 = 93 then .ok (el, ar, (charge s i).1, hy, (charge s i).2 + 1) else .error (2, ((charge s i).2 : Int))

theorem inner_end {i : Nat} {el : ByteArray} {ar : Bool} {n : Nat} (h : element s i = some (el, ar, n)) : inner s i = brEnd s el ar (hydro s (i + n)).1 (hydro s (i + n)).2 := inner_some h

set_option maxRecDepth 100000 in
set_option maxHeartbeats 4000000 in
theorem rbrackets_some (h : RRd w B s p) (he : p.e = 0) (hs : s.size ≤ 160) (hp : p.pos ≤ s.size) {el : ByteArray} {ar : Bool} {n : Nat} (hx : element s p.pos = some (el, ar, n)) :
    Calls Tryz.prog 121 #[.pointer (some ⟨B, 0, none⟩)] w (RBrPost w B s p) := by
  have hB := h.lt
  have HI : Hid (inner s p.pos = brEnd s el ar (hydro s (p.pos + n)).1 (hydro s (p.pos + n)).2) := inner_end hx
  have hn := element_pos hx
  have hn0 : ((n : Int) == 0) = false := beq_eq_false_iff_ne.2 (by omega)
  have q0 := h.text
  have q1 := h.pos
  have hq : (p.pos : Int) ≤ (s.size : Int) := by omega
  have A0 := AtRR.mk0 h 50
  go_enter Tryz.func121, Tryz.ntmps121
  go_wp2_with fail
  go_region_with (go_at_call 120; refine (rname_at _ s p.pos hs).mono ?_; rintro e w1 ⟨rfl, hb1⟩; rw [rname_some hx]; unfold nameV; have A1 := A0.drew.below hb1; have a0 := A1.y.c0; have a1 := A1.y.c1; have z0 := A1.y.fz 0; have z1 := A1.y.fz 1)
  all_goals
    have A2 := (A1.setEl el).setAro ar
    clear A0 A1 hb1 a0 a1 z0 z1 hx
    generalize World.setCell _ _ _ = w2 at *
    have q1' := A2.y.rd.pos
    have f1' := A2.y.rd.free 1
    have A3 := A2.setPos (p.pos + n) (.int .i64 ((p.pos : Int) + n)) (by go_num)
    have R3 := rnext_ok A3.y.rd he
    simp only at R3
    go_wp2_with fail
    refine R3.mono ?_
    rintro e w3 ⟨rfl, k3, rfl⟩
    have A4 := A3.drewN k3
    clear A3 A2 R3 q1' f1'
    generalize World.drewN _ _ = w4 at *
    have hi : p.pos + n ≤ s.size := hn.1
    generalize p.pos + n = i at *
    go_upto_if 42 with fail
    go_cut [] (fun wc => AtRR w wc B s { p with pos := (hydro s i).2 } w.heap.size (w.heap.size + 1) noAtm { noAtm with el := el, aro := ar, hy := (hydro s i).1 })
    case first =>
      by_cases h72 : byteAt s i = 72
      · have hlt := byte_lt h72 (by decide)
        have c1 := A4.y.rd.pos
        have f1 := A4.y.rd.free 1
        have A5 := A4.setPos (i + 1) (.int .i64 ((i : Int) + 1)) (by go_num)
        have c3 := A5.y.c3
        have f3 := A5.y.fz 3
        have A6 := A5.setHy 1
        have R6 := rnext_ok A6.y.rd he
        simp only at R6
        have t72 : (byteAt s i == 72) = true := by simpa using h72
        have hb0 := byteAt_nonneg s (i + 1)
        have hb1 := byteAt_le s (i + 1)
        by_cases hd : 49 ≤ byteAt s (i + 1) ∧ byteAt s (i + 1) ≤ 52
        · have hy : Hid (hydro s i = (byteAt s (i + 1) - 48, i + 2)) := by unfold Hid hydro; rw [if_pos h72, if_pos hd]
          obtain ⟨hd1, hd2⟩ := hd
          have hlt2 := lt_of_byteAt (s := s) (i := i + 1) (by omega)
          clear h72
          go_wp2_with fail
          refine R6.mono ?_
          rintro e w5 ⟨rfl, k5, rfl⟩
          have A7 := A6.drewN k5
          clear R6 A6 A5 c3 f3
          generalize World.drewN _ _ = w5 at *
          have c3 := A7.y.c3
          have f3 := A7.y.fz 3
          have A8 := A7.setHy (byteAt s (i + 1) - 48)
          have c1' := A8.y.rd.pos
          have f1' := A8.y.rd.free 1
          have A9 := A8.setPos (i + 2) (.int .i64 ((i : Int) + 1 + 1)) (by go_num)
          generalize byteAt s (i + 1) = cc at *
          go_wp2_with fail
          go_meet
          case rel => rw [hy.out]; exact A9
        · have hy : Hid (hydro s i = (1, i + 1)) := by unfold Hid hydro; rw [if_pos h72, if_neg hd]
          have hd' : byteAt s (i + 1) < 49 ∨ 52 < byteAt s (i + 1) := by omega
          clear h72 hd
          go_wp2_with fail
          refine R6.mono ?_
          rintro e w5 ⟨rfl, k5, rfl⟩
          have A7 := A6.drewN k5
          clear R6 A6 A5 c3 f3
          generalize World.drewN _ _ = w5 at *
          generalize byteAt s (i + 1) = cc at *
          rcases hd' with hd | hd
          · go_wp2_with fail
            go_meet
            case rel => rw [hy.out]; exact A7
          · go_wp2_with fail
            go_meet
            case rel => rw [hy.out]; exact A7
      · have t72 : (byteAt s i == 72) = false := by simpa using h72
        have hy : Hid (hydro s i = (0, i)) := by unfold Hid hydro; rw [if_neg h72]
        clear h72
        generalize byteAt s i = cc at *
        go_wp2_with fail
        go_meet
        case rel => rw [hy.out]; exact A4
    case rest =>
      have hle := hydro_le s i hi
      generalize (hydro s i).1 = hy at *
      generalize (hydro s i).2 = j0 at *
      clear A4
      have R5 := rnext_ok hcut.y.rd he
      simp only at R5
      go_wp2_with fail
      refine R5.mono ?_
      rintro e w5 ⟨rfl, k5, rfl⟩
      have A5 := hcut.drewN k5
      clear R5 hcut
      generalize World.drewN _ _ = w5 at *
      by_cases hc1 : byteAt s j0 = 43
      · have HC : byteAt s j0 = 43 := hc1
        have hlt := byte_lt hc1 (by decide)
        have c2 := A5.y.c2
        have f2 := A5.y.fz 2
        have A6 := A5.setCh 1
        have c1 := A6.y.rd.pos
        have f1 := A6.y.rd.free 1
        have A7 := A6.setPos (j0 + 1) (.int .i64 ((j0 : Int) + 1)) (by go_num)
        have R7 := rnext_ok A7.y.rd he
        simp only at R7
        have hjj : j0 + 1 ≤ s.size := hlt
        rw [hc1]
        go_wp2_with fail
        have hch : charge s j0 = (1, j0 + 1) := by simp [charge, HC]
        have HI2 : Hid (inner s p.pos = if byteAt s (j0 + 1) = 93 then .ok (el, ar, 1, hy, j0 + 1 + 1) else .error (2, ((j0 + 1 : Nat) : Int))) := by unfold Hid; rw [HI.out]; unfold brEnd; rw [hch]
        clear hch HC HI
        refine R7.mono ?_
        rintro e w7 ⟨rfl, k7, rfl⟩
        have A8 := A7.drewN k7
        clear R7 A7
        generalize World.drewN _ _ = w8 at *
        have hjb : j0 + 1 ≤ s.size := hjj
        generalize j0 + 1 = j1 at *
        by_cases h93 : byteAt s (j1) = 93
        · rw [if_pos h93] at HI2
          have hlt := byte_lt h93 (by decide)
          have t93 : (byteAt s (j1) != 93) = false := by simp [h93]
          clear h93
          have c1 := A8.y.rd.pos
          have f1 := A8.y.rd.free 1
          have A9 := A8.setPos (j1 + 1) (.int .i64 (((j1 : Nat) : Int) + 1)) (by go_num)
          have A10 := A9.answer
          have a0 := A9.y.c0
          have a1 := A9.y.c1
          have a2 := A9.y.c2
          have a3 := A9.y.c3
          have m0 := A9.x.c0
          have m1 := A9.x.c1
          have m2 := A9.x.c2
          have m3 := A9.x.c3
          have z0 := A9.x.fz 0
          have z1 := A9.x.fz 1
          have z2 := A9.x.fz 2
          have z3 := A9.x.fz 3
          generalize byteAt s (j1) = cc at *
          go_wp2_with fail
          refine bodyPost_ret (v := .agg #[.string el, .bool ar, .int .i64 (1), .int .i64 hy]) (by simp [results, Tryz.results121, go_sem, m0, m1, m2, m3, noAtm]) rfl ?_
          exact RBrPost.ok HI2.out rfl A10.x.rd A10.x.fr
        · rw [if_neg h93] at HI2
          have t93 : (byteAt s (j1) != 93) = true := by simpa using h93
          clear h93
          have c1 := A8.y.rd.pos
          have R9 := rfail_any A8.y.rd 2 ((j1 : Nat) : Int)
          generalize byteAt s (j1) = cc at *
          go_wp2_with fail
          refine R9.mono ?_
          rintro e w9 ⟨rfl, hr9, hf9⟩
          have A9 := A8.step hr9 hf9
          have A10 := A9.answer
          have a0 := A9.y.c0
          have a1 := A9.y.c1
          have a2 := A9.y.c2
          have a3 := A9.y.c3
          have m0 := A9.x.c0
          have m1 := A9.x.c1
          have m2 := A9.x.c2
          have m3 := A9.x.c3
          have z0 := A9.x.fz 0
          have z1 := A9.x.fz 1
          have z2 := A9.x.fz 2
          have z3 := A9.x.fz 3
          go_wp2_with fail
          refine bodyPost_ret (v := plainV ⟨el, ar, 1, hy, 0, false⟩) (by simp [results, Tryz.results121, go_sem, m0, m1, m2, m3, plainV, noAtm]) rfl ?_
          exact RBrPost.err (er := (2, ((j1 : Nat) : Int))) (a := ⟨el, ar, 1, hy, 0, false⟩) (j := j1) HI2.out rfl rfl hjb (by have := A10.x.rd; unfold RSt.fails at this; rw [if_pos he] at this; exact this) A10.x.fr
      by_cases hc2 : byteAt s j0 = 45
      · have HC : byteAt s j0 = 45 := hc2
        have hlt := byte_lt hc2 (by decide)
        have c2 := A5.y.c2
        have f2 := A5.y.fz 2
        have A6 := A5.setCh (-1)
        have c1 := A6.y.rd.pos
        have f1 := A6.y.rd.free 1
        have A7 := A6.setPos (j0 + 1) (.int .i64 ((j0 : Int) + 1)) (by go_num)
        have R7 := rnext_ok A7.y.rd he
        simp only at R7
        have hjj : j0 + 1 ≤ s.size := hlt
        rw [hc2]
        go_wp2_with fail
        have hch : charge s j0 = (-1, j0 + 1) := by simp [charge, HC]
        have HI2 : Hid (inner s p.pos = if byteAt s (j0 + 1) = 93 then .ok (el, ar, -1, hy, j0 + 1 + 1) else .error (2, ((j0 + 1 : Nat) : Int))) := by unfold Hid; rw [HI.out]; unfold brEnd; rw [hch]
        clear hch HC HI
        refine R7.mono ?_
        rintro e w7 ⟨rfl, k7, rfl⟩
        have A8 := A7.drewN k7
        clear R7 A7
        generalize World.drewN _ _ = w8 at *
        have hjb : j0 + 1 ≤ s.size := hjj
        generalize j0 + 1 = j1 at *
        by_cases h93 : byteAt s (j1) = 93
        · rw [if_pos h93] at HI2
          have hlt := byte_lt h93 (by decide)
          have t93 : (byteAt s (j1) != 93) = false := by simp [h93]
          clear h93
          have c1 := A8.y.rd.pos
          have f1 := A8.y.rd.free 1
          have A9 := A8.setPos (j1 + 1) (.int .i64 (((j1 : Nat) : Int) + 1)) (by go_num)
          have A10 := A9.answer
          have a0 := A9.y.c0
          have a1 := A9.y.c1
          have a2 := A9.y.c2
          have a3 := A9.y.c3
          have m0 := A9.x.c0
          have m1 := A9.x.c1
          have m2 := A9.x.c2
          have m3 := A9.x.c3
          have z0 := A9.x.fz 0
          have z1 := A9.x.fz 1
          have z2 := A9.x.fz 2
          have z3 := A9.x.fz 3
          generalize byteAt s (j1) = cc at *
          go_wp2_with fail
          refine bodyPost_ret (v := .agg #[.string el, .bool ar, .int .i64 (-1), .int .i64 hy]) (by simp [results, Tryz.results121, go_sem, m0, m1, m2, m3, noAtm]) rfl ?_
          exact RBrPost.ok HI2.out rfl A10.x.rd A10.x.fr
        · rw [if_neg h93] at HI2
          have t93 : (byteAt s (j1) != 93) = true := by simpa using h93
          clear h93
          have c1 := A8.y.rd.pos
          have R9 := rfail_any A8.y.rd 2 ((j1 : Nat) : Int)
          generalize byteAt s (j1) = cc at *
          go_wp2_with fail
          refine R9.mono ?_
          rintro e w9 ⟨rfl, hr9, hf9⟩
          have A9 := A8.step hr9 hf9
          have A10 := A9.answer
          have a0 := A9.y.c0
          have a1 := A9.y.c1
          have a2 := A9.y.c2
          have a3 := A9.y.c3
          have m0 := A9.x.c0
          have m1 := A9.x.c1
          have m2 := A9.x.c2
          have m3 := A9.x.c3
          have z0 := A9.x.fz 0
          have z1 := A9.x.fz 1
          have z2 := A9.x.fz 2
          have z3 := A9.x.fz 3
          go_wp2_with fail
          refine bodyPost_ret (v := plainV ⟨el, ar, -1, hy, 0, false⟩) (by simp [results, Tryz.results121, go_sem, m0, m1, m2, m3, plainV, noAtm]) rfl ?_
          exact RBrPost.err (er := (2, ((j1 : Nat) : Int))) (a := ⟨el, ar, -1, hy, 0, false⟩) (j := j1) HI2.out rfl rfl hjb (by have := A10.x.rd; unfold RSt.fails at this; rw [if_pos he] at this; exact this) A10.x.fr
      · have HC : byteAt s j0 ≠ 43 ∧ byteAt s j0 ≠ 45 := ⟨hc1, hc2⟩
        have A7 := A5
        have R7 := rnext_ok A7.y.rd he
        simp only at R7
        have hjj : j0 ≤ s.size := hle
        have t1 : (byteAt s j0 == 43) = false := by simpa using hc1
        have t2 : (byteAt s j0 == 45) = false := by simpa using hc2
        clear hc1 hc2
        generalize hcc : byteAt s j0 = cc0 at t1 t2 ⊢
        go_wp2_with fail
        have hch : charge s j0 = (0, j0) := by simp [charge, HC]
        have HI2 : Hid (inner s p.pos = if byteAt s (j0) = 93 then .ok (el, ar, 0, hy, j0 + 1) else .error (2, ((j0 : Nat) : Int))) := by unfold Hid; rw [HI.out]; unfold brEnd; rw [hch]
        clear hch HC HI
        refine R7.mono ?_
        rintro e w7 ⟨rfl, k7, rfl⟩
        have A8 := A7.drewN k7
        clear R7 A7
        generalize World.drewN _ _ = w8 at *
        have hjb : j0 ≤ s.size := hjj
        generalize j0 = j1 at *
        by_cases h93 : byteAt s (j1) = 93
        · rw [if_pos h93] at HI2
          have hlt := byte_lt h93 (by decide)
          have t93 : (byteAt s (j1) != 93) = false := by simp [h93]
          clear h93
          have c1 := A8.y.rd.pos
          have f1 := A8.y.rd.free 1
          have A9 := A8.setPos (j1 + 1) (.int .i64 (((j1 : Nat) : Int) + 1)) (by go_num)
          have A10 := A9.answer
          have a0 := A9.y.c0
          have a1 := A9.y.c1
          have a2 := A9.y.c2
          have a3 := A9.y.c3
          have m0 := A9.x.c0
          have m1 := A9.x.c1
          have m2 := A9.x.c2
          have m3 := A9.x.c3
          have z0 := A9.x.fz 0
          have z1 := A9.x.fz 1
          have z2 := A9.x.fz 2
          have z3 := A9.x.fz 3
          generalize byteAt s (j1) = cc at *
          go_wp2_with fail
          refine bodyPost_ret (v := .agg #[.string el, .bool ar, .int .i64 (0), .int .i64 hy]) (by simp [results, Tryz.results121, go_sem, m0, m1, m2, m3, noAtm]) rfl ?_
          exact RBrPost.ok HI2.out rfl A10.x.rd A10.x.fr
        · rw [if_neg h93] at HI2
          have t93 : (byteAt s (j1) != 93) = true := by simpa using h93
          clear h93
          have c1 := A8.y.rd.pos
          have R9 := rfail_any A8.y.rd 2 ((j1 : Nat) : Int)
          generalize byteAt s (j1) = cc at *
          go_wp2_with fail
          refine R9.mono ?_
          rintro e w9 ⟨rfl, hr9, hf9⟩
          have A9 := A8.step hr9 hf9
          have A10 := A9.answer
          have a0 := A9.y.c0
          have a1 := A9.y.c1
          have a2 := A9.y.c2
          have a3 := A9.y.c3
          have m0 := A9.x.c0
          have m1 := A9.x.c1
          have m2 := A9.x.c2
          have m3 := A9.x.c3
          have z0 := A9.x.fz 0
          have z1 := A9.x.fz 1
          have z2 := A9.x.fz 2
          have z3 := A9.x.fz 3
          go_wp2_with fail
          refine bodyPost_ret (v := plainV ⟨el, ar, 0, hy, 0, false⟩) (by simp [results, Tryz.results121, go_sem, m0, m1, m2, m3, plainV, noAtm]) rfl ?_
          exact RBrPost.err (er := (2, ((j1 : Nat) : Int))) (a := ⟨el, ar, 0, hy, 0, false⟩) (j := j1) HI2.out rfl rfl hjb (by have := A10.x.rd; unfold RSt.fails at this; rw [if_pos he] at this; exact this) A10.x.fr

theorem rbrackets_any (h : RRd w B s p) (he : p.e = 0) (hs : s.size ≤ 160) (hp : p.pos ≤ s.size) : Calls Tryz.prog 121 #[.pointer (some ⟨B, 0, none⟩)] w (RBrPost w B s p) := by
  cases hx : element s p.pos with
  | none => exact rbrackets_none h he hs hp hx
  | some x => exact rbrackets_some h he hs hp (el := x.1) (ar := x.2.1) (n := x.2.2) hx
end
end Go.Proofs.YtcabaecbmkgclaaGreatDoor
