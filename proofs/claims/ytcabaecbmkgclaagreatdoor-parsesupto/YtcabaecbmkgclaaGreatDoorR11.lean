/-
  What a call of the document's reader may have turned; an error noted.
  The document's begins.
  The document's order and bound.
  The document's reader beside the plain one; its lists made longer.
-/
import Derived.Test.YtcabaecbmkgclaaGreatDoorR09
namespace Go.Proofs.YtcabaecbmkgclaaGreatDoor
open Go.RowKit Bz
/-- Block k is the document's reader's own: its block, or the row of one of its lists. -/
def RMine (w : World) (B k : Nat) : Prop := k = B ∨ ∃ j v, 2 ≤ j ∧ j ≤ 6 ∧ w.cell? ⟨B, j, none⟩ = some v ∧ v.ownBlock = some k

theorem RMine.same {w w' : World} {B k : Nat} (hB : w'.heap[B]? = w.heap[B]?) : RMine w' B k ↔ RMine w B k := by
  have hc : ∀ j, w'.cell? ⟨B, j, none⟩ = w.cell? ⟨B, j, none⟩ := fun j => World.cell?_of_block (w := w) hB
  unfold RMine
  simp only [hc]

section
variable {w : World} {B : Nat} {s : ByteArray} {p : RSt}
/-- Each of the five lists. -/
theorem RRd.row (h : RRd w B s p) (j : Nat) (h2 : 2 ≤ j) (h6 : j ≤ 6) : ∃ v t z n xs, w.cell? ⟨B, j, none⟩ = some v ∧ w.ownsRow (B + 1) t z v n xs := by
  rcases (by omega : j = 2 ∨ j = 3 ∨ j = 4 ∨ j = 5 ∨ j = 6) with rfl | rfl | rfl | rfl | rfl
  · obtain ⟨v, a, b⟩ := h.atoms; exact ⟨v, _, _, _, _, a, b⟩
  · obtain ⟨v, a, b⟩ := h.bonds; exact ⟨v, _, _, _, _, a, b⟩
  · obtain ⟨v, a, b⟩ := h.ats; exact ⟨v, _, _, _, _, a, b⟩
  · obtain ⟨v, a, b⟩ := h.brs; exact ⟨v, _, _, _, _, a, b⟩
  · obtain ⟨v, a, b⟩ := h.opens; exact ⟨v, _, _, _, _, a, b⟩

theorem RRd.mine (h : RRd w B s p) {k : Nat} (hk : RMine w B k) : B ≤ k ∧ k < w.heap.size := by
  rcases hk with rfl | ⟨j, v, h2, h6, hv, hk⟩
  · exact ⟨Nat.le_refl _, h.lt⟩
  · obtain ⟨v', t, z, n, xs, hv', ho⟩ := h.row j h2 h6
    rw [hv] at hv'; cases hv'
    have := ho.lt k hk
    omega

theorem RRd.same {w' : World} (h : RRd w B s p) (hs : ∀ k, RMine w B k → w'.heap[k]? = w.heap[k]?) : RRd w' B s p := by
  have hB := hs B (.inl rfl)
  have hc : ∀ i, w'.cell? ⟨B, i, none⟩ = w.cell? ⟨B, i, none⟩ := fun i => World.cell?_of_block (w := w) hB
  have hf : ∀ i, w'.frozen? ⟨B, i, none⟩ = w.frozen? ⟨B, i, none⟩ := fun i => World.frozen?_of_block (w := w) hB
  obtain ⟨va, ha, oa⟩ := h.atoms
  obtain ⟨vb, hb, ob⟩ := h.bonds
  obtain ⟨vc, hcc, oc⟩ := h.ats
  obtain ⟨vd, hd, od⟩ := h.brs
  obtain ⟨ve, he, oe⟩ := h.opens
  exact ⟨by rw [hc]; exact h.text, by rw [hc]; exact h.pos,
    ⟨va, by rw [hc]; exact ha, ownsRow_same oa fun k hk => hs k (.inr ⟨2, va, by omega, by omega, ha, hk⟩)⟩,
    ⟨vb, by rw [hc]; exact hb, ownsRow_same ob fun k hk => hs k (.inr ⟨3, vb, by omega, by omega, hb, hk⟩)⟩,
    ⟨vc, by rw [hc]; exact hcc, ownsRow_same oc fun k hk => hs k (.inr ⟨4, vc, by omega, by omega, hcc, hk⟩)⟩,
    ⟨vd, by rw [hc]; exact hd, ownsRow_same od fun k hk => hs k (.inr ⟨5, vd, by omega, by omega, hd, hk⟩)⟩,
    ⟨ve, by rw [hc]; exact he, ownsRow_same oe fun k hk => hs k (.inr ⟨6, ve, by omega, by omega, he, hk⟩)⟩,
    by rw [hc]; exact h.err, by rw [hc]; exact h.plc, fun i => by rw [hf]; exact h.free i⟩

theorem RRd.drewN (h : RRd w B s p) (n : Nat) : RRd (w.drewN n) B s p := h.same fun _ _ => rfl
theorem RRd.drew (h : RRd w B s p) : RRd w.drew B s p := h.same fun _ _ => rfl
theorem RRd.alloc (h : RRd w B s p) (o : Obj) : RRd (w.alloc o) B s p := h.same fun k hk => heap_alloc_lt w o k (h.mine hk).2
theorem RRd.setOther (h : RRd w B s p) {q : Addr} (hq : ¬ RMine w B q.block) (u : Value) : RRd (w.setCell q u) B s p :=
  h.same fun k hk => Below.heap_setCell w q u k (by rintro rfl; exact hq hk)
end
/-- What a call of the document's reader may have turned: its own blocks, and new ones. -/
structure RFr (B : Nat) (w w' : World) : Prop where
  os : w'.os = w.os
  tape : w'.tape = w.tape
  output : w'.output = w.output
  size : w.heap.size ≤ w'.heap.size
  block : ∀ k, k < w.heap.size → ¬ RMine w B k → w'.heap[k]? = w.heap[k]?
  mine : ∀ k, k < w.heap.size → RMine w' B k → RMine w B k

theorem RFr.refl (B : Nat) (w : World) : RFr B w w := ⟨rfl, rfl, rfl, Nat.le_refl _, fun _ _ _ => rfl, fun _ _ h => h⟩

theorem RFr.trans {B : Nat} {a b c : World} (h : RFr B a b) (k : RFr B b c) : RFr B a c :=
  ⟨k.os.trans h.os, k.tape.trans h.tape, k.output.trans h.output, Nat.le_trans h.size k.size,
    fun i hi hm => (k.block i (Nat.lt_of_lt_of_le hi h.size) (fun e => hm (h.mine i hi e))).trans (h.block i hi hm),
    fun i hi hm => h.mine i hi (k.mine i (Nat.lt_of_lt_of_le hi h.size) hm)⟩

theorem RFr.drewN {B : Nat} {a w : World} (h : RFr B a w) (n : Nat) : RFr B a (w.drewN n) := h.trans ⟨rfl, rfl, rfl, Nat.le_refl _, fun _ _ _ => rfl, fun _ _ h => h⟩
theorem RFr.drew {B : Nat} {a w : World} (h : RFr B a w) : RFr B a w.drew := h.trans ⟨rfl, rfl, rfl, Nat.le_refl _, fun _ _ _ => rfl, fun _ _ h => h⟩

theorem RFr.alloc {B : Nat} {a w : World} (h : RFr B a w) (hB : B < w.heap.size) (o : Obj) : RFr B a (w.alloc o) :=
  h.trans ⟨rfl, rfl, rfl, by simp, fun k hk _ => heap_alloc_lt w o k hk, fun k _ hm => (RMine.same (heap_alloc_lt w o B hB)).1 hm⟩

/-- A store into a block that is not the reader's own, or into one of its own cells that hold no list. -/
theorem RFr.setCell {B : Nat} {a w : World} (h : RFr B a w) {q : Addr} (hq : q.block = B ∨ a.heap.size ≤ q.block) (h6 : q.block = B → q.off < 2 ∨ 6 < q.off) (u : Value) : RFr B a (w.setCell q u) := by
  have hm : ∀ k, RMine (w.setCell q u) B k → RMine w B k := by
    intro k hk
    rcases hk with rfl | ⟨j, v, h2, hj, hv, hk⟩
    · exact .inl rfl
    · refine .inr ⟨j, v, h2, hj, ?_, hk⟩
      rw [← World.cell?_setCell_other w q ⟨B, j, none⟩ u ?_]
      · exact hv
      · intro e
        have e1 := congrArg Addr.block e
        have e2 := congrArg Addr.off e
        simp only at e1 e2
        have := h6 e1
        omega
  refine ⟨h.os, h.tape, h.output, by simpa using h.size, fun k hk hn => ?_, fun k hk hk' => h.mine k hk (hm k hk')⟩
  rw [Below.heap_setCell w q u k ?_]
  · exact h.block k hk hn
  · rintro rfl
    rcases hq with hq | hq
    · exact hn (.inl hq)
    · omega

theorem RFr.cell {B : Nat} {w w' : World} (h : RFr B w w') {b : Nat} (hb : b < w.heap.size) (hm : ¬ RMine w B b) (i : Nat) : w'.cell? ⟨b, i, none⟩ = w.cell? ⟨b, i, none⟩ :=
  World.cell?_of_block (w := w) (h.block b hb hm)
theorem RFr.frozen {B : Nat} {w w' : World} (h : RFr B w w') {b : Nat} (hb : b < w.heap.size) (hm : ¬ RMine w B b) (i : Nat) : w'.frozen? ⟨b, i, none⟩ = w.frozen? ⟨b, i, none⟩ :=
  World.frozen?_of_block (w := w) (h.block b hb hm)

theorem RRd.notMine {w : World} {B : Nat} {s : ByteArray} {p : RSt} (h : RRd w B s p) (o : Obj) : ¬ RMine (w.alloc o) B w.heap.size := fun hm =>
  Nat.lt_irrefl _ (h.mine ((RMine.same (heap_alloc_lt w o B h.lt)).1 hm)).2

section
variable {w : World} {B : Nat} {s : ByteArray} {p : RSt}
/-- A store into one of the cells that hold no list. -/
theorem RRd.rows (h : RRd w B s p) (i : Nat) (u : Value) (hi : i < 2 ∨ 6 < i) :
    (∃ v, (w.setCell ⟨B, i, none⟩ u).cell? ⟨B, 2, none⟩ = some v ∧ (w.setCell ⟨B, i, none⟩ u).ownsRow (B + 1) 50 4 v p.atoms.length (p.atoms.flatMap plainCells)) ∧
    (∃ v, (w.setCell ⟨B, i, none⟩ u).cell? ⟨B, 3, none⟩ = some v ∧ (w.setCell ⟨B, i, none⟩ u).ownsRow (B + 1) 46 3 v p.bonds.length (p.bonds.flatMap bndCells)) ∧
    (∃ v, (w.setCell ⟨B, i, none⟩ u).cell? ⟨B, 4, none⟩ = some v ∧ (w.setCell ⟨B, i, none⟩ u).ownsRow (B + 1) 3 1 v p.atoms.length (p.atoms.map fun a => .int .i64 a.pl)) ∧
    (∃ v, (w.setCell ⟨B, i, none⟩ u).cell? ⟨B, 5, none⟩ = some v ∧ (w.setCell ⟨B, i, none⟩ u).ownsRow (B + 1) 4 1 v p.atoms.length (p.atoms.map fun a => .bool a.br)) ∧
    (∃ v, (w.setCell ⟨B, i, none⟩ u).cell? ⟨B, 6, none⟩ = some v ∧ (w.setCell ⟨B, i, none⟩ u).ownsRow (B + 1) 166 4 v p.opens.length (p.opens.flatMap ropnCells)) := by
  obtain ⟨va, ha, oa⟩ := h.atoms
  obtain ⟨vb, hb, ob⟩ := h.bonds
  obtain ⟨vc, hcc, oc⟩ := h.ats
  obtain ⟨vd, hd, od⟩ := h.brs
  obtain ⟨ve, he, oe⟩ := h.opens
  exact ⟨⟨va, by rw [cell_set_ne (by omega)]; exact ha, ownsRow_setB oa _ _⟩, ⟨vb, by rw [cell_set_ne (by omega)]; exact hb, ownsRow_setB ob _ _⟩, ⟨vc, by rw [cell_set_ne (by omega)]; exact hcc, ownsRow_setB oc _ _⟩,
    ⟨vd, by rw [cell_set_ne (by omega)]; exact hd, ownsRow_setB od _ _⟩, ⟨ve, by rw [cell_set_ne (by omega)]; exact he, ownsRow_setB oe _ _⟩⟩

theorem RRd.setPos (h : RRd w B s p) (n : Nat) (u : Value) (hu : u = .int .i64 n) : RRd (w.setCell ⟨B, 1, none⟩ u) B s { p with pos := n } := by
  subst hu
  obtain ⟨r2, r3, r4, r5, r6⟩ := h.rows 1 (.int .i64 n) (by omega)
  exact ⟨by rw [cell_set_ne (by omega)]; exact h.text, World.cell?_setCell_same w _ _ h.pos, r2, r3, r4, r5, r6, by rw [cell_set_ne (by omega)]; exact h.err, by rw [cell_set_ne (by omega)]; exact h.plc, fun i => by rw [World.frozen?_setCell]; exact h.free i⟩

theorem RRd.setErr (h : RRd w B s p) (x : Int) : RRd (w.setCell ⟨B, 7, none⟩ (.int .i64 x)) B s { p with e := x } := by
  obtain ⟨r2, r3, r4, r5, r6⟩ := h.rows 7 (.int .i64 x) (by omega)
  exact ⟨by rw [cell_set_ne (by omega)]; exact h.text, by rw [cell_set_ne (by omega)]; exact h.pos, r2, r3, r4, r5, r6, World.cell?_setCell_same w _ _ h.err, by rw [cell_set_ne (by omega)]; exact h.plc, fun i => by rw [World.frozen?_setCell]; exact h.free i⟩

theorem RRd.setPlc (h : RRd w B s p) (x : Int) : RRd (w.setCell ⟨B, 8, none⟩ (.int .i64 x)) B s { p with place := x } := by
  obtain ⟨r2, r3, r4, r5, r6⟩ := h.rows 8 (.int .i64 x) (by omega)
  exact ⟨by rw [cell_set_ne (by omega)]; exact h.text, by rw [cell_set_ne (by omega)]; exact h.pos, r2, r3, r4, r5, r6, by rw [cell_set_ne (by omega)]; exact h.err, World.cell?_setCell_same w _ _ h.plc, fun i => by rw [World.frozen?_setCell]; exact h.free i⟩

theorem RFr.setPos {a : World} (h : RFr B a w) (u : Value) : RFr B a (w.setCell ⟨B, 1, none⟩ u) := h.setCell (.inl rfl) (fun _ => .inl (by simp)) u

/-- The first thing that is wrong. -/
def RSt.fails (p : RSt) (e pl : Int) : RSt := if p.e = 0 then { p with e := e, place := pl } else p

set_option maxHeartbeats 1000000 in
theorem rfail_any (h : RRd w B s p) (x pl : Int) : Calls Tryz.prog 72 #[.pointer (some ⟨B, 0, none⟩), .int .i64 x, .int .i64 pl] w fun e w' => e = .returned (.tuple #[]) ∧ RRd w' B s (p.fails x pl) ∧ RFr B w w' := by
  have q7 := h.err
  have q8 := h.plc
  have f7 := h.free 7
  have f8 := h.free 8
  unfold RSt.fails
  by_cases he : p.e = 0
  · rw [if_pos he]
    rw [he] at q7
    have HR : Hid (RRd ((w.setCell ⟨B, 7, none⟩ (.int .i64 x)).setCell ⟨B, 8, none⟩ (.int .i64 pl)) B s { p with e := x, place := pl }) := (h.setErr x).setPlc pl
    have HF : Hid (RFr B w ((w.setCell ⟨B, 7, none⟩ (.int .i64 x)).setCell ⟨B, 8, none⟩ (.int .i64 pl))) := ((RFr.refl B w).setCell (q := ⟨B, 7, none⟩) (.inl rfl) (fun _ => .inr (by simp)) _).setCell (q := ⟨B, 8, none⟩) (.inl rfl) (fun _ => .inr (by simp)) _
    go_enter Tryz.func72, Tryz.ntmps72
    go_wp2_with fail
    go_end0
    exact ⟨rfl, HR.out, HF.out⟩
  · rw [if_neg he]
    have hb : (p.e == 0) = false := by simpa using he
    go_enter Tryz.func72, Tryz.ntmps72
    go_wp2_with fail
    go_end0
    exact ⟨rfl, h, RFr.refl _ _⟩
end
/-- The bytes with which an atom begins. -/
def beginBytes : ByteArray := ⟨#[66, 67, 78, 79, 80, 83, 70, 73, 99, 110, 111, 112, 115, 91]⟩

def rbegins (c : Int) : Bool := c != 0 && isOne beginBytes c

set_option maxHeartbeats 1000000 in
theorem rbegins_any (w : World) (c : Int) : Calls Tryz.prog 98 #[.int .u8 c] w fun e w' => e = .returned (.bool (rbegins c)) ∧ w' = w := by
  have HO := fun w' : World => rone_any w' c beginBytes (by decide)
  unfold rbegins
  by_cases h : c = 0
  · subst h
    go_enter Tryz.func98, Tryz.ntmps98
    go_wp2_with fail
    go_ret
    exact ⟨rfl, rfl⟩
  · have hb : (c != 0) = true := by simpa using h
    go_enter Tryz.func98, Tryz.ntmps98
    go_wp2_with fail
    refine (HO _).mono ?_
    rintro e w' ⟨rfl, rfl⟩
    go_wp2_with fail
    go_ret
    exact ⟨ret_bool (by rw [hb, Bool.true_and]), rfl⟩

/-- The bytes that are a bond's sign. -/
def signBytes : ByteArray := ⟨#[45, 61, 35, 58]⟩

theorem isOne_sign (c : Int) : isOne signBytes c = Bz.isSign c := by
  have r : List.range signBytes.size = [0, 1, 2, 3] := rfl
  have b0 : byteAt signBytes 0 = 45 := rfl
  have b1 : byteAt signBytes 1 = 61 := rfl
  have b2 : byteAt signBytes 2 = 35 := rfl
  have b3 : byteAt signBytes 3 = 58 := rfl
  unfold isOne Bz.isSign
  rw [r]
  simp only [List.any_cons, List.any_nil, b0, b1, b2, b3, Bool.or_false]
  rw [BEq.comm (a := (45 : Int)), BEq.comm (a := (61 : Int)), BEq.comm (a := (35 : Int)), BEq.comm (a := (58 : Int)), Bool.or_assoc, Bool.or_assoc]

/-- What stands next at an atom: its sign, and the reader behind it. -/
def rsign (s : ByteArray) (k : Nat) (p : RSt) : Int × RSt :=
  let c := rnext s p
  if Bz.isSign c then
    if c = 58 ∧ (p.atoms[k]?).map (·.aro) = some false then (0, p.fails 3 p.pos) else (c, { p with pos := p.pos + 1 })
  else (0, p)

section
variable {w : World} {B : Nat} {s : ByteArray} {p : RSt}
theorem rnext_zero (h : rnext s p ≠ 0) : p.e = 0 ∧ p.pos < s.size ∧ rnext s p = byteAt s p.pos := by
  unfold rnext at h ⊢
  by_cases e : p.e = 0
  · rw [if_pos e] at h ⊢
    exact ⟨e, lt_of_byteAt h, rfl⟩
  · rw [if_neg e] at h
    exact absurd rfl h

set_option maxHeartbeats 1000000 in
theorem rsign_none (h : RRd w B s p) (k : Nat) (hc : Bz.isSign (rnext s p) = false) : Calls Tryz.prog 93 #[.pointer (some ⟨B, 0, none⟩), .int .i64 k] w fun e w' => e = .returned (.int .u8 0) ∧ RRd w' B s p ∧ RFr B w w' := by
  have HN := rnext_any h
  have HO := fun w' : World => rone_any w' (rnext s p) signBytes (by decide)
  rw [isOne_sign, hc] at HO
  clear hc
  generalize rnext s p = c at *
  go_enter Tryz.func93, Tryz.ntmps93
  go_wp2_with fail
  refine HN.mono ?_
  rintro e w1 ⟨rfl, n, rfl⟩
  by_cases hz : c = 0
  · subst hz
    go_wp2_with fail
    go_ret
    exact ⟨rfl, h.drewN _, (RFr.refl _ _).drewN _⟩
  · have hb : (c == 0) = false := by simpa using hz
    go_wp2_with fail
    refine (HO _).mono ?_
    rintro e w1 ⟨rfl, rfl⟩
    go_wp2_with fail
    go_ret
    exact ⟨rfl, h.drewN _, (RFr.refl _ _).drewN _⟩

set_option maxHeartbeats 1000000 in
theorem rsign_plain (h : RRd w B s p) (hs : s.size ≤ 160) (k : Nat) (hc : Bz.isSign (rnext s p) = true) (h58 : rnext s p ≠ 58) : Calls Tryz.prog 93 #[.pointer (some ⟨B, 0, none⟩), .int .i64 k] w fun e w' => e = .returned (.int .u8 (rnext s p)) ∧ RRd w' B s { p with pos := p.pos + 1 } ∧ RFr B w w' := by
  have HN := rnext_any h
  have HO := fun w' : World => rone_any w' (rnext s p) signBytes (by decide)
  rw [isOne_sign, hc] at HO
  have hz : rnext s p ≠ 0 := by intro e; rw [e] at hc; exact absurd hc (by decide)
  have hp := (rnext_zero hz).2.1
  generalize rnext s p = c at *
  have hb : (c == 0) = false := by simpa using hz
  have hb2 : (c == 58) = false := by simpa using h58
  go_enter Tryz.func93, Tryz.ntmps93
  go_wp2_with fail
  refine HN.mono ?_
  rintro e w1 ⟨rfl, n, rfl⟩
  have hd := h.drewN n
  have hfd := (RFr.refl B w).drewN n
  generalize w.drewN n = w1 at *
  have q1 := hd.pos
  have f1 := hd.free 1
  go_wp2_with fail
  refine (HO _).mono ?_
  rintro e w2 ⟨rfl, rfl⟩
  go_wp2_with fail
  go_ret
  exact ⟨rfl, hd.setPos _ _ (by go_num), hfd.setPos _⟩

theorem RRd.aroAt (h : RRd w B s p) {k : Nat} {a : Atm} (hk : p.atoms[k]? = some a) : ∃ g cap, w.cell? ⟨B, 2, none⟩ = some (.slice (some ⟨g, 0, none⟩) p.atoms.length cap) ∧ w.cell? ⟨g, k * 4 + 1, none⟩ = some (.bool a.aro) ∧ g < w.heap.size := by
  obtain ⟨v, hv, ho⟩ := h.atoms
  have hl : k < p.atoms.length := (List.getElem?_eq_some_iff.1 hk).1
  obtain ⟨g, cap, rfl, h1, h2, h3, h4⟩ := ownsRow_at ho (by omega)
  refine ⟨g, cap, hv, ?_, h2⟩
  rw [h3 (k * 4 + 1) (by omega), flatMap_get plainCells 4 plainCells_len _ k 1 a hk (by omega)]
  rfl

set_option maxHeartbeats 1000000 in
theorem rsign_aro (h : RRd w B s p) (hs : s.size ≤ 160) (k : Nat) (a : Atm) (hk : p.atoms[k]? = some a) (ha : a.aro = true) (h58 : rnext s p = 58) : Calls Tryz.prog 93 #[.pointer (some ⟨B, 0, none⟩), .int .i64 k] w fun e w' => e = .returned (.int .u8 58) ∧ RRd w' B s { p with pos := p.pos + 1 } ∧ RFr B w w' := by
  have HN := rnext_any h
  have HO := fun w' : World => rone_any w' (rnext s p) signBytes (by decide)
  have hp := (rnext_zero (p := p) (s := s) (by rw [h58]; decide)).2.1
  rw [isOne_sign, h58] at HO
  rw [h58] at HN
  have hkl : (k : Int) < (p.atoms.length : Int) := by have := (List.getElem?_eq_some_iff.1 hk).1; omega
  go_enter Tryz.func93, Tryz.ntmps93
  go_wp2_with fail
  refine HN.mono ?_
  rintro e w1 ⟨rfl, n, rfl⟩
  have hd := h.drewN n
  have hfd := (RFr.refl B w).drewN n
  generalize w.drewN n = w1 at *
  have q1 := hd.pos
  have f1 := hd.free 1
  obtain ⟨g, cap, c2, ca, hg⟩ := hd.aroAt hk
  rw [ha] at ca
  go_wp2_with fail
  refine (HO _).mono ?_
  rintro e w2 ⟨rfl, rfl⟩
  go_wp2_with fail
  go_ret
  exact ⟨rfl, hd.setPos _ _ (by go_num), hfd.setPos _⟩

set_option maxHeartbeats 1000000 in
theorem rsign_bad (h : RRd w B s p) (k : Nat) (a : Atm) (hk : p.atoms[k]? = some a) (ha : a.aro = false) (h58 : rnext s p = 58) : Calls Tryz.prog 93 #[.pointer (some ⟨B, 0, none⟩), .int .i64 k] w fun e w' => e = .returned (.int .u8 0) ∧ RRd w' B s (p.fails 3 p.pos) ∧ RFr B w w' := by
  have HN := rnext_any h
  have HO := fun w' : World => rone_any w' (rnext s p) signBytes (by decide)
  have es : Bz.isSign 58 = true := rfl
  rw [isOne_sign, h58, es] at HO
  rw [h58] at HN
  have hkl : (k : Int) < (p.atoms.length : Int) := by have := (List.getElem?_eq_some_iff.1 hk).1; omega
  go_enter Tryz.func93, Tryz.ntmps93
  go_wp2_with fail
  refine HN.mono ?_
  rintro e w1 ⟨rfl, n, rfl⟩
  have hd := h.drewN n
  have hfd := (RFr.refl B w).drewN n
  generalize w.drewN n = w1 at *
  have q1 := hd.pos
  have f1 := hd.free 1
  obtain ⟨g, cap, c2, ca, hg⟩ := hd.aroAt hk
  rw [ha] at ca
  go_wp2_with fail
  refine (HO _).mono ?_
  rintro e w2 ⟨rfl, rfl⟩
  go_wp2_with fail
  refine (rfail_any hd 3 p.pos).mono ?_
  rintro e w3 ⟨rfl, hr3, hf3⟩
  go_wp2_with fail
  go_ret
  exact ⟨rfl, hr3, hfd.trans hf3⟩

/-- What sign does. -/
theorem rsign_any (h : RRd w B s p) (hs : s.size ≤ 160) (k : Nat) (hk : k < p.atoms.length) : Calls Tryz.prog 93 #[.pointer (some ⟨B, 0, none⟩), .int .i64 k] w fun e w' => e = .returned (.int .u8 (rsign s k p).1) ∧ RRd w' B s (rsign s k p).2 ∧ RFr B w w' := by
  have gk := List.getElem?_eq_getElem hk
  unfold rsign
  simp only []
  cases hc : Bz.isSign (rnext s p)
  · rw [if_neg (by decide)]
    exact rsign_none h k hc
  · rw [if_pos rfl, gk, Option.map_some]
    by_cases h58 : rnext s p = 58
    · cases ha : p.atoms[k].aro
      · rw [if_pos ⟨h58, rfl⟩]
        exact rsign_bad h k _ gk ha h58
      · rw [if_neg (by simp), h58]
        exact rsign_aro h hs k _ gk ha h58
    · rw [if_neg (fun e => h58 e.1)]
      exact rsign_plain h hs k hc h58
end
section
variable {w : World} {B : Nat} {s : ByteArray} {p : RSt}
def rorder (p : RSt) (mark : Int) (a b : Nat) : Int :=
  if mark = 45 then 1 else if mark = 61 then 2 else if mark = 35 then 3 else if mark = 58 then 4
  else if (p.atoms[a]?).any (·.aro) && (p.atoms[b]?).any (·.aro) then 4 else 1

set_option maxHeartbeats 1000000 in
theorem rorder_any (h : RRd w B s p) (a b : Nat) (m : Int) (x y : Atm) (ha : p.atoms[a]? = some x) (hb : p.atoms[b]? = some y) :
    Calls Tryz.prog 122 #[.pointer (some ⟨B, 0, none⟩), .int .i64 a, .int .i64 b, .int .u8 m] w fun e w' => e = .returned (.int .i64 (rorder p m a b)) ∧ w' = w := by
  have hal : (a : Int) < (p.atoms.length : Int) := by have := (List.getElem?_eq_some_iff.1 ha).1; omega
  have hbl : (b : Int) < (p.atoms.length : Int) := by have := (List.getElem?_eq_some_iff.1 hb).1; omega
  obtain ⟨g, cap, c2, ca, hg⟩ := h.aroAt ha
  obtain ⟨g', cap', c2', cb, hg'⟩ := h.aroAt hb
  rw [c2] at c2'
  simp only [Option.some.injEq, Value.slice.injEq, Addr.mk.injEq, and_true, true_and] at c2'
  obtain ⟨rfl, rfl⟩ := c2'
  unfold rorder
  rw [ha, hb]
  simp only [Option.any_some]
  by_cases h1 : m = 45
  · rw [if_pos h1]
    subst h1
    go_enter Tryz.func122, Tryz.ntmps122
    go_wp2
    go_ret
    exact ⟨rfl, rfl⟩
  rw [if_neg h1]
  have e1 : (m == 45) = false := by simpa using h1
  by_cases h2 : m = 61
  · rw [if_pos h2]
    subst h2
    go_enter Tryz.func122, Tryz.ntmps122
    go_wp2
    go_ret
    exact ⟨rfl, rfl⟩
  rw [if_neg h2]
  have e2 : (m == 61) = false := by simpa using h2
  by_cases h3 : m = 35
  · rw [if_pos h3]
    subst h3
    go_enter Tryz.func122, Tryz.ntmps122
    go_wp2
    go_ret
    exact ⟨rfl, rfl⟩
  rw [if_neg h3]
  have e3 : (m == 35) = false := by simpa using h3
  by_cases h4 : m = 58
  · rw [if_pos h4]
    subst h4
    go_enter Tryz.func122, Tryz.ntmps122
    go_wp2
    go_ret
    exact ⟨rfl, rfl⟩
  rw [if_neg h4]
  have e4 : (m == 58) = false := by simpa using h4
  by_cases hx : x.aro = true
  · by_cases hy : y.aro = true
    · rw [if_pos (by rw [hx, hy]; rfl)]
      rw [hx] at ca
      rw [hy] at cb
      go_enter Tryz.func122, Tryz.ntmps122
      go_wp2
      go_ret
      exact ⟨rfl, rfl⟩
    · rw [if_neg (by rw [hx, Bool.true_and]; exact hy)]
      rw [hx] at ca
      rw [Bool.eq_false_iff.2 hy] at cb
      go_enter Tryz.func122, Tryz.ntmps122
      go_wp2
      go_ret
      exact ⟨rfl, rfl⟩
  · rw [if_neg (by rw [Bool.eq_false_iff.2 hx, Bool.false_and]; decide)]
    rw [Bool.eq_false_iff.2 hx] at ca
    go_enter Tryz.func122, Tryz.ntmps122
    go_wp2
    go_ret
    exact ⟨rfl, rfl⟩
end
/-- The document's reader stands where the plain one stands. -/
structure RTie (s : ByteArray) (q : RSt) (p : St) : Prop where
  e : q.e = 0
  pos : q.pos = p.pos
  atoms : q.atoms = p.atoms
  bonds : q.bonds = p.bonds
  opens : ∀ n, (p.rings n).map (fun o => (o.hung.atom, o.place, o.hung.mark)) = (q.opens.find? (fun x => x.num == n)).map (fun x => ((x.atom : Int), x.place, x.sign))
  apart : q.opens.Pairwise (fun x y => x.num ≠ y.num)
  nums : ∀ x ∈ q.opens, x.num < 100 ∧ x.place < s.size
  count : q.opens.length ≤ p.pos
  chs : ∀ a ∈ p.atoms, (a.ch = 0 ∨ a.ch = 1 ∨ a.ch = -1) ∧ (a.br = false → a.ch = 0)

def RS (w : World) (B : Nat) (s : ByteArray) (p : St) : Prop := ∃ q, RRd w B s q ∧ RTie s q p

/-- Something is wrong: the document's reader says what, and where. -/
structure RErr (w : World) (B : Nat) (er : Int × Int) : Prop where
  nz : er.1 ≠ 0
  pos : ∃ x : Int, w.cell? ⟨B, 1, none⟩ = some (.int .i64 x)
  atoms : ∃ v n xs, w.cell? ⟨B, 2, none⟩ = some v ∧ w.ownsRow (B + 1) 50 4 v n xs
  err : w.cell? ⟨B, 7, none⟩ = some (.int .i64 er.1)
  plc : w.cell? ⟨B, 8, none⟩ = some (.int .i64 er.2)
  free : ∀ i, w.frozen? ⟨B, i, none⟩ = false

section
variable {w : World} {B : Nat} {s : ByteArray} {p : RSt}
theorem RRd.wrong (h : RRd w B s p) {er : Int × Int} (h1 : p.e = er.1) (h2 : p.place = er.2) (h0 : er.1 ≠ 0) : RErr w B er := by
  obtain ⟨v, hv, ho⟩ := h.atoms
  exact ⟨h0, ⟨_, h.pos⟩, ⟨v, _, _, hv, ho⟩, by rw [← h1]; exact h.err, by rw [← h2]; exact h.plc, h.free⟩

theorem RErr.lt {er : Int × Int} (h : RErr w B er) : B < w.heap.size := World.block_lt_of_cell? w ⟨B, 7, none⟩ h.err

theorem RErr.drewN {er : Int × Int} (h : RErr w B er) (n : Nat) : RErr (w.drewN n) B er := ⟨h.nz, h.pos, h.atoms, h.err, h.plc, h.free⟩

theorem RErr.setPos {er : Int × Int} (h : RErr w B er) (x : Int) : RErr (w.setCell ⟨B, 1, none⟩ (.int .i64 x)) B er := by
  obtain ⟨y, hy⟩ := h.pos
  obtain ⟨v, n, xs, hv, ho⟩ := h.atoms
  exact ⟨h.nz, ⟨x, World.cell?_setCell_same w _ _ hy⟩, ⟨v, n, xs, by rw [cell_set_ne (by omega)]; exact hv, ownsRow_setB ho _ _⟩, by rw [cell_set_ne (by omega)]; exact h.err, by rw [cell_set_ne (by omega)]; exact h.plc, fun i => by rw [World.frozen?_setCell]; exact h.free i⟩

/-- The reader's lists, each by itself. -/
structure RL (w : World) (B : Nat) (s : ByteArray) (p : RSt) (la : List Atm) (lc : List Nat) (ld : List Bool) : Prop where
  text : w.cell? ⟨B, 0, none⟩ = some (.string s)
  pos : w.cell? ⟨B, 1, none⟩ = some (.int .i64 p.pos)
  atoms : ∃ v, w.cell? ⟨B, 2, none⟩ = some v ∧ w.ownsRow (B + 1) 50 4 v la.length (la.flatMap plainCells)
  bonds : ∃ v, w.cell? ⟨B, 3, none⟩ = some v ∧ w.ownsRow (B + 1) 46 3 v p.bonds.length (p.bonds.flatMap bndCells)
  ats : ∃ v, w.cell? ⟨B, 4, none⟩ = some v ∧ w.ownsRow (B + 1) 3 1 v lc.length (lc.map fun (a : Nat) => .int .i64 a)
  brs : ∃ v, w.cell? ⟨B, 5, none⟩ = some v ∧ w.ownsRow (B + 1) 4 1 v ld.length (ld.map fun a => .bool a)
  opens : ∃ v, w.cell? ⟨B, 6, none⟩ = some v ∧ w.ownsRow (B + 1) 166 4 v p.opens.length (p.opens.flatMap ropnCells)
  err : w.cell? ⟨B, 7, none⟩ = some (.int .i64 p.e)
  plc : w.cell? ⟨B, 8, none⟩ = some (.int .i64 p.place)
  free : ∀ i, w.frozen? ⟨B, i, none⟩ = false

theorem RRd.rl (h : RRd w B s p) : RL w B s p p.atoms (p.atoms.map (·.pl)) (p.atoms.map (·.br)) := by
  obtain ⟨vc, hc, oc⟩ := h.ats
  obtain ⟨vd, hd, od⟩ := h.brs
  refine ⟨h.text, h.pos, h.atoms, h.bonds, ⟨vc, hc, ?_⟩, ⟨vd, hd, ?_⟩, h.opens, h.err, h.plc, h.free⟩
  · rw [List.length_map, List.map_map]; exact oc
  · rw [List.length_map, List.map_map]; exact od

theorem RL.rrd (h : RL w B s p p.atoms (p.atoms.map (·.pl)) (p.atoms.map (·.br))) : RRd w B s p := by
  obtain ⟨vc, hc, oc⟩ := h.ats
  obtain ⟨vd, hd, od⟩ := h.brs
  rw [List.length_map, List.map_map] at oc od
  exact ⟨h.text, h.pos, h.atoms, h.bonds, ⟨vc, hc, oc⟩, ⟨vd, hd, od⟩, h.opens, h.err, h.plc, h.free⟩

theorem RL.lt {la : List Atm} {lc : List Nat} {ld : List Bool} (h : RL w B s p la lc ld) : B < w.heap.size := World.block_lt_of_cell? w ⟨B, 0, none⟩ h.text

theorem RL.row {la : List Atm} {lc : List Nat} {ld : List Bool} (h : RL w B s p la lc ld) (j : Nat) (h2 : 2 ≤ j) (h6 : j ≤ 6) : ∃ v t z n xs, w.cell? ⟨B, j, none⟩ = some v ∧ w.ownsRow (B + 1) t z v n xs := by
  rcases (by omega : j = 2 ∨ j = 3 ∨ j = 4 ∨ j = 5 ∨ j = 6) with rfl | rfl | rfl | rfl | rfl
  · obtain ⟨v, a, b⟩ := h.atoms; exact ⟨v, _, _, _, _, a, b⟩
  · obtain ⟨v, a, b⟩ := h.bonds; exact ⟨v, _, _, _, _, a, b⟩
  · obtain ⟨v, a, b⟩ := h.ats; exact ⟨v, _, _, _, _, a, b⟩
  · obtain ⟨v, a, b⟩ := h.brs; exact ⟨v, _, _, _, _, a, b⟩
  · obtain ⟨v, a, b⟩ := h.opens; exact ⟨v, _, _, _, _, a, b⟩

theorem RL.mine {la : List Atm} {lc : List Nat} {ld : List Bool} (h : RL w B s p la lc ld) {k : Nat} (hk : RMine w B k) : B ≤ k ∧ k < w.heap.size := by
  rcases hk with rfl | ⟨j, v, h2, h6, hv, hk⟩
  · exact ⟨Nat.le_refl _, h.lt⟩
  · obtain ⟨v', t, z, n, xs, hv', ho⟩ := h.row j h2 h6
    rw [hv] at hv'; cases hv'
    have := ho.lt k hk
    omega

theorem RL.same {la : List Atm} {lc : List Nat} {ld : List Bool} {w' : World} (h : RL w B s p la lc ld) (hs : ∀ k, RMine w B k → w'.heap[k]? = w.heap[k]?) : RL w' B s p la lc ld := by
  have hB := hs B (.inl rfl)
  have hc : ∀ i, w'.cell? ⟨B, i, none⟩ = w.cell? ⟨B, i, none⟩ := fun i => World.cell?_of_block (w := w) hB
  have hf : ∀ i, w'.frozen? ⟨B, i, none⟩ = w.frozen? ⟨B, i, none⟩ := fun i => World.frozen?_of_block (w := w) hB
  obtain ⟨va, ha, oa⟩ := h.atoms
  obtain ⟨vb, hb, ob⟩ := h.bonds
  obtain ⟨vc, hcc, oc⟩ := h.ats
  obtain ⟨vd, hd, od⟩ := h.brs
  obtain ⟨ve, he, oe⟩ := h.opens
  exact ⟨by rw [hc]; exact h.text, by rw [hc]; exact h.pos,
    ⟨va, by rw [hc]; exact ha, ownsRow_same oa fun k hk => hs k (.inr ⟨2, va, by omega, by omega, ha, hk⟩)⟩,
    ⟨vb, by rw [hc]; exact hb, ownsRow_same ob fun k hk => hs k (.inr ⟨3, vb, by omega, by omega, hb, hk⟩)⟩,
    ⟨vc, by rw [hc]; exact hcc, ownsRow_same oc fun k hk => hs k (.inr ⟨4, vc, by omega, by omega, hcc, hk⟩)⟩,
    ⟨vd, by rw [hc]; exact hd, ownsRow_same od fun k hk => hs k (.inr ⟨5, vd, by omega, by omega, hd, hk⟩)⟩,
    ⟨ve, by rw [hc]; exact he, ownsRow_same oe fun k hk => hs k (.inr ⟨6, ve, by omega, by omega, he, hk⟩)⟩,
    by rw [hc]; exact h.err, by rw [hc]; exact h.plc, fun i => by rw [hf]; exact h.free i⟩

theorem RL.drewN {la : List Atm} {lc : List Nat} {ld : List Bool} (h : RL w B s p la lc ld) (n : Nat) : RL (w.drewN n) B s p la lc ld := h.same fun _ _ => rfl
theorem RL.drew {la : List Atm} {lc : List Nat} {ld : List Bool} (h : RL w B s p la lc ld) : RL w.drew B s p la lc ld := h.same fun _ _ => rfl
theorem RL.alloc {la : List Atm} {lc : List Nat} {ld : List Bool} (h : RL w B s p la lc ld) (o : Obj) : RL (w.alloc o) B s p la lc ld := h.same fun k hk => heap_alloc_lt w o k (h.mine hk).2

/-- What a longer list leaves: the block's cells, and the frame. -/
theorem RL.grew {la : List Atm} {lc : List Nat} {ld : List Bool} {w2 : World} (h : RL w B s p la lc ld) {j : Nat} (h2 : 2 ≤ j) (h6 : j ≤ 6) {av : Value} (hav : w.cell? ⟨B, j, none⟩ = some av) (v' : Value) (hg : w.grownBy w2 av.ownBlock)
    (hv : ∀ k, v'.ownBlock = some k → av.ownBlock = some k ∨ w.heap.size ≤ k) :
    (∀ i, w2.cell? ⟨B, i, none⟩ = w.cell? ⟨B, i, none⟩) ∧ (∀ i, w2.frozen? ⟨B, i, none⟩ = false) ∧ RFr B w (w2.setCell ⟨B, j, none⟩ v') := by
  obtain ⟨v0, t, z, n, xs, hv0, o0⟩ := h.row j h2 h6
  rw [hav] at hv0
  cases hv0
  have hB : w2.heap[B]? = w.heap[B]? := hg.block B h.lt (fun e => by have := (o0.lt B e.symm).1; omega)
  have hc : ∀ i, w2.cell? ⟨B, i, none⟩ = w.cell? ⟨B, i, none⟩ := fun i => World.cell?_of_block (w := w) hB
  refine ⟨hc, fun i => by rw [World.frozen?_of_block (w := w) hB]; exact h.free i, ⟨hg.os, hg.tape, hg.output, by simpa using hg.size, ?_, ?_⟩⟩
  · intro k hk hm
    rw [Below.heap_setCell w2 _ _ k (by rintro rfl; exact hm (.inl rfl))]
    exact hg.block k hk (fun e => hm (.inr ⟨j, av, h2, h6, hav, e.symm⟩))
  · intro k hk hm
    rcases hm with rfl | ⟨i, v, i2, i6, hv1, hv2⟩
    · exact .inl rfl
    · by_cases e : i = j
      · subst e
        rw [World.cell?_setCell_same w2 _ _ (by rw [hc]; exact hav)] at hv1
        cases hv1
        rcases hv k hv2 with e | e
        · exact .inr ⟨i, av, i2, i6, hav, e⟩
        · omega
      · rw [cell_set_ne (by omega), hc] at hv1
        exact .inr ⟨i, v, i2, i6, hv1, hv2⟩

theorem ownsRow_other {w w2 : World} {B j : Nat} {t t' : TypeId} {z z' n n' : Nat} {v av v' : Value} {xs xs' : List Value} (o : w.ownsRow (B + 1) t z v n xs) (oa : w.ownsRow (B + 1) t' z' av n' xs') (he : t ≠ t') (hg : w.grownBy w2 av.ownBlock) : (w2.setCell ⟨B, j, none⟩ v').ownsRow (B + 1) t z v n xs :=
  ownsRow_setB (ownsRow_same o fun k hk => hg.block k (o.lt k hk).2 (fun e => ownBlock_ne o oa he k hk e.symm)) _ _

theorem RL.addAtom {la la' : List Atm} {lc : List Nat} {ld : List Bool} {w2 : World} (h : RL w B s p la lc ld) {av : Value} (hav : w.cell? ⟨B, 2, none⟩ = some av) (v' : Value)
    (hown : w2.ownsRow (B + 1) 50 4 v' la'.length (la'.flatMap plainCells)) (hg : w.grownBy w2 av.ownBlock) (hv : ∀ k, v'.ownBlock = some k → av.ownBlock = some k ∨ w.heap.size ≤ k) :
    RL (w2.setCell ⟨B, 2, none⟩ v') B s p la' lc ld ∧ RFr B w (w2.setCell ⟨B, 2, none⟩ v') := by
  obtain ⟨hc, hf, fr⟩ := h.grew (by omega) (by omega) hav v' hg hv
  obtain ⟨va, ha, oa⟩ := h.atoms
  obtain ⟨vb, hb, ob⟩ := h.bonds
  obtain ⟨vc, hcc, oc⟩ := h.ats
  obtain ⟨vd, hd, od⟩ := h.brs
  obtain ⟨ve, he, oe⟩ := h.opens
  rw [hav] at ha; cases ha
  refine ⟨⟨by rw [cell_set_ne (by omega), hc]; exact h.text, by rw [cell_set_ne (by omega), hc]; exact h.pos, ⟨v', World.cell?_setCell_same w2 _ _ (by rw [hc]; exact hav), ownsRow_setB hown _ _⟩,
    ⟨vb, by rw [cell_set_ne (by omega), hc]; exact hb, ownsRow_other ob oa (by decide) hg⟩, ⟨vc, by rw [cell_set_ne (by omega), hc]; exact hcc, ownsRow_other oc oa (by decide) hg⟩,
    ⟨vd, by rw [cell_set_ne (by omega), hc]; exact hd, ownsRow_other od oa (by decide) hg⟩, ⟨ve, by rw [cell_set_ne (by omega), hc]; exact he, ownsRow_other oe oa (by decide) hg⟩,
    by rw [cell_set_ne (by omega), hc]; exact h.err, by rw [cell_set_ne (by omega), hc]; exact h.plc, fun i => by rw [World.frozen?_setCell]; exact hf i⟩, fr⟩

theorem RL.addBond {la : List Atm} {lc : List Nat} {ld : List Bool} {w2 : World} (h : RL w B s p la lc ld) (lb : List Bnd) {av : Value} (hav : w.cell? ⟨B, 3, none⟩ = some av) (v' : Value)
    (hown : w2.ownsRow (B + 1) 46 3 v' lb.length (lb.flatMap bndCells)) (hg : w.grownBy w2 av.ownBlock) (hv : ∀ k, v'.ownBlock = some k → av.ownBlock = some k ∨ w.heap.size ≤ k) :
    RL (w2.setCell ⟨B, 3, none⟩ v') B s { p with bonds := lb } la lc ld ∧ RFr B w (w2.setCell ⟨B, 3, none⟩ v') := by
  obtain ⟨hc, hf, fr⟩ := h.grew (by omega) (by omega) hav v' hg hv
  obtain ⟨va, ha, oa⟩ := h.atoms
  obtain ⟨vb, hb, ob⟩ := h.bonds
  obtain ⟨vc, hcc, oc⟩ := h.ats
  obtain ⟨vd, hd, od⟩ := h.brs
  obtain ⟨ve, he, oe⟩ := h.opens
  rw [hav] at hb; cases hb
  refine ⟨⟨by rw [cell_set_ne (by omega), hc]; exact h.text, by rw [cell_set_ne (by omega), hc]; exact h.pos, ⟨va, by rw [cell_set_ne (by omega), hc]; exact ha, ownsRow_other oa ob (by decide) hg⟩,
    ⟨v', World.cell?_setCell_same w2 _ _ (by rw [hc]; exact hav), ownsRow_setB hown _ _⟩, ⟨vc, by rw [cell_set_ne (by omega), hc]; exact hcc, ownsRow_other oc ob (by decide) hg⟩,
    ⟨vd, by rw [cell_set_ne (by omega), hc]; exact hd, ownsRow_other od ob (by decide) hg⟩, ⟨ve, by rw [cell_set_ne (by omega), hc]; exact he, ownsRow_other oe ob (by decide) hg⟩,
    by rw [cell_set_ne (by omega), hc]; exact h.err, by rw [cell_set_ne (by omega), hc]; exact h.plc, fun i => by rw [World.frozen?_setCell]; exact hf i⟩, fr⟩

theorem RL.addAt {la : List Atm} {lc lc' : List Nat} {ld : List Bool} {w2 : World} (h : RL w B s p la lc ld) {av : Value} (hav : w.cell? ⟨B, 4, none⟩ = some av) (v' : Value)
    (hown : w2.ownsRow (B + 1) 3 1 v' lc'.length (lc'.map fun (a : Nat) => .int .i64 a)) (hg : w.grownBy w2 av.ownBlock) (hv : ∀ k, v'.ownBlock = some k → av.ownBlock = some k ∨ w.heap.size ≤ k) :
    RL (w2.setCell ⟨B, 4, none⟩ v') B s p la lc' ld ∧ RFr B w (w2.setCell ⟨B, 4, none⟩ v') := by
  obtain ⟨hc, hf, fr⟩ := h.grew (by omega) (by omega) hav v' hg hv
  obtain ⟨va, ha, oa⟩ := h.atoms
  obtain ⟨vb, hb, ob⟩ := h.bonds
  obtain ⟨vc, hcc, oc⟩ := h.ats
  obtain ⟨vd, hd, od⟩ := h.brs
  obtain ⟨ve, he, oe⟩ := h.opens
  rw [hav] at hcc; cases hcc
  refine ⟨⟨by rw [cell_set_ne (by omega), hc]; exact h.text, by rw [cell_set_ne (by omega), hc]; exact h.pos, ⟨va, by rw [cell_set_ne (by omega), hc]; exact ha, ownsRow_other oa oc (by decide) hg⟩,
    ⟨vb, by rw [cell_set_ne (by omega), hc]; exact hb, ownsRow_other ob oc (by decide) hg⟩, ⟨v', World.cell?_setCell_same w2 _ _ (by rw [hc]; exact hav), ownsRow_setB hown _ _⟩,
    ⟨vd, by rw [cell_set_ne (by omega), hc]; exact hd, ownsRow_other od oc (by decide) hg⟩, ⟨ve, by rw [cell_set_ne (by omega), hc]; exact he, ownsRow_other oe oc (by decide) hg⟩,
    by rw [cell_set_ne (by omega), hc]; exact h.err, by rw [cell_set_ne (by omega), hc]; exact h.plc, fun i => by rw [World.frozen?_setCell]; exact hf i⟩, fr⟩

theorem RL.addBr {la : List Atm} {lc : List Nat} {ld ld' : List Bool} {w2 : World} (h : RL w B s p la lc ld) {av : Value} (hav : w.cell? ⟨B, 5, none⟩ = some av) (v' : Value)
    (hown : w2.ownsRow (B + 1) 4 1 v' ld'.length (ld'.map fun a => .bool a)) (hg : w.grownBy w2 av.ownBlock) (hv : ∀ k, v'.ownBlock = some k → av.ownBlock = some k ∨ w.heap.size ≤ k) :
    RL (w2.setCell ⟨B, 5, none⟩ v') B s p la lc ld' ∧ RFr B w (w2.setCell ⟨B, 5, none⟩ v') := by
  obtain ⟨hc, hf, fr⟩ := h.grew (by omega) (by omega) hav v' hg hv
  obtain ⟨va, ha, oa⟩ := h.atoms
  obtain ⟨vb, hb, ob⟩ := h.bonds
  obtain ⟨vc, hcc, oc⟩ := h.ats
  obtain ⟨vd, hd, od⟩ := h.brs
  obtain ⟨ve, he, oe⟩ := h.opens
  rw [hav] at hd; cases hd
  refine ⟨⟨by rw [cell_set_ne (by omega), hc]; exact h.text, by rw [cell_set_ne (by omega), hc]; exact h.pos, ⟨va, by rw [cell_set_ne (by omega), hc]; exact ha, ownsRow_other oa od (by decide) hg⟩,
    ⟨vb, by rw [cell_set_ne (by omega), hc]; exact hb, ownsRow_other ob od (by decide) hg⟩, ⟨vc, by rw [cell_set_ne (by omega), hc]; exact hcc, ownsRow_other oc od (by decide) hg⟩,
    ⟨v', World.cell?_setCell_same w2 _ _ (by rw [hc]; exact hav), ownsRow_setB hown _ _⟩, ⟨ve, by rw [cell_set_ne (by omega), hc]; exact he, ownsRow_other oe od (by decide) hg⟩,
    by rw [cell_set_ne (by omega), hc]; exact h.err, by rw [cell_set_ne (by omega), hc]; exact h.plc, fun i => by rw [World.frozen?_setCell]; exact hf i⟩, fr⟩

theorem RL.addOpen {la : List Atm} {lc : List Nat} {ld : List Bool} {w2 : World} (h : RL w B s p la lc ld) (lo : List ROpn) {av : Value} (hav : w.cell? ⟨B, 6, none⟩ = some av) (v' : Value)
    (hown : w2.ownsRow (B + 1) 166 4 v' lo.length (lo.flatMap ropnCells)) (hg : w.grownBy w2 av.ownBlock) (hv : ∀ k, v'.ownBlock = some k → av.ownBlock = some k ∨ w.heap.size ≤ k) :
    RL (w2.setCell ⟨B, 6, none⟩ v') B s { p with opens := lo } la lc ld ∧ RFr B w (w2.setCell ⟨B, 6, none⟩ v') := by
  obtain ⟨hc, hf, fr⟩ := h.grew (by omega) (by omega) hav v' hg hv
  obtain ⟨va, ha, oa⟩ := h.atoms
  obtain ⟨vb, hb, ob⟩ := h.bonds
  obtain ⟨vc, hcc, oc⟩ := h.ats
  obtain ⟨vd, hd, od⟩ := h.brs
  obtain ⟨ve, he, oe⟩ := h.opens
  rw [hav] at he; cases he
  refine ⟨⟨by rw [cell_set_ne (by omega), hc]; exact h.text, by rw [cell_set_ne (by omega), hc]; exact h.pos, ⟨va, by rw [cell_set_ne (by omega), hc]; exact ha, ownsRow_other oa oe (by decide) hg⟩,
    ⟨vb, by rw [cell_set_ne (by omega), hc]; exact hb, ownsRow_other ob oe (by decide) hg⟩, ⟨vc, by rw [cell_set_ne (by omega), hc]; exact hcc, ownsRow_other oc oe (by decide) hg⟩,
    ⟨vd, by rw [cell_set_ne (by omega), hc]; exact hd, ownsRow_other od oe (by decide) hg⟩, ⟨v', World.cell?_setCell_same w2 _ _ (by rw [hc]; exact hav), ownsRow_setB hown _ _⟩,
    by rw [cell_set_ne (by omega), hc]; exact h.err, by rw [cell_set_ne (by omega), hc]; exact h.plc, fun i => by rw [World.frozen?_setCell]; exact hf i⟩, fr⟩

/-- The frame and the reader stand over a step that leaves all that was there. -/
theorem RFr.below {a w' : World} (h : RFr B a w) (hB : B < w.heap.size) (hb : Below w.heap.size w w') : RFr B a w' :=
  h.trans ⟨hb.os, hb.tape, hb.output, hb.size, fun k hk _ => hb.block k hk, fun _ _ hm => (RMine.same (hb.block B hB)).1 hm⟩
theorem RRd.below {w' : World} (h : RRd w B s p) (hb : Below w.heap.size w w') : RRd w' B s p := h.same fun k hk => hb.block k (h.mine hk).2
theorem RL.below {la : List Atm} {lc : List Nat} {ld : List Bool} {w' : World} (h : RL w B s p la lc ld) (hb : Below w.heap.size w w') : RL w' B s p la lc ld := h.same fun k hk => hb.block k (h.mine hk).2
theorem RL.setOther {la : List Atm} {lc : List Nat} {ld : List Bool} (h : RL w B s p la lc ld) {q : Addr} (hq : ¬ RMine w B q.block) (u : Value) : RL (w.setCell q u) B s p la lc ld :=
  h.same fun k hk => Below.heap_setCell w q u k (by rintro rfl; exact hq hk)
end
end Go.Proofs.YtcabaecbmkgclaaGreatDoor
