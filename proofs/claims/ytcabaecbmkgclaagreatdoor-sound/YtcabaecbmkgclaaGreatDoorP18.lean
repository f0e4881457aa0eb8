/-
  What benzol.done does.
  What benzol.Kekulize does.
  How many pairs a greatest matching of the candidates has: as many as there are candidates, just if each can have its own.
  The text that is written is read as the same molecule, with its double bonds (no program).
  Two molecules that are apart: all candidates can have a mate just if they can in each.
-/
import Derived.Test.YtcabaecbmkgclaaGreatDoorP17

namespace Go.Proofs.YtcabaecbmkgclaaGreatDoor.Kd
open Go.RowKit Bz Mt Mg Rf Bu Cp

/-- What done hands back. -/
def DnIs (w : World) (s : ByteArray) (p : St) (os : List Nat) (e : Ending) (w' : World) : Prop :=
  ∃ ov cv, e = .returned (.agg #[.int .i64 1, ov, .string ⟨(wrL s.data.toList p.bonds os).toArray⟩, cv, .slice none 0 0, .slice none 0 0]) ∧ Ints w' w.heap.size ov os ∧ Ints w' w.heap.size cv (List.range p.atoms.length) ∧
    (∀ k, ov.ownBlock = some k → cv.ownBlock ≠ some k) ∧ Below w.heap.size w w'

/-- Where done stands behind Doubled. -/
structure DnAt (w : World) (base : Nat) (p : St) (os : List Nat) (av bv ov : Value) (W : World) : Prop where
  kd : Kd W w.heap.size base p
  cA : W.cell? ⟨w.heap.size, 24, none⟩ = some av
  cB : W.cell? ⟨w.heap.size, 25, none⟩ = some bv
  io : Ints W (w.heap.size + 2) ov os
  r : W.heap[w.heap.size + 1]? = some (.cells #[.int .i64 0, .slice none 0 0, .string ⟨#[]⟩, .slice none 0 0, .slice none 0 0, .slice none 0 0] 31 (0, 0))
  below : Below w.heap.size w W

theorem DnAt.on {w : World} {base : Nat} {p : St} {os : List Nat} {av bv ov : Value} {W W' : World} (h : DnAt w base p os av bv ov W) (hb : Below W.heap.size W W') : DnAt w base p os av bv ov W' := by
  have hl : w.heap.size + 1 < W.heap.size := (Array.getElem?_eq_some_iff.1 h.r).1
  exact ⟨h.kd.below hb, (hb.cell (p := ⟨w.heap.size, 24, none⟩) (by show w.heap.size < _; omega)).trans h.cA, (hb.cell (p := ⟨w.heap.size, 25, none⟩) (by show w.heap.size < _; omega)).trans h.cB, ownsRow_same h.io fun k hk => hb.block k (h.io.lt k hk).2, (hb.block _ hl).trans h.r, h.below.trans (hb.mono (by omega))⟩

theorem DnAt.drew {w : World} {base : Nat} {p : St} {os : List Nat} {av bv ov : Value} {W : World} (h : DnAt w base p os av bv ov W) : DnAt w base p os av bv ov W.drew := h.on (Below.refl _ W).drew

theorem DnAt.cells {w : World} {base : Nat} {p : St} {os : List Nat} {av bv ov : Value} {W : World} (h : DnAt w base p os av bv ov W) :
    W.cell? ⟨w.heap.size + 1, 0, none⟩ = some (.int .i64 0) ∧ W.cell? ⟨w.heap.size + 1, 1, none⟩ = some (.slice none 0 0) ∧ W.cell? ⟨w.heap.size + 1, 2, none⟩ = some (.string ⟨#[]⟩) ∧ W.cell? ⟨w.heap.size + 1, 3, none⟩ = some (.slice none 0 0) ∧ W.cell? ⟨w.heap.size + 1, 4, none⟩ = some (.slice none 0 0) ∧ W.cell? ⟨w.heap.size + 1, 5, none⟩ = some (.slice none 0 0) ∧ ∀ j, W.frozen? ⟨w.heap.size + 1, j, none⟩ = false := by
  refine ⟨?_, ?_, ?_, ?_, ?_, ?_, fun j => Lib.frozen_of_heap h.r j⟩
  all_goals (rw [Lib.cell_of_heap h.r]; rfl)

/-- What counted has laid. -/
structure CvAt (w : World) (n : Nat) (ov cv : Value) (W : World) : Prop where
  i : Ints W (w.heap.size + 2) cv (List.range n)
  ne : ∀ k, ov.ownBlock = some k → cv.ownBlock ≠ some k

theorem CvAt.on {w : World} {n : Nat} {ov cv : Value} {W W' : World} (h : CvAt w n ov cv W) (hb : Below W.heap.size W W') : CvAt w n ov cv W' :=
  ⟨ownsRow_same h.i fun k hk => hb.block k (h.i.lt k hk).2, h.ne⟩

theorem DnAt.cv {w : World} {base : Nat} {p : St} {os : List Nat} {av bv ov : Value} {W : World} (h : DnAt w base p os av bv ov W) {n : Nat} {cv : Value} {W' : World} (hi : Ints W' W.heap.size cv (List.range n)) : CvAt w n ov cv W' := by
  have hl : w.heap.size + 1 < W.heap.size := (Array.getElem?_eq_some_iff.1 h.r).1
  refine ⟨ownsRow_mono hi (by omega), fun k hk hc => ?_⟩
  have := (h.io.lt k hk).2
  have := (hi.lt k hc).1
  omega

theorem DnAt.end_ {w : World} {base : Nat} {p : St} {s : ByteArray} {os : List Nat} {av bv ov cv : Value} {W : World} (h : DnAt w base p os av bv ov W) (hc : CvAt w p.atoms.length ov cv W) (v0 v1 v2 v3 v4 v5 : Value) :
    DnIs w s p os (.returned (.agg #[.int .i64 1, ov, .string ⟨(wrL s.data.toList p.bonds os).toArray⟩, cv, .slice none 0 0, .slice none 0 0])) ((((((W.setCell ⟨w.heap.size + 1, 0, none⟩ v0).setCell ⟨w.heap.size + 1, 1, none⟩ v1).setCell ⟨w.heap.size + 1, 2, none⟩ v2).setCell ⟨w.heap.size + 1, 3, none⟩ v3).setCell ⟨w.heap.size + 1, 4, none⟩ v4).setCell ⟨w.heap.size + 1, 5, none⟩ v5) := by
  refine ⟨ov, cv, rfl, ownsRow_mono (base := w.heap.size + 2) ?_ (by omega), ownsRow_mono (base := w.heap.size + 2) ?_ (by omega), hc.ne, ?_⟩
  · have := h.io
    exact ownsRow_setCell_below (ownsRow_setCell_below (ownsRow_setCell_below (ownsRow_setCell_below (ownsRow_setCell_below (ownsRow_setCell_below this (by simp) _) (by simp) _) (by simp) _) (by simp) _) (by simp) _) (by simp) _
  · have := hc.i
    exact ownsRow_setCell_below (ownsRow_setCell_below (ownsRow_setCell_below (ownsRow_setCell_below (ownsRow_setCell_below (ownsRow_setCell_below this (by simp) _) (by simp) _) (by simp) _) (by simp) _) (by simp) _) (by simp) _
  · have := h.below
    exact (((((this.setCell (p := ⟨w.heap.size + 1, 0, none⟩) (by simp) _).setCell (p := ⟨w.heap.size + 1, 1, none⟩) (by simp) _).setCell (p := ⟨w.heap.size + 1, 2, none⟩) (by simp) _).setCell (p := ⟨w.heap.size + 1, 3, none⟩) (by simp) _).setCell (p := ⟨w.heap.size + 1, 4, none⟩) (by simp) _).setCell (p := ⟨w.heap.size + 1, 5, none⟩) (by simp) _

section
variable {w : World} {base : Nat} {s : ByteArray} {p : St}

theorem box_at {w : World} {ns : List Value} {av bv : Value} (hlen : ns.length = 24) : (w.alloc (.cells (ns ++ [av, bv]).toArray 69)).cell? ⟨w.heap.size, 24, none⟩ = some av ∧ (w.alloc (.cells (ns ++ [av, bv]).toArray 69)).cell? ⟨w.heap.size, 25, none⟩ = some bv := by
  constructor
  · rw [World.cell?_alloc_new]
    simp [hlen]
  · rw [World.cell?_alloc_new]
    simp [hlen]

theorem box_kd {ns : List Value} {av bv : Value} (hlen : ns.length = 24) (ha : w.ownsRow base 124 6 av p.atoms.length (p.atoms.flatMap atmCells)) (hb : w.ownsRow base 102 4 bv p.bonds.length (p.bonds.flatMap pbCells)) :
    Kd (w.alloc (.cells (ns ++ [av, bv]).toArray 69)) w.heap.size base p := by
  have hb1 : Below w.heap.size w (w.alloc (.cells (ns ++ [av, bv]).toArray 69)) := (Below.refl _ w).alloc (Nat.le_refl _) _
  exact ⟨⟨av, (box_at hlen).1, ownsRow_same ha fun k hk => hb1.block k (ha.lt k hk).2⟩, ⟨bv, (box_at hlen).2, ownsRow_same hb fun k hk => hb1.block k (hb.lt k hk).2⟩, by simp⟩

set_option maxRecDepth 100000 in
set_option maxHeartbeats 4000000 in
theorem done_any {ns : List Value} {av bv : Value} (hlen : ns.length = 24) (ha : w.ownsRow base 124 6 av p.atoms.length (p.atoms.flatMap atmCells)) (hb : w.ownsRow base 102 4 bv p.bonds.length (p.bonds.flatMap pbCells)) (o : Ok s p) (en : En p.atoms.length p.bonds s.size) (hs : s.size ≤ 160) (hasc : Ascii s.data.toList) {pv : Value} {P : List (Nat × Nat)} (hP : NPr w pv P) (hPl : P.length ≤ 1000) :
    Calls Tryz.prog 25 #[.string s, .agg (ns ++ [av, bv]).toArray, pv] w (DnIs w s p (p.bonds.map (ordN P))) := by
  have K0 := box_kd hlen ha hb
  have cA := (box_at (w := w) (av := av) (bv := bv) hlen).1
  have cB := (box_at (w := w) (av := av) (bv := bv) hlen).2
  obtain ⟨aso, acap, rfl⟩ := ownsRow_shape ha
  obtain ⟨bso, bcap, rfl⟩ := ownsRow_shape hb
  have hbb : Below w.heap.size w (w.alloc (.cells (ns ++ [Value.slice aso p.atoms.length acap, Value.slice bso p.bonds.length bcap]).toArray 69)) := (Below.refl _ w).alloc (Nat.le_refl _) _
  obtain ⟨w1, hw1⟩ : ∃ w1, (w.alloc (.cells (ns ++ [Value.slice aso p.atoms.length acap, Value.slice bso p.bonds.length bcap]).toArray 69)).alloc (.cells #[.int .i64 0, .slice none 0 0, .string ⟨#[]⟩, .slice none 0 0, .slice none 0 0, .slice none 0 0] 31) = w1 := ⟨_, rfl⟩
  have hb1 : Below (w.heap.size + 1) (w.alloc (.cells (ns ++ [Value.slice aso p.atoms.length acap, Value.slice bso p.bonds.length bcap]).toArray 69)) w1 := by
    rw [← hw1]
    exact (Below.refl _ _).alloc (by simp) _
  have hs1 : w1.heap.size = w.heap.size + 2 := by rw [← hw1]; simp
  have hz : (w.alloc (.cells (ns ++ [Value.slice aso p.atoms.length acap, Value.slice bso p.bonds.length bcap]).toArray 69)).heap.size = w.heap.size + 1 := by simp
  have K1 : Kd w1 w.heap.size base p := K0.below (by rw [hz]; exact hb1)
  have r1 : w1.heap[w.heap.size + 1]? = some (.cells #[.int .i64 0, .slice none 0 0, .string ⟨#[]⟩, .slice none 0 0, .slice none 0 0, .slice none 0 0] 31 (0, 0)) := by
    rw [← hw1, ← hz]
    exact heap_alloc_new _ _
  have hB1 : Below w.heap.size w w1 := hbb.trans (hb1.mono (by omega))
  have DB := doubled_any K1 o hs (hP.below hB1) hPl
  have HD1 : Hid (∀ W ov, Below w1.heap.size w1 W → Ints W w1.heap.size ov (p.bonds.map (ordN P)) → DnAt w base p (p.bonds.map (ordN P)) (.slice aso p.atoms.length acap) (.slice bso p.bonds.length bcap) ov W) := fun W ov hb hi =>
    ⟨K1.below hb, (hb.cell (p := ⟨w.heap.size, 24, none⟩) (by show w.heap.size < _; omega)).trans ((hb1.cell (p := ⟨w.heap.size, 24, none⟩) (by simp)).trans cA), (hb.cell (p := ⟨w.heap.size, 25, none⟩) (by show w.heap.size < _; omega)).trans ((hb1.cell (p := ⟨w.heap.size, 25, none⟩) (by simp)).trans cB), by rw [← hs1]; exact hi, (hb.block _ (by omega)).trans r1, hB1.trans (hb.mono (by omega))⟩
  have WRITE : ∀ W ov, DnAt w base p (p.bonds.map (ordN P)) (.slice aso p.atoms.length acap) (.slice bso p.bonds.length bcap) ov W → Calls Tryz.prog 41 #[.string s, .slice bso p.bonds.length bcap, ov] W fun e w' => e = .returned (.string ⟨(wrL s.data.toList p.bonds (p.bonds.map (ordN P))).toArray⟩) ∧ Below W.heap.size W w' := fun W ov h =>
    write_any h.kd o en hs hasc h.cB h.io (by simp)
  have COUNT := fun W => counted_any W p.atoms.length (by have := o.atoms; omega)
  clear ha hb hlen K0 K1 r1 hB1 hbb hb1 cA cB o en hz hP
  go_enter Tryz.func25, Tryz.ntmps25
  go_wp2_with fail
  refine DB.mono ?_
  rintro e w2 ⟨ov, rfl, hi2, hb2⟩
  have hd2 := HD1.out w2 ov hb2 hi2
  obtain ⟨oso, ocap, rfl⟩ := hi2.shape
  have HD : Hid (DnAt w base p (p.bonds.map (ordN P)) (.slice aso p.atoms.length acap) (.slice bso p.bonds.length bcap) (.slice oso (p.bonds.map (ordN P)).length ocap) w2) := hd2
  clear DB HD1 hw1 hs1 hi2 hb2 hd2
  generalize (p.bonds.map (ordN P)) = os at *
  go_wp2_with fail
  have hD := HD.out.drew
  have c24 := hD.cA
  have c25 := hD.cB
  obtain ⟨r0, r1, r2, r3, r4, r5, rf⟩ := hD.cells
  clear HD
  go_region_with (first
    | (go_at_call 41; refine (WRITE _ _ hD).mono ?_; rintro e wA ⟨rfl, hbA⟩; have hD := hD.on hbA; have c24 := hD.cA; have c25 := hD.cB; obtain ⟨r0, r1, r2, r3, r4, r5, rf⟩ := hD.cells; try (have hC := hC.on hbA))
    | (go_at_call 42; refine (COUNT _).mono ?_; rintro e wB ⟨cv, rfl, hi, hbB⟩; obtain ⟨cso, ccap, rfl⟩ := hi.shape; have hC := hD.cv hi; have hD := hD.on hbB; have c24 := hD.cA; have c25 := hD.cB; obtain ⟨r0, r1, r2, r3, r4, r5, rf⟩ := hD.cells))
  all_goals
    have HE := fun v0 v1 v2 v3 v4 v5 => hD.end_ (s := s) hC v0 v1 v2 v3 v4 v5
    have HEH : Hid _ := HE
    clear HE
    go_wp2_with fail
    refine bodyPost_ret (v := .agg #[.int .i64 1, .slice oso os.length ocap, .string ⟨(wrL s.data.toList p.bonds os).toArray⟩, .slice cso p.atoms.length ccap, .slice none 0 0, .slice none 0 0]) ?_ rfl ?_
    · simp only [results, Tryz.results25]
      go_simp
    · have := HEH.out (.int .i64 1) (.slice oso os.length ocap) (.string ⟨(wrL s.data.toList p.bonds os).toArray⟩) (.slice cso p.atoms.length ccap) (.slice none 0 0) (.slice none 0 0)
      simpa using this
end
end Go.Proofs.YtcabaecbmkgclaaGreatDoor.Kd

namespace Go.Proofs.YtcabaecbmkgclaaGreatDoor.Kd
open Go.RowKit Bz Mt Mg Rf Bu Cp

/-- What Kekulize hands back: something is wrong. -/
structure KkBad (s : ByteArray) (w : World) (e : Ending) (w' : World) (er : Int × Int) : Prop where
  h : Bz.parse s = .error er
  he : e = .returned (.tuple #[.agg #[.int .i64 0, .slice none 0 0, .string ⟨#[]⟩, .slice none 0 0, .slice none 0 0, .slice none 0 0], .int .i64 er.1, .int .i64 er.2])
  hne : er.1 ≠ 0
  hb : Below w.heap.size w w'
/-- Or it is barred. -/
structure KkBar (w : World) (n : Nat) (mate : Nat → Option Nat) (f : Fo) (e : Ending) (w' : World) (pv uv : Value) : Prop where
  he : e = .returned (.tuple #[.agg #[.int .i64 2, .slice none 0 0, .string ⟨#[]⟩, .slice none 0 0, pv, uv], .int .i64 0, .int .i64 0])
  hp : Prs w' w.heap.size pv (pairsF n mate)
  hu : Ints w' w.heap.size uv (barF n f)
  hb : Below w.heap.size w w'
/-- Or it is done. -/
structure KkDone (s : ByteArray) (w : World) (q : St) (os : List Nat) (e : Ending) (w' : World) (ov cv : Value) : Prop where
  he : e = .returned (.tuple #[.agg #[.int .i64 1, ov, .string ⟨(wrL s.data.toList q.bonds os).toArray⟩, cv, .slice none 0 0, .slice none 0 0], .int .i64 0, .int .i64 0])
  ho : Ints w' w.heap.size ov os
  hc : Ints w' w.heap.size cv (List.range q.atoms.length)
  ne : ∀ k, ov.ownBlock = some k → cv.ownBlock ≠ some k
  hb : Below w.heap.size w w'
/-- There is a molecule. -/
structure KkGood (s : ByteArray) (w : World) (e : Ending) (w' : World) (q : St) (mate : Nat → Option Nat) (f : Fo) (gh : Gh) : Prop where
  h : Bz.parse s = .ok (q.atoms, q.bonds)
  ho : Ok s q
  en : En q.atoms.length q.bonds s.size
  hs : s.size ≤ 160
  hne : 0 < q.atoms.length
  best : Best (grL q.atoms.length (candEdges q q.bonds)) mate f gh
  case : (2 * (pairsF q.atoms.length mate).length < cnt q.atoms.length (cand q) ∧ ∃ pv uv, KkBar w q.atoms.length mate f e w' pv uv) ∨
    (¬ 2 * (pairsF q.atoms.length mate).length < cnt q.atoms.length (cand q) ∧ ∃ ov cv, KkDone s w q (q.bonds.map (ordN (pairsF q.atoms.length mate))) e w' ov cv)
def KkIs (s : ByteArray) (w : World) (e : Ending) (w' : World) : Prop := (∃ er, KkBad s w e w' er) ∨ ∃ q mate f h, KkGood s w e w' q mate f h

/-- Where Kekulize stands behind the reading. -/
structure KkAt (w : World) (q : St) (ns : List Value) (av bv : Value) (M : Nat) (W : World) : Prop where
  res : W.heap[w.heap.size]? = some (.cells #[.int .i64 0, .slice none 0 0, .string ⟨#[]⟩, .slice none 0 0, .slice none 0 0, .slice none 0 0] 31 (0, 0))
  m : W.rangeAt M 0 (ns ++ [av, bv])
  len : ns.length = 24
  atoms : W.ownsRow (w.heap.size + 1) 124 6 av q.atoms.length (q.atoms.flatMap atmCells)
  bonds : W.ownsRow (w.heap.size + 1) 102 4 bv q.bonds.length (q.bonds.flatMap pbCells)
  lt : M < W.heap.size
  below : Below w.heap.size w W

section
variable {w : World} {q : St} {ns : List Value} {av bv : Value} {M : Nat} {W W' : World}

theorem KkAt.rlt (h : KkAt w q ns av bv M W) : w.heap.size < W.heap.size := (Array.getElem?_eq_some_iff.1 h.res).1

theorem KkAt.on (h : KkAt w q ns av bv M W) (hb : Below W.heap.size W W') : KkAt w q ns av bv M W' :=
  ⟨(hb.block _ h.rlt).trans h.res, fun j v hj => (hb.cell (p := ⟨M, 0 + j, none⟩) h.lt).trans (h.m j v hj), h.len, ownsRow_same h.atoms fun k hk => hb.block k (h.atoms.lt k hk).2, ownsRow_same h.bonds fun k hk => hb.block k (h.bonds.lt k hk).2, Nat.lt_of_lt_of_le h.lt hb.size, h.below.trans (hb.mono (Nat.le_of_lt h.rlt))⟩

theorem KkAt.c24 (h : KkAt w q ns av bv M W) : W.cell? ⟨M, 24, none⟩ = some av := by
  have := h.m 24 av (by simp [h.len])
  rwa [Nat.zero_add] at this
theorem KkAt.c25 (h : KkAt w q ns av bv M W) : W.cell? ⟨M, 25, none⟩ = some bv := by
  have := h.m 25 bv (by simp [h.len])
  rwa [Nat.zero_add] at this

theorem KkAt.kd (h : KkAt w q ns av bv M W) : Kd W M (w.heap.size + 1) q := ⟨⟨av, h.c24, h.atoms⟩, ⟨bv, h.c25, h.bonds⟩, h.lt⟩

theorem KkAt.cells (h : KkAt w q ns av bv M W) :
    W.cell? ⟨w.heap.size, 0, none⟩ = some (.int .i64 0) ∧ W.cell? ⟨w.heap.size, 1, none⟩ = some (.slice none 0 0) ∧ W.cell? ⟨w.heap.size, 2, none⟩ = some (.string ⟨#[]⟩) ∧ W.cell? ⟨w.heap.size, 3, none⟩ = some (.slice none 0 0) ∧ W.cell? ⟨w.heap.size, 4, none⟩ = some (.slice none 0 0) ∧ W.cell? ⟨w.heap.size, 5, none⟩ = some (.slice none 0 0) ∧ ∀ j, W.frozen? ⟨w.heap.size, j, none⟩ = false := by
  refine ⟨?_, ?_, ?_, ?_, ?_, ?_, fun j => Lib.frozen_of_heap h.res j⟩
  all_goals (rw [Lib.cell_of_heap h.res]; rfl)
end

abbrev resOf (w : World) : World := w.alloc (.cells #[.int .i64 0, .slice none 0 0, .string ⟨#[]⟩, .slice none 0 0, .slice none 0 0, .slice none 0 0] 31)

theorem kk_start {w w1 : World} {q : St} {ns : List Value} {av bv : Value} (hr : ReadOk (resOf w) w1 q ns av bv) : KkAt w q ns av bv w1.heap.size ((w1.alloc (.cells zeroMol 69)).setCells w1.heap.size 0 (ns ++ [av, bv])) := by
  obtain ⟨h1, h2, oa, ob, hb⟩ := hr
  have hsz : (resOf w).heap.size = w.heap.size + 1 := by simp
  rw [hsz] at hb oa ob
  have hs1 := hb.size
  rw [hsz] at hs1
  have hlen : (ns ++ [av, bv]).length = 26 := by simp [h1]
  have HBL : Below w1.heap.size w1 ((w1.alloc (.cells zeroMol 69)).setCells w1.heap.size 0 (ns ++ [av, bv])) := below_setCells (Nat.le_refl _) _ _ _ ((Below.refl _ w1).alloc (Nat.le_refl _) _)
  have HRA := World.rangeAt_setCells_same (w1.alloc (.cells zeroMol 69)) w1.heap.size 0 (ns ++ [av, bv]) (by rw [hlen]; exact there_new w1)
  have C24 := HRA 24 av (by rw [List.getElem?_append_right (by omega), h1]; rfl)
  refine ⟨(HBL.block _ (by omega)).trans ((hb.block _ (by omega)).trans (heap_alloc_new w _)), HRA, h1, ownsRow_same oa fun k hk => HBL.block k (oa.lt k hk).2, ownsRow_same ob fun k hk => HBL.block k (ob.lt k hk).2, World.block_lt_of_cell? _ ⟨w1.heap.size, 0 + 24, none⟩ C24, ?_⟩
  exact ((Below.refl _ w).alloc (Nat.le_refl _) _).trans ((hb.trans (HBL.mono hs1)).mono (by omega))

set_option maxRecDepth 100000 in
set_option maxHeartbeats 4000000 in
theorem kekulize_any (s : ByteArray) (w : World) (hm : s.size ≤ maxLen) : Calls Tryz.prog 14 #[.string s] w (KkIs s w) := by
  go_enter Tryz.func14, Tryz.ntmps14
  go_wp2_with fail
  refine (read_any s _ hm).mono ?_
  rintro e w1 h
  rcases h with ⟨er, h, he, hne, hb⟩ | ⟨q, ns, av, bv, h, he, hr, ho, hne⟩
  · subst he
    have HP : Hid (Bz.parse s = .error er) := h
    have hsz : (resOf w).heap.size = w.heap.size + 1 := by simp
    rw [hsz] at hb
    have hs1 := hb.size
    rw [hsz] at hs1
    have HT : Hid ((w1.alloc (.cells zeroMol 69)).there w1.heap.size 0 26) := there_new w1
    have HBL : Below (w.heap.size + 1) (resOf w) ((w1.alloc (.cells zeroMol 69)).setCells w1.heap.size 0 zeroMol.toList) := hb.trans ((below_setCells (Nat.le_refl _) _ _ _ ((Below.refl _ w1).alloc (Nat.le_refl _) _)).mono hs1)
    have HRS : Hid (((w1.alloc (.cells zeroMol 69)).setCells w1.heap.size 0 zeroMol.toList).heap[w.heap.size]? = some (.cells #[.int .i64 0, .slice none 0 0, .string ⟨#[]⟩, .slice none 0 0, .slice none 0 0, .slice none 0 0] 31 (0, 0))) := (HBL.block _ (by omega)).trans (heap_alloc_new w _)
    have HB : Hid (Below w.heap.size w ((w1.alloc (.cells zeroMol 69)).setCells w1.heap.size 0 zeroMol.toList)) := ((Below.refl _ w).alloc (Nat.le_refl _) _).trans (HBL.mono (by omega))
    clear h hb hsz hs1 HBL
    go_upto_region 2 with (first | (refine wpList_alloc rfl 69 rfl _ _ (alloc_mol _) ?_; simp only [Act.put, List.setIfInBounds_toArray, List.set_cons_zero, List.set_cons_succ]; have tokS : True := trivial) | (have _t := tokS; go_must (refine wpList_store_mid rfl 69 (.tmp 5) (.tmp 15) rfl w1.heap.size 0 zeroMol (by simp [Act.eval]) (by simp [Act.eval]) HT.out Tryz.sizeMol zeroMol_one ?_); simp only [Act.put]; clear tokS))
    generalize World.setCells _ _ _ _ = W at HRS HB ⊢
    clear HT
    have hne' : ¬ (er.1 = 0) := hne
    have hneb : (er.1 != 0) = true := by simp [hne]
    have r0 : W.cell? ⟨w.heap.size, 0, none⟩ = some (.int .i64 0) := by rw [Lib.cell_of_heap HRS.out]; rfl
    have r1 : W.cell? ⟨w.heap.size, 1, none⟩ = some (.slice none 0 0) := by rw [Lib.cell_of_heap HRS.out]; rfl
    have r2 : W.cell? ⟨w.heap.size, 2, none⟩ = some (.string ⟨#[]⟩) := by rw [Lib.cell_of_heap HRS.out]; rfl
    have r3 : W.cell? ⟨w.heap.size, 3, none⟩ = some (.slice none 0 0) := by rw [Lib.cell_of_heap HRS.out]; rfl
    have r4 : W.cell? ⟨w.heap.size, 4, none⟩ = some (.slice none 0 0) := by rw [Lib.cell_of_heap HRS.out]; rfl
    have r5 : W.cell? ⟨w.heap.size, 5, none⟩ = some (.slice none 0 0) := by rw [Lib.cell_of_heap HRS.out]; rfl
    have rf : ∀ j, W.frozen? ⟨w.heap.size, j, none⟩ = false := fun j => Lib.frozen_of_heap HRS.out j
    have HE : Hid (∀ v0 v1 v2 v3 v4 v5, Below w.heap.size w ((((((W.setCell ⟨w.heap.size, 0, none⟩ v0).setCell ⟨w.heap.size, 1, none⟩ v1).setCell ⟨w.heap.size, 2, none⟩ v2).setCell ⟨w.heap.size, 3, none⟩ v3).setCell ⟨w.heap.size, 4, none⟩ v4).setCell ⟨w.heap.size, 5, none⟩ v5)) := fun v0 v1 v2 v3 v4 v5 =>
      (((((HB.out.setCell (p := ⟨w.heap.size, 0, none⟩) (Nat.le_refl _) _).setCell (p := ⟨w.heap.size, 1, none⟩) (Nat.le_refl _) _).setCell (p := ⟨w.heap.size, 2, none⟩) (Nat.le_refl _) _).setCell (p := ⟨w.heap.size, 3, none⟩) (Nat.le_refl _) _).setCell (p := ⟨w.heap.size, 4, none⟩) (Nat.le_refl _) _).setCell (p := ⟨w.heap.size, 5, none⟩) (Nat.le_refl _) _
    clear HRS HB
    go_wp2_with fail
    refine bodyPost_ret (v := .tuple #[.agg #[.int .i64 0, .slice none 0 0, .string ⟨#[]⟩, .slice none 0 0, .slice none 0 0, .slice none 0 0], .int .i64 er.1, .int .i64 er.2]) ?_ rfl (Or.inl ⟨er, HP.out, rfl, hne, HE.out _ _ _ _ _ _⟩)
    simp only [results, Tryz.results14]
    go_simp
  · subst he
    have hKK := kk_start hr
    obtain ⟨h1, h2, oa, ob, hb⟩ := hr
    obtain ⟨hs, en⟩ := parse_en h
    have hac := parse_ac h
    have hone : ∀ v ∈ ns ++ [av, bv], v.oneCell' = true := by
      intro v hv
      rcases List.mem_append.1 hv with hv | hv
      · exact h2 v hv
      · obtain ⟨x, y, rfl⟩ := ownsRow_shape oa
        obtain ⟨x', y', rfl⟩ := ownsRow_shape ob
        simp at hv
        rcases hv with rfl | rfl <;> rfl
    have HT : Hid ((w1.alloc (.cells zeroMol 69)).there w1.heap.size 0 26) := there_new w1
    have HK : Hid (KkAt w q ns av bv w1.heap.size ((w1.alloc (.cells zeroMol 69)).setCells w1.heap.size 0 (ns ++ [av, bv]))) := hKK
    have HONE : Hid ((ns ++ [av, bv]).toArray.all (·.oneCell') = true) := all_oneCell_toArray hone
    have HSI : Hid (26 = (ns ++ [av, bv]).length) := by show _ = _; simp [h1]
    have HP : Hid (Bz.parse s = .ok (q.atoms, q.bonds)) := h
    have HO : Hid (Ok s q) := ho
    have HEN : Hid (En q.atoms.length q.bonds s.size) := en
    have HAC : Hid (Ascii s.data.toList) := hac
    clear h1 h2 oa ob hb hone h ho en hac hKK
    generalize hcs : ns ++ [av, bv] = cs at *
    go_upto_region 2 with (first | (refine wpList_alloc rfl 69 rfl _ _ (alloc_mol _) ?_; simp only [Act.put, List.setIfInBounds_toArray, List.set_cons_zero, List.set_cons_succ]; have tokS : True := trivial) | (have _t := tokS; go_must (refine wpList_store_mid rfl 69 (.tmp 5) (.tmp 15) rfl w1.heap.size 0 cs.toArray (by simp [Act.eval]) (by simp [Act.eval]) (by simp only [List.size_toArray, ← HSI.out]; exact HT.out) (by simp only [List.size_toArray, ← HSI.out]; exact Tryz.sizeMol) HONE.out ?_); simp only [Act.put]; clear tokS))
    generalize World.setCells _ _ _ _ = W at HK ⊢
    generalize w1.heap.size = M at HK ⊢
    clear HT
    have HCS : Hid (ns ++ [av, bv] = cs) := hcs
    clear hcs
    have CA := candidates_any HK.out.kd HO.out hs HEN.out
    have hal := HO.out.atoms
    go_wp2_with fail
    refine CA.mono ?_
    rintro e w2 ⟨nr, hnr, rfl, hb2⟩
    clear CA
    have hed := candEdges_ok HEN.out
    have HTH : Hid ((w2.alloc (.cells (nearCells fun _ => 0).toArray 65)).there w2.heap.size 0 24) := near_there _ _ _
    have HRG : Hid (((w2.alloc (.cells (nearCells fun _ => 0).toArray 65)).setCells w2.heap.size 0 (nearCells nr)).rangeAt w2.heap.size 0 (nearCells nr)) := gr_there _ _ _
    have hB3 : Below w2.heap.size w2 ((w2.alloc (.cells (nearCells fun _ => 0).toArray 65)).setCells w2.heap.size 0 (nearCells nr)) := below_cells (Nat.le_refl _) _ _ _ ((Below.refl _ w2).alloc (Nat.le_refl _) _)
    have HK3 : Hid (KkAt w q ns av bv M ((w2.alloc (.cells (nearCells fun _ => 0).toArray 65)).setCells w2.heap.size 0 (nearCells nr))) := (HK.out.on hb2).on hB3
    have GM := greatest_any ((w2.alloc (.cells (nearCells fun _ => 0).toArray 65)).setCells w2.heap.size 0 (nearCells nr)) (nr := nr) (g := grL q.atoms.length (candEdges q q.bonds)) hnr (hed.gr hal)
    rw [show (((grL q.atoms.length (candEdges q q.bonds)).n : Nat) : Int) = (q.atoms.length : Int) from rfl] at GM
    clear hnr hed hb2 hB3 HK
    go_upto_region 5 with (first | (refine wpList_alloc rfl 65 rfl _ _ (alloc_gr0 _) ?_; simp only [Act.put, List.setIfInBounds_toArray, List.set_cons_zero, List.set_cons_succ]) | (refine wpList_store_mid rfl 65 (.tmp 8) (.tmp 25) rfl w2.heap.size 0 (nearCells nr).toArray (by simp [Act.eval]) (by simp [Act.eval]) (by rw [near_size]; with_reducible exact HTH.out) (by rw [near_size]; exact Tryz.sizeGraph) (near_one _) ?_; simp only [Act.put]))
    generalize World.setCells _ _ _ _ = w3 at HRG HK3 GM ⊢
    generalize w2.heap.size = L at HRG ⊢
    clear HTH
    have c24 := HK3.out.c24
    obtain ⟨aso, acap, rfl⟩ := ownsRow_shape HK3.out.atoms
    go_wp2_with (refine wpList_load_mid rfl 65 (.tmp 8) rfl L 0 (by simp [Act.eval]) (nearCells nr) _ HRG.out Tryz.underlying65 rfl (by rw [Tryz.sizeGraph, nearCells_len]) ?_; simp only [Act.put, List.setIfInBounds_toArray, List.set_cons_zero, List.set_cons_succ])
    refine GM.mono ?_
    rintro e w4 ⟨mate, f, gh, hbest, pv, uv, rfl, hP, hU, hb4⟩
    clear GM
    have hK4 := HK3.out.on hb4
    have hpl : (pairsF q.atoms.length mate).length ≤ q.atoms.length := prOf_len mate _
    have hP : Prs w4 w3.heap.size pv (pairsF q.atoms.length mate) := hP
    have hU : Ints w4 w3.heap.size uv (barF q.atoms.length f) := hU
    obtain ⟨pso, pcap, rfl⟩ := ownsRow_shape hP
    obtain ⟨uso, ucap, rfl⟩ := hU.shape
    obtain ⟨r0, r1, r2, r3, r4, r5, rf⟩ := hK4.cells
    have hlt3 : w.heap.size < w3.heap.size := HK3.out.rlt
    have HBE : Hid (Best (grL q.atoms.length (candEdges q q.bonds)) mate f gh) := hbest
    have HPU : Hid (Prs w4 w3.heap.size (.slice pso (pairsF q.atoms.length mate).length pcap) (pairsF q.atoms.length mate) ∧ Ints w4 w3.heap.size (.slice uso (barF q.atoms.length f).length ucap) (barF q.atoms.length f)) := ⟨hP, hU⟩
    have HK4 : Hid (KkAt w q ns (.slice aso q.atoms.length acap) bv M w4) := hK4
    by_cases hlt : 2 * (pairsF q.atoms.length mate).length < cnt q.atoms.length (cand q)
    · have hlt' : 2 * ((pairsF q.atoms.length mate).length : Int) < (cnt q.atoms.length (cand q) : Int) := by omega
      have HE : Hid (∀ v0 v1 v2 v3 v4 v5, KkBar w q.atoms.length mate f (.returned (.tuple #[.agg #[.int .i64 2, .slice none 0 0, .string ⟨#[]⟩, .slice none 0 0, .slice pso (pairsF q.atoms.length mate).length pcap, .slice uso (barF q.atoms.length f).length ucap], .int .i64 0, .int .i64 0])) ((((((w4.setCell ⟨w.heap.size, 0, none⟩ v0).setCell ⟨w.heap.size, 1, none⟩ v1).setCell ⟨w.heap.size, 2, none⟩ v2).setCell ⟨w.heap.size, 3, none⟩ v3).setCell ⟨w.heap.size, 4, none⟩ v4).setCell ⟨w.heap.size, 5, none⟩ v5) (.slice pso (pairsF q.atoms.length mate).length pcap) (.slice uso (barF q.atoms.length f).length ucap)) := fun v0 v1 v2 v3 v4 v5 => by
        refine ⟨rfl, ownsRow_mono (base := w3.heap.size) ?_ (by omega), ownsRow_mono (base := w3.heap.size) ?_ (by omega), ?_⟩
        · exact ownsRow_setCell_below (ownsRow_setCell_below (ownsRow_setCell_below (ownsRow_setCell_below (ownsRow_setCell_below (ownsRow_setCell_below hP hlt3 _) hlt3 _) hlt3 _) hlt3 _) hlt3 _) hlt3 _
        · exact ownsRow_setCell_below (ownsRow_setCell_below (ownsRow_setCell_below (ownsRow_setCell_below (ownsRow_setCell_below (ownsRow_setCell_below hU hlt3 _) hlt3 _) hlt3 _) hlt3 _) hlt3 _) hlt3 _
        · exact (((((hK4.below.setCell (p := ⟨w.heap.size, 0, none⟩) (Nat.le_refl _) _).setCell (p := ⟨w.heap.size, 1, none⟩) (Nat.le_refl _) _).setCell (p := ⟨w.heap.size, 2, none⟩) (Nat.le_refl _) _).setCell (p := ⟨w.heap.size, 3, none⟩) (Nat.le_refl _) _).setCell (p := ⟨w.heap.size, 4, none⟩) (Nat.le_refl _) _).setCell (p := ⟨w.heap.size, 5, none⟩) (Nat.le_refl _) _
      clear hP hU hb4 hK4 hbest HK3 HK4 HPU c24
      go_wp2_with fail
      refine bodyPost_ret (v := .tuple #[.agg #[.int .i64 2, .slice none 0 0, .string ⟨#[]⟩, .slice none 0 0, .slice pso (pairsF q.atoms.length mate).length pcap, .slice uso (barF q.atoms.length f).length ucap], .int .i64 0, .int .i64 0]) ?_ rfl (Or.inr ⟨q, mate, f, gh, HP.out, HO.out, HEN.out, hs, hne, HBE.out, Or.inl ⟨hlt, _, _, HE.out _ _ _ _ _ _⟩⟩)
      simp only [results, Tryz.results14]
      go_simp
    · have hlt' : ¬ 2 * ((pairsF q.atoms.length mate).length : Int) < (cnt q.atoms.length (cand q) : Int) := by omega
      have DN := done_any (s := s) hK4.len hK4.atoms hK4.bonds HO.out HEN.out hs HAC.out (NPr.of hP) (by omega)
      rw [HCS.out] at DN
      have HM : Hid (w4.rangeAt M 0 cs) := by
        have := hK4.m
        rw [HCS.out] at this
        exact this
      clear hP hU hb4 hK4 hbest HK3 c24
      go_wp2_with (refine wpList_load_mid rfl 69 (.tmp 5) rfl M 0 (by simp [Act.eval]) cs _ HM.out Tryz.underlying69 rfl (by rw [← HSI.out]; exact Tryz.sizeMol) ?_; simp only [Act.put, List.setIfInBounds_toArray, List.set_cons_zero, List.set_cons_succ])
      refine DN.mono ?_
      rintro e w5 ⟨ov, cv, rfl, hO, hC, hne5, hb5⟩
      clear DN HM
      have hlt4 : w.heap.size < w4.heap.size := HK4.out.rlt
      obtain ⟨oso, ocap, rfl⟩ := hO.shape
      obtain ⟨cso, ccap, rfl⟩ := hC.shape
      obtain ⟨r0, r1, r2, r3, r4, r5, rf⟩ := (HK4.out.on hb5).cells
      have hB5 := (HK4.out.on hb5).below
      have HE : Hid (∀ v0 v1 v2 v3 v4 v5, KkDone s w q (q.bonds.map (ordN (pairsF q.atoms.length mate))) (.returned (.tuple #[.agg #[.int .i64 1, .slice oso (q.bonds.map (ordN (pairsF q.atoms.length mate))).length ocap, .string ⟨(wrL s.data.toList q.bonds (q.bonds.map (ordN (pairsF q.atoms.length mate)))).toArray⟩, .slice cso (List.range q.atoms.length).length ccap, .slice none 0 0, .slice none 0 0], .int .i64 0, .int .i64 0])) ((((((w5.setCell ⟨w.heap.size, 0, none⟩ v0).setCell ⟨w.heap.size, 1, none⟩ v1).setCell ⟨w.heap.size, 2, none⟩ v2).setCell ⟨w.heap.size, 3, none⟩ v3).setCell ⟨w.heap.size, 4, none⟩ v4).setCell ⟨w.heap.size, 5, none⟩ v5) (.slice oso (q.bonds.map (ordN (pairsF q.atoms.length mate))).length ocap) (.slice cso (List.range q.atoms.length).length ccap)) := fun v0 v1 v2 v3 v4 v5 => by
        refine ⟨rfl, ownsRow_mono (base := w4.heap.size) ?_ (by omega), ownsRow_mono (base := w4.heap.size) ?_ (by omega), hne5, ?_⟩
        · exact ownsRow_setCell_below (ownsRow_setCell_below (ownsRow_setCell_below (ownsRow_setCell_below (ownsRow_setCell_below (ownsRow_setCell_below hO hlt4 _) hlt4 _) hlt4 _) hlt4 _) hlt4 _) hlt4 _
        · exact ownsRow_setCell_below (ownsRow_setCell_below (ownsRow_setCell_below (ownsRow_setCell_below (ownsRow_setCell_below (ownsRow_setCell_below hC hlt4 _) hlt4 _) hlt4 _) hlt4 _) hlt4 _) hlt4 _
        · exact (((((hB5.setCell (p := ⟨w.heap.size, 0, none⟩) (Nat.le_refl _) _).setCell (p := ⟨w.heap.size, 1, none⟩) (Nat.le_refl _) _).setCell (p := ⟨w.heap.size, 2, none⟩) (Nat.le_refl _) _).setCell (p := ⟨w.heap.size, 3, none⟩) (Nat.le_refl _) _).setCell (p := ⟨w.heap.size, 4, none⟩) (Nat.le_refl _) _).setCell (p := ⟨w.heap.size, 5, none⟩) (Nat.le_refl _) _
      clear hO hC hne5 hb5 hB5 HK4 HPU
      obtain ⟨os, hos⟩ : ∃ os, q.bonds.map (ordN (pairsF q.atoms.length mate)) = os := ⟨_, rfl⟩
      obtain ⟨rl, hrl⟩ : ∃ rl, (List.range q.atoms.length).length = rl := ⟨_, rfl⟩
      rw [hos, hrl] at HE ⊢
      have HOS : Hid (q.bonds.map (ordN (pairsF q.atoms.length mate)) = os) := hos
      clear hos hrl
      go_wp2_with fail
      refine bodyPost_ret (v := .tuple #[.agg #[.int .i64 1, .slice oso os.length ocap, .string ⟨(wrL s.data.toList q.bonds os).toArray⟩, .slice cso rl ccap, .slice none 0 0, .slice none 0 0], .int .i64 0, .int .i64 0]) ?_ rfl (Or.inr ⟨q, mate, f, gh, HP.out, HO.out, HEN.out, hs, hne, HBE.out, Or.inr ⟨hlt, _, _, by rw [HOS.out]; exact HE.out _ _ _ _ _ _⟩⟩)
      simp only [results, Tryz.results14]
      go_simp
end Go.Proofs.YtcabaecbmkgclaaGreatDoor.Kd

namespace Go.Proofs.YtcabaecbmkgclaaGreatDoor.Kd
open Go.RowKit Bz Mt Mg Rf

theorem cnt_mono {n : Nat} {p q : Nat → Bool} (h : ∀ k, k < n → p k = true → q k = true) : cnt n p ≤ cnt n q := by
  induction n with
  | zero => exact Nat.le_refl _
  | succ n ih =>
    have := ih fun k hk => h k (by omega)
    rw [cnt, cnt]
    have hn := h n (by omega)
    cases hp : p n
    · simp; omega
    · rw [hn hp]; simp; omega

theorem cnt_not (n : Nat) (p : Nat → Bool) : cnt n p + cnt n (fun k => !p k) = n := by
  have := cnt_split n (fun _ => true) p
  rw [cnt_all] at this
  simp only [Bool.true_and] at this
  have e : cnt n (fun k => p k) = cnt n p := rfl
  omega

theorem pairs_two {g : Gr} {mate : Nat → Option Nat} (G : GrOk g) (M : MtOk g mate) : 2 * (pairsF g.n mate).length + cnt g.n (fun x => (mate x).isNone) = g.n := by
  have h3 := pairs_count G M
  have e1 : (pairsF g.n mate).length = cnt g.n (fun v => (mate v).isSome && decide (v < mateOf mate v)) := by
    unfold pairsF
    rw [List.length_map, cnt_len]
  omega

section
variable {p : St} {n pos : Nat} {mate : Nat → Option Nat} {f : Fo} {h : Gh}

theorem mate_cand (hB : MtOk (grL n (candEdges p p.bonds)) mate) {x : Nat} (hx : (mate x).isSome = true) : cand p x = true := by
  obtain ⟨y, hy⟩ := Option.isSome_iff_exists.1 hx
  exact (candEdges_in x y (hB.adj x y hy)).1

theorem best_up (E : EdOk n (candEdges p p.bonds)) (hn : n ≤ 24) (hB : Best (grL n (candEdges p p.bonds)) mate f h) : 2 * (pairsF n mate).length ≤ cnt n (cand p) := by
  have h1 : 2 * (pairsF n mate).length + cnt n (fun x => (mate x).isNone) = n := pairs_two (E.gr hn) hB.m
  have h2 : cnt n (fun k => !cand p k) ≤ cnt n (fun x => (mate x).isNone) := cnt_mono fun k _ hk => by
    cases hm : mate k with
    | none => rfl
    | some y =>
      have := mate_cand hB.m (x := k) (by rw [hm]; rfl)
      rw [this] at hk
      cases hk
  have h3 := cnt_not n (cand p)
  omega

theorem best_lo (E : EdOk n (candEdges p p.bonds)) (hn : n ≤ 24) (hB : Best (grL n (candEdges p p.bonds)) mate f h) {m2 : Nat → Option Nat} (M2 : MtOk (grL n (candEdges p p.bonds)) m2) (hall : ∀ i, i < n → cand p i = true → (m2 i).isSome = true) : cnt n (cand p) ≤ 2 * (pairsF n mate).length := by
  have h1 : 2 * (pairsF n mate).length + cnt n (fun x => (mate x).isNone) = n := pairs_two (E.gr hn) hB.m
  have h2 : cnt n (fun x => (mate x).isNone) ≤ cnt n (fun x => (m2 x).isNone) := no_more (E.gr hn) hB.m hB.inv hB.shut M2
  have h4 : cnt n (fun x => (m2 x).isNone) ≤ cnt n (fun k => !cand p k) := cnt_mono fun k hk hm => by
    cases hc : cand p k with
    | false => rfl
    | true =>
      have := hall k hk hc
      cases h2k : m2 k with
      | none => rw [h2k] at this; cases this
      | some y => rw [h2k] at hm; cases hm
  have h3 := cnt_not n (cand p)
  omega
end

/-- Of the orders, as many are double as there are pairs, where no other bond is. -/
theorem two_count (P : List (Nat × Nat)) (l : List Bnd) (h4 : ∀ b ∈ l, b.o = 4) : ((l.map (ordN P)).filter fun x => x == 2).length = (l.filter fun b => b.o == 4 && decide ((b.a, b.b) ∈ P)).length := by
  induction l with
  | nil => rfl
  | cons b l ih =>
    have hb := h4 b (by simp)
    have e : (ordN P b == 2) = (b.o == 4 && decide ((b.a, b.b) ∈ P)) := by
      unfold ordN
      rw [if_pos hb, hb]
      by_cases hm : (b.a, b.b) ∈ P <;> simp [hm]
    rw [List.map_cons, List.filter_cons, List.filter_cons, e]
    have := ih fun x hx => h4 x (by simp [hx])
    split <;> simp [this]
end Go.Proofs.YtcabaecbmkgclaaGreatDoor.Kd

namespace Go.Proofs.YtcabaecbmkgclaaGreatDoor.Kd
open Bz Mt

/-- How many bonds of an atom are made double. -/
def dAt (l : List Bnd) (d : Nat → Bool) (x : Nat) : Int := (l.map fun b => if (b.a = x ∨ b.b = x) ∧ b.o = 4 ∧ d b.pl = true then (1 : Int) else 0).sum

theorem sum_tri {l l' : List Bnd} {d : Nat → Bool} (h : l'.map tri = l.map (newT d)) (x : Nat) : sum l' x = sum l x + dAt l d x := by
  have e1 : sum l' x = ((l'.map tri).map fun t => if t.1 = x ∨ t.2.1 = x then (if t.2.2 = 4 then 1 else t.2.2) else 0).sum := by
    unfold sum
    rw [List.map_map]
    rfl
  rw [e1, h, List.map_map]
  clear h e1
  induction l with
  | nil => rfl
  | cons b l ih =>
    unfold sum dAt at *
    rw [List.map_cons, List.map_cons, List.map_cons, List.sum_cons, List.sum_cons, List.sum_cons, ih]
    have key : (if b.a = x ∨ b.b = x then (if newO d b.o b.pl = 4 then 1 else newO d b.o b.pl) else 0) = (if b.a = x ∨ b.b = x then (if b.o = 4 then 1 else b.o) else 0) + (if (b.a = x ∨ b.b = x) ∧ b.o = 4 ∧ d b.pl = true then (1 : Int) else 0) := by
      unfold newO
      by_cases h1 : b.a = x ∨ b.b = x
      · by_cases h2 : b.o = 4
        · cases h3 : d b.pl <;> simp [h1, h2]
        · simp [h1, h2]
      · simp [h1]
    show (if b.a = x ∨ b.b = x then (if newO d b.o b.pl = 4 then 1 else newO d b.o b.pl) else 0) + _ = _
    rw [key]
    omega

theorem missing_at (v : Int) (l : List Int) : missing (v :: l) v = 0 := by
  unfold missing
  simp

/-- An atom as it is read again. -/
theorem atom_again {l l' : List Bnd} {x : Nat} {a0 A0 : Atm} {D : Int} (hok : AtOk a0) (hA : pl0 A0 = un a0) (hs : sum l' x = sum l x + D)
    (hw : wrong l x (withHydrogens l x a0) = false)
    (hD : D = if ((withHydrogens l x a0).aro && (match valences (withHydrogens l x a0).el (withHydrogens l x a0).ch with | v :: _ => sum l x + (withHydrogens l x a0).hy == v - 1 | [] => false)) = true then 1 else 0) :
    pl0 (withHydrogens l' x A0) = un (withHydrogens l x a0) ∧ wrong l' x (withHydrogens l' x A0) = false := by
  obtain ⟨el, ar, ch, hy, pl, br⟩ := a0
  obtain ⟨EL, AR, CH, HY, PL, BR⟩ := A0
  unfold pl0 un at hA
  simp only [Atm.mk.injEq] at hA
  obtain ⟨rfl, rfl, rfl, rfl, _, rfl⟩ := hA
  have hch := hok.ch
  have hel := hok.el
  simp only at hch hel
  cases ar with
  | false =>
    have hD0 : D = 0 := by
      rw [hD]
      unfold withHydrogens
      cases BR <;> rfl
    rw [hD0, Int.add_zero] at hs
    unfold withHydrogens at hw ⊢
    cases BR with
    | true =>
      simp only [if_true] at hw ⊢
      refine ⟨rfl, Eq.trans ?_ hw⟩
      unfold wrong
      simp only [hs]
    | false =>
      simp only [Bool.false_eq_true, if_false] at hw ⊢
      refine ⟨?_, ?_⟩
      · unfold implied
        rw [hs]
        rfl
      · refine Eq.trans ?_ hw
        unfold wrong implied
        simp only [hs]
  | true =>
    cases BR with
    | true =>
      have e1 : withHydrogens l x ⟨EL, true, CH, HY, pl, true⟩ = ⟨EL, true, CH, HY, pl, true⟩ := rfl
      have e2 : withHydrogens l' x ⟨EL, false, CH, HY, PL, true⟩ = ⟨EL, false, CH, HY, PL, true⟩ := rfl
      rw [e1] at hw hD
      rw [e1, e2]
      refine ⟨rfl, ?_⟩
      unfold wrong at hw ⊢
      simp only [if_true, Bool.true_and, Bool.false_eq_true, if_false] at hw hD ⊢
      cases hv : valences EL CH with
      | nil => rw [hv] at hw; cases hw
      | cons v r =>
        rw [hv] at hw hD
        simp only [List.head?_cons] at hw hD
        have hc : sum l' x + HY = v := by
          rw [hs]
          by_cases h1 : sum l x + HY = v - 1
          · have hD1 : D = 1 := hD.trans (if_pos (by simpa using h1))
            omega
          · have h2 : (sum l x + HY == v - 1) = false := by simpa using h1
            have hD0 : D = 0 := hD.trans (if_neg (by rw [h2]; decide))
            rw [h2] at hw
            simp at hw
            omega
        rw [hc]
        simp
    | false =>
      have hc0 : CH = 0 := hch rfl
      subst hc0
      have e1 : withHydrogens l x ⟨EL, true, 0, HY, pl, false⟩ = ⟨EL, true, 0, implied ⟨EL, true, 0, HY, pl, false⟩ (sum l x), pl, false⟩ := rfl
      have e2 : withHydrogens l' x ⟨EL, false, 0, HY, PL, false⟩ = ⟨EL, false, 0, missing (valences EL 0) (sum l' x), PL, false⟩ := rfl
      have ei : implied ⟨EL, true, 0, HY, pl, false⟩ (sum l x) = if EL = ⟨#[67]⟩ then max (3 - sum l x) 0 else 0 := rfl
      rw [e1, ei] at hw hD
      rw [e1, e2, ei]
      unfold wrong at hw ⊢
      simp only [if_true, Bool.true_and, Bool.false_eq_true, if_false] at hw hD ⊢
      have fin : ∀ (v : Int) (r : List Int) (h : Int), valences EL 0 = v :: r → (if EL = ⟨#[67]⟩ then max (3 - sum l x) 0 else 0) = h → (sum l x + h = v - 1 → missing (v :: r) (sum l x + 1) = h) → (sum l x + h = v → missing (v :: r) (sum l x) = h) →
          pl0 ⟨EL, false, 0, missing (valences EL 0) (sum l' x), PL, false⟩ = un ⟨EL, true, 0, if EL = ⟨#[67]⟩ then max (3 - sum l x) 0 else 0, pl, false⟩ ∧ (!(valences EL 0).contains (sum l' x + missing (valences EL 0) (sum l' x))) = false := by
        intro v r h hv hh k1 k2
        rw [hv] at hw hD ⊢
        rw [hh] at hw hD ⊢
        simp only [List.head?_cons] at hw hD
        have hc : sum l' x + h = v ∧ missing (v :: r) (sum l' x) = h := by
          rw [hs]
          by_cases h1 : sum l x + h = v - 1
          · have hD1 : D = 1 := hD.trans (if_pos (by simpa using h1))
            rw [hD1]
            exact ⟨by omega, k1 h1⟩
          · have h2 : (sum l x + h == v - 1) = false := by simpa using h1
            have hD0 : D = 0 := hD.trans (if_neg (by rw [h2]; decide))
            rw [h2] at hw
            simp at hw
            rw [hD0, Int.add_zero]
            exact ⟨hw, k2 hw⟩
        rw [hc.2, hc.1]
        exact ⟨rfl, by simp⟩
      rcases hel rfl with rfl | rfl | rfl | rfl | rfl
      · refine fin 4 [] (max (3 - sum l x) 0) rfl rfl (fun h => ?_) (fun h => ?_)
        · unfold missing
          simp only [List.find?_cons]
          rw [decide_eq_true (by omega)]
          simp only
          omega
        · unfold missing
          simp only [List.find?_cons]
          rw [decide_eq_true (by omega)]
          simp only
          omega
      · refine fin 3 [5] 0 rfl rfl (fun h => ?_) (fun h => ?_)
        · rw [show sum l x + 1 = 3 by omega]; rfl
        · rw [show sum l x = 3 by omega]; rfl
      · refine fin 2 [] 0 rfl rfl (fun h => ?_) (fun h => ?_)
        · rw [show sum l x + 1 = 2 by omega]; rfl
        · rw [show sum l x = 2 by omega]; rfl
      · refine fin 3 [5] 0 rfl rfl (fun h => ?_) (fun h => ?_)
        · rw [show sum l x + 1 = 3 by omega]; rfl
        · rw [show sum l x = 3 by omega]; rfl
      · refine fin 2 [4, 6] 0 rfl rfl (fun h => ?_) (fun h => ?_)
        · rw [show sum l x + 1 = 2 by omega]; rfl
        · rw [show sum l x = 2 by omega]; rfl

/-- THE TEXT THAT IS WRITTEN IS THAT MOLECULE. -/
theorem wr_parse {s W : ByteArray} {q0 : St} {e : Bnd → Bool} (h : parse s = .ok (q0.atoms, q0.bonds)) (hW : Bz.Rest W 0 (wr0 (dOf q0.bonds e) s 0)) (hs : W.size ≤ 160)
    (hD : ∀ x, x < q0.atoms.length → dAt q0.bonds (dOf q0.bonds e) x = if cand q0 x = true then 1 else 0) :
    ∃ ats' l', parse W = .ok (ats', l') ∧ ats'.map pl0 = q0.atoms.map un ∧ l'.map tri = q0.bonds.map (newT (dOf q0.bonds e)) := by
  obtain ⟨q, c⟩ := came h
  obtain ⟨e1, g1⟩ := chain_lx _ _ _ _ c.run (lx0 s).lx
  have hok := chain_wf s (s.size + 1) _ _ _ (ok0 s) (.inl rfl) c.run
  have hqp : q.pos = s.size := Nat.le_antisymm hok.1.pos c.pos
  obtain ⟨nb, hb1, hb2⟩ := g1.ext
  obtain ⟨na, ha1, ha2⟩ := g1.ats
  have hb0 : q.bonds = nb := by rw [hb1]; rfl
  have ha0 : q.atoms = na := by rw [ha1]; rfl
  have C : Wc (dOf q0.bonds e) s := by
    refine ⟨by rw [← hqp]; exact e1, fun y hy => ?_⟩
    obtain ⟨b, hb, k1, _⟩ := dOf_mem.1 hy
    rw [c.bonds, hb0] at hb
    have := hb2 b hb
    rw [← k1]
    exact ⟨by omega, this.2.2⟩
  have hrem : Rem q0.bonds q := ⟨[], by rw [c.bonds]; simp, by simp⟩
  have hpre : Pre Bz.start := fun b hb => by simp [Bz.start] at hb
  have hst : dOf q0.bonds e 0 = false := (chain_a (e := e) _ _ _ _ c.run hpre (lx0 s).lx hrem).2.1 rfl
  obtain ⟨Q, w1, w2, w3, w4, w5⟩ := chain_w (W := W) C (s.size + 1) (W.size + 1) ⟨0, 0, -1⟩ ⟨0, 0, -1⟩ Bz.start Bz.start q c.run (by simp [Bz.start]) ⟨rfl, by show (0 : Int) = if dOf q0.bonds e 0 then 61 else m58 0; rw [hst]; rfl, .inl rfl⟩ ⟨rfl, rfl, fun k => .inl ⟨rfl, rfl⟩⟩ (by show Bz.Rest W 0 (wr1 (dOf q0.bonds e) s 0); rw [← wr0_no hst]; exact hW) (Nat.zero_le _) hpre (lx0 s).lx hrem
  have hend : W.size ≤ Q.pos := by
    rw [(wr_ge (by omega)).1] at w3
    exact w3.end
  have hQr : ∀ k, Q.rings k = none := fun k => by
    rcases w2.rings k with ⟨_, h⟩ | ⟨o, O, h, _⟩
    · exact h
    · rw [c.rings k] at h; cases h
  have hbd : Q.bonds.map tri = q0.bonds.map (newT (dOf q0.bonds e)) := by rw [w2.bonds, c.bonds]
  have each : ∀ x A0 a0, Q.atoms[x]? = some A0 → q.atoms[x]? = some a0 → pl0 (withHydrogens Q.bonds x A0) = un (withHydrogens q.bonds x a0) ∧ wrong Q.bonds x (withHydrogens Q.bonds x A0) = false := by
    intro x A0 a0 hA ha
    have hax : q0.atoms[x]? = some (withHydrogens q.bonds x a0) := by rw [c.atoms, List.getElem?_mapIdx, ha]; rfl
    have hlt : x < q0.atoms.length := (List.getElem?_eq_some_iff.1 hax).1
    refine atom_again (D := dAt q0.bonds (dOf q0.bonds e) x) (ha2 a0 ?_) ?_ ?_ ?_ ?_
    · rw [← ha0]; exact List.mem_of_getElem? ha
    · have h1 : (Q.atoms.map pl0)[x]? = some (pl0 A0) := by rw [List.getElem?_map, hA]; rfl
      rw [w2.atoms, List.getElem?_map, ha] at h1
      simp only [Option.map_some, Option.some.injEq] at h1
      exact h1.symm
    · rw [sum_tri hbd, c.bonds]
    · have := c.right x _ hax
      rw [c.bonds] at this
      exact this
    · rw [hD x hlt]
      unfold cand fill
      rw [hax, c.bonds]
      rfl
  have hlen : Q.atoms.length = q.atoms.length := w2.len
  refine ⟨Q.atoms.mapIdx (withHydrogens Q.bonds), Q.bonds, ?_, ?_, hbd⟩
  · unfold parse
    rw [if_neg (by omega), w1]
    simp only
    rw [if_neg (by omega), left_none hQr, if_neg (by omega), wrong_none (i := 0) fun j a hj => ?_]
    rw [List.getElem?_mapIdx] at hj
    cases hA : Q.atoms[j]? with
    | none => rw [hA] at hj; cases hj
    | some A0 =>
      rw [hA] at hj
      cases hj
      have hlt : j < q.atoms.length := by rw [← hlen]; exact (List.getElem?_eq_some_iff.1 hA).1
      rw [Nat.zero_add]
      exact (each j A0 _ hA (List.getElem?_eq_getElem hlt)).2
  · rw [c.atoms]
    apply List.ext_getElem?
    intro x
    rw [List.getElem?_map, List.getElem?_map, List.getElem?_mapIdx, List.getElem?_mapIdx]
    cases hA : Q.atoms[x]? with
    | none =>
      have : q.atoms[x]? = none := List.getElem?_eq_none (by rw [← hlen]; exact List.getElem?_eq_none_iff.1 hA)
      rw [this]
      rfl
    | some A0 =>
      have hlt : x < q.atoms.length := by rw [← hlen]; exact (List.getElem?_eq_some_iff.1 hA).1
      rw [List.getElem?_eq_getElem hlt]
      simp only [Option.map_some, Option.some.injEq]
      exact (each x A0 _ hA (List.getElem?_eq_getElem hlt)).1
end Go.Proofs.YtcabaecbmkgclaaGreatDoor.Kd

namespace Go.Proofs.YtcabaecbmkgclaaGreatDoor.Kd
open Bz Mt

/-- All candidates can have a mate of their own. -/
def Perf (q : St) : Prop := ∃ m, MtOk (grL q.atoms.length (candEdges q q.bonds)) m ∧ ∀ i, i < q.atoms.length → cand q i = true → (m i).isSome = true

theorem cnt_full {n : Nat} {p q : Nat → Bool} (h : ∀ k, k < n → p k = true → q k = true) (hc : cnt n q ≤ cnt n p) : ∀ k, k < n → q k = true → p k = true := by
  induction n with
  | zero => intro k hk; omega
  | succ n ih =>
    have hm := cnt_mono (n := n) fun k hk => h k (by omega)
    have hn := h n (by omega)
    rw [cnt, cnt] at hc
    have hc' : cnt n q ≤ cnt n p ∧ (q n = true → p n = true) := by
      cases hp : p n
      · cases hq : q n
        · rw [hp, hq] at hc; simp at hc; exact ⟨hc, fun h => h⟩
        · rw [hp, hq] at hc; simp at hc; omega
      · rw [hn hp, hp] at hc; simp at hc; exact ⟨hc, fun _ => rfl⟩
    intro k hk hq
    by_cases hkn : k = n
    · subst hkn; exact hc'.2 hq
    · exact ih (fun k hk => h k (by omega)) hc'.1 k (by omega) hq

theorem perf_iff {q : St} {pos : Nat} {mate : Nat → Option Nat} {f : Fo} {h : Gh} (en : En q.atoms.length q.bonds pos) (hn : q.atoms.length ≤ 24) (hB : Best (grL q.atoms.length (candEdges q q.bonds)) mate f h) :
    ¬ 2 * (pairsF q.atoms.length mate).length < cnt q.atoms.length (cand q) ↔ Perf q := by
  have E := candEdges_ok en
  constructor
  · intro hd
    refine ⟨mate, hB.m, fun i hi hc => ?_⟩
    have h1 : 2 * (pairsF q.atoms.length mate).length + cnt q.atoms.length (fun x => (mate x).isNone) = q.atoms.length := pairs_two (E.gr hn) hB.m
    have h2 := cnt_not q.atoms.length (fun x => (mate x).isNone)
    have h3 : cnt q.atoms.length (fun k => !(mate k).isNone) = cnt q.atoms.length (fun k => (mate k).isSome) := cnt_congr fun k _ => by cases mate k <;> rfl
    exact cnt_full (p := fun k => (mate k).isSome) (q := cand q) (fun k _ hk => mate_cand hB.m hk) (by omega) i hi hc
  · rintro ⟨m, M, hall⟩
    have := best_lo E hn hB M hall
    omega

section
variable {q q1 q2 : St} {D : Nat}

structure Joint (q q1 q2 : St) (D : Nat) : Prop where
  atoms : q.atoms = q1.atoms ++ q2.atoms.map (shA D)
  bonds : q.bonds = q1.bonds ++ q2.bonds.map (shB q1.atoms.length D)
  ends : ∀ b ∈ q1.bonds, b.a < q1.atoms.length ∧ b.b < q1.atoms.length
  ends2 : ∀ b ∈ q2.bonds, b.a < q2.atoms.length ∧ b.b < q2.atoms.length

theorem Joint.cand1 (j : Joint q q1 q2 D) {i : Nat} (hi : i < q1.atoms.length) : cand q i = cand q1 i := by
  have hs : sum q.bonds i = sum q1.bonds i := by
    rw [j.bonds, sum_app, sum_low _ _ _ _ hi]
    omega
  unfold cand fill
  rw [j.atoms, List.getElem?_append_left hi, hs]

theorem Joint.cand2 (j : Joint q q1 q2 D) (i : Nat) : cand q (i + q1.atoms.length) = cand q2 i := by
  have hs : sum q.bonds (i + q1.atoms.length) = sum q2.bonds i := by
    rw [j.bonds, sum_app, sum_shift]
    have : sum q1.bonds (i + q1.atoms.length) = 0 := sum_out fun b hb => by have := j.ends b hb; omega
    omega
  unfold cand fill
  rw [j.atoms, List.getElem?_append_right (by omega), hs, Nat.add_sub_cancel, List.getElem?_map]
  cases q2.atoms[i]? <;> rfl

theorem Joint.edge (j : Joint q q1 q2 D) {x y : Nat} : (x, y) ∈ candEdges q q.bonds ↔ (x, y) ∈ candEdges q1 q1.bonds ∨ ∃ u v, (u, v) ∈ candEdges q2 q2.bonds ∧ x = u + q1.atoms.length ∧ y = v + q1.atoms.length := by
  rw [candEdges_mem, candEdges_mem]
  constructor
  · rintro ⟨b, hb, he, rfl, rfl⟩
    rw [j.bonds, List.mem_append, List.mem_map] at hb
    rcases hb with hb | ⟨c, hc, rfl⟩
    · obtain ⟨e1, e2⟩ := j.ends b hb
      unfold isEdge at he
      rw [j.cand1 e1, j.cand1 e2] at he
      exact .inl ⟨b, hb, he, rfl, rfl⟩
    · refine .inr ⟨c.a, c.b, candEdges_mem.2 ⟨c, hc, ?_, rfl, rfl⟩, rfl, rfl⟩
      unfold isEdge shB at he
      simp only [j.cand2] at he
      exact he
  · rintro (⟨b, hb, he, rfl, rfl⟩ | ⟨u, v, hm, rfl, rfl⟩)
    · obtain ⟨e1, e2⟩ := j.ends b hb
      refine ⟨b, by rw [j.bonds]; simp [hb], ?_, rfl, rfl⟩
      unfold isEdge at he ⊢
      rw [j.cand1 e1, j.cand1 e2]
      exact he
    · obtain ⟨c, hc, he, rfl, rfl⟩ := candEdges_mem.1 hm
      refine ⟨shB q1.atoms.length D c, by rw [j.bonds, List.mem_append]; exact .inr (List.mem_map.2 ⟨c, hc, rfl⟩), ?_, rfl, rfl⟩
      unfold isEdge at he ⊢
      simp only [shB, j.cand2]
      exact he

theorem Joint.in1 (j : Joint q q1 q2 D) {x y : Nat} (h : (x, y) ∈ candEdges q1 q1.bonds) : x < q1.atoms.length ∧ y < q1.atoms.length := by
  obtain ⟨b, hb, _, rfl, rfl⟩ := candEdges_mem.1 h
  exact j.ends b hb
theorem Joint.in2 (j : Joint q q1 q2 D) {x y : Nat} (h : (x, y) ∈ candEdges q2 q2.bonds) : x < q2.atoms.length ∧ y < q2.atoms.length := by
  obtain ⟨b, hb, _, rfl, rfl⟩ := candEdges_mem.1 h
  exact j.ends2 b hb

theorem Joint.adj1 (j : Joint q q1 q2 D) {x y : Nat} (hx : x < q1.atoms.length) : adjL (candEdges q q.bonds) x y = true ↔ adjL (candEdges q1 q1.bonds) x y = true := by
  rw [adjL_iff, adjL_iff, j.edge, j.edge]
  constructor
  · rintro ((h | ⟨u, v, _, h, _⟩) | (h | ⟨u, v, _, _, h⟩))
    · exact .inl h
    · omega
    · exact .inr h
    · omega
  · rintro (h | h)
    · exact .inl (.inl h)
    · exact .inr (.inl h)

theorem Joint.adj2 (j : Joint q q1 q2 D) {x y : Nat} : adjL (candEdges q q.bonds) (x + q1.atoms.length) y = true ↔ ∃ v, y = v + q1.atoms.length ∧ adjL (candEdges q2 q2.bonds) x v = true := by
  rw [adjL_iff, j.edge, j.edge]
  constructor
  · rintro ((h | ⟨u, v, h, h1, h2⟩) | (h | ⟨u, v, h, h1, h2⟩))
    · have := j.in1 h; omega
    · refine ⟨v, h2, adjL_iff.2 (.inl ?_)⟩
      rw [show x = u by omega]
      exact h
    · have := j.in1 h; omega
    · refine ⟨u, h1, adjL_iff.2 (.inr ?_)⟩
      rw [show x = v by omega]
      exact h
  · rintro ⟨v, rfl, h⟩
    rcases adjL_iff.1 h with h | h
    · exact .inl (.inr ⟨x, v, h, rfl, rfl⟩)
    · exact .inr (.inr ⟨v, x, h, rfl, rfl⟩)

theorem Joint.perf (j : Joint q q1 q2 D) : Perf q ↔ Perf q1 ∧ Perf q2 := by
  have hlen : q.atoms.length = q1.atoms.length + q2.atoms.length := by rw [j.atoms]; simp
  have lt1 : ∀ x y, adjL (candEdges q1 q1.bonds) x y = true → x < q1.atoms.length ∧ y < q1.atoms.length := fun x y h => by
    rcases adjL_iff.1 h with h | h
    · exact j.in1 h
    · exact (j.in1 h).symm
  constructor
  · rintro ⟨m, M, hall⟩
    have A : ∀ a b, m a = some b → adjL (candEdges q q.bonds) a b = true := M.adj
    refine ⟨⟨fun x => if x < q1.atoms.length then m x else none, ⟨?_, ?_⟩, ?_⟩, ⟨fun x => (m (x + q1.atoms.length)).map (· - q1.atoms.length), ⟨?_, ?_⟩, ?_⟩⟩
    · intro a b hab
      split at hab
      · rename_i ha
        exact (j.adj1 ha).1 (A a b hab)
      · cases hab
    · intro a b hab
      split at hab
      · rename_i ha
        have := lt1 a b ((j.adj1 ha).1 (A a b hab))
        rw [if_pos this.2]
        exact M.back a b hab
      · cases hab
    · intro i hi hc
      simp only
      rw [if_pos hi]
      exact hall i (by omega) (by rw [j.cand1 hi]; exact hc)
    · intro a b hab
      cases hm : m (a + q1.atoms.length) with
      | none => rw [hm] at hab; cases hab
      | some y =>
        rw [hm] at hab
        simp only [Option.map_some, Option.some.injEq] at hab
        obtain ⟨v, hv, hadj⟩ := j.adj2.1 (A _ _ hm)
        show adjL (candEdges q2 q2.bonds) a b = true
        rw [show b = v by omega]
        exact hadj
    · intro a b hab
      cases hm : m (a + q1.atoms.length) with
      | none => rw [hm] at hab; cases hab
      | some y =>
        rw [hm] at hab
        simp only [Option.map_some, Option.some.injEq] at hab
        obtain ⟨v, hv, hadj⟩ := j.adj2.1 (A _ _ hm)
        have hb := M.back _ _ hm
        rw [show b + q1.atoms.length = y by omega, hb]
        simp
    · intro i hi hc
      simp only [Option.isSome_map]
      exact hall _ (by omega) (by rw [j.cand2]; exact hc)
  · rintro ⟨⟨m1, M1, hall1⟩, ⟨m2, M2, hall2⟩⟩
    have A1 : ∀ a b, m1 a = some b → adjL (candEdges q1 q1.bonds) a b = true := M1.adj
    have A2 : ∀ a b, m2 a = some b → adjL (candEdges q2 q2.bonds) a b = true := M2.adj
    refine ⟨fun x => if x < q1.atoms.length then m1 x else (m2 (x - q1.atoms.length)).map (· + q1.atoms.length), ⟨?_, ?_⟩, ?_⟩
    · intro a b hab
      show adjL (candEdges q q.bonds) a b = true
      split at hab
      · rename_i ha
        exact (j.adj1 ha).2 (A1 a b hab)
      · rename_i ha
        cases hm : m2 (a - q1.atoms.length) with
        | none => rw [hm] at hab; cases hab
        | some y =>
          rw [hm] at hab
          simp only [Option.map_some, Option.some.injEq] at hab
          have := j.adj2.2 ⟨y, rfl, A2 _ _ hm⟩
          rw [show a - q1.atoms.length + q1.atoms.length = a by omega, hab] at this
          exact this
    · intro a b hab
      split at hab
      · rename_i ha
        rw [if_pos (lt1 a b (A1 a b hab)).2]
        exact M1.back a b hab
      · rename_i ha
        cases hm : m2 (a - q1.atoms.length) with
        | none => rw [hm] at hab; cases hab
        | some y =>
          rw [hm] at hab
          simp only [Option.map_some, Option.some.injEq] at hab
          rw [if_neg (by omega), show b - q1.atoms.length = y by omega, M2.back _ _ hm]
          simp only [Option.map_some, Option.some.injEq]
          omega
    · intro i hi hc
      simp only
      by_cases hlt : i < q1.atoms.length
      · rw [if_pos hlt]
        exact hall1 i hlt (by rw [← j.cand1 hlt]; exact hc)
      · rw [if_neg hlt, Option.isSome_map]
        refine hall2 _ (by omega) ?_
        rw [← j.cand2, show i - q1.atoms.length + q1.atoms.length = i by omega]
        exact hc
end
end Go.Proofs.YtcabaecbmkgclaaGreatDoor.Kd
