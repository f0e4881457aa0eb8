/-
  What benzol.done does.
  What benzol.Kekulize does.
  How many pairs a greatest matching of the candidates has: as many as there are candidates, just if each can have its own.
  Rings of six in a row: their texts, and what is read in them.
  pick, ring: what benzolkeep makes texts of.
  Fused: the text that it makes.
-/
import Derived.Test.YtcabaecbmkgclaaGreatDoorP14
import Derived.BigQuiet
import Derived.Deep.LoopGhost
import Derived.Deep.CutBlock
import Derived.Deep.CutRange

namespace Go.Proofs.YtcabaecbmkgclaaGreatDoor.Kd
open Go.RowKit Bz Mt Mg Rf Bu Cp

/-- What done hands back. -/
def DnIs (w : World) (s : ByteArray) (p : St) (os : List Nat) (e : Ending) (w' : World) : Prop :=
  ∃ ov cv, e = .returned (.agg #[.int .i64 1, ov, .string ⟨(wrL s.data.toList p.bonds os).toArray⟩, cv, .slice none 0 0, .slice none 0 0]) ∧ Ints w' w.heap.size ov os ∧ Ints w' w.heap.size cv (List.range p.atoms.length) ∧
    (∀ k, ov.ownBlock = some k → cv.ownBlock ≠ some k) ∧ Below w.heap.size w w'

/-- Where done stands behind Doubled. -/
structure DnAt (w : World) (base : Nat) (p : St) (os : List Nat) (av bv ov : Value) (W : World) : Prop where
  kd : Kd W w.heap.size base p
  cA : W.cell? ⟨w.heap.size, 24, none⟩ = some av
  cB : W.cell? ⟨w.heap.size, 25, none⟩ = some bv
  io : Ints W (w.heap.size + 2) ov os
  r : W.heap[w.heap.size + 1]? = some (.cells #[.int .i64 0, .slice none 0 0, .string ⟨#[]⟩, .slice none 0 0, .slice none 0 0, .slice none 0 0] 31 (0, 0))
  below : Below w.heap.size w W

theorem DnAt.on {w : World} {base : Nat} {p : St} {os : List Nat} {av bv ov : Value} {W W' : World} (h : DnAt w base p os av bv ov W) (hb : Below W.heap.size W W') : DnAt w base p os av bv ov W' := by
  have hl : w.heap.size + 1 < W.heap.size := (Array.getElem?_eq_some_iff.1 h.r).1
  exact ⟨h.kd.below hb, (hb.cell (p := ⟨w.heap.size, 24, none⟩) (by show w.heap.size < _; omega)).trans h.cA, (hb.cell (p := ⟨w.heap.size, 25, none⟩) (by show w.heap.size < _; omega)).trans h.cB, ownsRow_same h.io fun k hk => hb.block k (h.io.lt k hk).2, (hb.block _ hl).trans h.r, h.below.trans (hb.mono (by omega))⟩

theorem DnAt.drew {w : World} {base : Nat} {p : St} {os : List Nat} {av bv ov : Value} {W : World} (h : DnAt w base p os av bv ov W) : DnAt w base p os av bv ov W.drew := h.on (Below.refl _ W).drew

theorem DnAt.cells {w : World} {base : Nat} {p : St} {os : List Nat} {av bv ov : Value} {W : World} (h : DnAt w base p os av bv ov W) :
    W.cell? ⟨w.heap.size + 1, 0, none⟩ = some (.int .i64 0) ∧ W.cell? ⟨w.heap.size + 1, 1, none⟩ = some (.slice none 0 0) ∧ W.cell? ⟨w.heap.size + 1, 2, none⟩ = some (.string ⟨#[]⟩) ∧ W.cell? ⟨w.heap.size + 1, 3, none⟩ = some (.slice none 0 0) ∧ W.cell? ⟨w.heap.size + 1, 4, none⟩ = some (.slice none 0 0) ∧ W.cell? ⟨w.heap.size + 1, 5, none⟩ = some (.slice none 0 0) ∧ ∀ j, W.frozen? ⟨w.heap.size + 1, j, none⟩ = false := by
  refine ⟨?_, ?_, ?_, ?_, ?_, ?_, fun j => Lib.frozen_of_heap h.r j⟩
  all_goals (rw [Lib.cell_of_heap h.r]; rfl)

/-- What counted has laid. -/
structure CvAt (w : World) (n : Nat) (ov cv : Value) (W : World) : Prop where
  i : Ints W (w.heap.size + 2) cv (List.range n)
  ne : ∀ k, ov.ownBlock = some k → cv.ownBlock ≠ some k

theorem CvAt.on {w : World} {n : Nat} {ov cv : Value} {W W' : World} (h : CvAt w n ov cv W) (hb : Below W.heap.size W W') : CvAt w n ov cv W' :=
  ⟨ownsRow_same h.i fun k hk => hb.block k (h.i.lt k hk).2, h.ne⟩

theorem DnAt.cv {w : World} {base : Nat} {p : St} {os : List Nat} {av bv ov : Value} {W : World} (h : DnAt w base p os av bv ov W) {n : Nat} {cv : Value} {W' : World} (hi : Ints W' W.heap.size cv (List.range n)) : CvAt w n ov cv W' := by
  have hl : w.heap.size + 1 < W.heap.size := (Array.getElem?_eq_some_iff.1 h.r).1
  refine ⟨ownsRow_mono hi (by omega), fun k hk hc => ?_⟩
  have := (h.io.lt k hk).2
  have := (hi.lt k hc).1
  omega

theorem DnAt.end_ {w : World} {base : Nat} {p : St} {s : ByteArray} {os : List Nat} {av bv ov cv : Value} {W : World} (h : DnAt w base p os av bv ov W) (hc : CvAt w p.atoms.length ov cv W) (v0 v1 v2 v3 v4 v5 : Value) :
    DnIs w s p os (.returned (.agg #[.int .i64 1, ov, .string ⟨(wrL s.data.toList p.bonds os).toArray⟩, cv, .slice none 0 0, .slice none 0 0])) ((((((W.setCell ⟨w.heap.size + 1, 0, none⟩ v0).setCell ⟨w.heap.size + 1, 1, none⟩ v1).setCell ⟨w.heap.size + 1, 2, none⟩ v2).setCell ⟨w.heap.size + 1, 3, none⟩ v3).setCell ⟨w.heap.size + 1, 4, none⟩ v4).setCell ⟨w.heap.size + 1, 5, none⟩ v5) := by
  refine ⟨ov, cv, rfl, ownsRow_mono (base := w.heap.size + 2) ?_ (by omega), ownsRow_mono (base := w.heap.size + 2) ?_ (by omega), hc.ne, ?_⟩
  · have := h.io
    exact ownsRow_setCell_below (ownsRow_setCell_below (ownsRow_setCell_below (ownsRow_setCell_below (ownsRow_setCell_below (ownsRow_setCell_below this (by simp) _) (by simp) _) (by simp) _) (by simp) _) (by simp) _) (by simp) _
  · have := hc.i
    exact ownsRow_setCell_below (ownsRow_setCell_below (ownsRow_setCell_below (ownsRow_setCell_below (ownsRow_setCell_below (ownsRow_setCell_below this (by simp) _) (by simp) _) (by simp) _) (by simp) _) (by simp) _) (by simp) _
  · have := h.below
    exact (((((this.setCell (p := ⟨w.heap.size + 1, 0, none⟩) (by simp) _).setCell (p := ⟨w.heap.size + 1, 1, none⟩) (by simp) _).setCell (p := ⟨w.heap.size + 1, 2, none⟩) (by simp) _).setCell (p := ⟨w.heap.size + 1, 3, none⟩) (by simp) _).setCell (p := ⟨w.heap.size + 1, 4, none⟩) (by simp) _).setCell (p := ⟨w.heap.size + 1, 5, none⟩) (by simp) _

section
variable {w : World} {base : Nat} {s : ByteArray} {p : St}

theorem box_at {w : World} {ns : List Value} {av bv : Value} (hlen : ns.length = 24) : (w.alloc (.cells (ns ++ [av, bv]).toArray 69)).cell? ⟨w.heap.size, 24, none⟩ = some av ∧ (w.alloc (.cells (ns ++ [av, bv]).toArray 69)).cell? ⟨w.heap.size, 25, none⟩ = some bv := by
  constructor
  · rw [World.cell?_alloc_new]
    simp [hlen]
  · rw [World.cell?_alloc_new]
    simp [hlen]

theorem box_kd {ns : List Value} {av bv : Value} (hlen : ns.length = 24) (ha : w.ownsRow base 124 6 av p.atoms.length (p.atoms.flatMap atmCells)) (hb : w.ownsRow base 102 4 bv p.bonds.length (p.bonds.flatMap pbCells)) :
    Kd (w.alloc (.cells (ns ++ [av, bv]).toArray 69)) w.heap.size base p := by
  have hb1 : Below w.heap.size w (w.alloc (.cells (ns ++ [av, bv]).toArray 69)) := (Below.refl _ w).alloc (Nat.le_refl _) _
  exact ⟨⟨av, (box_at hlen).1, ownsRow_same ha fun k hk => hb1.block k (ha.lt k hk).2⟩, ⟨bv, (box_at hlen).2, ownsRow_same hb fun k hk => hb1.block k (hb.lt k hk).2⟩, by simp⟩

set_option maxRecDepth 100000 in
set_option maxHeartbeats 4000000 in
theorem done_any {ns : List Value} {av bv : Value} (hlen : ns.length = 24) (ha : w.ownsRow base 124 6 av p.atoms.length (p.atoms.flatMap atmCells)) (hb : w.ownsRow base 102 4 bv p.bonds.length (p.bonds.flatMap pbCells)) (o : Ok s p) (en : En p.atoms.length p.bonds s.size) (hs : s.size ≤ 160) (hasc : Ascii s.data.toList) {pv : Value} {P : List (Nat × Nat)} (hP : NPr w pv P) (hPl : P.length ≤ 1000) :
    Calls Tryz.prog 25 #[.string s, .agg (ns ++ [av, bv]).toArray, pv] w (DnIs w s p (p.bonds.map (ordN P))) := by
  have K0 := box_kd hlen ha hb
  have cA := (box_at (w := w) (av := av) (bv := bv) hlen).1
  have cB := (box_at (w := w) (av := av) (bv := bv) hlen).2
  obtain ⟨aso, acap, rfl⟩ := ownsRow_shape ha
  obtain ⟨bso, bcap, rfl⟩ := ownsRow_shape hb
  have hbb : Below w.heap.size w (w.alloc (.cells (ns ++ [Value.slice aso p.atoms.length acap, Value.slice bso p.bonds.length bcap]).toArray 69)) := (Below.refl _ w).alloc (Nat.le_refl _) _
  obtain ⟨w1, hw1⟩ : ∃ w1, (w.alloc (.cells (ns ++ [Value.slice aso p.atoms.length acap, Value.slice bso p.bonds.length bcap]).toArray 69)).alloc (.cells #[.int .i64 0, .slice none 0 0, .string ⟨#[]⟩, .slice none 0 0, .slice none 0 0, .slice none 0 0] 31) = w1 := ⟨_, rfl⟩
  have hb1 : Below (w.heap.size + 1) (w.alloc (.cells (ns ++ [Value.slice aso p.atoms.length acap, Value.slice bso p.bonds.length bcap]).toArray 69)) w1 := by
    rw [← hw1]
    exact (Below.refl _ _).alloc (by simp) _
  have hs1 : w1.heap.size = w.heap.size + 2 := by rw [← hw1]; simp
  have hz : (w.alloc (.cells (ns ++ [Value.slice aso p.atoms.length acap, Value.slice bso p.bonds.length bcap]).toArray 69)).heap.size = w.heap.size + 1 := by simp
  have K1 : Kd w1 w.heap.size base p := K0.below (by rw [hz]; exact hb1)
  have r1 : w1.heap[w.heap.size + 1]? = some (.cells #[.int .i64 0, .slice none 0 0, .string ⟨#[]⟩, .slice none 0 0, .slice none 0 0, .slice none 0 0] 31 (0, 0)) := by
    rw [← hw1, ← hz]
    exact heap_alloc_new _ _
  have hB1 : Below w.heap.size w w1 := hbb.trans (hb1.mono (by omega))
  have DB := doubled_any K1 o hs (hP.below hB1) hPl
  have HD1 : Hid (∀ W ov, Below w1.heap.size w1 W → Ints W w1.heap.size ov (p.bonds.map (ordN P)) → DnAt w base p (p.bonds.map (ordN P)) (.slice aso p.atoms.length acap) (.slice bso p.bonds.length bcap) ov W) := fun W ov hb hi =>
    ⟨K1.below hb, (hb.cell (p := ⟨w.heap.size, 24, none⟩) (by show w.heap.size < _; omega)).trans ((hb1.cell (p := ⟨w.heap.size, 24, none⟩) (by simp)).trans cA), (hb.cell (p := ⟨w.heap.size, 25, none⟩) (by show w.heap.size < _; omega)).trans ((hb1.cell (p := ⟨w.heap.size, 25, none⟩) (by simp)).trans cB), by rw [← hs1]; exact hi, (hb.block _ (by omega)).trans r1, hB1.trans (hb.mono (by omega))⟩
  have WRITE : ∀ W ov, DnAt w base p (p.bonds.map (ordN P)) (.slice aso p.atoms.length acap) (.slice bso p.bonds.length bcap) ov W → Calls Tryz.prog 41 #[.string s, .slice bso p.bonds.length bcap, ov] W fun e w' => e = .returned (.string ⟨(wrL s.data.toList p.bonds (p.bonds.map (ordN P))).toArray⟩) ∧ Below W.heap.size W w' := fun W ov h =>
    write_any h.kd o en hs hasc h.cB h.io (by simp)
  have COUNT := fun W => counted_any W p.atoms.length (by have := o.atoms; omega)
  clear ha hb hlen K0 K1 r1 hB1 hbb hb1 cA cB o en hz hP
  go_enter Tryz.func25, Tryz.ntmps25
  go_wp2_with fail
  refine DB.mono ?_
  rintro e w2 ⟨ov, rfl, hi2, hb2⟩
  have hd2 := HD1.out w2 ov hb2 hi2
  obtain ⟨oso, ocap, rfl⟩ := hi2.shape
  have HD : Hid (DnAt w base p (p.bonds.map (ordN P)) (.slice aso p.atoms.length acap) (.slice bso p.bonds.length bcap) (.slice oso (p.bonds.map (ordN P)).length ocap) w2) := hd2
  clear DB HD1 hw1 hs1 hi2 hb2 hd2
  generalize (p.bonds.map (ordN P)) = os at *
  go_wp2_with fail
  have hD := HD.out.drew
  have c24 := hD.cA
  have c25 := hD.cB
  obtain ⟨r0, r1, r2, r3, r4, r5, rf⟩ := hD.cells
  clear HD
  go_region_with (first
    | (go_at_call 41; refine (WRITE _ _ hD).mono ?_; rintro e wA ⟨rfl, hbA⟩; have hD := hD.on hbA; have c24 := hD.cA; have c25 := hD.cB; obtain ⟨r0, r1, r2, r3, r4, r5, rf⟩ := hD.cells; try (have hC := hC.on hbA))
    | (go_at_call 42; refine (COUNT _).mono ?_; rintro e wB ⟨cv, rfl, hi, hbB⟩; obtain ⟨cso, ccap, rfl⟩ := hi.shape; have hC := hD.cv hi; have hD := hD.on hbB; have c24 := hD.cA; have c25 := hD.cB; obtain ⟨r0, r1, r2, r3, r4, r5, rf⟩ := hD.cells))
  all_goals
    have HE := fun v0 v1 v2 v3 v4 v5 => hD.end_ (s := s) hC v0 v1 v2 v3 v4 v5
    have HEH : Hid _ := HE
    clear HE
    go_wp2_with fail
    refine bodyPost_ret (v := .agg #[.int .i64 1, .slice oso os.length ocap, .string ⟨(wrL s.data.toList p.bonds os).toArray⟩, .slice cso p.atoms.length ccap, .slice none 0 0, .slice none 0 0]) ?_ rfl ?_
    · simp only [results, Tryz.results25]
      go_simp
    · have := HEH.out (.int .i64 1) (.slice oso os.length ocap) (.string ⟨(wrL s.data.toList p.bonds os).toArray⟩) (.slice cso p.atoms.length ccap) (.slice none 0 0) (.slice none 0 0)
      simpa using this
end
end Go.Proofs.YtcabaecbmkgclaaGreatDoor.Kd

namespace Go.Proofs.YtcabaecbmkgclaaGreatDoor.Kd
open Go.RowKit Bz Mt Mg Rf Bu Cp

/-- What Kekulize hands back: something is wrong. -/
structure KkBad (s : ByteArray) (w : World) (e : Ending) (w' : World) (er : Int × Int) : Prop where
  h : Bz.parse s = .error er
  he : e = .returned (.tuple #[.agg #[.int .i64 0, .slice none 0 0, .string ⟨#[]⟩, .slice none 0 0, .slice none 0 0, .slice none 0 0], .int .i64 er.1, .int .i64 er.2])
  hne : er.1 ≠ 0
  hb : Below w.heap.size w w'
/-- Or it is barred. -/
structure KkBar (w : World) (n : Nat) (mate : Nat → Option Nat) (f : Fo) (e : Ending) (w' : World) (pv uv : Value) : Prop where
  he : e = .returned (.tuple #[.agg #[.int .i64 2, .slice none 0 0, .string ⟨#[]⟩, .slice none 0 0, pv, uv], .int .i64 0, .int .i64 0])
  hp : Prs w' w.heap.size pv (pairsF n mate)
  hu : Ints w' w.heap.size uv (barF n f)
  hb : Below w.heap.size w w'
/-- Or it is done. -/
structure KkDone (s : ByteArray) (w : World) (q : St) (os : List Nat) (e : Ending) (w' : World) (ov cv : Value) : Prop where
  he : e = .returned (.tuple #[.agg #[.int .i64 1, ov, .string ⟨(wrL s.data.toList q.bonds os).toArray⟩, cv, .slice none 0 0, .slice none 0 0], .int .i64 0, .int .i64 0])
  ho : Ints w' w.heap.size ov os
  hc : Ints w' w.heap.size cv (List.range q.atoms.length)
  ne : ∀ k, ov.ownBlock = some k → cv.ownBlock ≠ some k
  hb : Below w.heap.size w w'
/-- There is a molecule. -/
structure KkGood (s : ByteArray) (w : World) (e : Ending) (w' : World) (q : St) (mate : Nat → Option Nat) (f : Fo) (gh : Gh) : Prop where
  h : Bz.parse s = .ok (q.atoms, q.bonds)
  ho : Ok s q
  en : En q.atoms.length q.bonds s.size
  hs : s.size ≤ 160
  hne : 0 < q.atoms.length
  best : Best (grL q.atoms.length (candEdges q q.bonds)) mate f gh
  case : (2 * (pairsF q.atoms.length mate).length < cnt q.atoms.length (cand q) ∧ ∃ pv uv, KkBar w q.atoms.length mate f e w' pv uv) ∨
    (¬ 2 * (pairsF q.atoms.length mate).length < cnt q.atoms.length (cand q) ∧ ∃ ov cv, KkDone s w q (q.bonds.map (ordN (pairsF q.atoms.length mate))) e w' ov cv)
def KkIs (s : ByteArray) (w : World) (e : Ending) (w' : World) : Prop := (∃ er, KkBad s w e w' er) ∨ ∃ q mate f h, KkGood s w e w' q mate f h

/-- Where Kekulize stands behind the reading. -/
structure KkAt (w : World) (q : St) (ns : List Value) (av bv : Value) (M : Nat) (W : World) : Prop where
  res : W.heap[w.heap.size]? = some (.cells #[.int .i64 0, .slice none 0 0, .string ⟨#[]⟩, .slice none 0 0, .slice none 0 0, .slice none 0 0] 31 (0, 0))
  m : W.rangeAt M 0 (ns ++ [av, bv])
  len : ns.length = 24
  atoms : W.ownsRow (w.heap.size + 1) 124 6 av q.atoms.length (q.atoms.flatMap atmCells)
  bonds : W.ownsRow (w.heap.size + 1) 102 4 bv q.bonds.length (q.bonds.flatMap pbCells)
  lt : M < W.heap.size
  below : Below w.heap.size w W

section
variable {w : World} {q : St} {ns : List Value} {av bv : Value} {M : Nat} {W W' : World}

theorem KkAt.rlt (h : KkAt w q ns av bv M W) : w.heap.size < W.heap.size := (Array.getElem?_eq_some_iff.1 h.res).1

theorem KkAt.on (h : KkAt w q ns av bv M W) (hb : Below W.heap.size W W') : KkAt w q ns av bv M W' :=
  ⟨(hb.block _ h.rlt).trans h.res, fun j v hj => (hb.cell (p := ⟨M, 0 + j, none⟩) h.lt).trans (h.m j v hj), h.len, ownsRow_same h.atoms fun k hk => hb.block k (h.atoms.lt k hk).2, ownsRow_same h.bonds fun k hk => hb.block k (h.bonds.lt k hk).2, Nat.lt_of_lt_of_le h.lt hb.size, h.below.trans (hb.mono (Nat.le_of_lt h.rlt))⟩

theorem KkAt.c24 (h : KkAt w q ns av bv M W) : W.cell? ⟨M, 24, none⟩ = some av := by
  have := h.m 24 av (by simp [h.len])
  rwa [Nat.zero_add] at this
theorem KkAt.c25 (h : KkAt w q ns av bv M W) : W.cell? ⟨M, 25, none⟩ = some bv := by
  have := h.m 25 bv (by simp [h.len])
  rwa [Nat.zero_add] at this

theorem KkAt.kd (h : KkAt w q ns av bv M W) : Kd W M (w.heap.size + 1) q := ⟨⟨av, h.c24, h.atoms⟩, ⟨bv, h.c25, h.bonds⟩, h.lt⟩

theorem KkAt.cells (h : KkAt w q ns av bv M W) :
    W.cell? ⟨w.heap.size, 0, none⟩ = some (.int .i64 0) ∧ W.cell? ⟨w.heap.size, 1, none⟩ = some (.slice none 0 0) ∧ W.cell? ⟨w.heap.size, 2, none⟩ = some (.string ⟨#[]⟩) ∧ W.cell? ⟨w.heap.size, 3, none⟩ = some (.slice none 0 0) ∧ W.cell? ⟨w.heap.size, 4, none⟩ = some (.slice none 0 0) ∧ W.cell? ⟨w.heap.size, 5, none⟩ = some (.slice none 0 0) ∧ ∀ j, W.frozen? ⟨w.heap.size, j, none⟩ = false := by
  refine ⟨?_, ?_, ?_, ?_, ?_, ?_, fun j => Lib.frozen_of_heap h.res j⟩
  all_goals (rw [Lib.cell_of_heap h.res]; rfl)
end

abbrev resOf (w : World) : World := w.alloc (.cells #[.int .i64 0, .slice none 0 0, .string ⟨#[]⟩, .slice none 0 0, .slice none 0 0, .slice none 0 0] 31)

theorem kk_start {w w1 : World} {q : St} {ns : List Value} {av bv : Value} (hr : ReadOk (resOf w) w1 q ns av bv) : KkAt w q ns av bv w1.heap.size ((w1.alloc (.cells zeroMol 69)).setCells w1.heap.size 0 (ns ++ [av, bv])) := by
  obtain ⟨h1, h2, oa, ob, hb⟩ := hr
  have hsz : (resOf w).heap.size = w.heap.size + 1 := by simp
  rw [hsz] at hb oa ob
  have hs1 := hb.size
  rw [hsz] at hs1
  have hlen : (ns ++ [av, bv]).length = 26 := by simp [h1]
  have HBL : Below w1.heap.size w1 ((w1.alloc (.cells zeroMol 69)).setCells w1.heap.size 0 (ns ++ [av, bv])) := below_setCells (Nat.le_refl _) _ _ _ ((Below.refl _ w1).alloc (Nat.le_refl _) _)
  have HRA := World.rangeAt_setCells_same (w1.alloc (.cells zeroMol 69)) w1.heap.size 0 (ns ++ [av, bv]) (by rw [hlen]; exact there_new w1)
  have C24 := HRA 24 av (by rw [List.getElem?_append_right (by omega), h1]; rfl)
  refine ⟨(HBL.block _ (by omega)).trans ((hb.block _ (by omega)).trans (heap_alloc_new w _)), HRA, h1, ownsRow_same oa fun k hk => HBL.block k (oa.lt k hk).2, ownsRow_same ob fun k hk => HBL.block k (ob.lt k hk).2, World.block_lt_of_cell? _ ⟨w1.heap.size, 0 + 24, none⟩ C24, ?_⟩
  exact ((Below.refl _ w).alloc (Nat.le_refl _) _).trans ((hb.trans (HBL.mono hs1)).mono (by omega))

set_option maxRecDepth 100000 in
set_option maxHeartbeats 4000000 in
theorem kekulize_any (s : ByteArray) (w : World) (hm : s.size ≤ maxLen) : Calls Tryz.prog 14 #[.string s] w (KkIs s w) := by
  go_enter Tryz.func14, Tryz.ntmps14
  go_wp2_with fail
  refine (read_any s _ hm).mono ?_
  rintro e w1 h
  rcases h with ⟨er, h, he, hne, hb⟩ | ⟨q, ns, av, bv, h, he, hr, ho, hne⟩
  · subst he
    have HP : Hid (Bz.parse s = .error er) := h
    have hsz : (resOf w).heap.size = w.heap.size + 1 := by simp
    rw [hsz] at hb
    have hs1 := hb.size
    rw [hsz] at hs1
    have HT : Hid ((w1.alloc (.cells zeroMol 69)).there w1.heap.size 0 26) := there_new w1
    have HBL : Below (w.heap.size + 1) (resOf w) ((w1.alloc (.cells zeroMol 69)).setCells w1.heap.size 0 zeroMol.toList) := hb.trans ((below_setCells (Nat.le_refl _) _ _ _ ((Below.refl _ w1).alloc (Nat.le_refl _) _)).mono hs1)
    have HRS : Hid (((w1.alloc (.cells zeroMol 69)).setCells w1.heap.size 0 zeroMol.toList).heap[w.heap.size]? = some (.cells #[.int .i64 0, .slice none 0 0, .string ⟨#[]⟩, .slice none 0 0, .slice none 0 0, .slice none 0 0] 31 (0, 0))) := (HBL.block _ (by omega)).trans (heap_alloc_new w _)
    have HB : Hid (Below w.heap.size w ((w1.alloc (.cells zeroMol 69)).setCells w1.heap.size 0 zeroMol.toList)) := ((Below.refl _ w).alloc (Nat.le_refl _) _).trans (HBL.mono (by omega))
    clear h hb hsz hs1 HBL
    go_upto_region 2 with (first | (refine wpList_alloc rfl 69 rfl _ _ (alloc_mol _) ?_; simp only [Act.put, List.setIfInBounds_toArray, List.set_cons_zero, List.set_cons_succ]; have tokS : True := trivial) | (have _t := tokS; go_must (refine wpList_store_mid rfl 69 (.tmp 5) (.tmp 15) rfl w1.heap.size 0 zeroMol (by simp [Act.eval]) (by simp [Act.eval]) HT.out Tryz.sizeMol zeroMol_one ?_); simp only [Act.put]; clear tokS))
    generalize World.setCells _ _ _ _ = W at HRS HB ⊢
    clear HT
    have hne' : ¬ (er.1 = 0) := hne
    have hneb : (er.1 != 0) = true := by simp [hne]
    have r0 : W.cell? ⟨w.heap.size, 0, none⟩ = some (.int .i64 0) := by rw [Lib.cell_of_heap HRS.out]; rfl
    have r1 : W.cell? ⟨w.heap.size, 1, none⟩ = some (.slice none 0 0) := by rw [Lib.cell_of_heap HRS.out]; rfl
    have r2 : W.cell? ⟨w.heap.size, 2, none⟩ = some (.string ⟨#[]⟩) := by rw [Lib.cell_of_heap HRS.out]; rfl
    have r3 : W.cell? ⟨w.heap.size, 3, none⟩ = some (.slice none 0 0) := by rw [Lib.cell_of_heap HRS.out]; rfl
    have r4 : W.cell? ⟨w.heap.size, 4, none⟩ = some (.slice none 0 0) := by rw [Lib.cell_of_heap HRS.out]; rfl
    have r5 : W.cell? ⟨w.heap.size, 5, none⟩ = some (.slice none 0 0) := by rw [Lib.cell_of_heap HRS.out]; rfl
    have rf : ∀ j, W.frozen? ⟨w.heap.size, j, none⟩ = false := fun j => Lib.frozen_of_heap HRS.out j
    have HE : Hid (∀ v0 v1 v2 v3 v4 v5, Below w.heap.size w ((((((W.setCell ⟨w.heap.size, 0, none⟩ v0).setCell ⟨w.heap.size, 1, none⟩ v1).setCell ⟨w.heap.size, 2, none⟩ v2).setCell ⟨w.heap.size, 3, none⟩ v3).setCell ⟨w.heap.size, 4, none⟩ v4).setCell ⟨w.heap.size, 5, none⟩ v5)) := fun v0 v1 v2 v3 v4 v5 =>
      (((((HB.out.setCell (p := ⟨w.heap.size, 0, none⟩) (Nat.le_refl _) _).setCell (p := ⟨w.heap.size, 1, none⟩) (Nat.le_refl _) _).setCell (p := ⟨w.heap.size, 2, none⟩) (Nat.le_refl _) _).setCell (p := ⟨w.heap.size, 3, none⟩) (Nat.le_refl _) _).setCell (p := ⟨w.heap.size, 4, none⟩) (Nat.le_refl _) _).setCell (p := ⟨w.heap.size, 5, none⟩) (Nat.le_refl _) _
    clear HRS HB
    go_wp2_with fail
    refine bodyPost_ret (v := .tuple #[.agg #[.int .i64 0, .slice none 0 0, .string ⟨#[]⟩, .slice none 0 0, .slice none 0 0, .slice none 0 0], .int .i64 er.1, .int .i64 er.2]) ?_ rfl (Or.inl ⟨er, HP.out, rfl, hne, HE.out _ _ _ _ _ _⟩)
    simp only [results, Tryz.results14]
    go_simp
  · subst he
    have hKK := kk_start hr
    obtain ⟨h1, h2, oa, ob, hb⟩ := hr
    obtain ⟨hs, en⟩ := parse_en h
    have hac := parse_ac h
    have hone : ∀ v ∈ ns ++ [av, bv], v.oneCell' = true := by
      intro v hv
      rcases List.mem_append.1 hv with hv | hv
      · exact h2 v hv
      · obtain ⟨x, y, rfl⟩ := ownsRow_shape oa
        obtain ⟨x', y', rfl⟩ := ownsRow_shape ob
        simp at hv
        rcases hv with rfl | rfl <;> rfl
    have HT : Hid ((w1.alloc (.cells zeroMol 69)).there w1.heap.size 0 26) := there_new w1
    have HK : Hid (KkAt w q ns av bv w1.heap.size ((w1.alloc (.cells zeroMol 69)).setCells w1.heap.size 0 (ns ++ [av, bv]))) := hKK
    have HONE : Hid ((ns ++ [av, bv]).toArray.all (·.oneCell') = true) := all_oneCell_toArray hone
    have HSI : Hid (26 = (ns ++ [av, bv]).length) := by show _ = _; simp [h1]
    have HP : Hid (Bz.parse s = .ok (q.atoms, q.bonds)) := h
    have HO : Hid (Ok s q) := ho
    have HEN : Hid (En q.atoms.length q.bonds s.size) := en
    have HAC : Hid (Ascii s.data.toList) := hac
    clear h1 h2 oa ob hb hone h ho en hac hKK
    generalize hcs : ns ++ [av, bv] = cs at *
    go_upto_region 2 with (first | (refine wpList_alloc rfl 69 rfl _ _ (alloc_mol _) ?_; simp only [Act.put, List.setIfInBounds_toArray, List.set_cons_zero, List.set_cons_succ]; have tokS : True := trivial) | (have _t := tokS; go_must (refine wpList_store_mid rfl 69 (.tmp 5) (.tmp 15) rfl w1.heap.size 0 cs.toArray (by simp [Act.eval]) (by simp [Act.eval]) (by simp only [List.size_toArray, ← HSI.out]; exact HT.out) (by simp only [List.size_toArray, ← HSI.out]; exact Tryz.sizeMol) HONE.out ?_); simp only [Act.put]; clear tokS))
    generalize World.setCells _ _ _ _ = W at HK ⊢
    generalize w1.heap.size = M at HK ⊢
    clear HT
    have HCS : Hid (ns ++ [av, bv] = cs) := hcs
    clear hcs
    have CA := candidates_any HK.out.kd HO.out hs HEN.out
    have hal := HO.out.atoms
    go_wp2_with fail
    refine CA.mono ?_
    rintro e w2 ⟨nr, hnr, rfl, hb2⟩
    clear CA
    have hed := candEdges_ok HEN.out
    have HTH : Hid ((w2.alloc (.cells (nearCells fun _ => 0).toArray 65)).there w2.heap.size 0 24) := near_there _ _ _
    have HRG : Hid (((w2.alloc (.cells (nearCells fun _ => 0).toArray 65)).setCells w2.heap.size 0 (nearCells nr)).rangeAt w2.heap.size 0 (nearCells nr)) := gr_there _ _ _
    have hB3 : Below w2.heap.size w2 ((w2.alloc (.cells (nearCells fun _ => 0).toArray 65)).setCells w2.heap.size 0 (nearCells nr)) := below_cells (Nat.le_refl _) _ _ _ ((Below.refl _ w2).alloc (Nat.le_refl _) _)
    have HK3 : Hid (KkAt w q ns av bv M ((w2.alloc (.cells (nearCells fun _ => 0).toArray 65)).setCells w2.heap.size 0 (nearCells nr))) := (HK.out.on hb2).on hB3
    have GM := greatest_any ((w2.alloc (.cells (nearCells fun _ => 0).toArray 65)).setCells w2.heap.size 0 (nearCells nr)) (nr := nr) (g := grL q.atoms.length (candEdges q q.bonds)) hnr (hed.gr hal)
    rw [show (((grL q.atoms.length (candEdges q q.bonds)).n : Nat) : Int) = (q.atoms.length : Int) from rfl] at GM
    clear hnr hed hb2 hB3 HK
    go_upto_region 5 with (first | (refine wpList_alloc rfl 65 rfl _ _ (alloc_gr0 _) ?_; simp only [Act.put, List.setIfInBounds_toArray, List.set_cons_zero, List.set_cons_succ]) | (refine wpList_store_mid rfl 65 (.tmp 8) (.tmp 25) rfl w2.heap.size 0 (nearCells nr).toArray (by simp [Act.eval]) (by simp [Act.eval]) (by rw [near_size]; with_reducible exact HTH.out) (by rw [near_size]; exact Tryz.sizeGraph) (near_one _) ?_; simp only [Act.put]))
    generalize World.setCells _ _ _ _ = w3 at HRG HK3 GM ⊢
    generalize w2.heap.size = L at HRG ⊢
    clear HTH
    have c24 := HK3.out.c24
    obtain ⟨aso, acap, rfl⟩ := ownsRow_shape HK3.out.atoms
    go_wp2_with (refine wpList_load_mid rfl 65 (.tmp 8) rfl L 0 (by simp [Act.eval]) (nearCells nr) _ HRG.out Tryz.underlying65 rfl (by rw [Tryz.sizeGraph, nearCells_len]) ?_; simp only [Act.put, List.setIfInBounds_toArray, List.set_cons_zero, List.set_cons_succ])
    refine GM.mono ?_
    rintro e w4 ⟨mate, f, gh, hbest, pv, uv, rfl, hP, hU, hb4⟩
    clear GM
    have hK4 := HK3.out.on hb4
    have hpl : (pairsF q.atoms.length mate).length ≤ q.atoms.length := prOf_len mate _
    have hP : Prs w4 w3.heap.size pv (pairsF q.atoms.length mate) := hP
    have hU : Ints w4 w3.heap.size uv (barF q.atoms.length f) := hU
    obtain ⟨pso, pcap, rfl⟩ := ownsRow_shape hP
    obtain ⟨uso, ucap, rfl⟩ := hU.shape
    obtain ⟨r0, r1, r2, r3, r4, r5, rf⟩ := hK4.cells
    have hlt3 : w.heap.size < w3.heap.size := HK3.out.rlt
    have HBE : Hid (Best (grL q.atoms.length (candEdges q q.bonds)) mate f gh) := hbest
    have HPU : Hid (Prs w4 w3.heap.size (.slice pso (pairsF q.atoms.length mate).length pcap) (pairsF q.atoms.length mate) ∧ Ints w4 w3.heap.size (.slice uso (barF q.atoms.length f).length ucap) (barF q.atoms.length f)) := ⟨hP, hU⟩
    have HK4 : Hid (KkAt w q ns (.slice aso q.atoms.length acap) bv M w4) := hK4
    by_cases hlt : 2 * (pairsF q.atoms.length mate).length < cnt q.atoms.length (cand q)
    · have hlt' : 2 * ((pairsF q.atoms.length mate).length : Int) < (cnt q.atoms.length (cand q) : Int) := by omega
      have HE : Hid (∀ v0 v1 v2 v3 v4 v5, KkBar w q.atoms.length mate f (.returned (.tuple #[.agg #[.int .i64 2, .slice none 0 0, .string ⟨#[]⟩, .slice none 0 0, .slice pso (pairsF q.atoms.length mate).length pcap, .slice uso (barF q.atoms.length f).length ucap], .int .i64 0, .int .i64 0])) ((((((w4.setCell ⟨w.heap.size, 0, none⟩ v0).setCell ⟨w.heap.size, 1, none⟩ v1).setCell ⟨w.heap.size, 2, none⟩ v2).setCell ⟨w.heap.size, 3, none⟩ v3).setCell ⟨w.heap.size, 4, none⟩ v4).setCell ⟨w.heap.size, 5, none⟩ v5) (.slice pso (pairsF q.atoms.length mate).length pcap) (.slice uso (barF q.atoms.length f).length ucap)) := fun v0 v1 v2 v3 v4 v5 => by
        refine ⟨rfl, ownsRow_mono (base := w3.heap.size) ?_ (by omega), ownsRow_mono (base := w3.heap.size) ?_ (by omega), ?_⟩
        · exact ownsRow_setCell_below (ownsRow_setCell_below (ownsRow_setCell_below (ownsRow_setCell_below (ownsRow_setCell_below (ownsRow_setCell_below hP hlt3 _) hlt3 _) hlt3 _) hlt3 _) hlt3 _) hlt3 _
        · exact ownsRow_setCell_below (ownsRow_setCell_below (ownsRow_setCell_below (ownsRow_setCell_below (ownsRow_setCell_below (ownsRow_setCell_below hU hlt3 _) hlt3 _) hlt3 _) hlt3 _) hlt3 _) hlt3 _
        · exact (((((hK4.below.setCell (p := ⟨w.heap.size, 0, none⟩) (Nat.le_refl _) _).setCell (p := ⟨w.heap.size, 1, none⟩) (Nat.le_refl _) _).setCell (p := ⟨w.heap.size, 2, none⟩) (Nat.le_refl _) _).setCell (p := ⟨w.heap.size, 3, none⟩) (Nat.le_refl _) _).setCell (p := ⟨w.heap.size, 4, none⟩) (Nat.le_refl _) _).setCell (p := ⟨w.heap.size, 5, none⟩) (Nat.le_refl _) _
      clear hP hU hb4 hK4 hbest HK3 HK4 HPU c24
      go_wp2_with fail
      refine bodyPost_ret (v := .tuple #[.agg #[.int .i64 2, .slice none 0 0, .string ⟨#[]⟩, .slice none 0 0, .slice pso (pairsF q.atoms.length mate).length pcap, .slice uso (barF q.atoms.length f).length ucap], .int .i64 0, .int .i64 0]) ?_ rfl (Or.inr ⟨q, mate, f, gh, HP.out, HO.out, HEN.out, hs, hne, HBE.out, Or.inl ⟨hlt, _, _, HE.out _ _ _ _ _ _⟩⟩)
      simp only [results, Tryz.results14]
      go_simp
    · have hlt' : ¬ 2 * ((pairsF q.atoms.length mate).length : Int) < (cnt q.atoms.length (cand q) : Int) := by omega
      have DN := done_any (s := s) hK4.len hK4.atoms hK4.bonds HO.out HEN.out hs HAC.out (NPr.of hP) (by omega)
      rw [HCS.out] at DN
      have HM : Hid (w4.rangeAt M 0 cs) := by
        have := hK4.m
        rw [HCS.out] at this
        exact this
      clear hP hU hb4 hK4 hbest HK3 c24
      go_wp2_with (refine wpList_load_mid rfl 69 (.tmp 5) rfl M 0 (by simp [Act.eval]) cs _ HM.out Tryz.underlying69 rfl (by rw [← HSI.out]; exact Tryz.sizeMol) ?_; simp only [Act.put, List.setIfInBounds_toArray, List.set_cons_zero, List.set_cons_succ])
      refine DN.mono ?_
      rintro e w5 ⟨ov, cv, rfl, hO, hC, hne5, hb5⟩
      clear DN HM
      have hlt4 : w.heap.size < w4.heap.size := HK4.out.rlt
      obtain ⟨oso, ocap, rfl⟩ := hO.shape
      obtain ⟨cso, ccap, rfl⟩ := hC.shape
      obtain ⟨r0, r1, r2, r3, r4, r5, rf⟩ := (HK4.out.on hb5).cells
      have hB5 := (HK4.out.on hb5).below
      have HE : Hid (∀ v0 v1 v2 v3 v4 v5, KkDone s w q (q.bonds.map (ordN (pairsF q.atoms.length mate))) (.returned (.tuple #[.agg #[.int .i64 1, .slice oso (q.bonds.map (ordN (pairsF q.atoms.length mate))).length ocap, .string ⟨(wrL s.data.toList q.bonds (q.bonds.map (ordN (pairsF q.atoms.length mate)))).toArray⟩, .slice cso (List.range q.atoms.length).length ccap, .slice none 0 0, .slice none 0 0], .int .i64 0, .int .i64 0])) ((((((w5.setCell ⟨w.heap.size, 0, none⟩ v0).setCell ⟨w.heap.size, 1, none⟩ v1).setCell ⟨w.heap.size, 2, none⟩ v2).setCell ⟨w.heap.size, 3, none⟩ v3).setCell ⟨w.heap.size, 4, none⟩ v4).setCell ⟨w.heap.size, 5, none⟩ v5) (.slice oso (q.bonds.map (ordN (pairsF q.atoms.length mate))).length ocap) (.slice cso (List.range q.atoms.length).length ccap)) := fun v0 v1 v2 v3 v4 v5 => by
        refine ⟨rfl, ownsRow_mono (base := w4.heap.size) ?_ (by omega), ownsRow_mono (base := w4.heap.size) ?_ (by omega), hne5, ?_⟩
        · exact ownsRow_setCell_below (ownsRow_setCell_below (ownsRow_setCell_below (ownsRow_setCell_below (ownsRow_setCell_below (ownsRow_setCell_below hO hlt4 _) hlt4 _) hlt4 _) hlt4 _) hlt4 _) hlt4 _
        · exact ownsRow_setCell_below (ownsRow_setCell_below (ownsRow_setCell_below (ownsRow_setCell_below (ownsRow_setCell_below (ownsRow_setCell_below hC hlt4 _) hlt4 _) hlt4 _) hlt4 _) hlt4 _) hlt4 _
        · exact (((((hB5.setCell (p := ⟨w.heap.size, 0, none⟩) (Nat.le_refl _) _).setCell (p := ⟨w.heap.size, 1, none⟩) (Nat.le_refl _) _).setCell (p := ⟨w.heap.size, 2, none⟩) (Nat.le_refl _) _).setCell (p := ⟨w.heap.size, 3, none⟩) (Nat.le_refl _) _).setCell (p := ⟨w.heap.size, 4, none⟩) (Nat.le_refl _) _).setCell (p := ⟨w.heap.size, 5, none⟩) (Nat.le_refl _) _
      clear hO hC hne5 hb5 hB5 HK4 HPU
      obtain ⟨os, hos⟩ : ∃ os, q.bonds.map (ordN (pairsF q.atoms.length mate)) = os := ⟨_, rfl⟩
      obtain ⟨rl, hrl⟩ : ∃ rl, (List.range q.atoms.length).length = rl := ⟨_, rfl⟩
      rw [hos, hrl] at HE ⊢
      have HOS : Hid (q.bonds.map (ordN (pairsF q.atoms.length mate)) = os) := hos
      clear hos hrl
      go_wp2_with fail
      refine bodyPost_ret (v := .tuple #[.agg #[.int .i64 1, .slice oso os.length ocap, .string ⟨(wrL s.data.toList q.bonds os).toArray⟩, .slice cso rl ccap, .slice none 0 0, .slice none 0 0], .int .i64 0, .int .i64 0]) ?_ rfl (Or.inr ⟨q, mate, f, gh, HP.out, HO.out, HEN.out, hs, hne, HBE.out, Or.inr ⟨hlt, _, _, by rw [HOS.out]; exact HE.out _ _ _ _ _ _⟩⟩)
      simp only [results, Tryz.results14]
      go_simp
end Go.Proofs.YtcabaecbmkgclaaGreatDoor.Kd

namespace Go.Proofs.YtcabaecbmkgclaaGreatDoor.Kd
open Go.RowKit Bz Mt Mg Rf

theorem cnt_mono {n : Nat} {p q : Nat → Bool} (h : ∀ k, k < n → p k = true → q k = true) : cnt n p ≤ cnt n q := by
  induction n with
  | zero => exact Nat.le_refl _
  | succ n ih =>
    have := ih fun k hk => h k (by omega)
    rw [cnt, cnt]
    have hn := h n (by omega)
    cases hp : p n
    · simp; omega
    · rw [hn hp]; simp; omega

theorem cnt_not (n : Nat) (p : Nat → Bool) : cnt n p + cnt n (fun k => !p k) = n := by
  have := cnt_split n (fun _ => true) p
  rw [cnt_all] at this
  simp only [Bool.true_and] at this
  have e : cnt n (fun k => p k) = cnt n p := rfl
  omega

theorem pairs_two {g : Gr} {mate : Nat → Option Nat} (G : GrOk g) (M : MtOk g mate) : 2 * (pairsF g.n mate).length + cnt g.n (fun x => (mate x).isNone) = g.n := by
  have h3 := pairs_count G M
  have e1 : (pairsF g.n mate).length = cnt g.n (fun v => (mate v).isSome && decide (v < mateOf mate v)) := by
    unfold pairsF
    rw [List.length_map, cnt_len]
  omega

section
variable {p : St} {n pos : Nat} {mate : Nat → Option Nat} {f : Fo} {h : Gh}

theorem mate_cand (hB : MtOk (grL n (candEdges p p.bonds)) mate) {x : Nat} (hx : (mate x).isSome = true) : cand p x = true := by
  obtain ⟨y, hy⟩ := Option.isSome_iff_exists.1 hx
  exact (candEdges_in x y (hB.adj x y hy)).1

theorem best_up (E : EdOk n (candEdges p p.bonds)) (hn : n ≤ 24) (hB : Best (grL n (candEdges p p.bonds)) mate f h) : 2 * (pairsF n mate).length ≤ cnt n (cand p) := by
  have h1 : 2 * (pairsF n mate).length + cnt n (fun x => (mate x).isNone) = n := pairs_two (E.gr hn) hB.m
  have h2 : cnt n (fun k => !cand p k) ≤ cnt n (fun x => (mate x).isNone) := cnt_mono fun k _ hk => by
    cases hm : mate k with
    | none => rfl
    | some y =>
      have := mate_cand hB.m (x := k) (by rw [hm]; rfl)
      rw [this] at hk
      cases hk
  have h3 := cnt_not n (cand p)
  omega

theorem best_lo (E : EdOk n (candEdges p p.bonds)) (hn : n ≤ 24) (hB : Best (grL n (candEdges p p.bonds)) mate f h) {m2 : Nat → Option Nat} (M2 : MtOk (grL n (candEdges p p.bonds)) m2) (hall : ∀ i, i < n → cand p i = true → (m2 i).isSome = true) : cnt n (cand p) ≤ 2 * (pairsF n mate).length := by
  have h1 : 2 * (pairsF n mate).length + cnt n (fun x => (mate x).isNone) = n := pairs_two (E.gr hn) hB.m
  have h2 : cnt n (fun x => (mate x).isNone) ≤ cnt n (fun x => (m2 x).isNone) := no_more (E.gr hn) hB.m hB.inv hB.shut M2
  have h4 : cnt n (fun x => (m2 x).isNone) ≤ cnt n (fun k => !cand p k) := cnt_mono fun k hk hm => by
    cases hc : cand p k with
    | false => rfl
    | true =>
      have := hall k hk hc
      cases h2k : m2 k with
      | none => rw [h2k] at this; cases this
      | some y => rw [h2k] at hm; cases hm
  have h3 := cnt_not n (cand p)
  omega
end

/-- Of the orders, as many are double as there are pairs, where no other bond is. -/
theorem two_count (P : List (Nat × Nat)) (l : List Bnd) (h4 : ∀ b ∈ l, b.o = 4) : ((l.map (ordN P)).filter fun x => x == 2).length = (l.filter fun b => b.o == 4 && decide ((b.a, b.b) ∈ P)).length := by
  induction l with
  | nil => rfl
  | cons b l ih =>
    have hb := h4 b (by simp)
    have e : (ordN P b == 2) = (b.o == 4 && decide ((b.a, b.b) ∈ P)) := by
      unfold ordN
      rw [if_pos hb, hb]
      by_cases hm : (b.a, b.b) ∈ P <;> simp [hm]
    rw [List.map_cons, List.filter_cons, List.filter_cons, e]
    have := ih fun x hx => h4 x (by simp [hx])
    split <;> simp [this]
end Go.Proofs.YtcabaecbmkgclaaGreatDoor.Kd

namespace Go.Proofs.YtcabaecbmkgclaaGreatDoor.Kd
open Go.RowKit Bz Mt Mg Rf Bu Cp

/-- A ring number as it is written. -/
def rgB (n : Nat) : ByteArray := if n < 10 then ⟨#[(48 + n).toUInt8]⟩ else ⟨#[37, (48 + n / 10).toUInt8, (48 + n % 10).toUInt8]⟩

def lastB (c : Nat) : ByteArray := if c = 0 then ⟨#[99]⟩ else if c = 1 then ⟨#[110]⟩ else ⟨#[91, 110, 72, 93]⟩

def upT (a : ByteArray) : Nat → ByteArray
  | 0 => a ++ ⟨#[49, 99, 99]⟩
  | j + 1 => upT a j ++ ⟨#[99]⟩ ++ rgB (j + 2) ++ ⟨#[99]⟩

/-- j numbers are left to be closed. -/
def dnT (a : ByteArray) (k : Nat) : Nat → ByteArray
  | 0 => a
  | j + 1 => dnT a k j ++ ⟨#[99, 99]⟩ ++ rgB (k - 1 - j)

def midT (a : ByteArray) (k : Nat) : ByteArray := upT a (k - 2) ++ ⟨#[99]⟩ ++ rgB k ++ ⟨#[99, 99, 99, 99, 99]⟩ ++ rgB k

def fusT (a : ByteArray) (k : Nat) : ByteArray := if k ≤ 1 then a ++ ⟨#[49, 99, 99, 99, 99, 99, 49]⟩ else dnT (midT a k) k (k - 2) ++ ⟨#[99, 49]⟩

/-- A molecule as what was read. -/
def stOf (ats : List Atm) (l : List Bnd) : St := ⟨0, ats, l, fun _ => none⟩

def fusOk (t : ByteArray) (k : Nat) (bar : Bool) : Bool := match Bz.parse t with
  | .error _ => false
  | .ok (ats, l) => ats.length == 4 * k + 2 && l.length == 5 * k + 1 && l.all (fun b => b.o == 4) &&
    (if bar then cnt ats.length (cand (stOf ats l)) == 4 * k + 1 else cnt ats.length (cand (stOf ats l)) == 4 * k + 2 && (List.range (2 * k + 1)).all fun i => adjL (candEdges (stOf ats l) l) (2 * i) (2 * i + 1))

set_option maxRecDepth 1000000 in
theorem fus_all : ∀ k, k < 5 → ∀ c, c < 3 → fusOk (fusT (lastB c) (k + 1)) (k + 1) (c == 2) = true := by decide +kernel

set_option maxRecDepth 1000000 in
theorem fus_size : ∀ k, k < 5 → ∀ c, c < 3 → (fusT (lastB c) (k + 1)).size ≤ 160 := by decide +kernel

theorem fus_read {t : ByteArray} {k : Nat} {bar : Bool} (h : fusOk t k bar = true) : ∃ ats l, Bz.parse t = .ok (ats, l) := by
  unfold fusOk at h
  cases hp : Bz.parse t with
  | error e => rw [hp] at h; cases h
  | ok x => exact ⟨x.1, x.2, rfl⟩

structure FusIs (q : St) (k : Nat) (bar : Bool) : Prop where
  atoms : q.atoms.length = 4 * k + 2
  bonds : q.bonds.length = 5 * k + 1
  four : ∀ b ∈ q.bonds, b.o = 4
  odd : bar = true → cnt q.atoms.length (cand q) = 4 * k + 1
  all : bar = false → cnt q.atoms.length (cand q) = 4 * k + 2
  way : bar = false → ∀ i, i < 2 * k + 1 → adjL (candEdges q q.bonds) (2 * i) (2 * i + 1) = true

theorem fus_facts {t : ByteArray} {k : Nat} {bar : Bool} (h : fusOk t k bar = true) {q : St} (hp : Bz.parse t = .ok (q.atoms, q.bonds)) : FusIs q k bar := by
  unfold fusOk at h
  rw [hp] at h
  simp only [Bool.and_eq_true, beq_iff_eq, List.all_eq_true] at h
  obtain ⟨⟨⟨h1, h2⟩, h3⟩, h4⟩ := h
  have ec : cand (stOf q.atoms q.bonds) = cand q := rfl
  have ee : candEdges (stOf q.atoms q.bonds) q.bonds = candEdges q q.bonds := rfl
  rw [ec, ee] at h4
  cases bar with
  | true =>
    simp only [if_pos, beq_iff_eq] at h4
    exact ⟨h1, h2, h3, fun _ => h4, fun e => (by cases e), fun e => (by cases e)⟩
  | false =>
    simp only [Bool.false_eq_true, if_false, Bool.and_eq_true, beq_iff_eq, List.all_eq_true, List.mem_range] at h4
    exact ⟨h1, h2, h3, fun e => (by cases e), fun _ => h4.1, fun _ => h4.2⟩

/-- Each with the one behind it. -/
def byTwo (n : Nat) (v : Nat) : Option Nat := if v < n then some (if v % 2 = 0 then v + 1 else v - 1) else none

theorem byTwo_ok {l : List (Nat × Nat)} {n m : Nat} (hn : n = 2 * m) (h : ∀ i, i < m → adjL l (2 * i) (2 * i + 1) = true) : MtOk (grL n l) (byTwo n) := by
  have sym : ∀ a b, adjL l a b = true → adjL l b a = true := fun a b hab => adjL_iff.2 ((adjL_iff.1 hab).symm)
  constructor
  · intro a b hab
    show adjL l a b = true
    unfold byTwo at hab
    split at hab
    · rename_i hlt
      simp only [Option.some.injEq] at hab
      split at hab
      · rename_i he
        have := h (a / 2) (by omega)
        rw [show 2 * (a / 2) = a by omega] at this
        rw [← hab]
        exact this
      · rename_i he
        have := h (a / 2) (by omega)
        rw [show 2 * (a / 2) + 1 = a by omega, show 2 * (a / 2) = b by omega] at this
        exact sym _ _ this
    · cases hab
  · intro a b hab
    unfold byTwo at hab ⊢
    split at hab
    · rename_i hlt
      simp only [Option.some.injEq] at hab
      split at hab
      · rename_i he
        rw [if_pos (by omega), if_neg (by omega)]
        congr 1
        omega
      · rename_i he
        rw [if_pos (by omega), if_pos (by omega)]
        congr 1
        omega
    · cases hab

/-- What a row of rings comes to. -/
theorem fus_end {s : ByteArray} {q : St} {k : Nat} {bar : Bool} {mate : Nat → Option Nat} {f : Fo} {h : Gh} (F : FusIs q k bar) (en : En q.atoms.length q.bonds s.size) (hn : q.atoms.length ≤ 24) (hB : Best (grL q.atoms.length (candEdges q q.bonds)) mate f h) :
    (bar = true → 2 * (pairsF q.atoms.length mate).length < cnt q.atoms.length (cand q)) ∧
    (bar = false → ¬ 2 * (pairsF q.atoms.length mate).length < cnt q.atoms.length (cand q) ∧ ((q.bonds.map (ordN (pairsF q.atoms.length mate))).filter fun x => x == 2).length = 2 * k + 1) := by
  have E := candEdges_ok en
  have up := best_up E hn hB
  constructor
  · intro hb
    have := F.odd hb
    omega
  · intro hb
    have h1 := F.all hb
    have lo := best_lo E hn hB (byTwo_ok (m := 2 * k + 1) (by rw [F.atoms]; omega) (F.way hb)) (fun i hi _ => by unfold byTwo; rw [if_pos hi]; rfl)
    refine ⟨by omega, ?_⟩
    rw [two_count _ _ F.four, doubled_count en hB]
    omega
end Go.Proofs.YtcabaecbmkgclaaGreatDoor.Kd

namespace Go.Proofs.YtcabaecbmkgclaaGreatDoor.Kd
open Go.RowKit Bz Mt Mg Rf

def pickF (c : Int) (n : Nat) : Nat := (if c < 0 then -(c + 1) else c).toNat % n

theorem pickF_lt (c : Int) {n : Nat} (hn : 0 < n) : pickF c n < n := Nat.mod_lt _ hn

def In64 (c : Int) : Prop := -9223372036854775808 ≤ c ∧ c ≤ 9223372036854775807

theorem rem_nat {x : Int} (hx : 0 ≤ x) (n : Nat) : Int.tmod x (n : Int) = ((x.toNat % n : Nat) : Int) := by
  obtain ⟨m, rfl⟩ := Int.eq_ofNat_of_zero_le hx
  rfl

set_option maxRecDepth 100000 in
theorem pick_any (w : World) (c : Int) (n : Nat) (hn : 0 < n) (hn2 : n ≤ 1000) (hc : In64 c) :
    Calls Tryz.prog 12 #[.int .i64 c, .int .i64 (n : Int)] w fun e w' => e = .returned (.int .i64 (pickF c n : Nat)) ∧ w' = w := by
  obtain ⟨hc1, hc2⟩ := hc
  have hn0 : ((n : Int) = 0) = False := by simp; omega
  have hnb : ((n : Int) == 0) = false := by simp; omega
  have hnm : ((n : Int) = -1) = False := by simp
  by_cases h : c < 0
  · have HP : Hid (pickF c n = (-(c + 1)).toNat % n) := by unfold Hid pickF; rw [if_pos h]
    have hr := rem_nat (x := -(c + 1)) (by omega) n
    have hlt : (-(c + 1)).toNat % n < n := Nat.mod_lt _ hn
    generalize (-(c + 1)).toNat % n = r at *
    go_enter Tryz.func12, Tryz.ntmps12
    go_wp2_with fail
    go_ret
    exact ⟨by rw [HP.out]; rfl, rfl⟩
  · have HP : Hid (pickF c n = c.toNat % n) := by unfold Hid pickF; rw [if_neg h]
    have hr := rem_nat (x := c) (by omega) n
    have hlt : c.toNat % n < n := Nat.mod_lt _ hn
    generalize c.toNat % n = r at *
    go_enter Tryz.func12, Tryz.ntmps12
    go_wp2_with fail
    go_ret
    exact ⟨by rw [HP.out]; rfl, rfl⟩


theorem dig_slice (n : Nat) (hn : n < 10) : (⟨#[48, 49, 50, 51, 52, 53, 54, 55, 56, 57]⟩ : ByteArray).extract n (n + 1) = ⟨#[(48 + n).toUInt8]⟩ := by
  match n, hn with
  | 0, _ => rfl
  | 1, _ => rfl
  | 2, _ => rfl
  | 3, _ => rfl
  | 4, _ => rfl
  | 5, _ => rfl
  | 6, _ => rfl
  | 7, _ => rfl
  | 8, _ => rfl
  | 9, _ => rfl

set_option maxRecDepth 100000 in
set_option maxHeartbeats 1000000 in
theorem ring_any (w : World) (n : Nat) (hn : n < 100) : Calls Tryz.prog 13 #[.int .i64 (n : Int)] w fun e w' => e = .returned (.string (rgB n)) ∧ Below w.heap.size w w' := by
  by_cases h : n < 10
  · have h' : (n : Int) < 10 := by omega
    have HR : Hid (rgB n = (⟨#[48, 49, 50, 51, 52, 53, 54, 55, 56, 57]⟩ : ByteArray).extract n (n + 1)) := by
      show _ = _
      unfold rgB
      rw [if_pos h, dig_slice n h]
    go_enter Tryz.func13, Tryz.ntmps13
    go_wp2_with fail
    go_ret
    exact ⟨by rw [HR.out]; rfl, Below.refl _ _⟩
  · have h' : ¬ (n : Int) < 10 := by omega
    obtain ⟨a, ha⟩ : ∃ a, n / 10 = a := ⟨_, rfl⟩
    obtain ⟨b, hb⟩ : ∃ b, n % 10 = b := ⟨_, rfl⟩
    have ha1 : a < 10 := by omega
    have hb1 : b < 10 := by omega
    have q1 : Int.tdiv (n : Int) 10 = (a : Int) := by rw [← ha]; rfl
    have q2 : Int.tmod (n : Int) 10 = (b : Int) := by rw [← hb]; rfl
    have HR : Hid (rgB n = ⟨#[37]⟩ ++ (⟨#[48, 49, 50, 51, 52, 53, 54, 55, 56, 57]⟩ : ByteArray).extract a (a + 1) ++ (⟨#[48, 49, 50, 51, 52, 53, 54, 55, 56, 57]⟩ : ByteArray).extract b (b + 1)) := by
      show _ = _
      unfold rgB
      rw [if_neg h, dig_slice a ha1, dig_slice b hb1, ha, hb]
      rfl
    clear ha hb
    go_enter Tryz.func13, Tryz.ntmps13
    go_wp2_with fail
    go_quiet (fail)
    go_wp2_with fail
    go_ret
    exact ⟨by rw [HR.out]; rfl, below_drewNm _ _⟩
end Go.Proofs.YtcabaecbmkgclaaGreatDoor.Kd

namespace Go.Proofs.YtcabaecbmkgclaaGreatDoor.Kd
open Go.RowKit Bz Mt Mg Rf

theorem last_in (c : Nat) (hc : c < 3) : (#[Value.string ⟨#[99]⟩, .string ⟨#[110]⟩, .string ⟨#[91, 110, 72, 93]⟩] : Array Value)[c]? = some (.string (lastB c)) := by
  match c, hc with
  | 0, _ => rfl
  | 1, _ => rfl
  | 2, _ => rfl

theorem rgB_size (n : Nat) : (rgB n).size ≤ 3 := by
  unfold rgB
  split
  · show 1 ≤ 3
    decide
  · show 3 ≤ 3
    decide

theorem upT_size (a : ByteArray) (j : Nat) : (upT a j).size ≤ a.size + 3 + 5 * j := by
  induction j with
  | zero => rw [upT, ByteArray.size_append]; exact Nat.le_refl _
  | succ j ih =>
    rw [upT, ByteArray.size_append, ByteArray.size_append, ByteArray.size_append]
    have := rgB_size (j + 2)
    have e : (⟨#[99]⟩ : ByteArray).size = 1 := rfl
    omega

theorem dnT_size (a : ByteArray) (k j : Nat) : (dnT a k j).size ≤ a.size + 5 * j := by
  induction j with
  | zero => exact Nat.le_refl _
  | succ j ih =>
    rw [dnT, ByteArray.size_append, ByteArray.size_append]
    have := rgB_size (k - 1 - j)
    have e : (⟨#[99, 99]⟩ : ByteArray).size = 2 := rfl
    omega

theorem midT_size (a : ByteArray) (k : Nat) (hk : k ≤ 5) : (midT a k).size ≤ a.size + 30 := by
  unfold midT
  rw [ByteArray.size_append, ByteArray.size_append, ByteArray.size_append, ByteArray.size_append]
  have := rgB_size k
  have := upT_size a (k - 2)
  have e : (⟨#[99]⟩ : ByteArray).size = 1 := rfl
  have e2 : (⟨#[99, 99, 99, 99, 99]⟩ : ByteArray).size = 5 := rfl
  omega

theorem lastB_size (c : Nat) : (lastB c).size ≤ 4 := by
  unfold lastB
  split
  · decide
  · split <;> decide

/-- Where the counting of the double bonds stands. -/
structure FuS (w1 : World) (X Y : Nat) (ao : Option Addr) (ac : Nat) (bo : Option Addr) (bc : Nat) (oo : Option Addr) (oc nA nB : Nat) (os : List Nat) (wr : World) : Prop where
  k0 : wr.cell? ⟨X, 0, none⟩ = some (.slice ao nA ac)
  k1 : wr.cell? ⟨X, 1, none⟩ = some (.slice bo nB bc)
  r0 : wr.cell? ⟨Y, 0, none⟩ = some (.int .i64 1)
  r1 : wr.cell? ⟨Y, 1, none⟩ = some (.slice oo nB oc)
  at_ : ∀ (i x : Nat), os[i]? = some x → ∃ g, oo = some ⟨g, 0, none⟩ ∧ wr.cell? ⟨g, i, none⟩ = some (.int .i64 (x : Int))
  below : Below w1.heap.size w1 wr

set_option maxRecDepth 100000 in
set_option maxHeartbeats 4000000 in
theorem fused_any (w : World) (n c : Int) (hn : In64 n) (hc : In64 c) : Calls Tryz.prog 7 #[.int .i64 n, .int .i64 c] w fun e w' => e = .returned (.bool true) ∧ Below w.heap.size w w' := by
  have P1 := pick_any w n 5 (by omega) (by omega) hn
  have P2 := fun W => pick_any W c 3 (by omega) (by omega) hc
  have hk := pickF_lt n (show 0 < 5 by omega)
  have hcc := pickF_lt c (show 0 < 3 by omega)
  generalize pickF n 5 = k at *
  generalize pickF c 3 = cc at *
  go_enter Tryz.func7, Tryz.ntmps7
  go_wp2_with fail
  refine P1.mono ?_
  rintro e w1 ⟨rfl, rfl⟩
  clear P1
  go_wp2_with fail
  refine (P2 _).mono ?_
  rintro e w2 ⟨rfl, rfl⟩
  clear P2
  have cL : (w1.alloc (.cells #[Value.string ⟨#[99]⟩, .string ⟨#[110]⟩, .string ⟨#[91, 110, 72, 93]⟩] 9)).cell? ⟨w1.heap.size, cc, none⟩ = some (.string (lastB cc)) := by
    rw [World.cell?_alloc_new]
    exact last_in cc hcc
  have HB0 : Hid (Below w1.heap.size w1 (w1.alloc (.cells #[Value.string ⟨#[99]⟩, .string ⟨#[110]⟩, .string ⟨#[91, 110, 72, 93]⟩] 9))) := (Below.refl _ w1).alloc (Nat.le_refl _) _
  have hcc' : (cc : Int) < 3 := by omega
  obtain ⟨la, hla⟩ : ∃ la, lastB cc = la := ⟨_, rfl⟩
  have hls := lastB_size cc
  rw [hla] at cL hls
  have HLA : Hid (lastB cc = la) := hla
  clear hla
  generalize w1.alloc (.cells #[Value.string ⟨#[99]⟩, .string ⟨#[110]⟩, .string ⟨#[91, 110, 72, 93]⟩] 9) = w2 at *
  go_upto_if 29 with fail
  go_cut [7, 8, 9, 29] from 30 to 64 (fun s7 s8 s9 s29 wx => s7 = .string (fusT la (k + 1)) ∧ Below w1.heap.size w1 wx)
  case first =>
    by_cases hk0 : k = 0
    · subst hk0
      go_wp2_with fail
      go_meet
      exact ⟨rfl, HB0.out⟩
    · have hk1 : (1 : Int) < 1 + (k : Int) := by omega
      rw [decide_eq_true hk1]
      go_wp2_with fail
      go_loopg [7, 8] (k + 1) (fun g v7 v8 wr => ∃ j : Nat, j ≤ k - 1 ∧ k - 1 - j < g ∧ v8 = .int .i64 ((j : Int) + 2) ∧ v7 = .string (upT la j) ∧ Below w1.heap.size w1 wr)
      case atStart => exact ⟨0, by omega, by omega, rfl, rfl, HB0.out⟩
      case round =>
        obtain ⟨j, hj, hg, rfl, rfl, hb⟩ := hrel
        by_cases hlt : j < k - 1
        · have hlt' : (j : Int) + 2 < 1 + (k : Int) := by omega
          have hus := upT_size la j
          have hrs := rgB_size (j + 2)
          have RG := ring_any wr (j + 2) (by omega)
          rw [show ((j + 2 : Nat) : Int) = (j : Int) + 2 from by omega] at RG
          have HB : Hid (Below w1.heap.size w1 wr) := hb
          clear hb HB0
          go_wp2_with fail
          refine RG.mono ?_
          rintro e w3 ⟨rfl, hb3⟩
          clear RG
          have HB3 : Hid (Below w1.heap.size w1 w3) := HB.out.trans (hb3.mono HB.out.size)
          clear hb3
          go_wp2_with fail
          go_roundg (k - 1 - j)
          case measure => omega
          case rel => exact ⟨j + 1, by omega, by omega, by go_num, rfl, HB3.out⟩
        · have hlt' : ¬ (j : Int) + 2 < 1 + (k : Int) := by omega
          obtain rfl : j = k - 1 := by omega
          have HB : Hid (Below w1.heap.size w1 wr) := hb
          clear hb HB0
          have hus := upT_size la (k - 1)
          have hrs := rgB_size (k + 1)
          have RG := fun W => ring_any W (k + 1) (by omega)
          rw [show ((k + 1 : Nat) : Int) = 1 + (k : Int) from by omega] at RG
          have hkk : ((k - 1 : Nat) : Int) + 2 = (k : Int) + 1 := by omega
          go_wp2_with fail
          refine (RG _).mono ?_
          rintro e w3 ⟨rfl, hb3⟩
          have HB3 : Hid (Below w1.heap.size w1 w3) := HB.out.trans (hb3.mono HB.out.size)
          clear hb3 HB
          go_wp2_with fail
          refine (RG _).mono ?_
          rintro e w4 ⟨rfl, hb4⟩
          have HB4 : Hid (Below w1.heap.size w1 w4) := HB3.out.trans (hb4.mono HB3.out.size)
          clear hb4 HB3 RG
          have hms := midT_size la (k + 1) (by omega)
          have HM : Hid (midT la (k + 1) = upT la (k - 1) ++ ⟨#[99]⟩ ++ rgB (k + 1) ++ ⟨#[99, 99, 99, 99, 99]⟩ ++ rgB (k + 1)) := rfl
          go_wp2_with fail
          go_loopg [7, 9] (k + 1) (fun g v7 v9 wr => ∃ j : Nat, j ≤ k - 1 ∧ k - 1 - j < g ∧ v9 = .int .i64 ((k : Int) - j) ∧ v7 = .string (dnT (midT la (k + 1)) (k + 1) j) ∧ Below w1.heap.size w1 wr)
          case atStart => exact ⟨0, by omega, by omega, by go_num, rfl, HB4.out⟩
          case round =>
            obtain ⟨j, hj, hg, rfl, rfl, hb⟩ := hrel
            have hds := dnT_size (midT la (k + 1)) (k + 1) j
            by_cases hlt : j < k - 1
            · have hlt2 : ¬ ((k : Int) - (j : Int) < 2) := by omega
              have hlt3 : (2 : Int) ≤ (k : Int) - (j : Int) := by omega
              have hrs := rgB_size (k - j)
              have RG := ring_any wr (k - j) (by omega)
              rw [show ((k - j : Nat) : Int) = (k : Int) - (j : Int) from by omega] at RG
              have HDN : Hid (dnT (midT la (k + 1)) (k + 1) (j + 1) = dnT (midT la (k + 1)) (k + 1) j ++ ⟨#[99, 99]⟩ ++ rgB (k - j)) := by
                show _ = _
                rw [dnT, show k + 1 - 1 - j = k - j by omega]
              have HB : Hid (Below w1.heap.size w1 wr) := hb
              clear hb HB4
              go_wp2_with fail
              refine RG.mono ?_
              rintro e w3 ⟨rfl, hb3⟩
              clear RG
              have HB3 : Hid (Below w1.heap.size w1 w3) := HB.out.trans (hb3.mono HB.out.size)
              clear hb3
              go_wp2_with fail
              go_roundg (k - 1 - j)
              case measure => omega
              case rel => exact ⟨j + 1, by omega, by omega, by go_num, by rw [HDN.out], HB3.out⟩
            · have hlt2 : (k : Int) - (j : Int) < 2 := by omega
              have hlt3 : ¬ ((2 : Int) ≤ (k : Int) - (j : Int)) := by omega
              obtain rfl : j = k - 1 := by omega
              have HB : Hid (Below w1.heap.size w1 wr) := hb
              have HF : Hid (fusT la (k + 1) = dnT (midT la (k + 1)) (k + 1) (k - 1) ++ ⟨#[99, 49]⟩) := by
                show _ = _
                unfold fusT
                rw [if_neg (by omega), show k + 1 - 2 = k - 1 by omega]
              clear hb HB4
              go_wp2_with fail
              go_meet
              exact ⟨by rw [HF.out], HB.out⟩
  case rest =>
    obtain ⟨rfl, hb⟩ := hcut
    have hok := fus_all k hk cc hcc
    have hsz := fus_size k hk cc hcc
    rw [HLA.out] at hok hsz
    have HOK : Hid (fusOk (fusT la (k + 1)) (k + 1) (cc == 2) = true) := hok
    have P1 := fun W => parse_any (fusT la (k + 1)) W (by unfold maxLen; omega)
    have P2 := fun W => kekulize_any (fusT la (k + 1)) W (by unfold maxLen; omega)
    clear hok hls cL
    generalize fusT la (k + 1) = t at *
    go_wp2_with fail
    refine (P1 _).mono ?_
    clear P1
    rintro e w3 h
    rcases h with ⟨er, h, _, _⟩ | ⟨ats, l, v, v', h, rfl, ha, hl, hbP, hne, hn24, hl160⟩
    · exfalso
      obtain ⟨a, b, hh⟩ := fus_read HOK.out
      rw [h] at hh
      cases hh
    obtain ⟨ao, ac, hva⟩ := ownsRow_shape ha
    obtain ⟨bo, bc, hvb⟩ := ownsRow_shape hl
    subst hva hvb
    have HB3 : Hid (Below w1.heap.size w1 w3) := hb.trans (hbP.mono hb.size)
    have HP : Hid (Bz.parse t = .ok (ats, l)) := h
    clear h ha hl hb hbP HB0
    go_wp2_with fail
    refine (P2 _).mono ?_
    clear P2
    rintro e w4 h
    rcases h with ⟨er, h, _⟩ | ⟨q, mate, f, gh, h⟩
    · exfalso
      have := HP.out
      rw [h] at this
      cases this
    have hpq := HP.out
    rw [h.h] at hpq
    simp only [Except.ok.injEq, Prod.mk.injEq] at hpq
    obtain ⟨rfl, rfl⟩ := hpq
    have F := fus_facts HOK.out h.h
    obtain ⟨fe1, fe2⟩ := fus_end F h.en hn24 h.best
    have hA := F.atoms
    have hBo := F.bonds
    have HC : Hid (_) := h.case
    clear h F HOK HP hne hn24 hl160
    have hA' : (q.atoms.length : Int) = 4 * (1 + (k : Int)) + 2 := by omega
    have hBo' : (q.bonds.length : Int) = 5 * (1 + (k : Int)) + 1 := by omega
    have hsz3 : (w3.alloc (.cells #[.slice ao q.atoms.length ac, .slice bo q.bonds.length bc] 39)).heap.size = w3.heap.size + 1 := by simp
    by_cases hc2 : cc = 2
    · subst hc2
      rcases HC.out with ⟨_, pv, uv, hK⟩ | ⟨hn, _⟩
      · obtain ⟨he, hp, hu, hb4⟩ := hK
        subst he
        rw [hsz3] at hb4
        have m0 : w4.cell? ⟨w3.heap.size, 0, none⟩ = some (.slice ao q.atoms.length ac) := (hb4.cell (by simp)).trans (by simp)
        have m1 : w4.cell? ⟨w3.heap.size, 1, none⟩ = some (.slice bo q.bonds.length bc) := (hb4.cell (by simp)).trans (by simp)
        have hlt : w3.heap.size < w4.heap.size := by have := hb4.size; rw [hsz3] at this; omega
        have HB4 : Hid (Below w1.heap.size w1 w4) := (HB3.out.alloc HB3.out.size _).trans (hb4.mono (by have := HB3.out.size; omega))
        have hla : la = ⟨#[91, 110, 72, 93]⟩ := HLA.out.symm
        subst hla
        obtain ⟨po, pc, hpv⟩ := ownsRow_shape hp
        obtain ⟨uo, uc, huv⟩ := hu.shape
        subst hpv huv
        clear hp hu hb4 fe1 fe2 HC
        go_upto_region 18 with fail
        obtain ⟨W, hW⟩ : ∃ W, w4.alloc (.cells #[.int .i64 2, .slice none 0 0, .string ⟨#[]⟩, .slice none 0 0, .slice po (pairsF (4 * (k + 1) + 2) mate).length pc, .slice uo (barF (4 * (k + 1) + 2) f).length uc] 31) = W := ⟨_, rfl⟩
        have k0 : W.cell? ⟨w3.heap.size, 0, none⟩ = some (.slice ao q.atoms.length ac) := by rw [← hW, World.cell?_alloc_lt _ _ _ hlt]; exact m0
        have k1 : W.cell? ⟨w3.heap.size, 1, none⟩ = some (.slice bo q.bonds.length bc) := by rw [← hW, World.cell?_alloc_lt _ _ _ hlt]; exact m1
        have r0 : W.cell? ⟨w4.heap.size, 0, none⟩ = some (.int .i64 2) := by rw [← hW]; simp
        have r1 : W.cell? ⟨w4.heap.size, 1, none⟩ = some (.slice none 0 0) := by rw [← hW]; simp
        have HBW : Hid (Below w1.heap.size w1 W) := by rw [← hW]; exact HB4.out.alloc HB4.out.size _
        rw [hW]
        clear hW HB4 m0 m1 hlt
        go_wp2_with fail
        go_ret
        exact ⟨rfl, HBW.out⟩
      · exact absurd (fe1 rfl) hn
    · have hcc2 : (cc == 2) = false := by simp [hc2]
      obtain ⟨hnl, hcount⟩ := fe2 hcc2
      rcases HC.out with ⟨hlt, _⟩ | ⟨_, ov, cv, hK⟩
      · exact absurd hlt hnl
      obtain ⟨he, ho, hcv, _, hb4⟩ := hK
      subst he
      have hosl : (q.bonds.map (ordN (pairsF q.atoms.length mate))).length = q.bonds.length := List.length_map ..
      generalize q.bonds.map (ordN (pairsF q.atoms.length mate)) = os at *
      generalize wrL t.data.toList q.bonds os = ws at *
      rw [hsz3] at hb4 ho hcv
      have m0 : w4.cell? ⟨w3.heap.size, 0, none⟩ = some (.slice ao q.atoms.length ac) := (hb4.cell (by simp)).trans (by simp)
      have m1 : w4.cell? ⟨w3.heap.size, 1, none⟩ = some (.slice bo q.bonds.length bc) := (hb4.cell (by simp)).trans (by simp)
      have hlt : w3.heap.size < w4.heap.size := by have := hb4.size; rw [hsz3] at this; omega
      have HB4 : Hid (Below w1.heap.size w1 w4) := (HB3.out.alloc HB3.out.size _).trans (hb4.mono (by have := HB3.out.size; omega))
      have hla : (la.toList == [91, 110, 72, 93]) = false := by
        have := HLA.out
        have h01 : cc = 0 ∨ cc = 1 := by omega
        rcases h01 with rfl | rfl <;> (rw [← this]; decide +kernel)
      obtain ⟨oo, oc, hov⟩ := ho.shape
      obtain ⟨co, cu, hcvv⟩ := hcv.shape
      subst hov hcvv
      have HO : Hid (Ints w4 (w3.heap.size + 1) (.slice oo os.length oc) os) := ho
      have HCT : Hid ((os.filter fun x => x == 2).length = 2 * (k + 1) + 1) := hcount
      clear ho hcv hb4 fe1 fe2 HC hcount hnl
      go_upto_region 18 with fail
      obtain ⟨W, hW⟩ : ∃ W, w4.alloc (.cells #[.int .i64 1, .slice oo (5 * (k + 1) + 1) oc, .string ⟨ws.toArray⟩, .slice co (4 * (k + 1) + 2) cu, .slice none 0 0, .slice none 0 0] 31) = W := ⟨_, rfl⟩
      have hol : os.length = 5 * (k + 1) + 1 := by rw [hosl, hBo]
      have S0 : Hid (FuS w1 w3.heap.size w4.heap.size ao ac bo bc oo oc (4 * (k + 1) + 2) (5 * (k + 1) + 1) os W) := by
        rw [hA] at m0
        rw [hBo] at m1
        refine ⟨?_, ?_, ?_, ?_, fun i x hi => ?_, ?_⟩
        · rw [← hW, World.cell?_alloc_lt _ _ _ hlt]; exact m0
        · rw [← hW, World.cell?_alloc_lt _ _ _ hlt]; exact m1
        · rw [← hW]; simp
        · rw [← hW]; simp
        · obtain ⟨g, cap, e1, _, hg, hcell⟩ := HO.out.at hi
          simp only [Value.slice.injEq, true_and] at e1
          exact ⟨g, e1.1, by rw [← hW, World.cell?_alloc_lt _ _ _ hg]; exact hcell⟩
        · rw [← hW]; exact HB4.out.alloc HB4.out.size _
      rw [hW]
      have hA2 : ((4 * (k + 1) + 2 : Nat) : Int) = 4 * (1 + (k : Int)) + 2 := by omega
      have hB2 : ((5 * (k + 1) + 1 : Nat) : Int) = 5 * (1 + (k : Int)) + 1 := by omega
      clear hW HB4 HB3 m0 m1 hlt HO hsz3 hA hBo hA' hBo' hosl
      generalize hna : 4 * (k + 1) + 2 = nA at *
      generalize hnb : 5 * (k + 1) + 1 = nB at *
      have k0 := S0.out.k0
      have k1 := S0.out.k1
      have r0 := S0.out.r0
      have r1 := S0.out.r1
      have hnB : nB ≤ 26 := by omega
      clear hna hnb
      go_wp2_with fail
      go_loopg [16, 17] (nB + 1) (fun g v16 v17 wr => ∃ i : Nat, i ≤ nB ∧ nB - i < g ∧ v17 = .int .i64 (i : Int) ∧ v16 = .int .i64 ((((os.take i).filter fun x => x == 2).length : Nat) : Int) ∧ FuS w1 w3.heap.size w4.heap.size ao ac bo bc oo oc nA nB os wr)
      case atStart => exact ⟨0, by omega, by omega, rfl, rfl, S0.out⟩
      case round =>
        obtain ⟨i, hi, hg, rfl, rfl, hS⟩ := hrel
        clear S0 k0 k1 r0 r1
        have HS : Hid (FuS w1 w3.heap.size w4.heap.size ao ac bo bc oo oc nA nB os wr) := hS
        have k0 := hS.k0
        have k1 := hS.k1
        have r0 := hS.r0
        have r1 := hS.r1
        clear hS
        by_cases hlt : i < nB
        · have hlt' : (i : Int) < (nB : Int) := by omega
          obtain ⟨x, hx⟩ : ∃ x, os[i]? = some x := ⟨_, List.getElem?_eq_getElem (by omega)⟩
          obtain ⟨g, rfl, hcell⟩ := HS.out.at_ i x hx
          have hct : ((os.take i).filter fun x => x == 2).length ≤ 26 := Nat.le_trans (List.length_filter_le _ _) (by rw [List.length_take]; omega)
          have hnx : ((os.take (i + 1)).filter fun x => x == 2).length = ((os.take i).filter fun x => x == 2).length + if x == 2 then 1 else 0 := by
            rw [take_snoc hx, List.filter_append, List.length_append]
            simp only [List.filter_cons, List.filter_nil]
            split <;> rfl
          have HNX : Hid (_) := hnx
          clear hnx
          by_cases hx2 : x = 2
          · subst hx2
            go_wp2_with fail
            go_roundg (nB - i)
            case measure => omega
            case rel => exact ⟨i + 1, by omega, by omega, by go_num, by rw [HNX.out]; rfl, HS.out⟩
          · have hx2' : ¬ (x : Int) = 2 := by omega
            have hx3 : (x == 2) = false := by simp [hx2]
            go_wp2_with fail
            go_roundg (nB - i)
            case measure => omega
            case rel => exact ⟨i + 1, by omega, by omega, by go_num, by rw [HNX.out, hx3]; rfl, HS.out⟩
        · have hlt' : ¬ (i : Int) < (nB : Int) := by omega
          have hin : i = nB := by omega
          have hct : ((((os.take i).filter fun x => x == 2).length : Nat) : Int) = 2 * (1 + (k : Int)) + 1 := by
            rw [List.take_of_length_le (by omega), HCT.out]
            omega
          generalize (((os.take i).filter fun x => x == 2).length : Nat) = cn at *
          go_wp2_with fail
          go_ret
          exact ⟨rfl, HS.out.below⟩
end Go.Proofs.YtcabaecbmkgclaaGreatDoor.Kd
