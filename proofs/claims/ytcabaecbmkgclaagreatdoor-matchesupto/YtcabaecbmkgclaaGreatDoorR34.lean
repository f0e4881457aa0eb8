/-
  A list of pairs made by a step, and what was handed in.
  A step's list of pairs that came in.
  One step of a script that is a Match: the answer is right by the document, what was handed in stays, and the lists that came out are kept.
-/
import Derived.Test.YtcabaecbmkgclaaGreatDoorR21
import Derived.Test.YtcabaecbmkgclaaGreatDoorR33
import Derived.Deep.SlicePairs
namespace Go.Proofs.YtcabaecbmkgclaaGreatDoor.Rf
open Go.RowKit Mt Mg
/-- Block A holds m pairs. -/
structure Ars (w : World) (A m : Nat) (c : Nat → Int × Int) : Prop where
  fst : ∀ i, i < m → w.cell? ⟨A, i * 2, none⟩ = some (.int .i64 (c i).1)
  snd : ∀ i, i < m → w.cell? ⟨A, i * 2 + 1, none⟩ = some (.int .i64 (c i).2)
  free : ∀ i, w.frozen? ⟨A, i, none⟩ = false

theorem Ars.set {w : World} {A m : Nat} {c : Nat → Int × Int} (h : Ars w A m c) {a : Nat} (ha : a < m) (x y : Int) : Ars ((w.setCell ⟨A, a * 2, none⟩ (.int .i64 x)).setCell ⟨A, a * 2 + 1, none⟩ (.int .i64 y)) A m (setAt c a (x, y)) := by
  refine ⟨fun k hk => ?_, fun k hk => ?_, fun i => by rw [World.frozen?_setCell, World.frozen?_setCell]; exact h.free i⟩
  · rw [cell_set_ne (by omega)]
    by_cases e : k = a
    · subst e
      rw [World.cell?_setCell_same w _ _ (h.fst k hk)]
      simp [setAt]
    · rw [cell_set_ne (by omega)]
      simp only [setAt, if_neg e]
      exact h.fst k hk
  · by_cases e : k = a
    · subst e
      rw [World.cell?_setCell_same (w.setCell ⟨A, k * 2, none⟩ (.int .i64 x)) _ _ (by rw [cell_set_ne (by omega)]; exact h.snd k hk)]
      simp [setAt]
    · rw [cell_set_ne (by omega), cell_set_ne (by omega)]
      simp only [setAt, if_neg e]
      exact h.snd k hk

theorem Ars.same {w w' : World} {A m : Nat} {c : Nat → Int × Int} (h : Ars w A m c) (hs : w'.heap[A]? = w.heap[A]?) : Ars w' A m c :=
  ⟨fun k hk => (World.cell?_of_block (a := ⟨A, k * 2, none⟩) hs).trans (h.fst k hk), fun k hk => (World.cell?_of_block (a := ⟨A, k * 2 + 1, none⟩) hs).trans (h.snd k hk), fun i => (World.frozen?_of_block (a := ⟨A, i, none⟩) hs).trans (h.free i)⟩

theorem Ars.congr {w : World} {A m : Nat} {c c' : Nat → Int × Int} (h : Ars w A m c) (e : ∀ k, k < m → c' k = c k) : Ars w A m c' :=
  ⟨fun k hk => by rw [e k hk]; exact h.fst k hk, fun k hk => by rw [e k hk]; exact h.snd k hk, h.free⟩

theorem made_two (x : Value) (n : Nat) {j : Nat} (hj : j < n) : (madeCells #[x, x] n).toList[j]? = some x := by
  have h : j % 2 = 0 ∨ j % 2 = 1 := by omega
  rcases h with h | h <;> simp [madeCells, hj, h]

theorem Ars.made {w : World} {base A m : Nat} (h : w.ownsRow base 48 2 (.slice (some ⟨A, 0, none⟩) m m) m (madeCells #[.int .i64 0, .int .i64 0] (m * 2)).toList) (hm : 0 < m) : Ars w A m fun _ => (0, 0) := by
  obtain ⟨g, cap, e, _, _, hc, hf⟩ := ownsRow_at h hm
  simp only [Value.slice.injEq, Option.some.injEq, Addr.mk.injEq, and_true, true_and] at e
  obtain ⟨rfl, -⟩ := e
  exact ⟨fun x hx => by rw [hc (x * 2) (by omega), made_two _ _ (by omega)], fun x hx => by rw [hc (x * 2 + 1) (by omega), made_two _ _ (by omega)], hf⟩

/-- Where a step stands: its list in block A, the first that is new. -/
structure MaAt (w wr : World) (A m : Nat) (c : Nat → Int × Int) : Prop where
  ars : Ars wr A m c
  below : Below w.heap.size w wr
  le : w.heap.size ≤ A
  lt : A < wr.heap.size

theorem MaAt.set {w wr : World} {A m : Nat} {c : Nat → Int × Int} (h : MaAt w wr A m c) {a : Nat} (ha : a < m) (x y : Int) : MaAt w ((wr.setCell ⟨A, a * 2, none⟩ (.int .i64 x)).setCell ⟨A, a * 2 + 1, none⟩ (.int .i64 y)) A m (setAt c a (x, y)) :=
  ⟨h.ars.set ha x y, (h.below.setCell (p := ⟨A, a * 2, none⟩) h.le _).setCell (p := ⟨A, a * 2 + 1, none⟩) h.le _, h.le, by simpa using h.lt⟩
theorem MaAt.congr {w wr : World} {A m : Nat} {c c' : Nat → Int × Int} (h : MaAt w wr A m c) (e : ∀ k, k < m → c' k = c k) : MaAt w wr A m c' := ⟨h.ars.congr e, h.below, h.le, h.lt⟩
theorem MaAt.on {w wr w' : World} {A m : Nat} {c : Nat → Int × Int} (h : MaAt w wr A m c) (hb : Below wr.heap.size wr w') : MaAt w w' A m c :=
  ⟨h.ars.same (hb.block A h.lt), h.below.trans (hb.mono h.below.size), h.le, Nat.lt_of_lt_of_le h.lt hb.size⟩
theorem MaAt.drewN {w wr : World} {A m : Nat} {c : Nat → Int × Int} (h : MaAt w wr A m c) (n : Nat) : MaAt w (wr.drewN n) A m c := ⟨h.ars.same rfl, ⟨h.below.os, h.below.tape, h.below.output, h.below.size, h.below.block⟩, h.le, h.lt⟩

def origC (L : List (Int × Int)) (x : Nat) : Int × Int := L.getD x (0, 1)

/-- What Match hands back, either way. -/
structure MrIs (n : Int) (L : List (Int × Int)) (P : List (Nat × Nat)) (U : List Nat) (ec : Int) : Prop where
  yes : okG n L = true → ∃ mate f h, Best (grL n.toNat (natL L)) mate f h ∧ P = pairsF n.toNat mate ∧ U = barF n.toNat f ∧ ec = 0
  no : okG n L = false → P = [] ∧ U = [] ∧ ec = 7
  small : P.length ≤ 24 ∧ U.length ≤ 24

theorem MtIs.both {w w' : World} {n : Int} {L : List (Int × Int)} {e : Ending} (h : MtIs w n L e w') : Below w.heap.size w w' ∧ ∃ P U ec pv uv, e = .returned (.tuple #[pv, uv, .int .i64 ec]) ∧ MrIs n L P U ec ∧ Prs w' w.heap.size pv P ∧ Ints w' w.heap.size uv U := by
  obtain ⟨hb, ⟨hok, mate, f, hh, hB, pv, uv, rfl, hP, hU⟩ | ⟨hok, rfl⟩⟩ := h
  · have hn := (okG_ed hok).1
    refine ⟨hb, _, _, _, pv, uv, rfl, ⟨fun _ => ⟨mate, f, hh, hB, rfl, rfl, rfl⟩, fun e => (by rw [hok] at e; cases e), ?_⟩, hP, hU⟩
    have h1 : (barF n.toNat f).length ≤ n.toNat := filter_len _ _
    have h2 : (pairsF n.toNat mate).length ≤ n.toNat := prOf_len mate _
    omega
  · exact ⟨hb, [], [], 7, _, _, rfl, ⟨fun e => (by rw [hok] at e; cases e), fun _ => ⟨rfl, rfl, rfl⟩, by simp⟩, Prs.nil _ _, Ints.nil _ _⟩

/-- What the list holds is what was handed in. -/
theorem MaAt.ipr {w wr : World} {A : Nat} {L : List (Int × Int)} (h : MaAt w wr A (L.length + 4) (origC L)) : IPr wr (.slice (some ⟨A, 0, none⟩) L.length (L.length + 4)) L := by
  refine ⟨_, _, rfl, fun i a c hi => ⟨A, 0, rfl, ?_⟩⟩
  have hl := (List.getElem?_eq_some_iff.1 hi).1
  have e : origC L i = (a, c) := by unfold origC; rw [List.getD_eq_getElem?_getD, hi]; rfl
  have h1 := h.ars.fst i (by omega)
  have h2 := h.ars.snd i (by omega)
  rw [e] at h1 h2
  rw [Nat.zero_add]
  exact ⟨h1, h2⟩

theorem ipr_nat {w : World} {v : Value} {n : Int} {L : List (Int × Int)} (h : IPr w v L) (hc : ∀ so cap, v = .slice so L.length cap → L.length ≤ cap) (hok : okG n L = true) : NPr w v (natL L) ∧ castL (natL L) = L := by
  have h0 : ∀ p ∈ L, 0 ≤ p.1 ∧ 0 ≤ p.2 := by
    intro p hp
    unfold okG at hok
    simp only [Bool.and_eq_true] at hok
    have := List.all_eq_true.1 hok.2 p hp
    unfold edgeOk at this
    simp only [Bool.and_eq_true, inR_iff] at this
    exact ⟨this.1.1.1, this.1.2.1⟩
  have el : (natL L).length = L.length := by simp [natL]
  have ec : castL (natL L) = L := by
    unfold castL natL
    rw [List.map_map]
    conv => rhs; rw [← List.map_id L]
    refine List.map_congr_left fun p hp => ?_
    have := h0 p hp
    simp only [Function.comp, id]
    refine Prod.ext ?_ ?_ <;> simp <;> omega
  refine ⟨?_, ec⟩
  obtain ⟨so, cap, rfl, hx⟩ := h
  refine ⟨so, cap, by rw [el], by rw [el]; exact hc so cap rfl, ?_⟩
  by_cases hl : L = []
  · exact .inl (by rw [hl]; rfl)
  · obtain ⟨⟨p1, p2⟩, r, rfl⟩ := List.exists_cons_of_ne_nil hl
    obtain ⟨b, o, rfl, _⟩ := hx 0 p1 p2 rfl
    refine .inr ⟨b, o, rfl, fun i a c hi => ?_⟩
    unfold natL at hi
    rw [List.getElem?_map] at hi
    cases hq : ((p1, p2) :: r)[i]? with
    | none => rw [hq] at hi; cases hi
    | some q =>
      rw [hq] at hi
      simp only [Option.map_some, Option.some.injEq, Prod.mk.injEq] at hi
      obtain ⟨rfl, rfl⟩ := hi
      obtain ⟨b', o', e, k1, k2⟩ := hx i q.1 q.2 hq
      simp only [Option.some.injEq, Addr.mk.injEq, and_true] at e
      obtain ⟨rfl, rfl⟩ := e
      have := h0 q (List.mem_of_getElem? hq)
      rw [show ((q.1.toNat : Nat) : Int) = q.1 by omega, show ((q.2.toNat : Nat) : Int) = q.2 by omega]
      exact ⟨k1, k2⟩
end Go.Proofs.YtcabaecbmkgclaaGreatDoor.Rf
namespace Go.Proofs.YtcabaecbmkgclaaGreatDoor.Rf
open Go.RowKit Mt Mg Go.Deep
theorem Tryz.cellsPair2 : Tryz.prog.cellsOf 48 = 2 := by kernel_rfl
theorem Tryz.cellsInt2 : Tryz.prog.cellsOf 3 = 1 := by kernel_rfl

theorem bulk_len {H : Type} : ∀ l : List (DataW H), l.length ≤ Rows.uptoBulkAll l
  | [] => by simp [Rows.uptoBulkAll]
  | d :: r => by
    have ih := bulk_len r
    have h1 : 1 ≤ Rows.uptoBulk d := by
      cases d with
      | lit l => cases l <;> simp [Rows.uptoBulk]
      | _ => simp [Rows.uptoBulk]
    simp only [Rows.uptoBulkAll, List.length_cons]
    omega

set_option maxRecDepth 100000 in
theorem list_in {H : Type} {enc : TypeId × Value → H} {w : World} {o : OpD} {d : DataW H} (h : OpIn enc w o d) (hk : Rows.uptoBulk d ≤ 1048576) :
    ∃ L : List (Int × Int), o.ll = L.length ∧ IPr w (.slice o.lo o.ll o.lc) L ∧ L.length ≤ o.lc ∧ L.length ≤ 1048576 := by
  obtain ⟨m, p, x, ht, rfl⟩ := h.list
  have hx : Rows.uptoBulk x ≤ 1048576 := by
    simp only [Rows.uptoBulk, Rows.uptoBulkAll] at hk
    omega
  rcases open_slice_pairs Tryz.underlying29 Tryz.underlying48 Tryz.cellsPair2 rfl rfl Tryz.cellsInt2 Tryz.cellsInt2 ht with ⟨e, _⟩ | ⟨a, len, cap, q, n, V0, V1, D0, D1, P0, P1, e, _, hlc, _, hm, hd, hel⟩
  · simp only [List.cons.injEq, Value.slice.injEq, and_true] at e
    obtain ⟨e1, e2, e3⟩ := e
    refine ⟨[], by simpa using e2, ⟨o.lo, o.lc, by rw [e2]; rfl, fun i a c hi => by simp at hi⟩, by simp, by simp⟩
  · simp only [List.cons.injEq, Value.slice.injEq, and_true] at e
    obtain ⟨e1, e2, e3⟩ := e
    simp only [if_true] at hm
    subst hm
    simp only [Prod.mk.injEq] at hd
    have hlen : len ≤ 1048576 := by
      have h1 := hd.1
      rw [h1] at hx
      simp only [Rows.uptoBulk] at hx
      have := bulk_len ((List.range len).map fun i => DataW.agg [D0 i, D1 i])
      simp at this
      omega
    have each : ∀ i, i < len → ∃ z : Int × Int, w.cell? (a.add (i * 2)) = some (.int .i64 z.1) ∧ w.cell? (a.add (i * 2 + 1)) = some (.int .i64 z.2) := fun i hi => by
      obtain ⟨h0, h1, t0, t1⟩ := hel i (by omega)
      obtain ⟨k0, g0, _⟩ := DataW.trod_int Tryz.underlying3 t0
      obtain ⟨k1, g1, _⟩ := DataW.trod_int Tryz.underlying3 t1
      simp only [List.cons.injEq, and_true] at g0 g1
      exact ⟨(k0, k1), by rw [h0, g0], by rw [h1, g1]⟩
    obtain ⟨z, hz⟩ := choose_lt each
    refine ⟨(List.range len).map z, by simp [e2], ⟨o.lo, o.lc, by simp [e2], fun i x y hi => ?_⟩, by simp; omega, by simp; omega⟩
    rw [List.getElem?_map] at hi
    by_cases hil : i < len
    · rw [List.getElem?_range hil] at hi
      simp only [Option.map_some, Option.some.injEq] at hi
      obtain ⟨h0, h1⟩ := hz i hil
      obtain ⟨b, off, spot⟩ := a
      have hsp : spot = none := by
        have := World.cell?_spot (hz 0 (by omega)).1
        simpa [Addr.add] using this
      subst hsp
      rw [add_none rfl] at h0 h1
      refine ⟨b, off, e1, ?_, ?_⟩
      · rw [h0, hi]
      · rw [Nat.add_assoc, h1, hi]
    · rw [List.getElem?_eq_none (by simp; omega)] at hi
      cases hi
end Go.Proofs.YtcabaecbmkgclaaGreatDoor.Rf
namespace Go.Proofs.YtcabaecbmkgclaaGreatDoor.Rf
open Go.RowKit Mt Mg
set_option maxRecDepth 100000 in
set_option maxHeartbeats 8000000 in
theorem bmatch_any {N : Nat} {w : World} {B : Nat} {l : List Sl} (h : BookOk N w B l) (hl : l.length ≤ 8999990) (n : Int) {ov : Value} {L : List (Int × Int)} (hL : IPr w ov L) (hc : ∀ so cap, ov = .slice so L.length cap → L.length ≤ cap) (hlen : L.length ≤ 1048576) :
    Calls Tryz.prog 28 #[.pointer (some ⟨B, 0, none⟩), .int .i64 n, ov] w (StepPost N w B l 2) := by
  obtain ⟨j0, hj0, hy0, hy1, hy2⟩ := info_parts Tryz.infoPair2
  obtain ⟨b0, hb0, hbz0, hbz1, hbz2⟩ := info_parts Tryz.infoBool
  have HBK : Hid (BookOk N w B l) := h
  have HL : Hid (IPr w ov L) := hL
  have HC : Hid (∀ so cap, ov = .slice so L.length cap → L.length ≤ cap) := hc
  obtain ⟨so, cap, hv, hcc⟩ := hL
  have HNL : Hid (so = none → L = []) := fun e => by
    cases hq : L with
    | nil => rfl
    | cons p r =>
      obtain ⟨b, o, e', _⟩ := hcc 0 p.1 p.2 (by rw [hq]; rfl)
      rw [e] at e'
      cases e'
  subst hv
  clear h hcc hc
  go_enter Tryz.func28, Tryz.ntmps28
  go_wp2_with (at_make; go_must (refine wpList_make_full _ rfl _ _ 29 rfl w.heap.size 48 j0 (.agg #[.int .i64 0, .int .i64 0]) 2 Tryz.underlying29 hj0 hy0 hy1 .i64 .i64 _ _ (L.length + 4) rfl rfl (by omega) (by omega) ?c1 ?c2 ?c3 ?_))
  case c1 => rw [hy2]; omega
  case c2 => unfold maxLen; omega
  case c3 => exact Nat.le_refl _
  intro w1 hown hgrow
  have HST : Hid (MaAt w w1 w.heap.size (L.length + 4) fun _ => (0, 0)) := ⟨Ars.made hown (by omega), (Below.refl _ w).grown hgrow (Nat.le_refl _) (by simp), Nat.le_refl _, (hown.lt _ rfl).2⟩
  clear hown hgrow
  generalize w.heap.size = A at HST ⊢
  go_wp2_with fail
  go_loopg [8] (L.length + 5) (fun k v8 wr => ∃ i : Nat, i ≤ L.length + 4 ∧ L.length + 4 - i < k ∧ v8 = .int .i64 (i : Nat) ∧ MaAt w wr A (L.length + 4) fun x => if x < i then origC L x else (0, 0))
  case atStart => exact ⟨0, by omega, by omega, rfl, HST.out⟩
  case round =>
    clear HST
    obtain ⟨i, hi, hk, rfl, hat⟩ := hrel
    have HAT : Hid (MaAt w wr A (L.length + 4) fun x => if x < i then origC L x else (0, 0)) := hat
    clear hat
    by_cases hlt : i < L.length + 4
    · have hlt' : (i : Int) < (L.length : Int) + 4 := by omega
      have hlt2 : (i : Int) < ((L.length + 4 : Nat) : Int) := by omega
      have c0 := HAT.out.ars.fst i hlt
      have c1 := HAT.out.ars.snd i hlt
      have f0 := HAT.out.ars.free (i * 2)
      have f1 := HAT.out.ars.free (i * 2 + 1)
      have HM2 : Hid (MaAt w ((wr.setCell ⟨A, i * 2, none⟩ (.int .i64 0)).setCell ⟨A, i * 2 + 1, none⟩ (.int .i64 1)) A (L.length + 4) (setAt (fun x => if x < i then origC L x else (0, 0)) i (0, 1))) := HAT.out.set hlt 0 1
      clear HAT
      go_upto_region 6 with fail
      generalize (wr.setCell ⟨A, i * 2, none⟩ (.int .i64 0)).setCell ⟨A, i * 2 + 1, none⟩ (.int .i64 1) = w2 at HM2 ⊢
      clear c0 c1 f0 f1
      by_cases hil : i < L.length
      · have hil' : (i : Int) < (L.length : Int) := by omega
        obtain ⟨x, y, gi⟩ : ∃ x y, L[i]? = some (x, y) := ⟨_, _, List.getElem?_eq_getElem hil⟩
        obtain ⟨so', cap', es, hx⟩ := HL.out.below HM2.out.below
        simp only [Value.slice.injEq, true_and] at es
        obtain ⟨rfl, rfl⟩ := es
        obtain ⟨bb, oo, rfl, d0, d1⟩ := hx i x y gi
        have HO : Hid (origC L i = (x, y)) := (by unfold origC; rw [List.getD_eq_getElem?_getD, gi]; rfl : origC L i = (x, y))
        have c0 := HM2.out.ars.fst i hlt
        have c1 := HM2.out.ars.snd i hlt
        have f0 := HM2.out.ars.free (i * 2)
        have f1 := HM2.out.ars.free (i * 2 + 1)
        have HM3 : Hid (MaAt w ((w2.setCell ⟨A, i * 2, none⟩ (.int .i64 x)).setCell ⟨A, i * 2 + 1, none⟩ (.int .i64 y)) A (L.length + 4) (fun z => if z < i + 1 then origC L z else (0, 0))) := (HM2.out.set hlt x y).congr fun z hz => by
          simp only [setAt]
          by_cases e : z = i
          · rw [if_pos (by omega), if_pos e, e, HO.out]
          · rw [if_neg e, if_neg e]
            by_cases e2 : z < i
            · rw [if_pos (by omega), if_pos e2]
            · rw [if_neg (by omega), if_neg e2]
        clear gi hx HM2
        go_wp2_with fail
        go_roundg (L.length + 4 - i)
        case measure => omega
        case rel => exact ⟨i + 1, by omega, by omega, by go_num, HM3.out⟩
      · have hil' : ¬ (i : Int) < (L.length : Int) := by omega
        have HM3 : Hid (MaAt w w2 A (L.length + 4) (fun z => if z < i + 1 then origC L z else (0, 0))) := HM2.out.congr fun z hz => by
          simp only [setAt]
          by_cases e : z = i
          · rw [if_pos (by omega), if_pos e, e]
            unfold origC
            rw [List.getD_eq_getElem?_getD, List.getElem?_eq_none (by omega)]
            rfl
          · rw [if_neg e]
            by_cases e2 : z < i
            · rw [if_pos (by omega), if_pos e2]
            · rw [if_neg (by omega), if_neg e2]
        clear HM2
        go_wp2_with fail
        go_roundg (L.length + 4 - i)
        case measure => omega
        case rel => exact ⟨i + 1, by omega, by omega, by go_num, HM3.out⟩
    · have hlt' : ¬ (i : Int) < (L.length : Int) + 4 := by omega
      have hlt2 : ¬ (i : Int) < ((L.length + 4 : Nat) : Int) := by omega
      have HMA : Hid (MaAt w wr A (L.length + 4) (origC L)) := HAT.out.congr fun z hz => by rw [if_pos (by omega)]
      clear HAT
      generalize wr = wb at HMA ⊢
      have hnil : ∀ wx, Sem.run Tryz.prog (binOp BinOp.eql 29 (Value.slice so L.length cap) (Value.slice none 0 0)) wx = .ok (.bool so.isNone) wx := fun wx => by cases so <;> rfl
      go_upto_if 50 with fail
      clear hnil
      go_cut [9] from 51 to 57 (fun v9 wc => IPr wc v9 L ∧ (∃ so cap, v9 = .slice so L.length cap) ∧ wb = wc)
      case first =>
        cases so with
        | some ad =>
          simp only [Option.isNone_some]
          go_wp2_with fail
          go_meet
          exact ⟨HMA.out.ipr, ⟨_, _, rfl⟩, rfl⟩
        | none =>
          simp only [Option.isNone_none]
          have HLE : Hid (IPr wb (.slice none 0 0) L ∧ ∃ so cap, Value.slice none 0 0 = .slice so L.length cap) := by
            rw [HNL.out rfl]
            exact ⟨⟨none, 0, rfl, fun i a c hi => by simp at hi⟩, ⟨none, 0, rfl⟩⟩
          go_wp2_with fail
          go_meet
          exact ⟨HLE.out.1, HLE.out.2, rfl⟩
      case rest =>
        obtain ⟨hip, ⟨lso, lcap, rfl⟩, hw⟩ := hcut
        subst hw
        have MT := match_any wb hip n (by omega)
        clear hip
        go_wp2_with fail
        refine MT.mono ?_
        intro e w2 hmt
        obtain ⟨hb2, P, U, ec, pv, uv, rfl, hmr, hPr, hUr⟩ := MtIs.both hmt
        clear MT hmt
        obtain ⟨po, pc, hs1⟩ := ownsRow_shape hPr
        obtain ⟨uo, uc, hs2⟩ := ownsRow_shape hUr
        subst hs1 hs2
        have HMR : Hid (MrIs n L P U ec) := hmr
        have hpl := hmr.small.1
        have hul := hmr.small.2
        have HS2 : Hid (MaAt w w2 A (L.length + 4) (fun x => if x < 0 then (-5, -5) else origC L x)) := (HMA.out.on hb2).congr fun z _ => by rw [if_neg (by omega)]
        have HPr : Hid (Prs w2 wb.heap.size (.slice po P.length pc) P) := hPr
        have HUr : Hid (Ints w2 wb.heap.size (.slice uo U.length uc) U) := hUr
        have HAL : Hid (A < wb.heap.size) := HMA.out.lt
        have HWB : Hid (w.heap.size ≤ wb.heap.size) := HMA.out.below.size
        clear hb2 hmr hPr hUr HMA
        go_wp2_with fail
        go_loopg [13, 14] (L.length + 5) (fun k v13 v14 wr => ∃ i : Nat, i ≤ L.length + 4 ∧ L.length + 4 - i < k ∧ v13 = .bool true ∧ v14 = .int .i64 (i : Nat) ∧ MaAt w wr A (L.length + 4) (fun x => if x < i then (-5, -5) else origC L x) ∧ MFr A w2 wr)
        case atStart => exact ⟨0, by omega, by omega, rfl, rfl, HS2.out, MFr.refl _ _⟩
        case round =>
          clear HS2
          obtain ⟨i, hi, hk, rfl, rfl, hat, hfr⟩ := hrel
          have HAT : Hid (MaAt w wr A (L.length + 4) fun x => if x < i then (-5, -5) else origC L x) := hat
          have HFR : Hid (MFr A w2 wr) := hfr
          clear hat hfr
          by_cases hlt : i < L.length + 4
          · have hlt' : (i : Int) < (L.length : Int) + 4 := by omega
            have hlt2 : (i : Int) < ((L.length + 4 : Nat) : Int) := by omega
            by_cases hil : i < L.length
            · have hil' : (i : Int) < (L.length : Int) := by omega
              obtain ⟨x, y, gi⟩ : ∃ x y, L[i]? = some (x, y) := ⟨_, _, List.getElem?_eq_getElem hil⟩
              obtain ⟨so', cap', es, hx⟩ := HL.out.below HAT.out.below
              simp only [Value.slice.injEq, true_and] at es
              obtain ⟨rfl, rfl⟩ := es
              obtain ⟨bb, oo, rfl, d0, d1⟩ := hx i x y gi
              have eo : origC L i = (x, y) := by unfold origC; rw [List.getD_eq_getElem?_getD, gi]; rfl
              have HM2 : Hid (MaAt w (wr.alloc (.cells #[.int .i64 x, .int .i64 y] 48)) A (L.length + 4) fun x => if x < i then (-5, -5) else origC L x) := HAT.out.on ((Below.refl _ wr).alloc (Nat.le_refl _) _)
              have HF2 : Hid (MFr A w2 (wr.alloc (.cells #[.int .i64 x, .int .i64 y] 48))) := HFR.out.trans (MFr.of_below ((Below.refl _ wr).alloc (Nat.le_refl _) _))
              have q0 : (wr.alloc (.cells #[.int .i64 x, .int .i64 y] 48)).cell? ⟨wr.heap.size, 0, none⟩ = some (.int .i64 x) := by rw [World.cell?_alloc_new]; rfl
              have q1 : (wr.alloc (.cells #[.int .i64 x, .int .i64 y] 48)).cell? ⟨wr.heap.size, 1, none⟩ = some (.int .i64 y) := by rw [World.cell?_alloc_new]; rfl
              have HO : Hid (origC L i = (x, y)) := eo
              have d0a : (wr.alloc (.cells #[.int .i64 0, .int .i64 1] 48)).cell? ⟨bb, oo + i * 2, none⟩ = some (.int .i64 x) := by rw [World.cell?_alloc_lt _ _ _ (World.block_lt_of_cell? wr ⟨bb, oo + i * 2, none⟩ d0)]; exact d0
              have d1a : (wr.alloc (.cells #[.int .i64 0, .int .i64 1] 48)).cell? ⟨bb, oo + i * 2 + 1, none⟩ = some (.int .i64 y) := by rw [World.cell?_alloc_lt _ _ _ (World.block_lt_of_cell? wr ⟨bb, oo + i * 2 + 1, none⟩ d1)]; exact d1
              clear gi hx HAT HFR eo
              go_upto_region 19 with fail
              have o0 := HM2.out.ars.fst i hlt
              have o1 := HM2.out.ars.snd i hlt
              simp only [Nat.lt_irrefl, if_false, HO.out] at o0 o1
              generalize wr.heap.size = X at *
              generalize wr.alloc _ = wq at *
              clear d0 d1 d0a d1a
              go_wp2_with fail
              go_quiet (fail)
              have HM3 : Hid (MaAt w (wq.drewN nq) A (L.length + 4) fun x => if x < i then (-5, -5) else origC L x) := HM2.out.drewN nq
              have HF3 : Hid (MFr A w2 (wq.drewN nq)) := HF2.out.drewN nq
              clear o0 o1 q0 q1 HM2 HF2
              generalize wq.drewN nq = w4 at HM3 HF3 ⊢
              have c0 := HM3.out.ars.fst i hlt
              have c1 := HM3.out.ars.snd i hlt
              have f0 := HM3.out.ars.free (i * 2)
              have f1 := HM3.out.ars.free (i * 2 + 1)
              have HM4 : Hid (MaAt w ((w4.setCell ⟨A, i * 2, none⟩ (.int .i64 (-5))).setCell ⟨A, i * 2 + 1, none⟩ (.int .i64 (-5))) A (L.length + 4) (fun z => if z < i + 1 then (-5, -5) else origC L z)) := (HM3.out.set hlt (-5) (-5)).congr fun z hz => by
                simp only [setAt]
                by_cases e : z = i
                · rw [if_pos (by omega), if_pos e]
                · rw [if_neg e]
                  by_cases e2 : z < i
                  · rw [if_pos (by omega), if_pos e2]
                  · rw [if_neg (by omega), if_neg e2]
              have HF4 : Hid (MFr A w2 ((w4.setCell ⟨A, i * 2, none⟩ (.int .i64 (-5))).setCell ⟨A, i * 2 + 1, none⟩ (.int .i64 (-5)))) := (HF3.out.set _ _).set _ _
              go_wp2_with fail
              go_roundg (L.length + 4 - i)
              case measure => omega
              case rel => exact ⟨i + 1, by omega, by omega, rfl, by go_num, HM4.out, HF4.out⟩
            · have hil' : ¬ (i : Int) < (L.length : Int) := by omega
              have eo : origC L i = (0, 1) := by
                unfold origC
                rw [List.getD_eq_getElem?_getD, List.getElem?_eq_none (by omega)]
                rfl
              obtain ⟨x, hx0⟩ : ∃ x : Int, x = 0 := ⟨_, rfl⟩
              obtain ⟨y, hy1⟩ : ∃ y : Int, y = 1 := ⟨_, rfl⟩
              have HM2 : Hid (MaAt w (wr.alloc (.cells #[.int .i64 0, .int .i64 1] 48)) A (L.length + 4) fun x => if x < i then (-5, -5) else origC L x) := HAT.out.on ((Below.refl _ wr).alloc (Nat.le_refl _) _)
              have HF2 : Hid (MFr A w2 (wr.alloc (.cells #[.int .i64 0, .int .i64 1] 48))) := HFR.out.trans (MFr.of_below ((Below.refl _ wr).alloc (Nat.le_refl _) _))
              have q0 : (wr.alloc (.cells #[.int .i64 0, .int .i64 1] 48)).cell? ⟨wr.heap.size, 0, none⟩ = some (.int .i64 x) := by rw [World.cell?_alloc_new, hx0]; rfl
              have q1 : (wr.alloc (.cells #[.int .i64 0, .int .i64 1] 48)).cell? ⟨wr.heap.size, 1, none⟩ = some (.int .i64 y) := by rw [World.cell?_alloc_new, hy1]; rfl
              have HO : Hid (origC L i = (x, y)) := eo.trans (by rw [hx0, hy1])
              clear HAT HFR eo hx0 hy1
              go_upto_region 19 with fail
              have o0 := HM2.out.ars.fst i hlt
              have o1 := HM2.out.ars.snd i hlt
              simp only [Nat.lt_irrefl, if_false, HO.out] at o0 o1
              generalize wr.heap.size = X at *
              generalize wr.alloc _ = wq at *
              go_wp2_with fail
              go_quiet (fail)
              have HM3 : Hid (MaAt w (wq.drewN nq) A (L.length + 4) fun x => if x < i then (-5, -5) else origC L x) := HM2.out.drewN nq
              have HF3 : Hid (MFr A w2 (wq.drewN nq)) := HF2.out.drewN nq
              clear o0 o1 q0 q1 HM2 HF2
              generalize wq.drewN nq = w4 at HM3 HF3 ⊢
              have c0 := HM3.out.ars.fst i hlt
              have c1 := HM3.out.ars.snd i hlt
              have f0 := HM3.out.ars.free (i * 2)
              have f1 := HM3.out.ars.free (i * 2 + 1)
              have HM4 : Hid (MaAt w ((w4.setCell ⟨A, i * 2, none⟩ (.int .i64 (-5))).setCell ⟨A, i * 2 + 1, none⟩ (.int .i64 (-5))) A (L.length + 4) (fun z => if z < i + 1 then (-5, -5) else origC L z)) := (HM3.out.set hlt (-5) (-5)).congr fun z hz => by
                simp only [setAt]
                by_cases e : z = i
                · rw [if_pos (by omega), if_pos e]
                · rw [if_neg e]
                  by_cases e2 : z < i
                  · rw [if_pos (by omega), if_pos e2]
                  · rw [if_neg (by omega), if_neg e2]
              have HF4 : Hid (MFr A w2 ((w4.setCell ⟨A, i * 2, none⟩ (.int .i64 (-5))).setCell ⟨A, i * 2 + 1, none⟩ (.int .i64 (-5)))) := (HF3.out.set _ _).set _ _
              go_wp2_with fail
              go_roundg (L.length + 4 - i)
              case measure => omega
              case rel => exact ⟨i + 1, by omega, by omega, rfl, by go_num, HM4.out, HF4.out⟩
          · have hlt' : ¬ (i : Int) < (L.length : Int) + 4 := by omega
            have hlt2 : ¬ (i : Int) < ((L.length + 4 : Nat) : Int) := by omega
            have HB4 : Hid (Below w.heap.size w wr) := HAT.out.below
            have HP4 : Hid (Prs wr w.heap.size (.slice po P.length pc) P) := ownsRow_mono (ownsRow_same HPr.out fun q hq => HFR.out.block q (HPr.out.lt q hq).2 (by have h1 := (HPr.out.lt q hq).1; have h2 := HAL.out; omega)) HWB.out
            have HU4 : Hid (Ints wr w.heap.size (.slice uo U.length uc) U) := ownsRow_mono (ownsRow_same HUr.out fun q hq => HFR.out.block q (HUr.out.lt q hq).2 (by have h1 := (HUr.out.lt q hq).1; have h2 := HAL.out; omega)) HWB.out
            clear HAT HFR HPr HUr HAL HWB
            generalize wr = w4 at HB4 HP4 HU4 ⊢
            have RG := rgraph_any w4 (HL.out.below HB4.out) n (by omega)
            go_wp2_with fail
            refine RG.mono ?_
            rintro e w5 ⟨rfl, hb5⟩
            clear RG
            have HB5 : Hid (Below w.heap.size w w5) := HB4.out.trans (hb5.mono HB4.out.size)
            have HP5 : Hid (Prs w5 w.heap.size (.slice po P.length pc) P) := ownsRow_same HP4.out fun q hq => hb5.block q (HP4.out.lt q hq).2
            have HU5 : Hid (Ints w5 w.heap.size (.slice uo U.length uc) U) := ownsRow_same HU4.out fun q hq => hb5.block q (HU4.out.lt q hq).2
            clear HB4 HP4 HU4 hb5
            generalize hok : okG n L = ok at *
            have HOK : Hid (okG n L = ok) := hok
            clear hok
            go_upto_region 22 with fail
            go_cut [17] from 89 to 100 (fun v17 wc => ∃ b : Bool, v17 = .bool b ∧ (ok = false → b = true) ∧ w5 = wc)
            case first =>
              by_cases hp0 : P.length = 0
              · by_cases hu0 : U.length = 0
                · have hp1 : ((P.length : Int) == 0) = true := by rw [show (P.length : Int) = 0 by omega]; rfl
                  have hu1 : ((U.length : Int) == 0) = true := by rw [show (U.length : Int) = 0 by omega]; rfl
                  by_cases he : ec = 7
                  · have he1 : (ec == (7 : Int)) = true := by rw [he]; rfl
                    clear he hp0 hu0
                    go_wp2_with fail
                    go_meet
                    exact ⟨true, rfl, fun _ => rfl, rfl⟩
                  · have he1 : (ec == (7 : Int)) = false := beq_false_of_ne he
                    have HNO : Hid (ok ≠ false) := fun e => he (HMR.out.no (HOK.out.trans e)).2.2
                    clear he hp0 hu0
                    go_wp2_with fail
                    go_meet
                    exact ⟨false, rfl, fun e => absurd e HNO.out, rfl⟩
                · have hp1 : ((P.length : Int) == 0) = true := by rw [show (P.length : Int) = 0 by omega]; rfl
                  have hu1 : ((U.length : Int) == 0) = false := beq_false_of_ne (by omega)
                  have HNO : Hid (ok ≠ false) := fun e => hu0 (by rw [(HMR.out.no (HOK.out.trans e)).2.1]; rfl)
                  clear hp0 hu0
                  go_wp2_with fail
                  go_meet
                  exact ⟨false, rfl, fun e => absurd e HNO.out, rfl⟩
              · have hp1 : ((P.length : Int) == 0) = false := beq_false_of_ne (by omega)
                have HNO : Hid (ok ≠ false) := fun e => hp0 (by rw [(HMR.out.no (HOK.out.trans e)).1]; rfl)
                clear hp0
                go_wp2_with fail
                go_meet
                exact ⟨false, rfl, fun e => absurd e HNO.out, rfl⟩
            case rest =>
              obtain ⟨bq, rfl, hbq, hw⟩ := hcut
              subst hw
              go_upto_if 101 with fail
              go_cut [17, 18, 19] from 102 to 121 (fun v17 v18 v19 wc => v17 = .bool true ∧ v18 = v18 ∧ v19 = v19 ∧ Below w5.heap.size w5 wc)
              case first =>
                cases ok
                · have hb1 := hbq rfl
                  subst hb1
                  go_wp2_with fail
                  go_meet
                  exact ⟨rfl, trivial, trivial, Below.refl _ _⟩
                · obtain ⟨hn24, hnn, hed⟩ := okG_ed HOK.out
                  obtain ⟨k, hkn⟩ : ∃ k : Nat, n = (k : Int) := ⟨n.toNat, hnn.symm⟩
                  subst hkn
                  obtain ⟨mate, f, hh, hB, eP, eU, eec⟩ := HMR.out.yes HOK.out
                  simp only [Int.toNat_natCast] at hn24 hed hB eP eU
                  subst eP eU eec
                  have HBE : Hid (Best (grL k (natL L)) mate f hh) := hB
                  have HED : Hid (EdOk k (natL L)) := hed
                  have HNP : Hid (NPr w5 (.slice so L.length cap) (natL L)) := (ipr_nat (HL.out.below HB5.out) HC.out HOK.out).1
                  clear hB hed hnn
                  go_wp2_with (at_make; go_must (refine wpList_make_full _ rfl _ _ 129 rfl w5.heap.size 4 b0 (.bool false) 1 Tryz.underlying129 hb0 hbz0 hbz1 .i64 .i64 _ _ k rfl rfl rfl rfl ?m1 ?m2 ?m3 ?_))
                  case m1 => first | omega | (rw [hbz2]; omega)
                  case m2 => unfold maxLen; omega
                  intro w6 hown hgrow
                  have HS3 : Hid (GrS w5 w6 w5.heap.size k fun x => decide (x < 0)) := ⟨Bls.made hown, (Below.refl _ w5).grown hgrow (Nat.le_refl _) (by simp), Nat.le_refl _, (hown.lt _ rfl).2⟩
                  clear hown hgrow
                  generalize w5.heap.size = I at HS3 ⊢
                  go_wp2_with fail
                  go_loopg [19] 26 (fun g v19 wr => ∃ i : Nat, i ≤ k ∧ 25 - i ≤ g ∧ v19 = .int .i64 (i : Nat) ∧ GrS w5 wr I k fun x => decide (x < i))
                  case atStart => exact ⟨0, by omega, by omega, rfl, HS3.out⟩
                  case round =>
                    clear HS3
                    obtain ⟨i, hi3, hk3, rfl, hat⟩ := hrel
                    have HAT : Hid (GrS w5 wr I k fun x => decide (x < i)) := hat
                    clear hat
                    by_cases hik : i < k
                    · have hik' : (i : Int) < (k : Int) := by omega
                      have ci := HAT.out.bls.cell i hik
                      have fi := HAT.out.bls.free i
                      have HN : Hid (GrS w5 (wr.setCell ⟨I, i, none⟩ (.bool true)) I k fun x => decide (x < i + 1)) := by
                        have := HAT.out.set hik true
                        rw [show setAt (fun x => decide (x < i)) i true = fun x => decide (x < i + 1) by
                          funext x
                          simp only [setAt]
                          by_cases e : x = i
                          · rw [if_pos e, e]; simp
                          · rw [if_neg e]
                            by_cases e2 : x < i
                            · rw [decide_eq_true e2, decide_eq_true (by omega)]
                            · rw [decide_eq_false e2, decide_eq_false (by omega)]] at this
                        exact this
                      go_wp2_with fail
                      go_roundg (25 - (i + 1))
                      case measure => omega
                      case rel => exact ⟨i + 1, by omega, Nat.le_refl _, by go_num, HN.out⟩
                    · have hik' : ¬ (i : Int) < (k : Int) := by omega
                      obtain rfl : k = i := by omega
                      have GR := rgreatest_any wr (ic := k) (HNP.out.below HAT.out.below) HAT.out.bls HAT.out.lt hn24 HED.out (by simp [natL]; omega) (fun x y hxy => by
                        obtain ⟨h1, h2⟩ := (HED.out.gr hn24).lt x y hxy
                        exact ⟨decide_eq_true h1, decide_eq_true h2⟩) HBE.out ((NPr.of HP5.out).below HAT.out.below) (ownsRow_same HU5.out fun q hq => HAT.out.below.block q (HU5.out.lt q hq).2)
                      have HBW : Hid (Below w5.heap.size w5 wr) := HAT.out.below
                      clear HAT
                      go_wp2_with fail
                      refine GR.mono ?_
                      rintro e w7 ⟨rfl, hb7⟩
                      have HB7 : Hid (Below w5.heap.size w5 w7) := HBW.out.trans (hb7.mono HBW.out.size)
                      clear GR hb7
                      go_wp2_with fail
                      go_meet
                      exact ⟨rfl, trivial, trivial, HB7.out⟩
              case rest =>
                obtain ⟨rfl, _, _, hb6⟩ := hcut
                have HB6 : Hid (Below w.heap.size w wc) := HB5.out.trans (hb6.mono HB5.out.size)
                have HP6 : Hid (Prs wc w.heap.size (.slice po P.length pc) P) := ownsRow_same HP5.out fun q hq => hb6.block q (HP5.out.lt q hq).2
                have HU6 : Hid (Ints wc w.heap.size (.slice uo U.length uc) U) := ownsRow_same HU5.out fun q hq => hb6.block q (HU5.out.lt q hq).2
                have HXB : Hid (∀ k, (∃ x ∈ l, x.has k) ∨ k = B ∨ (∃ bv, w.cell? ⟨B, 0, none⟩ = some bv ∧ bv.ownBlock = some k) → k < w.heap.size) := by
                  rintro k (⟨x, hx, hk⟩ | rfl | ⟨bv, hbv, hk⟩)
                  · exact (HBK.out.ok x hx).lt hk
                  · obtain ⟨_, _, _, _, hlt, _, _⟩ := HBK.out.at
                    exact hlt
                  · exact ((HBK.out.row hbv).2.lt k hk).2
                have hBl : B < w.heap.size := HXB.out B (.inr (.inl rfl))
                have KA := keepP_any (HBK.out.below HB6.out) (by omega) HP6.out (by omega) HB6.out.size (fun k hk x hx hh => by
                  have h1 := (HP6.out.lt k hk).1
                  have h2 := HXB.out k (.inl ⟨x, hx, hh⟩)
                  omega)
                clear hb6 HB5 HP5 HU5
                go_wp2_with fail
                refine KA.mono ?_
                rintro e w7 ⟨rfl, ⟨x, hbk7, hx7⟩, hf7⟩
                have hrow : ∀ bv, wc.cell? ⟨B, 0, none⟩ = some bv → ∀ k, bv.ownBlock = some k → k < w.heap.size := by
                  intro bv hbv k hk
                  rw [HB6.out.cell (p := ⟨B, 0, none⟩) hBl] at hbv
                  exact HXB.out k (.inr (.inr ⟨bv, hbv, hk⟩))
                have hu7 : w7.ownsRow w.heap.size 3 1 (.slice uo U.length uc) U.length (intCells U) := by
                  refine ownsRow_same HU6.out fun k hk => ?_
                  have h1 := HU6.out.lt k hk
                  exact hf7.block k h1.2 (by omega) (fun bv hbv e => by have := hrow bv hbv k e; omega) (fun e => ownBlock_ne HU6.out HP6.out (by decide) k hk e)
                have KB := keepN_any hbk7 (by simp; omega) hu7 (by omega) (Nat.le_trans HB6.out.size hf7.size) (fun k hk y hy hh => by
                  have h1 := HU6.out.lt k hk
                  rcases List.mem_append.1 hy with hy | hy
                  · have h2 := HXB.out k (.inl ⟨y, hy, hh⟩)
                    omega
                  · simp at hy
                    subst hy
                    rcases hx7 k hh with e | e
                    · exact ownBlock_ne HU6.out HP6.out (by decide) k hk e
                    · omega)
                have HB7 : Hid (BFr w w7 B) := (BFr.of_below HB6.out hBl).keep hf7 (fun k hk => (HP6.out.lt k hk).1)
                have HVB : Hid (∀ k, (Value.slice uo U.length uc).ownBlock = some k → w.heap.size ≤ k) := fun k hk => (hu7.lt k hk).1
                clear hu7 hrow hf7 hx7 hbk7 KA
                go_wp2_with fail
                refine KB.mono ?_
                rintro e w8 ⟨rfl, ⟨x', hbk8, _⟩, hf8⟩
                have HB8 : Hid (BFr w w8 B) := HB7.out.keep hf8 HVB.out
                have HK8 : Hid (BookOk N w8 B ((l ++ [x]) ++ [x'])) := hbk8
                clear hbk8 hf8 KB
                go_wp2_with fail
                go_ret
                exact ⟨rfl, ⟨_, HK8.out, by simp⟩, HB8.out⟩
end Go.Proofs.YtcabaecbmkgclaaGreatDoor.Rf
