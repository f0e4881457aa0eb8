/-
  Lists of pairs, rows of Booleans; what the document's edge does.
  What slices.Contains (over pairs), the molecule's Doubled and counted do.
  What the molecule's Doubled does.
  What wrong and FirstWrong do.
  What SetHydrogens does.
  What ringsClosed does.
-/
import Derived.Test.YtcabaecbmkgclaaGreatDoorP10
import Derived.OwnWalk
import Derived.Deep.MidRow

namespace Go.Proofs.YtcabaecbmkgclaaGreatDoor.Rf
open Go.RowKit Mt Mg

/-- A list of pairs of numbers that is read: it lies in block b from o on. -/
def NPr (w : World) (v : Value) (l : List (Nat × Nat)) : Prop := ∃ so cap, v = .slice so l.length cap ∧ l.length ≤ cap ∧ (l = [] ∨ ∃ b o, so = some ⟨b, o, none⟩ ∧ ∀ i a c : Nat, l[i]? = some (a, c) → w.cell? ⟨b, o + i * 2, none⟩ = some (.int .i64 (a : Int)) ∧ w.cell? ⟨b, o + i * 2 + 1, none⟩ = some (.int .i64 (c : Int)))

theorem NPr.at {w : World} {so : Option Addr} {n cap : Nat} {l : List (Nat × Nat)} (h : NPr w (.slice so n cap) l) {i a c : Nat} (hi : l[i]? = some (a, c)) : ∃ b o, so = some ⟨b, o, none⟩ ∧ w.cell? ⟨b, o + i * 2, none⟩ = some (.int .i64 (a : Int)) ∧ w.cell? ⟨b, o + i * 2 + 1, none⟩ = some (.int .i64 (c : Int)) := by
  obtain ⟨so', cap', e, _, hl⟩ := h
  simp only [Value.slice.injEq] at e
  obtain ⟨rfl, -, -⟩ := e
  rcases hl with rfl | ⟨b, o, rfl, hx⟩
  · simp at hi
  · exact ⟨b, o, rfl, hx i a c hi⟩

theorem NPr.same {w w' : World} {v : Value} {l : List (Nat × Nat)} (h : NPr w v l) (hs : ∀ so n cap b o, v = .slice so n cap → so = some ⟨b, o, none⟩ → b < w.heap.size → w'.heap[b]? = w.heap[b]?) : NPr w' v l := by
  obtain ⟨so, cap, rfl, hc, hl⟩ := h
  refine ⟨so, cap, rfl, hc, ?_⟩
  rcases hl with rfl | ⟨b, o, rfl, hx⟩
  · exact .inl rfl
  · refine .inr ⟨b, o, rfl, fun i a c hi => ?_⟩
    have hlt := World.block_lt_of_cell? w ⟨b, o + i * 2, none⟩ (hx i a c hi).1
    have hb := hs _ _ _ b o rfl rfl hlt
    exact ⟨(World.cell?_of_block (a := ⟨b, o + i * 2, none⟩) hb).trans (hx i a c hi).1, (World.cell?_of_block (a := ⟨b, o + i * 2 + 1, none⟩) hb).trans (hx i a c hi).2⟩

theorem NPr.below {w w' : World} {v : Value} {l : List (Nat × Nat)} (h : NPr w v l) (hb : Below w.heap.size w w') : NPr w' v l := h.same fun _ _ _ b _ _ _ hlt => hb.block b hlt

theorem pairCells_at {l : List (Nat × Nat)} {i a c : Nat} (h : l[i]? = some (a, c)) : (pairCells l)[i * 2]? = some (.int .i64 (a : Int)) ∧ (pairCells l)[i * 2 + 1]? = some (.int .i64 (c : Int)) := by
  induction l generalizing i with
  | nil => simp at h
  | cons p l ih =>
    have e : pairCells (p :: l) = .int .i64 (p.1 : Int) :: .int .i64 (p.2 : Int) :: pairCells l := by simp [pairCells]
    rw [e]
    cases i with
    | zero =>
      simp at h
      subst h
      exact ⟨rfl, rfl⟩
    | succ i =>
      simp only [List.getElem?_cons_succ] at h
      obtain ⟨h1, h2⟩ := ih h
      rw [show (i + 1) * 2 = i * 2 + 1 + 1 by omega]
      simp only [List.getElem?_cons_succ]
      exact ⟨h1, h2⟩

theorem ownsRow_cap {w : World} {base : Nat} {e : TypeId} {size : Nat} {so : Option Addr} {n cap : Nat} {xs : List Value} (h : w.ownsRow base e size (.slice so n cap) n xs) : n ≤ cap := by
  rcases h.2 with ⟨e, rfl⟩ | ⟨g, cap', cur, e, _, _, hnc, _⟩
  · exact Nat.zero_le _
  · simp only [Value.slice.injEq] at e
    obtain ⟨-, -, rfl⟩ := e
    exact hnc

theorem NPr.of {w : World} {base : Nat} {v : Value} {l : List (Nat × Nat)} (h : Prs w base v l) : NPr w v l := by
  obtain ⟨so, cap, rfl⟩ := ownsRow_shape h
  refine ⟨so, cap, rfl, ownsRow_cap h, ?_⟩
  by_cases hl : l = []
  · exact .inl hl
  · obtain ⟨g, cap', e, _, _, hc, _⟩ := ownsRow_at h (List.length_pos_iff.2 hl)
    simp only [Value.slice.injEq, true_and] at e
    obtain ⟨rfl, rfl⟩ := e
    refine .inr ⟨g, 0, rfl, fun i a c hi => ?_⟩
    have hil := (List.getElem?_eq_some_iff.1 hi).1
    obtain ⟨h1, h2⟩ := pairCells_at hi
    rw [Nat.zero_add]
    exact ⟨(hc _ (by omega)).trans h1, (hc _ (by omega)).trans h2⟩

theorem adjL_take_no {l : List (Nat × Nat)} {i x y a b : Nat} (h : adjL (l.take i) a b = false) (hi : l[i]? = some (x, y)) (h1 : ¬ (x = a ∧ y = b)) (h2 : ¬ (x = b ∧ y = a)) : adjL (l.take (i + 1)) a b = false := by
  rw [take_snoc hi]
  unfold adjL at *
  rw [List.any_append, h]
  simp
  exact ⟨fun k1 k2 => h1 ⟨k1, k2⟩, fun k1 k2 => h2 ⟨k1, k2⟩⟩

theorem adjL_yes {l : List (Nat × Nat)} {i x y a b : Nat} (hi : l[i]? = some (x, y)) (h : (x = a ∧ y = b) ∨ (x = b ∧ y = a)) : adjL l a b = true := by
  rcases h with ⟨rfl, rfl⟩ | ⟨rfl, rfl⟩
  · exact adjL_iff.2 (.inl (List.mem_of_getElem? hi))
  · exact adjL_iff.2 (.inr (List.mem_of_getElem? hi))

/-- Block U holds n Booleans. -/
structure Bls (w : World) (U n : Nat) (u : Nat → Bool) : Prop where
  cell : ∀ x, x < n → w.cell? ⟨U, x, none⟩ = some (.bool (u x))
  free : ∀ i, w.frozen? ⟨U, i, none⟩ = false

theorem Bls.set {w : World} {U n : Nat} {u : Nat → Bool} (h : Bls w U n u) {a : Nat} (ha : a < n) (b : Bool) : Bls (w.setCell ⟨U, a, none⟩ (.bool b)) U n (setAt u a b) := by
  refine ⟨fun k hk => ?_, fun i => by rw [World.frozen?_setCell]; exact h.free i⟩
  by_cases e : k = a
  · subst e
    rw [World.cell?_setCell_same w _ _ (h.cell k hk)]
    simp [setAt]
  · rw [cell_set_ne (fun e' => e e'.symm)]
    simp only [setAt, if_neg e]
    exact h.cell k hk

theorem Bls.same {w w' : World} {U n : Nat} {u : Nat → Bool} (h : Bls w U n u) (hs : w'.heap[U]? = w.heap[U]?) : Bls w' U n u :=
  ⟨fun k hk => (World.cell?_of_block (a := ⟨U, k, none⟩) hs).trans (h.cell k hk), fun i => (World.frozen?_of_block (a := ⟨U, i, none⟩) hs).trans (h.free i)⟩

def Away (v : Value) (U : Nat) : Prop := ∀ b o n c, v = .slice (some ⟨b, o, none⟩) n c → b ≠ U

theorem NPr.mfr {w w' : World} {v : Value} {l : List (Nat × Nat)} {U : Nat} (h : NPr w v l) (ha : Away v U) (hf : MFr U w w') : NPr w' v l :=
  h.same fun so n cap b o hv hso hlt => hf.block b hlt (ha b o n cap (by rw [hv, hso]))

def castL (l : List (Nat × Nat)) : List (Int × Int) := l.map fun p => ((p.1 : Int), (p.2 : Int))

theorem castL_len (l : List (Nat × Nat)) : (castL l).length = l.length := by simp [castL]
theorem natL_castL (l : List (Nat × Nat)) : natL (castL l) = l := by
  unfold natL castL
  rw [List.map_map]
  conv => rhs; rw [← List.map_id l]
  exact List.map_congr_left fun p _ => by simp

theorem okG_castL {k : Nat} {l : List (Nat × Nat)} (hk : k ≤ 24) (h : EdOk k l) : okG (k : Int) (castL l) = true := by
  unfold okG
  rw [decide_eq_true (by omega), decide_eq_true (by omega)]
  simp only [Bool.and_self, Bool.true_and]
  rw [List.all_eq_true]
  intro p hp
  obtain ⟨q, hq, rfl⟩ := List.mem_map.1 hp
  obtain ⟨h1, h2, h3⟩ := h q hq
  exact edgeOk_yes (inR_iff.2 ⟨by omega, by omega⟩) (inR_iff.2 ⟨by omega, by omega⟩) (by simp; omega)

theorem NPr.ipr {w : World} {v : Value} {l : List (Nat × Nat)} (h : NPr w v l) : IPr w v (castL l) := by
  obtain ⟨so, cap, rfl, _, hl⟩ := h
  refine ⟨so, cap, by rw [castL_len], fun i a c hi => ?_⟩
  unfold castL at hi
  rw [List.getElem?_map] at hi
  cases hq : l[i]? with
  | none => rw [hq] at hi; cases hi
  | some q =>
    rw [hq] at hi
    simp only [Option.map_some, Option.some.injEq, Prod.mk.injEq] at hi
    obtain ⟨rfl, rfl⟩ := hi
    rcases hl with rfl | ⟨b, o, rfl, hx⟩
    · simp at hq
    · exact ⟨b, o, rfl, hx i q.1 q.2 hq⟩

/-- What Match hands back where the edges are between k numbers. -/
def MnIs (w : World) (k : Nat) (l : List (Nat × Nat)) (e : Ending) (w' : World) : Prop :=
  ∃ mate f h, Best (grL k l) mate f h ∧ ∃ pv uv, e = .returned (.tuple #[pv, uv, .int .i64 0]) ∧ Prs w' w.heap.size pv (pairsF k mate) ∧ Ints w' w.heap.size uv (barF k f) ∧ Below w.heap.size w w'

theorem matchN_any (w : World) {v : Value} {l : List (Nat × Nat)} (h : NPr w v l) {k : Nat} (hk : k ≤ 24) (E : EdOk k l) (hl : l.length ≤ 1000000000000000) :
    Calls Tryz.prog 46 #[.int .i64 (k : Int), v] w fun e w' => MnIs w k l e w' := by
  refine (match_any w h.ipr (k : Int) (by rw [castL_len]; exact hl)).mono ?_
  rintro e w' ⟨hb, ⟨_, mate, f, h, hB, pv, uv, rfl, hP, hU⟩ | ⟨hno, _⟩⟩
  · rw [natL_castL, show ((k : Int).toNat) = k by omega] at hB
    rw [show ((k : Int).toNat) = k by omega] at hP hU
    exact ⟨mate, f, h, hB, pv, uv, rfl, hP, hU, hb⟩
  · rw [okG_castL hk E] at hno
    cases hno

theorem Away.of {w : World} {base : Nat} {l : List (Nat × Nat)} {so : Option Addr} {n m cap : Nat} (h : Prs w base (.slice so n cap) l) {U : Nat} (hU : w.heap.size ≤ U) : Away (.slice so m cap) U := by
  intro b o n' c' e
  simp only [Value.slice.injEq] at e
  obtain ⟨rfl, -, -⟩ := e
  have := (h.lt b rfl).2
  omega

theorem Bls.made {w : World} {base U n : Nat} (h : w.ownsRow base 4 1 (.slice (some ⟨U, 0, none⟩) n n) n (madeCells #[.bool false] n).toList) : Bls w U n fun _ => false := by
  refine ⟨fun x hx => ?_, fun i => ?_⟩
  · obtain ⟨g, cap, e, _, _, hc, hf⟩ := ownsRow_at h (by omega)
    simp only [Value.slice.injEq, Option.some.injEq, Addr.mk.injEq, and_true, true_and] at e
    obtain ⟨rfl, -⟩ := e
    rw [hc x (by omega), toList_madeCells_one]
    simp [hx]
  · rcases h.2 with ⟨e, _⟩ | ⟨g, cap, cur, e, _⟩
    · simp at e
    · exact h.frozenAt i

theorem Tryz.infoBool : (Tryz.prog.info? 4).map (fun i => (i.zero, i.size, i.bytes)) = some (some (.bool false), 1, 1) := by kernel_rfl

theorem Bls.below {w w' : World} {U n : Nat} {u : Nat → Bool} (h : Bls w U n u) (hn : 0 < n) (hb : Below w.heap.size w w') : Bls w' U n u :=
  h.same (hb.block U (World.block_lt_of_cell? w ⟨U, 0, none⟩ (h.cell 0 hn)))

/-- Booleans in block U; nothing else that was there has turned. -/
structure ShAt (wb wr : World) (U k : Nat) (u : Nat → Bool) : Prop where
  bls : Bls wr U k u
  fr : MFr U wb wr
  lt : U < wb.heap.size

theorem ShAt.alloc {wb wr : World} {U k : Nat} {u : Nat → Bool} (h : ShAt wb wr U k u) (ob : Obj) : ShAt wb (wr.alloc ob) U k u :=
  ⟨h.bls.same (heap_alloc_lt _ _ _ (Nat.lt_of_lt_of_le h.lt h.fr.size)), h.fr.trans (MFr.of_below ((Below.refl _ wr).alloc (Nat.le_refl _) _)), h.lt⟩
theorem ShAt.drewN {wb wr : World} {U k : Nat} {u : Nat → Bool} (h : ShAt wb wr U k u) (m : Nat) : ShAt wb (wr.drewN m) U k u := ⟨h.bls.same rfl, h.fr.drewN m, h.lt⟩
theorem ShAt.set {wb wr : World} {U k : Nat} {u : Nat → Bool} (h : ShAt wb wr U k u) {a : Nat} (ha : a < k) (b : Bool) : ShAt wb (wr.setCell ⟨U, a, none⟩ (.bool b)) U k (setAt u a b) := ⟨h.bls.set ha b, h.fr.set _ _, h.lt⟩

theorem Ints.away {w w' : World} {base : Nat} {v : Value} {l : List Nat} (h : Ints w base v l) {U : Nat} (hU : w.heap.size ≤ U) (wb : World) (hb : Below w.heap.size w wb) (hf : MFr U wb w') : Ints w' base v l :=
  ownsRow_same h fun k hk => by
    have := (h.lt k hk).2
    exact (hf.block k (Nat.lt_of_lt_of_le this hb.size) (by omega)).trans (hb.block k this)

theorem wrap_small (i : Nat) (h : i < 1000000) : IntKind.i64.wrap (i : Int) = (i : Int) := by
  simp only [IntKind.wrap, IntKind.signed, IntKind.bits]
  simp
  omega

set_option maxRecDepth 100000 in
set_option maxHeartbeats 1000000 in
theorem redge_any (w : World) {v : Value} {l : List (Nat × Nat)} (h : NPr w v l) (a b : Nat) (hl : l.length ≤ 1000000000000000) :
    Calls Tryz.prog 76 #[v, .int .i64 (a : Int), .int .i64 (b : Int)] w fun e w' => e = .returned (.bool (adjL l a b)) ∧ w' = w := by
  have HR : Hid (NPr w v l) := h
  obtain ⟨so, cap, hv, hcap, hcc⟩ := h
  subst hv
  clear hcc
  go_enter Tryz.func76, Tryz.ntmps76
  go_wp2_with fail
  go_loopg [7] (l.length + 1) (fun k v7 wr => ∃ i : Nat, i ≤ l.length ∧ l.length - i < k ∧ v7 = .int .i64 (i : Nat) ∧ adjL (l.take i) a b = false ∧ w = wr)
  case atStart => exact ⟨0, by omega, by omega, rfl, rfl, rfl⟩
  case round =>
    obtain ⟨i, hi, hk, rfl, hno, hw⟩ := hrel
    subst hw
    have HNO : Hid (adjL (l.take i) a b = false) := hno
    clear hno
    by_cases hlt : i < l.length
    · have hlt' : (i : Int) < (l.length : Int) := by omega
      obtain ⟨x, y, gi⟩ : ∃ x y, l[i]? = some (x, y) := ⟨_, _, List.getElem?_eq_getElem hlt⟩
      obtain ⟨bb, oo, hso, c0, c1⟩ := HR.out.at gi
      subst hso
      have HGI : Hid (l[i]? = some (x, y)) := gi
      clear gi
      by_cases k1 : x = a
      · have k1' : ((x : Int) == (a : Int)) = true := by simp; omega
        have K1 : Hid (x = a) := k1
        clear k1
        by_cases k2 : y = b
        · have k2' : ((y : Int) == (b : Int)) = true := by simp; omega
          have K2 : Hid (y = b) := k2
          clear k2
          have HE : Hid (adjL l a b = true) := adjL_yes HGI.out (.inl ⟨K1.out, K2.out⟩)
          go_wp2_with fail
          go_ret
          exact ⟨by rw [HE.out]; rfl, rfl⟩
        · have k2' : ((y : Int) == (b : Int)) = false := by simp; omega
          have K2 : Hid (¬ y = b) := k2
          clear k2
          by_cases k3 : x = b
          · have k3' : ((x : Int) == (b : Int)) = true := by simp; omega
            have K3 : Hid (x = b) := k3
            clear k3
            by_cases k4 : y = a
            · have k4' : ((y : Int) == (a : Int)) = true := by simp; omega
              have K4 : Hid (y = a) := k4
              clear k4
              have HE : Hid (adjL l a b = true) := adjL_yes HGI.out (.inr ⟨K3.out, K4.out⟩)
              go_wp2_with fail
              go_ret
              exact ⟨by rw [HE.out]; rfl, rfl⟩
            · have k4' : ((y : Int) == (a : Int)) = false := by simp; omega
              have K4 : Hid (¬ y = a) := k4
              clear k4
              have HN : Hid (adjL (l.take (i + 1)) a b = false) := adjL_take_no HNO.out HGI.out (fun k => K2.out k.2) (fun k => K4.out k.2)
              go_wp2_with fail
              go_roundg (l.length - i)
              case measure => omega
              case rel => exact ⟨i + 1, by omega, by omega, by go_num, HN.out, rfl⟩
          · have k3' : ((x : Int) == (b : Int)) = false := by simp; omega
            have K3 : Hid (¬ x = b) := k3
            clear k3
            have HN : Hid (adjL (l.take (i + 1)) a b = false) := adjL_take_no HNO.out HGI.out (fun k => K2.out k.2) (fun k => K3.out k.1)
            go_wp2_with fail
            go_roundg (l.length - i)
            case measure => omega
            case rel => exact ⟨i + 1, by omega, by omega, by go_num, HN.out, rfl⟩
      · have k1' : ((x : Int) == (a : Int)) = false := by simp; omega
        have K1 : Hid (¬ x = a) := k1
        clear k1
        by_cases k3 : x = b
        · have k3' : ((x : Int) == (b : Int)) = true := by simp; omega
          have K3 : Hid (x = b) := k3
          clear k3
          by_cases k4 : y = a
          · have k4' : ((y : Int) == (a : Int)) = true := by simp; omega
            have K4 : Hid (y = a) := k4
            clear k4
            have HE : Hid (adjL l a b = true) := adjL_yes HGI.out (.inr ⟨K3.out, K4.out⟩)
            go_wp2_with fail
            go_ret
            exact ⟨by rw [HE.out]; rfl, rfl⟩
          · have k4' : ((y : Int) == (a : Int)) = false := by simp; omega
            have K4 : Hid (¬ y = a) := k4
            clear k4
            have HN : Hid (adjL (l.take (i + 1)) a b = false) := adjL_take_no HNO.out HGI.out (fun k => K1.out k.1) (fun k => K4.out k.2)
            go_wp2_with fail
            go_roundg (l.length - i)
            case measure => omega
            case rel => exact ⟨i + 1, by omega, by omega, by go_num, HN.out, rfl⟩
        · have k3' : ((x : Int) == (b : Int)) = false := by simp; omega
          have K3 : Hid (¬ x = b) := k3
          clear k3
          have HN : Hid (adjL (l.take (i + 1)) a b = false) := adjL_take_no HNO.out HGI.out (fun k => K1.out k.1) (fun k => K3.out k.1)
          go_wp2_with fail
          go_roundg (l.length - i)
          case measure => omega
          case rel => exact ⟨i + 1, by omega, by omega, by go_num, HN.out, rfl⟩
    · have hlt' : ¬ (i : Int) < (l.length : Int) := by omega
      have HE : Hid (adjL l a b = false) := by have := HNO.out; rw [List.take_of_length_le (by omega)] at this; exact this
      go_wp2_with fail
      go_ret
      exact ⟨by rw [HE.out]; rfl, rfl⟩
end Go.Proofs.YtcabaecbmkgclaaGreatDoor.Rf

namespace Go.Proofs.YtcabaecbmkgclaaGreatDoor.Kd
open Go.RowKit Bz Mt Mg Rf

section
variable {w : World} {B base : Nat} {s : ByteArray} {p : St}

set_option maxRecDepth 100000 in
set_option maxHeartbeats 2000000 in
theorem pindex_any (w : World) {v : Value} {l : List (Nat × Nat)} (h : NPr w v l) (a b : Nat) (hl : l.length ≤ 1000) :
    Calls Tryz.prog 88 #[v, .agg #[.int .i64 (a : Int), .int .i64 (b : Int)]] w fun e w' => ∃ r : Int, e = .returned (.int .i64 r) ∧ (0 ≤ r ↔ (a, b) ∈ l) ∧ Below w.heap.size w w' := by
  have HR : Hid (NPr w v l) := h
  have HB0 : Hid (Below w.heap.size w (w.alloc (.cells #[.int .i64 (a : Int), .int .i64 (b : Int)] 48))) := (Below.refl _ w).alloc (Nat.le_refl _) _
  have q0 : (w.alloc (.cells #[.int .i64 (a : Int), .int .i64 (b : Int)] 48)).cell? ⟨w.heap.size, 0, none⟩ = some (.int .i64 (a : Int)) := by rw [World.cell?_alloc_new]; rfl
  have q1 : (w.alloc (.cells #[.int .i64 (a : Int), .int .i64 (b : Int)] 48)).cell? ⟨w.heap.size, 1, none⟩ = some (.int .i64 (b : Int)) := by rw [World.cell?_alloc_new]; rfl
  obtain ⟨so, cap, hv, hcap, hcc⟩ := h
  subst hv
  clear hcc
  go_enter Tryz.func88, Tryz.ntmps88
  go_upto_region 1 with fail
  generalize w.alloc (.cells #[.int .i64 (a : Int), .int .i64 (b : Int)] 48) = wq at *
  have HQ : Hid (wq.cell? ⟨w.heap.size, 0, none⟩ = some (.int .i64 (a : Int)) ∧ wq.cell? ⟨w.heap.size, 1, none⟩ = some (.int .i64 (b : Int)) ∧ Below w.heap.size w wq) := ⟨q0, q1, HB0.out⟩
  clear q0 q1 HB0
  generalize hX : w.heap.size = X at *
  have HX : Hid (w.heap.size = X) := hX
  clear hX
  go_wp2_with fail
  go_loopg [8] (l.length + 1) (fun k v8 wr => ∃ i : Nat, i ≤ l.length ∧ l.length - i < k ∧ v8 = .int .i64 (i : Nat) ∧ (a, b) ∉ l.take i ∧ (wr.cell? ⟨X, 0, none⟩ = some (.int .i64 (a : Int)) ∧ wr.cell? ⟨X, 1, none⟩ = some (.int .i64 (b : Int)) ∧ Below X w wr))
  case atStart => exact ⟨0, by omega, by omega, rfl, by simp, HQ.out⟩
  case round =>
    clear HQ
    obtain ⟨i, hi, hk, rfl, hno, hat⟩ := hrel
    have HNO : Hid ((a, b) ∉ l.take i) := hno
    have HAT : Hid (wr.cell? ⟨X, 0, none⟩ = some (.int .i64 (a : Int)) ∧ wr.cell? ⟨X, 1, none⟩ = some (.int .i64 (b : Int)) ∧ Below X w wr) := hat
    clear hno hat
    by_cases hlt : i < l.length
    · have hlt' : (i : Int) < (l.length : Int) := by omega
      obtain ⟨x, y, gi⟩ : ∃ x y, l[i]? = some (x, y) := ⟨_, _, List.getElem?_eq_getElem hlt⟩
      obtain ⟨bb, oo, hso, c0, c1⟩ := (HR.out.below (by rw [HX.out]; exact HAT.out.2.2)).at gi
      subst hso
      have HGI : Hid (l[i]? = some (x, y)) := gi
      obtain ⟨q0, q1, _⟩ := HAT.out
      have HA2 : Hid (∀ n, (wr.drewN n).cell? ⟨X, 0, none⟩ = some (.int .i64 (a : Int)) ∧ (wr.drewN n).cell? ⟨X, 1, none⟩ = some (.int .i64 (b : Int)) ∧ Below X w (wr.drewN n)) := fun n => ⟨HAT.out.1, HAT.out.2.1, below_drewN HAT.out.2.2 n⟩
      clear gi
      by_cases hx : a = x ∧ b = y
      · have HY : Hid ((a, b) ∈ l) := by
          have := List.mem_of_getElem? HGI.out
          rw [← hx.1, ← hx.2] at this
          exact this
        obtain ⟨rfl, rfl⟩ := hx
        clear HAT
        go_wp2_with fail
        go_quiet (fail)
        go_wp2_with fail
        go_ret
        exact ⟨_, rfl, ⟨fun _ => HY.out, fun _ => by simp⟩, by rw [HX.out]; exact (HA2.out nq).2.2⟩
      · have HN : Hid ((a, b) ∉ l.take (i + 1)) := by
          rw [take_snoc HGI.out]
          intro hm
          rcases List.mem_append.1 hm with hm | hm
          · exact HNO.out hm
          · simp at hm
            exact hx hm
        by_cases hax : a = x
        · have hby : ¬ b = y := fun e => hx ⟨hax, e⟩
          subst hax
          have e1 : ((b : Int) == (y : Int)) = false := beq_false_of_ne (by omega)
          have e2 : ¬ ((b : Int) = (y : Int)) := by omega
          clear hx HAT
          go_wp2_with fail
          go_quiet (fail)
          go_wp2_with fail
          go_roundg (l.length - i)
          case measure => omega
          case rel => exact ⟨i + 1, by omega, by omega, by go_num, HN.out, HA2.out nq⟩
        · have e1 : ((a : Int) == (x : Int)) = false := beq_false_of_ne (by omega)
          have e2 : ¬ ((a : Int) = (x : Int)) := by omega
          clear hx HAT
          go_wp2_with fail
          go_quiet (fail)
          go_wp2_with fail
          go_roundg (l.length - i)
          case measure => omega
          case rel => exact ⟨i + 1, by omega, by omega, by go_num, HN.out, HA2.out nq⟩
    · have hlt' : ¬ (i : Int) < (l.length : Int) := by omega
      have HN : Hid ((a, b) ∉ l) := by have := HNO.out; rw [List.take_of_length_le (by omega)] at this; exact this
      go_wp2_with fail
      go_ret
      exact ⟨_, rfl, ⟨fun h => absurd h (by simp), fun h => absurd h HN.out⟩, by rw [HX.out]; exact HAT.out.2.2⟩

set_option maxRecDepth 100000 in
set_option maxHeartbeats 1000000 in
theorem pcontains_any (w : World) {v : Value} {l : List (Nat × Nat)} (h : NPr w v l) (a b : Nat) (hl : l.length ≤ 1000) :
    Calls Tryz.prog 66 #[v, .agg #[.int .i64 (a : Int), .int .i64 (b : Int)]] w fun e w' => e = .returned (.bool (decide ((a, b) ∈ l))) ∧ Below w.heap.size w w' := by
  have HI : Hid (∀ wx, Below w.heap.size w wx → Calls Tryz.prog 88 #[v, .agg #[.int .i64 (a : Int), .int .i64 (b : Int)]] wx fun e w' => ∃ r : Int, e = .returned (.int .i64 r) ∧ (0 ≤ r ↔ (a, b) ∈ l) ∧ Below w.heap.size w w') := fun wx hb => (pindex_any wx (h.below hb) a b hl).mono (by
    rintro e w' ⟨r, he, hr, hb'⟩
    exact ⟨r, he, hr, hb.trans (hb'.mono hb.size)⟩)
  have HB0 : Hid (∀ ob, Below w.heap.size w (w.alloc ob)) := fun ob => (Below.refl _ w).alloc (Nat.le_refl _) ob
  obtain ⟨so, cap, hv, hcap, hcc⟩ := h
  subst hv
  clear hcc
  go_enter Tryz.func66, Tryz.ntmps66
  go_wp2_with fail
  refine (HI.out _ (HB0.out _)).mono ?_
  rintro e w2 ⟨r, rfl, hr, hb⟩
  have HR : Hid (decide (0 ≤ r) = decide ((a, b) ∈ l)) := by
    unfold Hid
    by_cases h0 : 0 ≤ r
    · rw [decide_eq_true h0, decide_eq_true (hr.1 h0)]
    · rw [decide_eq_false h0, decide_eq_false (fun h1 => h0 (hr.2 h1))]
  have HB : Hid (Below w.heap.size w w2) := hb
  clear hr hb
  go_wp2_with fail
  go_ret
  exact ⟨Mg.ret_bool HR.out, HB.out⟩

/-- The order of a bond, when these pairs are double. -/
def ordN (P : List (Nat × Nat)) (b : Bnd) : Nat := if b.o = 4 then (if (b.a, b.b) ∈ P then 2 else 1) else b.o.toNat

/-- The first i of a list, zeros behind. -/
def osAt (f : List Nat) (n i : Nat) : List Nat := f.take i ++ List.replicate (n - i) 0

theorem osAt_len {f : List Nat} {n i : Nat} (hf : f.length = n) (hi : i ≤ n) : (osAt f n i).length = n := by unfold osAt; rw [List.length_append, List.length_take, List.length_replicate]; omega
theorem osAt_set {f : List Nat} {n i x : Nat} (hf : f.length = n) (hi : i < n) (hx : f[i]? = some x) : (osAt f n i).set i x = osAt f n (i + 1) := by
  have hl : (f.take i).length = i := by rw [List.length_take]; omega
  unfold osAt
  rw [take_snoc hx, List.set_append_right _ _ (by omega), hl, show i - i = 0 by omega, show n - i = (n - (i + 1)) + 1 by omega, List.replicate_succ, List.set_cons_zero, List.append_assoc]
  rfl
theorem osAt_zero (f : List Nat) (n : Nat) : osAt f n 0 = List.replicate n 0 := by unfold osAt; simp
theorem osAt_full {f : List Nat} {n : Nat} (hf : f.length = n) : osAt f n n = f := by unfold osAt; rw [List.take_of_length_le (by omega)]; simp

theorem ints_made {w : World} {base D n : Nat} (h : w.ownsRow base 3 1 (.slice (some ⟨D, 0, none⟩) n n) n (madeCells #[.int .i64 0] n).toList) : Ints w base (.slice (some ⟨D, 0, none⟩) n n) (List.replicate n 0) := by
  unfold Ints
  rw [List.length_replicate, show intCells (List.replicate n 0) = (madeCells #[.int .i64 0] n).toList by rw [toList_madeCells_one]; unfold intCells; rw [List.map_replicate]; rfl]
  exact h

/-- A row that is being written. -/
structure RwAt (w wr : World) (D n : Nat) (f : List Nat) (i : Nat) : Prop where
  row : Ints wr w.heap.size (.slice (some ⟨D, 0, none⟩) n n) (osAt f n i)
  below : Below w.heap.size w wr
  le : w.heap.size ≤ D

theorem RwAt.cell {w wr : World} {D n : Nat} {f : List Nat} {i : Nat} (h : RwAt w wr D n f i) (hf : f.length = n) (hi : i < n) : (∃ y : Nat, wr.cell? ⟨D, i, none⟩ = some (.int .i64 (y : Int))) ∧ wr.frozen? ⟨D, i, none⟩ = false := by
  have hl := osAt_len hf (Nat.le_of_lt hi)
  have hg : (osAt f n i)[i]? = some ((osAt f n i)[i]'(by omega)) := List.getElem?_eq_getElem (by omega)
  obtain ⟨g, cap, e, _, _, hc⟩ := h.row.at hg
  simp only [Value.slice.injEq, Option.some.injEq, Addr.mk.injEq, and_true] at e
  obtain ⟨rfl, -, -⟩ := e
  have hr : Ints wr w.heap.size (.slice (some ⟨D, 0, none⟩) (osAt f n i).length n) (osAt f n i) := by rw [hl]; exact h.row
  exact ⟨⟨_, hc⟩, Mg.Ints.free hr i⟩

theorem RwAt.set {w wr : World} {D n : Nat} {f : List Nat} {i x : Nat} (h : RwAt w wr D n f i) (hf : f.length = n) (hi : i < n) (hx : f[i]? = some x) : RwAt w (wr.setCell ⟨D, i, none⟩ (.int .i64 (x : Int))) D n f (i + 1) := by
  have hl := osAt_len hf (Nat.le_of_lt hi)
  refine ⟨?_, h.below.setCell (p := ⟨D, i, none⟩) h.le _, h.le⟩
  have hr : Ints wr w.heap.size (.slice (some ⟨D, 0, none⟩) (osAt f n i).length n) (osAt f n i) := by rw [hl]; exact h.row
  have := Mg.Ints.set hr (i := i) (by omega) x
  rw [osAt_set hf hi hx, hl] at this
  exact this

theorem RwAt.on {w wr w' : World} {D n : Nat} {f : List Nat} {i : Nat} (h : RwAt w wr D n f i) (hb : Below wr.heap.size wr w') : RwAt w w' D n f i :=
  ⟨ownsRow_same h.row fun k hk => hb.block k (h.row.lt k hk).2, h.below.trans (hb.mono h.below.size), h.le⟩

set_option maxRecDepth 100000 in
set_option maxHeartbeats 1000000 in
theorem counted_any (w : World) (n : Nat) (hn : n ≤ 24) : Calls Tryz.prog 42 #[.int .i64 (n : Int)] w fun e w' => ∃ v, e = .returned v ∧ Ints w' w.heap.size v (List.range n) ∧ Below w.heap.size w w' := by
  obtain ⟨i0, hi0, hz0, hz1, hz2⟩ := info_parts Mg.Tryz.infoInt
  have hf : (List.range n).length = n := by simp
  have HF : Hid ((List.range n).length = n) := hf
  clear hf
  go_enter Tryz.func42, Tryz.ntmps42
  go_wp2_with (at_make; go_must (refine wpList_make_full _ rfl _ _ 25 rfl w.heap.size 3 i0 (.int .i64 0) 1 Tryz.underlying25 hi0 hz0 hz1 .i64 .i64 _ _ n rfl rfl rfl rfl ?c1 ?c2 ?c3 ?_))
  case c1 => rw [hz2]; omega
  case c2 => unfold maxLen; omega
  case c3 => exact Nat.le_refl _
  intro w1 hown hgrow
  have HST : Hid (RwAt w w1 w.heap.size n (List.range n) 0) := ⟨by rw [osAt_zero]; exact ints_made hown, (Below.refl _ w).grown hgrow (Nat.le_refl _) (by simp), Nat.le_refl _⟩
  clear hown hgrow
  generalize w.heap.size = D at HST ⊢
  go_wp2_with fail
  go_loopg [9] 26 (fun k v9 wr => ∃ i : Nat, i ≤ n ∧ 25 - i ≤ k ∧ v9 = .int .i64 (i : Nat) ∧ RwAt w wr D n (List.range n) i)
  case atStart => exact ⟨0, by omega, by omega, rfl, HST.out⟩
  case round =>
    clear HST
    obtain ⟨i, hi, hk, rfl, hat⟩ := hrel
    have HAT : Hid (RwAt w wr D n (List.range n) i) := hat
    clear hat
    by_cases hlt : i < n
    · have hlt' : (i : Int) < (n : Int) := by omega
      obtain ⟨⟨y, cy⟩, fy⟩ := HAT.out.cell HF.out hlt
      have HN : Hid (RwAt w (wr.setCell ⟨D, i, none⟩ (.int .i64 (i : Int))) D n (List.range n) (i + 1)) := HAT.out.set HF.out hlt (List.getElem?_range hlt)
      go_wp2_with fail
      go_roundg (25 - (i + 1))
      case measure => omega
      case rel => exact ⟨i + 1, by omega, Nat.le_refl _, by go_num, HN.out⟩
    · have hlt' : ¬ (i : Int) < (n : Int) := by omega
      obtain rfl : n = i := by omega
      have HE : Hid (Ints wr w.heap.size (.slice (some ⟨D, 0, none⟩) n n) (List.range n)) := by have := HAT.out.row; rw [osAt_full HF.out] at this; exact this
      go_wp2_with fail
      go_ret
      exact ⟨_, rfl, HE.out, HAT.out.below⟩
end
end Go.Proofs.YtcabaecbmkgclaaGreatDoor.Kd

namespace Go.Proofs.YtcabaecbmkgclaaGreatDoor.Kd
open Go.RowKit Bz Mt Mg Rf

section
variable {w : World} {B base : Nat} {s : ByteArray} {p : St}

set_option maxRecDepth 100000 in
set_option maxHeartbeats 4000000 in
theorem doubled_any (h : Kd w B base p) (o : Ok s p) (hs : s.size ≤ 160) {pv : Value} {P : List (Nat × Nat)} (hP : NPr w pv P) (hPl : P.length ≤ 1000) :
    Calls Tryz.prog 40 #[.pointer (some ⟨B, 0, none⟩), pv] w fun e w' => ∃ v, e = .returned v ∧ Ints w' w.heap.size v (p.bonds.map (ordN P)) ∧ Below w.heap.size w w' := by
  obtain ⟨i0, hi0, hz0, hz1, hz2⟩ := info_parts Mg.Tryz.infoInt
  have HK : Hid (Kd w B base p) := h
  have HO : Hid (Ok s p) := o
  have HPN : Hid (NPr w pv P) := hP
  have hbl : p.bonds.length ≤ 160 := by have := o.bonds; have := o.pos; omega
  have hBl := h.lt
  have HF : Hid ((p.bonds.map (ordN P)).length = p.bonds.length) := (by simp : (p.bonds.map (ordN P)).length = p.bonds.length)
  obtain ⟨bv, hbv0, hbo⟩ := h.bonds
  obtain ⟨bso, bcap, hbs⟩ := ownsRow_shape hbo
  subst hbs
  obtain ⟨po, pc, hpv, _, _⟩ := hP
  subst hpv
  have HBV : Hid (w.cell? ⟨B, 25, none⟩ = some (.slice bso p.bonds.length bcap)) := hbv0
  clear hbo h o
  go_enter Tryz.func40, Tryz.ntmps40
  go_wp2_with (at_make; go_must (refine wpList_make_full _ rfl _ _ 25 rfl w.heap.size 3 i0 (.int .i64 0) 1 Tryz.underlying25 hi0 hz0 hz1 .i64 .i64 _ _ p.bonds.length rfl rfl rfl rfl ?c1 ?c2 ?c3 ?_))
  case c1 => rw [hz2]; omega
  case c2 => unfold maxLen; omega
  case c3 => exact Nat.le_refl _
  intro w1 hown hgrow
  have HST : Hid (RwAt w w1 w.heap.size p.bonds.length (p.bonds.map (ordN P)) 0) := ⟨by rw [osAt_zero]; exact ints_made hown, (Below.refl _ w).grown hgrow (Nat.le_refl _) (by simp), Nat.le_refl _⟩
  have hbv := (HST.out.below.cell (p := ⟨B, 25, none⟩) hBl).trans hbv0
  clear hown hgrow hbv0
  generalize w.heap.size = D at HST ⊢
  go_wp2_with fail
  go_loopg [19] (p.bonds.length + 1) (fun k v19 wr => ∃ i : Nat, i ≤ p.bonds.length ∧ p.bonds.length - i < k ∧ v19 = .int .i64 (i : Nat) ∧ RwAt w wr D p.bonds.length (p.bonds.map (ordN P)) i)
  case atStart => exact ⟨0, by omega, by omega, rfl, HST.out⟩
  case round =>
    clear HST hbv
    obtain ⟨i, hi, hk, rfl, hat⟩ := hrel
    have HAT : Hid (RwAt w wr D p.bonds.length (p.bonds.map (ordN P)) i) := hat
    clear hat
    by_cases hlt : i < p.bonds.length
    · have hlt' : (i : Int) < (p.bonds.length : Int) := by omega
      have gi := List.getElem?_eq_getElem hlt
      obtain ⟨g, cap, hv, hc, _, _, hgl⟩ := HK.out.bondsAt (by omega)
      have es := hv.symm.trans HBV.out
      simp only [Option.some.injEq, Value.slice.injEq, true_and] at es
      obtain ⟨rfl, rfl⟩ := es
      have c0 := (HAT.out.below.cell (p := ⟨g, i * 4, none⟩) hgl).trans (hc i _ 0 _ gi rfl)
      have c1 := (HAT.out.below.cell (p := ⟨g, i * 4 + 1, none⟩) hgl).trans (hc i _ 1 _ gi rfl)
      have c2 := (HAT.out.below.cell (p := ⟨g, i * 4 + 2, none⟩) hgl).trans (hc i _ 2 _ gi rfl)
      have c3 := (HAT.out.below.cell (p := ⟨g, i * 4 + 3, none⟩) hgl).trans (hc i _ 3 _ gi rfl)
      have hord := HO.out.ords _ (List.mem_of_getElem? gi)
      have gx : (p.bonds.map (ordN P))[i]? = some (ordN P p.bonds[i]) := by rw [List.getElem?_map, gi]; rfl
      generalize p.bonds[i] = b at *
      obtain ⟨ba, bb, bo, bpl⟩ := b
      simp only at c0 c1 c2 c3 hord
      obtain ⟨m, rfl⟩ := Int.eq_ofNat_of_zero_le (show 0 ≤ bo by omega)
      have HGX : Hid ((p.bonds.map (ordN P))[i]? = some (ordN P ⟨ba, bb, (m : Int), bpl⟩)) := gx
      clear gi hc hv gx
      have HA2 : Hid (RwAt w (wr.alloc (.cells #[.int .i64 (ba : Int), .int .i64 (bb : Int), .int .i64 (m : Int), .int .i64 (bpl : Int)] 102)) D p.bonds.length (p.bonds.map (ordN P)) i) := HAT.out.on ((Below.refl _ _).alloc (Nat.le_refl _) _)
      have q0 : (wr.alloc (.cells #[.int .i64 (ba : Int), .int .i64 (bb : Int), .int .i64 (m : Int), .int .i64 (bpl : Int)] 102)).cell? ⟨wr.heap.size, 0, none⟩ = some (.int .i64 (ba : Int)) := by rw [World.cell?_alloc_new]; rfl
      have q1 : (wr.alloc (.cells #[.int .i64 (ba : Int), .int .i64 (bb : Int), .int .i64 (m : Int), .int .i64 (bpl : Int)] 102)).cell? ⟨wr.heap.size, 1, none⟩ = some (.int .i64 (bb : Int)) := by rw [World.cell?_alloc_new]; rfl
      have q2 : (wr.alloc (.cells #[.int .i64 (ba : Int), .int .i64 (bb : Int), .int .i64 (m : Int), .int .i64 (bpl : Int)] 102)).cell? ⟨wr.heap.size, 2, none⟩ = some (.int .i64 (m : Int)) := by rw [World.cell?_alloc_new]; rfl
      clear HAT
      go_upto_region 6 with fail
      generalize wr.alloc (.cells #[.int .i64 (ba : Int), .int .i64 (bb : Int), .int .i64 (m : Int), .int .i64 (bpl : Int)] 102) = wq at *
      generalize wr.heap.size = X at *
      clear c0 c1 c2 c3
      cases h4 : ((m : Int) == 4)
      · have h4n : ((m : Int) != 4) = true := by simp [bne, h4]
        have HOR : Hid (ordN P ⟨ba, bb, (m : Int), bpl⟩ = m) := by
          unfold Hid ordN
          rw [if_neg (by simpa using h4)]
          simp
        obtain ⟨⟨y, cy⟩, fy⟩ := HA2.out.cell HF.out hlt
        have HN : Hid (RwAt w (wq.setCell ⟨D, i, none⟩ (.int .i64 (m : Int))) D p.bonds.length (p.bonds.map (ordN P)) (i + 1)) := by
          have := HA2.out.set HF.out hlt HGX.out
          rw [HOR.out] at this
          exact this
        go_wp2_with fail
        go_roundg (p.bonds.length - i)
        case measure => omega
        case rel => exact ⟨i + 1, by omega, by omega, by go_num, HN.out⟩
      · have h4n : ((m : Int) != 4) = false := by simp [bne, h4]
        have PC := pcontains_any wq (HPN.out.below HA2.out.below) ba bb hPl
        by_cases hin : (ba, bb) ∈ P
        · rw [decide_eq_true hin] at PC
          have HOR : Hid (ordN P ⟨ba, bb, (m : Int), bpl⟩ = 2) := by
            unfold Hid ordN
            rw [if_pos (by simpa using h4), if_pos hin]
          clear hin
          go_wp2_with fail
          refine PC.mono ?_
          rintro e w2 ⟨rfl, hb2⟩
          have HA3 : Hid (RwAt w w2 D p.bonds.length (p.bonds.map (ordN P)) i) := HA2.out.on hb2
          obtain ⟨⟨y, cy⟩, fy⟩ := HA3.out.cell HF.out hlt
          have HN : Hid (RwAt w (w2.setCell ⟨D, i, none⟩ (.int .i64 2)) D p.bonds.length (p.bonds.map (ordN P)) (i + 1)) := by
            have := HA3.out.set HF.out hlt HGX.out
            rw [HOR.out] at this
            exact this
          clear PC hb2
          go_wp2_with fail
          go_roundg (p.bonds.length - i)
          case measure => omega
          case rel => exact ⟨i + 1, by omega, by omega, by go_num, HN.out⟩
        · rw [decide_eq_false hin] at PC
          have HOR : Hid (ordN P ⟨ba, bb, (m : Int), bpl⟩ = 1) := by
            unfold Hid ordN
            rw [if_pos (by simpa using h4), if_neg hin]
          clear hin
          go_wp2_with fail
          refine PC.mono ?_
          rintro e w2 ⟨rfl, hb2⟩
          have HA3 : Hid (RwAt w w2 D p.bonds.length (p.bonds.map (ordN P)) i) := HA2.out.on hb2
          obtain ⟨⟨y, cy⟩, fy⟩ := HA3.out.cell HF.out hlt
          have HN : Hid (RwAt w (w2.setCell ⟨D, i, none⟩ (.int .i64 1)) D p.bonds.length (p.bonds.map (ordN P)) (i + 1)) := by
            have := HA3.out.set HF.out hlt HGX.out
            rw [HOR.out] at this
            exact this
          clear PC hb2
          go_wp2_with fail
          go_roundg (p.bonds.length - i)
          case measure => omega
          case rel => exact ⟨i + 1, by omega, by omega, by go_num, HN.out⟩
    · have hlt' : ¬ (i : Int) < (p.bonds.length : Int) := by omega
      have HE : Hid (Ints wr w.heap.size (.slice (some ⟨D, 0, none⟩) p.bonds.length p.bonds.length) (p.bonds.map (ordN P))) := by
        have := HAT.out.row
        rw [show i = p.bonds.length by omega, osAt_full HF.out] at this
        exact this
      go_wp2_with fail
      go_ret
      exact ⟨_, rfl, HE.out, HAT.out.below⟩
end
end Go.Proofs.YtcabaecbmkgclaaGreatDoor.Kd

namespace Go.Proofs.YtcabaecbmkgclaaGreatDoor
open Go.RowKit Bz

section
variable {w : World} {B : Nat} {s : ByteArray} {p : St}

set_option maxRecDepth 100000 in
set_option maxHeartbeats 2000000 in
theorem wrong_any (h : Rd w B s p) (o : Ok s p) (hs : s.size ≤ 160) (i : Nat) (a : Atm) (hi : p.atoms[i]? = some a) :
    Calls Tryz.prog 109 #[.pointer (some ⟨B, 2, none⟩), .int .i64 i] w fun e w' => e = .returned (.bool (Bz.wrong p.bonds i a)) ∧ Below w.heap.size w w' := by
  obtain ⟨g, cap, hA, hg⟩ := h.atI hi
  have hB := h.lt
  have hl : i < p.atoms.length := (List.getElem?_eq_some_iff.1 hi).1
  have hl' : (i : Int) < (p.atoms.length : Int) := by omega
  have hn := o.atoms
  have q0 := hA.sl
  have q1 := hA.c0
  have q2 := hA.c1
  have q3 := hA.c2
  have q4 := hA.c3
  have q5 := hA.c4
  have q6 := hA.c5
  clear hA
  have hbA : Below w.heap.size w (w.alloc (.cells #[.string a.el, .bool a.aro, .int .i64 a.ch, .int .i64 a.hy, .int .i64 a.pl, .bool a.br] 124)) := (Below.refl _ _).alloc (Nat.le_refl _) _
  cases har : a.aro
  · have HW : Hid (Bz.wrong p.bonds i a = !((valences a.el a.ch).contains (fill p i a))) := by unfold Hid Bz.wrong fill; rw [har]; rfl
    rw [har] at q2 hbA
    clear har
    go_enter Tryz.func109, Tryz.ntmps109
    go_wp2_with fail
    refine (valencesOf_any _ _ _).mono ?_
    rintro e w1 ⟨v, rfl, hv, hb⟩
    have hb1 : Below w.heap.size w w1 := hbA.trans (hb.mono hbA.size)
    have hF := filled_any (h.below hb1) o hs i a hi
    go_wp2_with fail
    refine hF.mono ?_
    rintro e w2 ⟨rfl, hb2⟩
    have hb3 : Below w.heap.size w w2 := hb1.trans (hb2.mono hb1.size)
    have hCo := contains_any w2 v _ (fill p i a) (intsAt_below hv hb2) (by have := (valences_len a.el a.ch).1; omega)
    clear hF hv hb hb2
    go_wp2_with fail
    refine hCo.mono ?_
    rintro e w3 ⟨rfl, rfl⟩
    go_wp2_with fail
    go_ret
    exact ⟨ret_bool (by rw [HW.out]; simp), hb3⟩
  · obtain ⟨x, r, hx⟩ : ∃ x r, valences a.el a.ch = x :: r := by
      cases hv : valences a.el a.ch with
      | nil => exact absurd hv (o.aros a (List.mem_of_getElem? hi) har)
      | cons x r => exact ⟨x, r, rfl⟩
    have HW : Hid (Bz.wrong p.bonds i a = (!(fill p i a == x - 1) && !(fill p i a == x))) := by unfold Hid Bz.wrong fill; rw [har, hx]; rfl
    rw [har] at q2 hbA
    have hCa := candidate_yes (h.below hbA) o hs i a hi har x r hx
    have HFi : Hid (∀ wx, Below w.heap.size w wx → Calls Tryz.prog 138 #[.pointer (some ⟨B, 2, none⟩), .int .i64 i] wx fun e w' => e = .returned (.bool (fill p i a == x)) ∧ Below wx.heap.size wx w') := fun wx hwx => finished_any (h.below hwx) o hs i a hi x r hx
    clear har hx
    cases hc : (fill p i a == x - 1)
    · rw [hc] at hCa HW
      clear hc
      go_enter Tryz.func109, Tryz.ntmps109
      go_wp2_with fail
      refine hCa.mono ?_
      rintro e w1 ⟨rfl, hb⟩
      have hb1 : Below w.heap.size w w1 := hbA.trans (hb.mono hbA.size)
      go_wp2_with fail
      refine (HFi.out _ hb1).mono ?_
      rintro e w2 ⟨rfl, hb2⟩
      have hb3 : Below w.heap.size w w2 := hb1.trans (hb2.mono hb1.size)
      clear hCa hb hb2
      go_wp2_with fail
      go_ret
      exact ⟨ret_bool (by rw [HW.out]; simp), hb3⟩
    · rw [hc] at hCa HW
      clear hc
      go_enter Tryz.func109, Tryz.ntmps109
      go_wp2_with fail
      refine hCa.mono ?_
      rintro e w1 ⟨rfl, hb⟩
      have hb1 : Below w.heap.size w w1 := hbA.trans (hb.mono hbA.size)
      clear hCa hb
      go_wp2_with fail
      go_ret
      exact ⟨ret_bool (by rw [HW.out]; simp), hb1⟩

/-- The number of the first atom from i on whose valence is wrong. -/
def wrongAt (l : List Bnd) : Nat → List Atm → Option Nat
  | _, [] => none
  | i, a :: r => if Bz.wrong l i a then some i else wrongAt l (i + 1) r

def FwPost (w : World) (r : Option Nat) (e : Ending) (w' : World) : Prop :=
  (match r with
  | some k => e = .returned (.tuple #[.int .i64 k, .bool true])
  | none => e = .returned (.tuple #[.int .i64 0, .bool false])) ∧ Below w.heap.size w w'

theorem FwPost.some {w w' : World} {r : Option Nat} {e : Ending} {k : Nat} (hr : r = .some k) (he : e = .returned (.tuple #[.int .i64 k, .bool true])) (hb : Below w.heap.size w w') : FwPost w r e w' := by subst hr; exact ⟨he, hb⟩
theorem FwPost.none {w w' : World} {r : Option Nat} {e : Ending} (hr : r = .none) (he : e = .returned (.tuple #[.int .i64 0, .bool false])) (hb : Below w.heap.size w w') : FwPost w r e w' := by subst hr; exact ⟨he, hb⟩

theorem drop_consA {l : List Atm} {i : Nat} {x : Atm} (h : l[i]? = some x) : l.drop i = x :: l.drop (i + 1) := by
  obtain ⟨h1, h2⟩ := List.getElem?_eq_some_iff.1 h
  rw [List.drop_eq_getElem_cons h1, h2]

set_option maxRecDepth 100000 in
set_option maxHeartbeats 2000000 in
theorem firstWrong_any (h : Rd w B s p) (o : Ok s p) (hs : s.size ≤ 160) :
    Calls Tryz.prog 83 #[.pointer (some ⟨B, 2, none⟩)] w (FwPost w (wrongAt p.bonds 0 p.atoms)) := by
  obtain ⟨ao, cap, hc⟩ := h.atomsLen
  have hn := o.atoms
  go_enter Tryz.func83, Tryz.ntmps83
  go_wp2_with fail
  go_loopg [10] (p.atoms.length + 1) (fun k vi wr => ∃ i : Nat, i ≤ p.atoms.length ∧ p.atoms.length - i ≤ k ∧ vi = .int .i64 i ∧ wrongAt p.bonds 0 p.atoms = wrongAt p.bonds i (p.atoms.drop i) ∧ Below w.heap.size w wr)
  case atStart => exact ⟨0, by omega, by omega, rfl, by simp, Below.refl _ _⟩
  case round =>
    obtain ⟨i, hi, hk, rfl, hm, hb⟩ := hrel
    have HM : Hid _ := hm
    clear hm
    by_cases hlt : i < p.atoms.length
    · have gi := List.getElem?_eq_getElem hlt
      have hd := drop_consA gi
      have hW := wrong_any (h.below hb) o hs i _ gi
      have hlt' : (i : Int) < (p.atoms.length : Int) := by omega
      generalize p.atoms[i] = a at *
      cases hw : Bz.wrong p.bonds i a
      · rw [hw] at hW
        have HE : Hid _ := HM.out.trans (show wrongAt p.bonds i (p.atoms.drop i) = wrongAt p.bonds (i + 1) (p.atoms.drop (i + 1)) by rw [hd, wrongAt, hw]; rfl)
        clear hw hd gi
        go_wp2_with fail
        refine hW.mono ?_
        rintro e w1 ⟨rfl, hb1⟩
        have hb2 : Below w.heap.size w w1 := hb.trans (hb1.mono hb.size)
        clear hW hb1
        go_wp2_with fail
        go_roundg (p.atoms.length - (i + 1))
        case measure => omega
        case rel => exact ⟨i + 1, by omega, Nat.le_refl _, by go_num, HE.out, hb2⟩
      · rw [hw] at hW
        have HE : Hid _ := HM.out.trans (show wrongAt p.bonds i (p.atoms.drop i) = some i by rw [hd, wrongAt, hw]; rfl)
        clear hw hd gi
        go_wp2_with fail
        refine hW.mono ?_
        rintro e w1 ⟨rfl, hb1⟩
        have hb2 : Below w.heap.size w w1 := hb.trans (hb1.mono hb.size)
        clear hW hb1
        go_wp2_with fail
        go_ret2
        exact FwPost.some HE.out rfl hb2
    · have hlt' : ¬ (i : Int) < (p.atoms.length : Int) := by omega
      have HE : Hid _ := HM.out.trans (show wrongAt p.bonds i (p.atoms.drop i) = none by rw [List.drop_eq_nil_of_le (by omega)]; rfl)
      go_wp2_with fail
      go_ret2
      exact FwPost.none HE.out rfl hb
end
end Go.Proofs.YtcabaecbmkgclaaGreatDoor

namespace Go.Proofs.YtcabaecbmkgclaaGreatDoor
open Go.RowKit Bz

theorem flatMap_set (l : List Atm) : ∀ (i : Nat) (a : Atm) (x : Int), l[i]? = some a → (l.flatMap atmCells).set (i * 6 + 3) (.int .i64 x) = (l.set i { a with hy := x }).flatMap atmCells := by
  induction l with
  | nil => intro i a x h; simp at h
  | cons b r ih =>
    intro i a x h
    match i, h with
    | 0, h => simp at h; subst h; rfl
    | i + 1, h =>
      simp at h
      rw [List.flatMap_cons, List.set_cons_succ, List.flatMap_cons, ← ih i a x h]
      have : (i + 1) * 6 + 3 = (i * 6 + 3) + (atmCells b).length := by rw [atmCells_len]; omega
      rw [this, List.set_append_right _ _ (by omega), Nat.add_sub_cancel]

section
variable {w : World} {B : Nat} {s : ByteArray} {p : St}

theorem Rd.setHy (h : Rd w B s p) {g cap i : Nat} {a : Atm} (hi : p.atoms[i]? = some a) (hsl : w.cell? ⟨B, 26, none⟩ = some (.slice (some ⟨g, 0, none⟩) p.atoms.length cap)) (x : Int) :
    Rd (w.setCell ⟨g, i * 6 + 3, none⟩ (.int .i64 x)) B s { p with atoms := p.atoms.set i { a with hy := x } } := by
  obtain ⟨va, ha, oa⟩ := h.atoms
  obtain ⟨vb, hb, ob⟩ := h.bonds
  rw [hsl] at ha
  cases ha
  have hgB := (oa.lt g rfl).1
  have hB : (w.setCell ⟨g, i * 6 + 3, none⟩ (.int .i64 x)).heap[B]? = w.heap[B]? := Below.heap_setCell w _ _ B (by simp; omega)
  have hc : ∀ k, (w.setCell ⟨g, i * 6 + 3, none⟩ (.int .i64 x)).cell? ⟨B, k, none⟩ = w.cell? ⟨B, k, none⟩ := fun k => World.cell?_of_block (w := w) hB
  have hf : ∀ k, (w.setCell ⟨g, i * 6 + 3, none⟩ (.int .i64 x)).frozen? ⟨B, k, none⟩ = w.frozen? ⟨B, k, none⟩ := fun k => World.frozen?_of_block (w := w) hB
  have hst := (oa.stored (i * 6 + 3) (.int .i64 x)).1
  rw [flatMap_set _ _ _ _ hi] at hst
  refine ⟨by rw [hc]; exact h.text, by rw [hc]; exact h.pos, fun k hk => by rw [hc]; exact h.near k hk,
    ⟨_, by rw [hc]; exact hsl, by simpa using hst⟩, ⟨vb, by rw [hc]; exact hb, ?_⟩, by rw [hc]; exact h.err, by rw [hc]; exact h.plc, fun n j v hn hv => by rw [hc]; exact h.rings n j v hn hv, fun k => by rw [hf]; exact h.free k⟩
  exact ownsRow_setCell_other ob (fun e => ownBlock_ne oa ob (by decide) g rfl e) _

theorem Fr.setRow {B g i : Nat} {a w : World} (h : Fr B a w) (hm : Mine w B g) (hg : g ≠ B) (u : Value) : Fr B a (w.setCell ⟨g, i, none⟩ u) := by
  have hB : (w.setCell ⟨g, i, none⟩ u).heap[B]? = w.heap[B]? := Below.heap_setCell w _ u B (by simpa using fun e => hg e.symm)
  refine ⟨h.os, h.tape, h.output, by simpa using h.size, fun k hk hn => ?_, fun k hk hk' => h.mine k hk ((Mine.same hB).1 hk')⟩
  rw [Below.heap_setCell w _ u k (by rintro rfl; exact hn (h.mine _ hk hm))]
  exact h.block k hk hn

theorem Rd.belowAt {w' : World} (h : Rd w B s p) (hb : Below w.heap.size w w') : Rd w' B s p := h.same fun k hk => hb.block k (h.mine hk).2

/-- The first k atoms have their hydrogens. -/
def hyTo (l : List Bnd) (at_ : List Atm) (k : Nat) : List Atm := at_.mapIdx fun i a => if i < k then withHydrogens l i a else a

theorem hyTo_get (l : List Bnd) (at_ : List Atm) (k i : Nat) : (hyTo l at_ k)[i]? = (at_[i]?).map fun a => if i < k then withHydrogens l i a else a := by
  unfold hyTo; rw [List.getElem?_mapIdx]

theorem hyTo_len (l : List Bnd) (at_ : List Atm) (k : Nat) : (hyTo l at_ k).length = at_.length := by unfold hyTo; simp

theorem hyTo_br (l : List Bnd) (at_ : List Atm) (k : Nat) (a : Atm) (ha : at_[k]? = some a) (hb : a.br = true) : hyTo l at_ (k + 1) = hyTo l at_ k := by
  apply List.ext_getElem?
  intro i
  rw [hyTo_get, hyTo_get]
  cases hi : at_[i]? with
  | none => rfl
  | some b =>
    simp only [Option.map_some, Option.some.injEq]
    by_cases e : i = k
    · subst e
      rw [ha] at hi
      cases hi
      rw [if_pos (by omega), if_neg (by omega)]
      unfold withHydrogens
      rw [hb]; rfl
    · by_cases e2 : i < k
      · rw [if_pos (by omega), if_pos e2]
      · rw [if_neg (by omega), if_neg e2]

theorem hyTo_set (l : List Bnd) (at_ : List Atm) (k : Nat) (a : Atm) (ha : at_[k]? = some a) (hb : a.br = false) : hyTo l at_ (k + 1) = (hyTo l at_ k).set k { a with hy := implied a (Bz.sum l k) } := by
  apply List.ext_getElem?
  intro i
  rw [List.getElem?_set, hyTo_get, hyTo_get]
  have hk : k < (hyTo l at_ k).length := by rw [hyTo_len]; exact (List.getElem?_eq_some_iff.1 ha).1
  by_cases e : k = i
  · subst e
    rw [if_pos rfl, if_pos hk, ha]
    simp only [Option.map_some, Option.some.injEq]
    rw [if_pos (by omega)]
    unfold withHydrogens
    rw [hb]; rfl
  · rw [if_neg e]
    cases hi : at_[i]? with
    | none => rfl
    | some b =>
      simp only [Option.map_some, Option.some.injEq]
      by_cases e2 : i < k
      · rw [if_pos (by omega), if_pos e2]
      · rw [if_neg (by omega), if_neg e2]

theorem hyTo_at (l : List Bnd) (at_ : List Atm) (k : Nat) : (hyTo l at_ k)[k]? = at_[k]? := by
  rw [hyTo_get]
  cases at_[k]? with
  | none => rfl
  | some a => simp

theorem hyTo_all (l : List Bnd) (at_ : List Atm) : hyTo l at_ at_.length = at_.mapIdx (withHydrogens l) := by
  apply List.ext_getElem?
  intro i
  rw [hyTo_get, List.getElem?_mapIdx]
  cases hi : at_[i]? with
  | none => rfl
  | some a => simp only [Option.map_some]; rw [if_pos (List.getElem?_eq_some_iff.1 hi).1]

theorem hyTo_zero (l : List Bnd) (at_ : List Atm) : hyTo l at_ 0 = at_ := by
  apply List.ext_getElem?
  intro i
  rw [hyTo_get]
  cases at_[i]? <;> simp

theorem other_block {w : World} {g L i j : Nat} (h : L ≠ g) (u : Value) : (w.setCell ⟨g, i, none⟩ u).cell? ⟨L, j, none⟩ = w.cell? ⟨L, j, none⟩ :=
  World.cell?_setCell_other w _ _ u (fun e => h (by simpa using (congrArg Addr.block e).symm))

set_option maxRecDepth 100000 in
set_option maxHeartbeats 2000000 in
theorem setHydrogens_any (h : Rd w B s p) (o : Ok s p) (hs : s.size ≤ 160) (hne : 0 < p.atoms.length) :
    Calls Tryz.prog 82 #[.pointer (some ⟨B, 2, none⟩)] w fun e w' => e = .returned (.tuple #[]) ∧ Rd w' B s { p with atoms := p.atoms.mapIdx (withHydrogens p.bonds) } ∧ Fr B w w' := by
  obtain ⟨g, cap, hsl, _, _, hBg, hgl⟩ := h.atomsAt hne
  have hn := o.atoms
  have HALL : Hid _ := hyTo_all p.bonds p.atoms
  go_enter Tryz.func82, Tryz.ntmps82
  go_wp2_with fail
  go_loopg [9] (p.atoms.length + 1) (fun k vi wr => ∃ i : Nat, i ≤ p.atoms.length ∧ p.atoms.length - i ≤ k ∧ vi = .int .i64 i ∧ Rd wr B s { p with atoms := hyTo p.bonds p.atoms i } ∧ wr.cell? ⟨B, 26, none⟩ = some (.slice (some ⟨g, 0, none⟩) p.atoms.length cap) ∧ Fr B w wr)
  case atStart => exact ⟨0, by omega, by omega, rfl, by rw [hyTo_zero]; exact h, hsl, Fr.refl _ _⟩
  case round =>
    obtain ⟨i, hi, hk, rfl, hr, hs26, hf⟩ := hrel
    by_cases hlt : i < p.atoms.length
    · have gi := List.getElem?_eq_getElem hlt
      have gi2 : (hyTo p.bonds p.atoms i)[i]? = some p.atoms[i] := (hyTo_at _ _ _).trans gi
      have hlt' : (i : Int) < (p.atoms.length : Int) := by omega
      obtain ⟨g', cap', hA, hg'⟩ := hr.atI (i := i) gi2
      have e1 := hA.sl
      rw [hs26] at e1
      simp only [Option.some.injEq, Value.slice.injEq, Addr.mk.injEq, and_true] at e1
      obtain ⟨rfl, e2, rfl⟩ := e1
      clear e2
      generalize p.atoms[i] = a at *
      have q1 := hA.c0
      have q2 := hA.c1
      have q3 := hA.c2
      have q4 := hA.c3
      have q5 := hA.c4
      have q6 := hA.c5
      clear hA
      cases hbr : a.br
      · rw [hbr] at q6
        have HE : Hid _ := hyTo_set p.bonds p.atoms i a gi hbr
        clear hbr
        have hB2 := hr.lt
        have hsb := sum_bound o hs i
        have W0 : Below wr.heap.size wr (wr.alloc (.cells #[.string a.el, .bool a.aro, .int .i64 a.ch, .int .i64 a.hy, .int .i64 a.pl, .bool false] 124)).drew := ((Below.refl _ _).alloc (Nat.le_refl _) _).drew
        have hrs : ∀ j, wr.frozen? ⟨g, j, none⟩ = false := by
          obtain ⟨g2, cap2, hv2, _, hfz, _, _⟩ := hr.atomsAt (by show 0 < (hyTo p.bonds p.atoms i).length; rw [hyTo_len]; omega)
          rw [hs26] at hv2
          simp only [Option.some.injEq, Value.slice.injEq, Addr.mk.injEq, and_true] at hv2
          rw [hv2.1]
          exact hfz
        have hfr3 := hrs (i * 6 + 3)
        have cells : ∀ wx, Below (wr.heap.size + 1) (wr.alloc (.cells #[.string a.el, .bool a.aro, .int .i64 a.ch, .int .i64 a.hy, .int .i64 a.pl, .bool false] 124)) wx →
            wx.cell? ⟨B, 26, none⟩ = some (.slice (some ⟨g, 0, none⟩) p.atoms.length cap) ∧ wx.cell? ⟨wr.heap.size, 0, none⟩ = some (.string a.el) ∧ wx.cell? ⟨wr.heap.size, 1, none⟩ = some (.bool a.aro) ∧ wx.cell? ⟨wr.heap.size, 2, none⟩ = some (.int .i64 a.ch) ∧ wx.cell? ⟨wr.heap.size, 3, none⟩ = some (.int .i64 a.hy) ∧
            wx.cell? ⟨g, i * 6 + 3, none⟩ = some (.int .i64 a.hy) ∧ wx.frozen? ⟨g, i * 6 + 3, none⟩ = false := by
          intro wx hb
          refine ⟨?_, ?_, ?_, ?_, ?_, ?_, ?_⟩
          · rw [hb.cell (p := ⟨B, 26, none⟩) (by simp; omega), World.cell?_alloc_lt _ _ _ hB2]; exact hs26
          · rw [hb.cell (p := ⟨wr.heap.size, 0, none⟩) (by simp)]; simp
          · rw [hb.cell (p := ⟨wr.heap.size, 1, none⟩) (by simp)]; simp
          · rw [hb.cell (p := ⟨wr.heap.size, 2, none⟩) (by simp)]; simp
          · rw [hb.cell (p := ⟨wr.heap.size, 3, none⟩) (by simp)]; simp
          · rw [hb.cell (p := ⟨g, i * 6 + 3, none⟩) (by simp; omega), World.cell?_alloc_lt _ _ _ hg']; exact q4
          · rw [hb.frozen (p := ⟨g, i * 6 + 3, none⟩) (by simp; omega), World.frozen?_alloc_past _ _ _ hg']; exact hfr3
        have HSu : Hid (∀ wx, Below (wr.heap.size + 1) (wr.alloc (.cells #[.string a.el, .bool a.aro, .int .i64 a.ch, .int .i64 a.hy, .int .i64 a.pl, .bool false] 124)) wx → Calls Tryz.prog 84 #[.pointer (some ⟨B, 2, none⟩), .int .i64 i] wx fun e w' => e = .returned (.int .i64 (Bz.sum p.bonds i)) ∧
            Below (wr.heap.size + 1) (wr.alloc (.cells #[.string a.el, .bool a.aro, .int .i64 a.ch, .int .i64 a.hy, .int .i64 a.pl, .bool false] 124)) w' ∧
            w'.cell? ⟨B, 26, none⟩ = some (.slice (some ⟨g, 0, none⟩) p.atoms.length cap) ∧ w'.cell? ⟨wr.heap.size, 0, none⟩ = some (.string a.el) ∧ w'.cell? ⟨wr.heap.size, 1, none⟩ = some (.bool a.aro) ∧ w'.cell? ⟨wr.heap.size, 2, none⟩ = some (.int .i64 a.ch) ∧ w'.cell? ⟨wr.heap.size, 3, none⟩ = some (.int .i64 a.hy) ∧
            w'.cell? ⟨g, i * 6 + 3, none⟩ = some (.int .i64 a.hy) ∧ w'.frozen? ⟨g, i * 6 + 3, none⟩ = false) := by
          intro wx hb
          have hrx := (hr.alloc (.cells #[.string a.el, .bool a.aro, .int .i64 a.ch, .int .i64 a.hy, .int .i64 a.pl, .bool false] 124)).belowAt (by simpa using hb)
          refine (sum_any hrx i (by have := o.bonds; have := o.pos; show p.bonds.length ≤ 1000; omega) o.ords).mono ?_
          rintro e w' ⟨he, hb'⟩
          have hb2 := hb.trans (hb'.mono (by have := hb.size; simpa using this))
          exact ⟨he, hb2, cells w' hb2⟩
        have HIm : Hid (∀ wx, Below (wr.heap.size + 1) (wr.alloc (.cells #[.string a.el, .bool a.aro, .int .i64 a.ch, .int .i64 a.hy, .int .i64 a.pl, .bool false] 124)) wx → Calls Tryz.prog 108 #[.agg #[.string a.el, .bool a.aro, .int .i64 a.ch, .int .i64 a.hy], .int .i64 (Bz.sum p.bonds i)] wx fun e w' => e = .returned (.int .i64 (implied a (Bz.sum p.bonds i))) ∧
            Below (wr.heap.size + 1) (wr.alloc (.cells #[.string a.el, .bool a.aro, .int .i64 a.ch, .int .i64 a.hy, .int .i64 a.pl, .bool false] 124)) w' ∧
            w'.cell? ⟨B, 26, none⟩ = some (.slice (some ⟨g, 0, none⟩) p.atoms.length cap) ∧ w'.cell? ⟨wr.heap.size, 0, none⟩ = some (.string a.el) ∧ w'.cell? ⟨wr.heap.size, 1, none⟩ = some (.bool a.aro) ∧ w'.cell? ⟨wr.heap.size, 2, none⟩ = some (.int .i64 a.ch) ∧ w'.cell? ⟨wr.heap.size, 3, none⟩ = some (.int .i64 a.hy) ∧
            w'.cell? ⟨g, i * 6 + 3, none⟩ = some (.int .i64 a.hy) ∧ w'.frozen? ⟨g, i * 6 + 3, none⟩ = false) := by
          intro wx hb
          refine (implied_any a (Bz.sum p.bonds i) ⟨hsb.1, by omega⟩ wx).mono ?_
          rintro e w' ⟨he, hb'⟩
          have hb2 := hb.trans (hb'.mono (by have := hb.size; simpa using this))
          exact ⟨he, hb2, cells w' hb2⟩
        have hbA : Below (wr.heap.size + 1) (wr.alloc (.cells #[.string a.el, .bool a.aro, .int .i64 a.ch, .int .i64 a.hy, .int .i64 a.pl, .bool false] 124)) (wr.alloc (.cells #[.string a.el, .bool a.aro, .int .i64 a.ch, .int .i64 a.hy, .int .i64 a.pl, .bool false] 124)).drew := (Below.refl _ _).drew
        have HFIN : Hid (∀ wx, Below (wr.heap.size + 1) (wr.alloc (.cells #[.string a.el, .bool a.aro, .int .i64 a.ch, .int .i64 a.hy, .int .i64 a.pl, .bool false] 124)) wx →
            Rd (wx.setCell ⟨g, i * 6 + 3, none⟩ (.int .i64 (implied a (Bz.sum p.bonds i)))) B s { p with atoms := hyTo p.bonds p.atoms (i + 1) } ∧ (wx.setCell ⟨g, i * 6 + 3, none⟩ (.int .i64 (implied a (Bz.sum p.bonds i)))).cell? ⟨B, 26, none⟩ = some (.slice (some ⟨g, 0, none⟩) p.atoms.length cap) ∧
            Fr B w (wx.setCell ⟨g, i * 6 + 3, none⟩ (.int .i64 (implied a (Bz.sum p.bonds i))))) := by
          intro wx hb
          have hrx := (hr.alloc (.cells #[.string a.el, .bool a.aro, .int .i64 a.ch, .int .i64 a.hy, .int .i64 a.pl, .bool false] 124)).belowAt (by simpa using hb)
          have c26 := (cells wx hb).1
          have hfx : Fr B w wx := (hf.alloc hB2 _).trans (Fr.below (by simp; omega) (by simpa using hb))
          have hset := hrx.setHy (i := i) (cap := cap) gi2 (by simp only [hyTo_len]; exact c26) (implied a (Bz.sum p.bonds i))
          rw [HE.out]
          refine ⟨hset, ?_, hfx.setRow (.inr (.inl ⟨_, c26, rfl⟩)) (show g ≠ B by omega) _⟩
          rw [other_block (by omega)]
          exact c26
        have hgB1 : B ≠ g := by omega
        have hgL : wr.heap.size ≠ g := by omega
        clear cells HE gi gi2 hrs
        generalize implied a (Bz.sum p.bonds i) = im at *
        generalize Bz.sum p.bonds i = sm at *
        go_wp2_with fail
        go_region_held3 (fun w' => w'.cell? ⟨B, 26, none⟩ = some (.slice (some ⟨g, 0, none⟩) p.atoms.length cap) ∧ w'.cell? ⟨wr.heap.size, 0, none⟩ = some (.string a.el) ∧ w'.cell? ⟨wr.heap.size, 1, none⟩ = some (.bool a.aro) ∧ w'.cell? ⟨wr.heap.size, 2, none⟩ = some (.int .i64 a.ch) ∧ w'.cell? ⟨wr.heap.size, 3, none⟩ = some (.int .i64 a.hy)) (first | with_reducible exact ⟨(other_block hgB1 _).trans j0, (other_block hgL _).trans j1, (other_block hgL _).trans j2, (other_block hgL _).trans j3, (other_block hgL _).trans j4⟩ | go_keep) (first | (go_at_call 84; refine (HSu.out _ (by assumption)).mono ?_; rintro e w' ⟨rfl, hb, i0, i1, i2, i3, i4, i5, i6⟩) | (go_at_call 108; refine (HIm.out _ (by assumption)).mono ?_; rintro e w' ⟨rfl, hb', j0, j1, j2, j3, j4, j5, j6⟩))
        all_goals
          go_wp2_with fail
          go_roundg (p.atoms.length - (i + 1))
          case measure => omega
          case rel =>
            have X := HFIN.out _ hb'
            exact ⟨i + 1, by omega, Nat.le_refl _, by go_num, X.1, X.2.1, X.2.2⟩
      · rw [hbr] at q6
        have HE : Hid _ := hyTo_br p.bonds p.atoms i a gi hbr
        have hB2 := hr.lt
        clear hbr gi gi2
        go_wp2_with fail
        go_roundg (p.atoms.length - (i + 1))
        case measure => omega
        case rel => exact ⟨i + 1, by omega, Nat.le_refl _, by go_num, by rw [HE.out]; exact hr.alloc _, by rw [World.cell?_alloc_lt _ _ _ hB2]; exact hs26, hf.alloc hB2 _⟩
    · have hlt' : ¬ (i : Int) < (p.atoms.length : Int) := by omega
      have hi' : i = p.atoms.length := by omega
      rw [hi', HALL.out] at hr
      clear hi'
      go_wp2_with fail
      go_end0
      exact ⟨rfl, hr, hf⟩
end
end Go.Proofs.YtcabaecbmkgclaaGreatDoor

namespace Go.Proofs.YtcabaecbmkgclaaGreatDoor
open Go.RowKit Bz

section
variable {w : World} {B : Nat} {s : ByteArray} {p : St}

def ringList (f : Nat → Option Opn) : Nat → List Value
  | 0 => []
  | n + 1 => ringList f n ++ opnCells (f n)

theorem ringList_len (f : Nat → Option Opn) : ∀ n, (ringList f n).length = n * 5
  | 0 => rfl
  | n + 1 => by rw [ringList, List.length_append, ringList_len f n, opnCells_length]; omega

theorem ringList_get (f : Nat → Option Opn) : ∀ (n m j : Nat), m < n → j < 5 → (ringList f n)[m * 5 + j]? = (opnCells (f m))[j]?
  | 0, _, _, h, _ => absurd h (Nat.not_lt_zero _)
  | n + 1, m, j, h, hj => by
    rw [ringList]
    by_cases e : m = n
    · subst e
      rw [List.getElem?_append_right (by rw [ringList_len]; omega), ringList_len]
      congr 1
      omega
    · rw [List.getElem?_append_left (by rw [ringList_len]; omega)]
      exact ringList_get f n m j (by omega) hj

theorem Rd.ringRange (h : Rd w B s p) : w.rangeAt B 30 (ringList p.rings 100) := by
  intro j v hj
  have hl : j < 500 := by
    have := (List.getElem?_eq_some_iff.1 hj).1
    rwa [ringList_len] at this
  have hd : j = (j / 5) * 5 + j % 5 := by omega
  rw [hd, ringList_get p.rings 100 (j / 5) (j % 5) (by omega) (by omega)] at hj
  have := h.rings (j / 5) (j % 5) v (by omega) hj
  rw [hd, ← Nat.add_assoc]
  exact this

theorem Tryz.sizeOpen : (Tryz.prog.info? 94).map (·.size) = some 5 := by kernel_rfl
theorem Tryz.sizeRings : (Tryz.prog.info? 95).map (·.size) = some 500 := by kernel_rfl

theorem ring_extract (f : Nat → Option Opn) (i : Nat) (hi : i < 100) : (ringList f 100).toArray.extract (i * 5) (i * 5 + 5) = (opnCells (f i)).toArray := by
  apply Array.toList_inj.1
  rw [Array.toList_extract]
  apply List.ext_getElem?
  intro k
  simp only [List.extract_eq_take_drop, List.getElem?_take, List.getElem?_drop]
  by_cases hk : k < 5
  · rw [if_pos (by omega), ringList_get f 100 i k hi hk]
  · rw [if_neg (by omega)]
    symm
    rw [List.getElem?_eq_none]
    rw [opnCells_length]
    omega

theorem index_ring (f : Nat → Option Opn) (i : Nat) (hi : i < 100) (w : World) :
    (Instr.index 95 (.agg (ringList f 100).toArray) (.int .i64 i)).run Tryz.prog w = .ok (.agg (opnCells (f i)).toArray) w := by
  have hs := Tryz.sizeOpen
  cases hq : Tryz.prog.info? 94 with
  | none => rw [hq] at hs; cases hs
  | some q =>
    rw [hq] at hs
    simp only [Option.map_some, Option.some.injEq] at hs
    rw [← ring_extract f i hi]
    have h1 : (0 : Int) ≤ (i : Int) ∧ (i : Int) < 100 := by omega
    have hp : (Go.part 94 (ringList f 100).toArray (i * 5)).run Tryz.prog w = .ok (.agg ((ringList f 100).toArray.extract (i * 5) (i * 5 + 5))) w := by
      simp [Go.part, isAgg, run_underlying Tryz.underlying94, sizeOf, typeInfo, hq, hs]
    simp [Instr.index, asIntOf, run_underlying Tryz.underlying95, sizeOf, typeInfo, hq, hs, h1, hp]
    intro hge
    omega

def RcPost (w : World) (B : Nat) (s : ByteArray) (p : St) (e : Ending) (w' : World) : Prop :=
  if leftmost p.rings s.size 100 < s.size then e = .returned (.bool false) ∧ Wrong w' B (4, (leftmost p.rings s.size 100 : Nat)) ∧ Fr B w w'
  else e = .returned (.bool true) ∧ Rd w' B s p ∧ Fr B w w'

theorem leftmost_le (f : Nat → Option Opn) (d : Nat) : ∀ n, leftmost f d n ≤ d
  | 0 => Nat.le_refl _
  | n + 1 => by
    rw [leftmost]
    split
    · have := leftmost_le f d n; omega
    · exact leftmost_le f d n

set_option maxRecDepth 100000 in
set_option maxHeartbeats 2000000 in
theorem ringsClosed_any (h : Rd w B s p) (_hs : s.size ≤ 160) :
    Calls Tryz.prog 58 #[.pointer (some ⟨B, 0, none⟩)] w (RcPost w B s p) := by
  have hB := h.lt
  have ht := h.text
  have HIX : Hid (∀ i, i < 100 → ∀ w, (Instr.index 95 (.agg (ringList p.rings 100).toArray) (.int .i64 (i : Nat))).run Tryz.prog w = .ok (.agg (opnCells (p.rings i)).toArray) w) := fun i hi w => index_ring p.rings i hi w
  go_enter Tryz.func58, Tryz.ntmps58
  go_wp2_with (refine wpList_load_mid rfl 95 _ rfl B 30 rfl (ringList p.rings 100) _ h.ringRange Tryz.underlying95 rfl (by rw [ringList_len]; exact Tryz.sizeRings) ?_)
  go_loopg [3, 16] 101 (fun k vp vi wr => ∃ i : Nat, i ≤ 100 ∧ 100 - i ≤ k ∧ vi = .int .i64 i ∧ vp = .int .i64 (leftmost p.rings s.size i : Nat) ∧ Below w.heap.size w wr)
  case atStart => exact ⟨0, by omega, by omega, rfl, rfl, Below.refl _ _⟩
  case round =>
    obtain ⟨i, hi, hk, rfl, rfl, hb⟩ := hrel
    have hsz := hb.size
    by_cases hlt : i < 100
    · have hix := fun w => HIX.out i hlt w
      have hlt' : (i : Int) < 100 := by omega
      cases hr : p.rings i with
      | none =>
        rw [hr] at hix
        simp only [opnCells] at hix
        have HE : Hid (leftmost p.rings s.size (i + 1) = leftmost p.rings s.size i) := by unfold Hid; rw [leftmost, hr]
        clear hr
        go_wp2_with fail
        go_roundg (100 - (i + 1))
        case measure => omega
        case rel => exact ⟨i + 1, by omega, Nat.le_refl _, by go_num, by rw [HE.out], hb.alloc hsz _⟩
      | some o =>
        rw [hr] at hix
        simp only [opnCells] at hix
        have HE : Hid (leftmost p.rings s.size (i + 1) = min (leftmost p.rings s.size i) o.place) := by unfold Hid; rw [leftmost, hr]
        clear hr
        generalize leftmost p.rings s.size i = lm at *
        by_cases hmin : o.place < lm
        · have hmin' : (o.place : Int) < (lm : Int) := by omega
          have HE2 : Hid (leftmost p.rings s.size (i + 1) = o.place) := by unfold Hid; rw [HE.out]; omega
          clear HE hmin
          go_wp2_with fail
          go_roundg (100 - (i + 1))
          case measure => omega
          case rel => exact ⟨i + 1, by omega, Nat.le_refl _, by go_num, by rw [HE2.out], hb.alloc hsz _⟩
        · have hmin' : ¬ (o.place : Int) < (lm : Int) := by omega
          have HE2 : Hid (leftmost p.rings s.size (i + 1) = lm) := by unfold Hid; rw [HE.out]; omega
          clear HE hmin
          go_wp2_with fail
          go_roundg (100 - (i + 1))
          case measure => omega
          case rel => exact ⟨i + 1, by omega, Nat.le_refl _, by go_num, by rw [HE2.out], hb.alloc hsz _⟩
    · obtain rfl : i = 100 := by omega
      have ht2 := (hb.cell (p := ⟨B, 0, none⟩) hB).trans ht
      have hrb := h.below hb
      have hfb := Fr.below hB hb
      by_cases hle : leftmost p.rings s.size 100 < s.size
      · have HP : Hid (∀ e w', RcPost w B s p e w' = (e = .returned (.bool false) ∧ Wrong w' B (4, (leftmost p.rings s.size 100 : Nat)) ∧ Fr B w w')) := by intro e w'; unfold RcPost; rw [if_pos hle]
        have hle' : ((leftmost p.rings s.size 100 : Nat) : Int) < (s.size : Int) := by omega
        have hfa := fail_any hrb 4 ((leftmost p.rings s.size 100 : Nat) : Int)
        clear hle
        generalize leftmost p.rings s.size 100 = lm at *
        go_wp2_with fail
        refine hfa.mono ?_
        rintro e w' ⟨rfl, hw, hf6⟩
        go_wp2_with fail
        go_ret
        rw [HP.out]
        exact ⟨rfl, hw, hfb.trans hf6⟩
      · have HP : Hid (∀ e w', RcPost w B s p e w' = (e = .returned (.bool true) ∧ Rd w' B s p ∧ Fr B w w')) := by intro e w'; unfold RcPost; rw [if_neg hle]
        have hle' : ¬ ((leftmost p.rings s.size 100 : Nat) : Int) < (s.size : Int) := by omega
        clear hle
        generalize leftmost p.rings s.size 100 = lm at *
        go_wp2_with fail
        go_ret
        rw [HP.out]
        exact ⟨rfl, hrb, hfb⟩
end
end Go.Proofs.YtcabaecbmkgclaaGreatDoor
