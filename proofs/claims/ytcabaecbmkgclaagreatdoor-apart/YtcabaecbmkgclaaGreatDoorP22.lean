/-
  Lists of pairs, rows of Booleans; what the document's edge does.
  What slices.Contains (over pairs), the molecule's Doubled and counted do.
  What the molecule's Doubled does.
  Of what was read: its bonds; the graph of its candidates.
-/
import Derived.Test.YtcabaecbmkgclaaGreatDoorP21
import Derived.OwnWalk

namespace Go.Proofs.YtcabaecbmkgclaaGreatDoor.Rf
open Go.RowKit Mt Mg

/-- A list of pairs of numbers that is read: it lies in block b from o on. -/
def NPr (w : World) (v : Value) (l : List (Nat × Nat)) : Prop := ∃ so cap, v = .slice so l.length cap ∧ l.length ≤ cap ∧ (l = [] ∨ ∃ b o, so = some ⟨b, o, none⟩ ∧ ∀ i a c : Nat, l[i]? = some (a, c) → w.cell? ⟨b, o + i * 2, none⟩ = some (.int .i64 (a : Int)) ∧ w.cell? ⟨b, o + i * 2 + 1, none⟩ = some (.int .i64 (c : Int)))

theorem NPr.at {w : World} {so : Option Addr} {n cap : Nat} {l : List (Nat × Nat)} (h : NPr w (.slice so n cap) l) {i a c : Nat} (hi : l[i]? = some (a, c)) : ∃ b o, so = some ⟨b, o, none⟩ ∧ w.cell? ⟨b, o + i * 2, none⟩ = some (.int .i64 (a : Int)) ∧ w.cell? ⟨b, o + i * 2 + 1, none⟩ = some (.int .i64 (c : Int)) := by
  obtain ⟨so', cap', e, _, hl⟩ := h
  simp only [Value.slice.injEq] at e
  obtain ⟨rfl, -, -⟩ := e
  rcases hl with rfl | ⟨b, o, rfl, hx⟩
  · simp at hi
  · exact ⟨b, o, rfl, hx i a c hi⟩

theorem NPr.same {w w' : World} {v : Value} {l : List (Nat × Nat)} (h : NPr w v l) (hs : ∀ so n cap b o, v = .slice so n cap → so = some ⟨b, o, none⟩ → b < w.heap.size → w'.heap[b]? = w.heap[b]?) : NPr w' v l := by
  obtain ⟨so, cap, rfl, hc, hl⟩ := h
  refine ⟨so, cap, rfl, hc, ?_⟩
  rcases hl with rfl | ⟨b, o, rfl, hx⟩
  · exact .inl rfl
  · refine .inr ⟨b, o, rfl, fun i a c hi => ?_⟩
    have hlt := World.block_lt_of_cell? w ⟨b, o + i * 2, none⟩ (hx i a c hi).1
    have hb := hs _ _ _ b o rfl rfl hlt
    exact ⟨(World.cell?_of_block (a := ⟨b, o + i * 2, none⟩) hb).trans (hx i a c hi).1, (World.cell?_of_block (a := ⟨b, o + i * 2 + 1, none⟩) hb).trans (hx i a c hi).2⟩

theorem NPr.below {w w' : World} {v : Value} {l : List (Nat × Nat)} (h : NPr w v l) (hb : Below w.heap.size w w') : NPr w' v l := h.same fun _ _ _ b _ _ _ hlt => hb.block b hlt

theorem pairCells_at {l : List (Nat × Nat)} {i a c : Nat} (h : l[i]? = some (a, c)) : (pairCells l)[i * 2]? = some (.int .i64 (a : Int)) ∧ (pairCells l)[i * 2 + 1]? = some (.int .i64 (c : Int)) := by
  induction l generalizing i with
  | nil => simp at h
  | cons p l ih =>
    have e : pairCells (p :: l) = .int .i64 (p.1 : Int) :: .int .i64 (p.2 : Int) :: pairCells l := by simp [pairCells]
    rw [e]
    cases i with
    | zero =>
      simp at h
      subst h
      exact ⟨rfl, rfl⟩
    | succ i =>
      simp only [List.getElem?_cons_succ] at h
      obtain ⟨h1, h2⟩ := ih h
      rw [show (i + 1) * 2 = i * 2 + 1 + 1 by omega]
      simp only [List.getElem?_cons_succ]
      exact ⟨h1, h2⟩

theorem ownsRow_cap {w : World} {base : Nat} {e : TypeId} {size : Nat} {so : Option Addr} {n cap : Nat} {xs : List Value} (h : w.ownsRow base e size (.slice so n cap) n xs) : n ≤ cap := by
  rcases h.2 with ⟨e, rfl⟩ | ⟨g, cap', cur, e, _, _, hnc, _⟩
  · exact Nat.zero_le _
  · simp only [Value.slice.injEq] at e
    obtain ⟨-, -, rfl⟩ := e
    exact hnc

theorem NPr.of {w : World} {base : Nat} {v : Value} {l : List (Nat × Nat)} (h : Prs w base v l) : NPr w v l := by
  obtain ⟨so, cap, rfl⟩ := ownsRow_shape h
  refine ⟨so, cap, rfl, ownsRow_cap h, ?_⟩
  by_cases hl : l = []
  · exact .inl hl
  · obtain ⟨g, cap', e, _, _, hc, _⟩ := ownsRow_at h (List.length_pos_iff.2 hl)
    simp only [Value.slice.injEq, true_and] at e
    obtain ⟨rfl, rfl⟩ := e
    refine .inr ⟨g, 0, rfl, fun i a c hi => ?_⟩
    have hil := (List.getElem?_eq_some_iff.1 hi).1
    obtain ⟨h1, h2⟩ := pairCells_at hi
    rw [Nat.zero_add]
    exact ⟨(hc _ (by omega)).trans h1, (hc _ (by omega)).trans h2⟩

theorem adjL_take_no {l : List (Nat × Nat)} {i x y a b : Nat} (h : adjL (l.take i) a b = false) (hi : l[i]? = some (x, y)) (h1 : ¬ (x = a ∧ y = b)) (h2 : ¬ (x = b ∧ y = a)) : adjL (l.take (i + 1)) a b = false := by
  rw [take_snoc hi]
  unfold adjL at *
  rw [List.any_append, h]
  simp
  exact ⟨fun k1 k2 => h1 ⟨k1, k2⟩, fun k1 k2 => h2 ⟨k1, k2⟩⟩

theorem adjL_yes {l : List (Nat × Nat)} {i x y a b : Nat} (hi : l[i]? = some (x, y)) (h : (x = a ∧ y = b) ∨ (x = b ∧ y = a)) : adjL l a b = true := by
  rcases h with ⟨rfl, rfl⟩ | ⟨rfl, rfl⟩
  · exact adjL_iff.2 (.inl (List.mem_of_getElem? hi))
  · exact adjL_iff.2 (.inr (List.mem_of_getElem? hi))

/-- Block U holds n Booleans. -/
structure Bls (w : World) (U n : Nat) (u : Nat → Bool) : Prop where
  cell : ∀ x, x < n → w.cell? ⟨U, x, none⟩ = some (.bool (u x))
  free : ∀ i, w.frozen? ⟨U, i, none⟩ = false

theorem Bls.set {w : World} {U n : Nat} {u : Nat → Bool} (h : Bls w U n u) {a : Nat} (ha : a < n) (b : Bool) : Bls (w.setCell ⟨U, a, none⟩ (.bool b)) U n (setAt u a b) := by
  refine ⟨fun k hk => ?_, fun i => by rw [World.frozen?_setCell]; exact h.free i⟩
  by_cases e : k = a
  · subst e
    rw [World.cell?_setCell_same w _ _ (h.cell k hk)]
    simp [setAt]
  · rw [cell_set_ne (fun e' => e e'.symm)]
    simp only [setAt, if_neg e]
    exact h.cell k hk

theorem Bls.same {w w' : World} {U n : Nat} {u : Nat → Bool} (h : Bls w U n u) (hs : w'.heap[U]? = w.heap[U]?) : Bls w' U n u :=
  ⟨fun k hk => (World.cell?_of_block (a := ⟨U, k, none⟩) hs).trans (h.cell k hk), fun i => (World.frozen?_of_block (a := ⟨U, i, none⟩) hs).trans (h.free i)⟩

def Away (v : Value) (U : Nat) : Prop := ∀ b o n c, v = .slice (some ⟨b, o, none⟩) n c → b ≠ U

theorem NPr.mfr {w w' : World} {v : Value} {l : List (Nat × Nat)} {U : Nat} (h : NPr w v l) (ha : Away v U) (hf : MFr U w w') : NPr w' v l :=
  h.same fun so n cap b o hv hso hlt => hf.block b hlt (ha b o n cap (by rw [hv, hso]))

def castL (l : List (Nat × Nat)) : List (Int × Int) := l.map fun p => ((p.1 : Int), (p.2 : Int))

theorem castL_len (l : List (Nat × Nat)) : (castL l).length = l.length := by simp [castL]
theorem natL_castL (l : List (Nat × Nat)) : natL (castL l) = l := by
  unfold natL castL
  rw [List.map_map]
  conv => rhs; rw [← List.map_id l]
  exact List.map_congr_left fun p _ => by simp

theorem okG_castL {k : Nat} {l : List (Nat × Nat)} (hk : k ≤ 24) (h : EdOk k l) : okG (k : Int) (castL l) = true := by
  unfold okG
  rw [decide_eq_true (by omega), decide_eq_true (by omega)]
  simp only [Bool.and_self, Bool.true_and]
  rw [List.all_eq_true]
  intro p hp
  obtain ⟨q, hq, rfl⟩ := List.mem_map.1 hp
  obtain ⟨h1, h2, h3⟩ := h q hq
  exact edgeOk_yes (inR_iff.2 ⟨by omega, by omega⟩) (inR_iff.2 ⟨by omega, by omega⟩) (by simp; omega)

theorem NPr.ipr {w : World} {v : Value} {l : List (Nat × Nat)} (h : NPr w v l) : IPr w v (castL l) := by
  obtain ⟨so, cap, rfl, _, hl⟩ := h
  refine ⟨so, cap, by rw [castL_len], fun i a c hi => ?_⟩
  unfold castL at hi
  rw [List.getElem?_map] at hi
  cases hq : l[i]? with
  | none => rw [hq] at hi; cases hi
  | some q =>
    rw [hq] at hi
    simp only [Option.map_some, Option.some.injEq, Prod.mk.injEq] at hi
    obtain ⟨rfl, rfl⟩ := hi
    rcases hl with rfl | ⟨b, o, rfl, hx⟩
    · simp at hq
    · exact ⟨b, o, rfl, hx i q.1 q.2 hq⟩

/-- What Match hands back where the edges are between k numbers. -/
def MnIs (w : World) (k : Nat) (l : List (Nat × Nat)) (e : Ending) (w' : World) : Prop :=
  ∃ mate f h, Best (grL k l) mate f h ∧ ∃ pv uv, e = .returned (.tuple #[pv, uv, .int .i64 0]) ∧ Prs w' w.heap.size pv (pairsF k mate) ∧ Ints w' w.heap.size uv (barF k f) ∧ Below w.heap.size w w'

theorem matchN_any (w : World) {v : Value} {l : List (Nat × Nat)} (h : NPr w v l) {k : Nat} (hk : k ≤ 24) (E : EdOk k l) (hl : l.length ≤ 1000000000000000) :
    Calls Tryz.prog 46 #[.int .i64 (k : Int), v] w fun e w' => MnIs w k l e w' := by
  refine (match_any w h.ipr (k : Int) (by rw [castL_len]; exact hl)).mono ?_
  rintro e w' ⟨hb, ⟨_, mate, f, h, hB, pv, uv, rfl, hP, hU⟩ | ⟨hno, _⟩⟩
  · rw [natL_castL, show ((k : Int).toNat) = k by omega] at hB
    rw [show ((k : Int).toNat) = k by omega] at hP hU
    exact ⟨mate, f, h, hB, pv, uv, rfl, hP, hU, hb⟩
  · rw [okG_castL hk E] at hno
    cases hno

theorem Away.of {w : World} {base : Nat} {l : List (Nat × Nat)} {so : Option Addr} {n m cap : Nat} (h : Prs w base (.slice so n cap) l) {U : Nat} (hU : w.heap.size ≤ U) : Away (.slice so m cap) U := by
  intro b o n' c' e
  simp only [Value.slice.injEq] at e
  obtain ⟨rfl, -, -⟩ := e
  have := (h.lt b rfl).2
  omega

theorem Bls.made {w : World} {base U n : Nat} (h : w.ownsRow base 4 1 (.slice (some ⟨U, 0, none⟩) n n) n (madeCells #[.bool false] n).toList) : Bls w U n fun _ => false := by
  refine ⟨fun x hx => ?_, fun i => ?_⟩
  · obtain ⟨g, cap, e, _, _, hc, hf⟩ := ownsRow_at h (by omega)
    simp only [Value.slice.injEq, Option.some.injEq, Addr.mk.injEq, and_true, true_and] at e
    obtain ⟨rfl, -⟩ := e
    rw [hc x (by omega), toList_madeCells_one]
    simp [hx]
  · rcases h.2 with ⟨e, _⟩ | ⟨g, cap, cur, e, _⟩
    · simp at e
    · exact h.frozenAt i

theorem Tryz.infoBool : (Tryz.prog.info? 4).map (fun i => (i.zero, i.size, i.bytes)) = some (some (.bool false), 1, 1) := by kernel_rfl

theorem Bls.below {w w' : World} {U n : Nat} {u : Nat → Bool} (h : Bls w U n u) (hn : 0 < n) (hb : Below w.heap.size w w') : Bls w' U n u :=
  h.same (hb.block U (World.block_lt_of_cell? w ⟨U, 0, none⟩ (h.cell 0 hn)))

/-- Booleans in block U; nothing else that was there has turned. -/
structure ShAt (wb wr : World) (U k : Nat) (u : Nat → Bool) : Prop where
  bls : Bls wr U k u
  fr : MFr U wb wr
  lt : U < wb.heap.size

theorem ShAt.alloc {wb wr : World} {U k : Nat} {u : Nat → Bool} (h : ShAt wb wr U k u) (ob : Obj) : ShAt wb (wr.alloc ob) U k u :=
  ⟨h.bls.same (heap_alloc_lt _ _ _ (Nat.lt_of_lt_of_le h.lt h.fr.size)), h.fr.trans (MFr.of_below ((Below.refl _ wr).alloc (Nat.le_refl _) _)), h.lt⟩
theorem ShAt.drewN {wb wr : World} {U k : Nat} {u : Nat → Bool} (h : ShAt wb wr U k u) (m : Nat) : ShAt wb (wr.drewN m) U k u := ⟨h.bls.same rfl, h.fr.drewN m, h.lt⟩
theorem ShAt.set {wb wr : World} {U k : Nat} {u : Nat → Bool} (h : ShAt wb wr U k u) {a : Nat} (ha : a < k) (b : Bool) : ShAt wb (wr.setCell ⟨U, a, none⟩ (.bool b)) U k (setAt u a b) := ⟨h.bls.set ha b, h.fr.set _ _, h.lt⟩

theorem Ints.away {w w' : World} {base : Nat} {v : Value} {l : List Nat} (h : Ints w base v l) {U : Nat} (hU : w.heap.size ≤ U) (wb : World) (hb : Below w.heap.size w wb) (hf : MFr U wb w') : Ints w' base v l :=
  ownsRow_same h fun k hk => by
    have := (h.lt k hk).2
    exact (hf.block k (Nat.lt_of_lt_of_le this hb.size) (by omega)).trans (hb.block k this)

theorem wrap_small (i : Nat) (h : i < 1000000) : IntKind.i64.wrap (i : Int) = (i : Int) := by
  simp only [IntKind.wrap, IntKind.signed, IntKind.bits]
  simp
  omega

set_option maxRecDepth 100000 in
set_option maxHeartbeats 1000000 in
theorem redge_any (w : World) {v : Value} {l : List (Nat × Nat)} (h : NPr w v l) (a b : Nat) (hl : l.length ≤ 1000000000000000) :
    Calls Tryz.prog 76 #[v, .int .i64 (a : Int), .int .i64 (b : Int)] w fun e w' => e = .returned (.bool (adjL l a b)) ∧ w' = w := by
  have HR : Hid (NPr w v l) := h
  obtain ⟨so, cap, hv, hcap, hcc⟩ := h
  subst hv
  clear hcc
  go_enter Tryz.func76, Tryz.ntmps76
  go_wp2_with fail
  go_loopg [7] (l.length + 1) (fun k v7 wr => ∃ i : Nat, i ≤ l.length ∧ l.length - i < k ∧ v7 = .int .i64 (i : Nat) ∧ adjL (l.take i) a b = false ∧ w = wr)
  case atStart => exact ⟨0, by omega, by omega, rfl, rfl, rfl⟩
  case round =>
    obtain ⟨i, hi, hk, rfl, hno, hw⟩ := hrel
    subst hw
    have HNO : Hid (adjL (l.take i) a b = false) := hno
    clear hno
    by_cases hlt : i < l.length
    · have hlt' : (i : Int) < (l.length : Int) := by omega
      obtain ⟨x, y, gi⟩ : ∃ x y, l[i]? = some (x, y) := ⟨_, _, List.getElem?_eq_getElem hlt⟩
      obtain ⟨bb, oo, hso, c0, c1⟩ := HR.out.at gi
      subst hso
      have HGI : Hid (l[i]? = some (x, y)) := gi
      clear gi
      by_cases k1 : x = a
      · have k1' : ((x : Int) == (a : Int)) = true := by simp; omega
        have K1 : Hid (x = a) := k1
        clear k1
        by_cases k2 : y = b
        · have k2' : ((y : Int) == (b : Int)) = true := by simp; omega
          have K2 : Hid (y = b) := k2
          clear k2
          have HE : Hid (adjL l a b = true) := adjL_yes HGI.out (.inl ⟨K1.out, K2.out⟩)
          go_wp2_with fail
          go_ret
          exact ⟨by rw [HE.out]; rfl, rfl⟩
        · have k2' : ((y : Int) == (b : Int)) = false := by simp; omega
          have K2 : Hid (¬ y = b) := k2
          clear k2
          by_cases k3 : x = b
          · have k3' : ((x : Int) == (b : Int)) = true := by simp; omega
            have K3 : Hid (x = b) := k3
            clear k3
            by_cases k4 : y = a
            · have k4' : ((y : Int) == (a : Int)) = true := by simp; omega
              have K4 : Hid (y = a) := k4
              clear k4
              have HE : Hid (adjL l a b = true) := adjL_yes HGI.out (.inr ⟨K3.out, K4.out⟩)
              go_wp2_with fail
              go_ret
              exact ⟨by rw [HE.out]; rfl, rfl⟩
            · have k4' : ((y : Int) == (a : Int)) = false := by simp; omega
              have K4 : Hid (¬ y = a) := k4
              clear k4
              have HN : Hid (adjL (l.take (i + 1)) a b = false) := adjL_take_no HNO.out HGI.out (fun k => K2.out k.2) (fun k => K4.out k.2)
              go_wp2_with fail
              go_roundg (l.length - i)
              case measure => omega
              case rel => exact ⟨i + 1, by omega, by omega, by go_num, HN.out, rfl⟩
          · have k3' : ((x : Int) == (b : Int)) = false := by simp; omega
            have K3 : Hid (¬ x = b) := k3
            clear k3
            have HN : Hid (adjL (l.take (i + 1)) a b = false) := adjL_take_no HNO.out HGI.out (fun k => K2.out k.2) (fun k => K3.out k.1)
            go_wp2_with fail
            go_roundg (l.length - i)
            case measure => omega
            case rel => exact ⟨i + 1, by omega, by omega, by go_num, HN.out, rfl⟩
      · have k1' : ((x : Int) == (a : Int)) = false := by simp; omega
        have K1 : Hid (¬ x = a) := k1
        clear k1
        by_cases k3 : x = b
        · have k3' : ((x : Int) == (b : Int)) = true := by simp; omega
          have K3 : Hid (x = b) := k3
          clear k3
          by_cases k4 : y = a
          · have k4' : ((y : Int) == (a : Int)) = true := by simp; omega
            have K4 : Hid (y = a) := k4
            clear k4
            have HE : Hid (adjL l a b = true) := adjL_yes HGI.out (.inr ⟨K3.out, K4.out⟩)
            go_wp2_with fail
            go_ret
            exact ⟨by rw [HE.out]; rfl, rfl⟩
          · have k4' : ((y : Int) == (a : Int)) = false := by simp; omega
            have K4 : Hid (¬ y = a) := k4
            clear k4
            have HN : Hid (adjL (l.take (i + 1)) a b = false) := adjL_take_no HNO.out HGI.out (fun k => K1.out k.1) (fun k => K4.out k.2)
            go_wp2_with fail
            go_roundg (l.length - i)
            case measure => omega
            case rel => exact ⟨i + 1, by omega, by omega, by go_num, HN.out, rfl⟩
        · have k3' : ((x : Int) == (b : Int)) = false := by simp; omega
          have K3 : Hid (¬ x = b) := k3
          clear k3
          have HN : Hid (adjL (l.take (i + 1)) a b = false) := adjL_take_no HNO.out HGI.out (fun k => K1.out k.1) (fun k => K3.out k.1)
          go_wp2_with fail
          go_roundg (l.length - i)
          case measure => omega
          case rel => exact ⟨i + 1, by omega, by omega, by go_num, HN.out, rfl⟩
    · have hlt' : ¬ (i : Int) < (l.length : Int) := by omega
      have HE : Hid (adjL l a b = false) := by have := HNO.out; rw [List.take_of_length_le (by omega)] at this; exact this
      go_wp2_with fail
      go_ret
      exact ⟨by rw [HE.out]; rfl, rfl⟩
end Go.Proofs.YtcabaecbmkgclaaGreatDoor.Rf

namespace Go.Proofs.YtcabaecbmkgclaaGreatDoor.Kd
open Go.RowKit Bz Mt Mg Rf

section
variable {w : World} {B base : Nat} {s : ByteArray} {p : St}

set_option maxRecDepth 100000 in
set_option maxHeartbeats 2000000 in
theorem pindex_any (w : World) {v : Value} {l : List (Nat × Nat)} (h : NPr w v l) (a b : Nat) (hl : l.length ≤ 1000) :
    Calls Tryz.prog 88 #[v, .agg #[.int .i64 (a : Int), .int .i64 (b : Int)]] w fun e w' => ∃ r : Int, e = .returned (.int .i64 r) ∧ (0 ≤ r ↔ (a, b) ∈ l) ∧ Below w.heap.size w w' := by
  have HR : Hid (NPr w v l) := h
  have HB0 : Hid (Below w.heap.size w (w.alloc (.cells #[.int .i64 (a : Int), .int .i64 (b : Int)] 48))) := (Below.refl _ w).alloc (Nat.le_refl _) _
  have q0 : (w.alloc (.cells #[.int .i64 (a : Int), .int .i64 (b : Int)] 48)).cell? ⟨w.heap.size, 0, none⟩ = some (.int .i64 (a : Int)) := by rw [World.cell?_alloc_new]; rfl
  have q1 : (w.alloc (.cells #[.int .i64 (a : Int), .int .i64 (b : Int)] 48)).cell? ⟨w.heap.size, 1, none⟩ = some (.int .i64 (b : Int)) := by rw [World.cell?_alloc_new]; rfl
  obtain ⟨so, cap, hv, hcap, hcc⟩ := h
  subst hv
  clear hcc
  go_enter Tryz.func88, Tryz.ntmps88
  go_upto_region 1 with fail
  generalize w.alloc (.cells #[.int .i64 (a : Int), .int .i64 (b : Int)] 48) = wq at *
  have HQ : Hid (wq.cell? ⟨w.heap.size, 0, none⟩ = some (.int .i64 (a : Int)) ∧ wq.cell? ⟨w.heap.size, 1, none⟩ = some (.int .i64 (b : Int)) ∧ Below w.heap.size w wq) := ⟨q0, q1, HB0.out⟩
  clear q0 q1 HB0
  generalize hX : w.heap.size = X at *
  have HX : Hid (w.heap.size = X) := hX
  clear hX
  go_wp2_with fail
  go_loopg [8] (l.length + 1) (fun k v8 wr => ∃ i : Nat, i ≤ l.length ∧ l.length - i < k ∧ v8 = .int .i64 (i : Nat) ∧ (a, b) ∉ l.take i ∧ (wr.cell? ⟨X, 0, none⟩ = some (.int .i64 (a : Int)) ∧ wr.cell? ⟨X, 1, none⟩ = some (.int .i64 (b : Int)) ∧ Below X w wr))
  case atStart => exact ⟨0, by omega, by omega, rfl, by simp, HQ.out⟩
  case round =>
    clear HQ
    obtain ⟨i, hi, hk, rfl, hno, hat⟩ := hrel
    have HNO : Hid ((a, b) ∉ l.take i) := hno
    have HAT : Hid (wr.cell? ⟨X, 0, none⟩ = some (.int .i64 (a : Int)) ∧ wr.cell? ⟨X, 1, none⟩ = some (.int .i64 (b : Int)) ∧ Below X w wr) := hat
    clear hno hat
    by_cases hlt : i < l.length
    · have hlt' : (i : Int) < (l.length : Int) := by omega
      obtain ⟨x, y, gi⟩ : ∃ x y, l[i]? = some (x, y) := ⟨_, _, List.getElem?_eq_getElem hlt⟩
      obtain ⟨bb, oo, hso, c0, c1⟩ := (HR.out.below (by rw [HX.out]; exact HAT.out.2.2)).at gi
      subst hso
      have HGI : Hid (l[i]? = some (x, y)) := gi
      obtain ⟨q0, q1, _⟩ := HAT.out
      have HA2 : Hid (∀ n, (wr.drewN n).cell? ⟨X, 0, none⟩ = some (.int .i64 (a : Int)) ∧ (wr.drewN n).cell? ⟨X, 1, none⟩ = some (.int .i64 (b : Int)) ∧ Below X w (wr.drewN n)) := fun n => ⟨HAT.out.1, HAT.out.2.1, below_drewN HAT.out.2.2 n⟩
      clear gi
      by_cases hx : a = x ∧ b = y
      · have HY : Hid ((a, b) ∈ l) := by
          have := List.mem_of_getElem? HGI.out
          rw [← hx.1, ← hx.2] at this
          exact this
        obtain ⟨rfl, rfl⟩ := hx
        clear HAT
        go_wp2_with fail
        go_quiet (fail)
        go_wp2_with fail
        go_ret
        exact ⟨_, rfl, ⟨fun _ => HY.out, fun _ => by simp⟩, by rw [HX.out]; exact (HA2.out nq).2.2⟩
      · have HN : Hid ((a, b) ∉ l.take (i + 1)) := by
          rw [take_snoc HGI.out]
          intro hm
          rcases List.mem_append.1 hm with hm | hm
          · exact HNO.out hm
          · simp at hm
            exact hx hm
        by_cases hax : a = x
        · have hby : ¬ b = y := fun e => hx ⟨hax, e⟩
          subst hax
          have e1 : ((b : Int) == (y : Int)) = false := beq_false_of_ne (by omega)
          have e2 : ¬ ((b : Int) = (y : Int)) := by omega
          clear hx HAT
          go_wp2_with fail
          go_quiet (fail)
          go_wp2_with fail
          go_roundg (l.length - i)
          case measure => omega
          case rel => exact ⟨i + 1, by omega, by omega, by go_num, HN.out, HA2.out nq⟩
        · have e1 : ((a : Int) == (x : Int)) = false := beq_false_of_ne (by omega)
          have e2 : ¬ ((a : Int) = (x : Int)) := by omega
          clear hx HAT
          go_wp2_with fail
          go_quiet (fail)
          go_wp2_with fail
          go_roundg (l.length - i)
          case measure => omega
          case rel => exact ⟨i + 1, by omega, by omega, by go_num, HN.out, HA2.out nq⟩
    · have hlt' : ¬ (i : Int) < (l.length : Int) := by omega
      have HN : Hid ((a, b) ∉ l) := by have := HNO.out; rw [List.take_of_length_le (by omega)] at this; exact this
      go_wp2_with fail
      go_ret
      exact ⟨_, rfl, ⟨fun h => absurd h (by simp), fun h => absurd h HN.out⟩, by rw [HX.out]; exact HAT.out.2.2⟩

set_option maxRecDepth 100000 in
set_option maxHeartbeats 1000000 in
theorem pcontains_any (w : World) {v : Value} {l : List (Nat × Nat)} (h : NPr w v l) (a b : Nat) (hl : l.length ≤ 1000) :
    Calls Tryz.prog 66 #[v, .agg #[.int .i64 (a : Int), .int .i64 (b : Int)]] w fun e w' => e = .returned (.bool (decide ((a, b) ∈ l))) ∧ Below w.heap.size w w' := by
  have HI : Hid (∀ wx, Below w.heap.size w wx → Calls Tryz.prog 88 #[v, .agg #[.int .i64 (a : Int), .int .i64 (b : Int)]] wx fun e w' => ∃ r : Int, e = .returned (.int .i64 r) ∧ (0 ≤ r ↔ (a, b) ∈ l) ∧ Below w.heap.size w w') := fun wx hb => (pindex_any wx (h.below hb) a b hl).mono (by
    rintro e w' ⟨r, he, hr, hb'⟩
    exact ⟨r, he, hr, hb.trans (hb'.mono hb.size)⟩)
  have HB0 : Hid (∀ ob, Below w.heap.size w (w.alloc ob)) := fun ob => (Below.refl _ w).alloc (Nat.le_refl _) ob
  obtain ⟨so, cap, hv, hcap, hcc⟩ := h
  subst hv
  clear hcc
  go_enter Tryz.func66, Tryz.ntmps66
  go_wp2_with fail
  refine (HI.out _ (HB0.out _)).mono ?_
  rintro e w2 ⟨r, rfl, hr, hb⟩
  have HR : Hid (decide (0 ≤ r) = decide ((a, b) ∈ l)) := by
    unfold Hid
    by_cases h0 : 0 ≤ r
    · rw [decide_eq_true h0, decide_eq_true (hr.1 h0)]
    · rw [decide_eq_false h0, decide_eq_false (fun h1 => h0 (hr.2 h1))]
  have HB : Hid (Below w.heap.size w w2) := hb
  clear hr hb
  go_wp2_with fail
  go_ret
  exact ⟨Mg.ret_bool HR.out, HB.out⟩

/-- The order of a bond, when these pairs are double. -/
def ordN (P : List (Nat × Nat)) (b : Bnd) : Nat := if b.o = 4 then (if (b.a, b.b) ∈ P then 2 else 1) else b.o.toNat

/-- The first i of a list, zeros behind. -/
def osAt (f : List Nat) (n i : Nat) : List Nat := f.take i ++ List.replicate (n - i) 0

theorem osAt_len {f : List Nat} {n i : Nat} (hf : f.length = n) (hi : i ≤ n) : (osAt f n i).length = n := by unfold osAt; rw [List.length_append, List.length_take, List.length_replicate]; omega
theorem osAt_set {f : List Nat} {n i x : Nat} (hf : f.length = n) (hi : i < n) (hx : f[i]? = some x) : (osAt f n i).set i x = osAt f n (i + 1) := by
  have hl : (f.take i).length = i := by rw [List.length_take]; omega
  unfold osAt
  rw [take_snoc hx, List.set_append_right _ _ (by omega), hl, show i - i = 0 by omega, show n - i = (n - (i + 1)) + 1 by omega, List.replicate_succ, List.set_cons_zero, List.append_assoc]
  rfl
theorem osAt_zero (f : List Nat) (n : Nat) : osAt f n 0 = List.replicate n 0 := by unfold osAt; simp
theorem osAt_full {f : List Nat} {n : Nat} (hf : f.length = n) : osAt f n n = f := by unfold osAt; rw [List.take_of_length_le (by omega)]; simp

theorem ints_made {w : World} {base D n : Nat} (h : w.ownsRow base 3 1 (.slice (some ⟨D, 0, none⟩) n n) n (madeCells #[.int .i64 0] n).toList) : Ints w base (.slice (some ⟨D, 0, none⟩) n n) (List.replicate n 0) := by
  unfold Ints
  rw [List.length_replicate, show intCells (List.replicate n 0) = (madeCells #[.int .i64 0] n).toList by rw [toList_madeCells_one]; unfold intCells; rw [List.map_replicate]; rfl]
  exact h

/-- A row that is being written. -/
structure RwAt (w wr : World) (D n : Nat) (f : List Nat) (i : Nat) : Prop where
  row : Ints wr w.heap.size (.slice (some ⟨D, 0, none⟩) n n) (osAt f n i)
  below : Below w.heap.size w wr
  le : w.heap.size ≤ D

theorem RwAt.cell {w wr : World} {D n : Nat} {f : List Nat} {i : Nat} (h : RwAt w wr D n f i) (hf : f.length = n) (hi : i < n) : (∃ y : Nat, wr.cell? ⟨D, i, none⟩ = some (.int .i64 (y : Int))) ∧ wr.frozen? ⟨D, i, none⟩ = false := by
  have hl := osAt_len hf (Nat.le_of_lt hi)
  have hg : (osAt f n i)[i]? = some ((osAt f n i)[i]'(by omega)) := List.getElem?_eq_getElem (by omega)
  obtain ⟨g, cap, e, _, _, hc⟩ := h.row.at hg
  simp only [Value.slice.injEq, Option.some.injEq, Addr.mk.injEq, and_true] at e
  obtain ⟨rfl, -, -⟩ := e
  have hr : Ints wr w.heap.size (.slice (some ⟨D, 0, none⟩) (osAt f n i).length n) (osAt f n i) := by rw [hl]; exact h.row
  exact ⟨⟨_, hc⟩, Mg.Ints.free hr i⟩

theorem RwAt.set {w wr : World} {D n : Nat} {f : List Nat} {i x : Nat} (h : RwAt w wr D n f i) (hf : f.length = n) (hi : i < n) (hx : f[i]? = some x) : RwAt w (wr.setCell ⟨D, i, none⟩ (.int .i64 (x : Int))) D n f (i + 1) := by
  have hl := osAt_len hf (Nat.le_of_lt hi)
  refine ⟨?_, h.below.setCell (p := ⟨D, i, none⟩) h.le _, h.le⟩
  have hr : Ints wr w.heap.size (.slice (some ⟨D, 0, none⟩) (osAt f n i).length n) (osAt f n i) := by rw [hl]; exact h.row
  have := Mg.Ints.set hr (i := i) (by omega) x
  rw [osAt_set hf hi hx, hl] at this
  exact this

theorem RwAt.on {w wr w' : World} {D n : Nat} {f : List Nat} {i : Nat} (h : RwAt w wr D n f i) (hb : Below wr.heap.size wr w') : RwAt w w' D n f i :=
  ⟨ownsRow_same h.row fun k hk => hb.block k (h.row.lt k hk).2, h.below.trans (hb.mono h.below.size), h.le⟩

set_option maxRecDepth 100000 in
set_option maxHeartbeats 1000000 in
theorem counted_any (w : World) (n : Nat) (hn : n ≤ 24) : Calls Tryz.prog 42 #[.int .i64 (n : Int)] w fun e w' => ∃ v, e = .returned v ∧ Ints w' w.heap.size v (List.range n) ∧ Below w.heap.size w w' := by
  obtain ⟨i0, hi0, hz0, hz1, hz2⟩ := info_parts Mg.Tryz.infoInt
  have hf : (List.range n).length = n := by simp
  have HF : Hid ((List.range n).length = n) := hf
  clear hf
  go_enter Tryz.func42, Tryz.ntmps42
  go_wp2_with (at_make; go_must (refine wpList_make_full _ rfl _ _ 25 rfl w.heap.size 3 i0 (.int .i64 0) 1 Tryz.underlying25 hi0 hz0 hz1 .i64 .i64 _ _ n rfl rfl rfl rfl ?c1 ?c2 ?c3 ?_))
  case c1 => rw [hz2]; omega
  case c2 => unfold maxLen; omega
  case c3 => exact Nat.le_refl _
  intro w1 hown hgrow
  have HST : Hid (RwAt w w1 w.heap.size n (List.range n) 0) := ⟨by rw [osAt_zero]; exact ints_made hown, (Below.refl _ w).grown hgrow (Nat.le_refl _) (by simp), Nat.le_refl _⟩
  clear hown hgrow
  generalize w.heap.size = D at HST ⊢
  go_wp2_with fail
  go_loopg [9] 26 (fun k v9 wr => ∃ i : Nat, i ≤ n ∧ 25 - i ≤ k ∧ v9 = .int .i64 (i : Nat) ∧ RwAt w wr D n (List.range n) i)
  case atStart => exact ⟨0, by omega, by omega, rfl, HST.out⟩
  case round =>
    clear HST
    obtain ⟨i, hi, hk, rfl, hat⟩ := hrel
    have HAT : Hid (RwAt w wr D n (List.range n) i) := hat
    clear hat
    by_cases hlt : i < n
    · have hlt' : (i : Int) < (n : Int) := by omega
      obtain ⟨⟨y, cy⟩, fy⟩ := HAT.out.cell HF.out hlt
      have HN : Hid (RwAt w (wr.setCell ⟨D, i, none⟩ (.int .i64 (i : Int))) D n (List.range n) (i + 1)) := HAT.out.set HF.out hlt (List.getElem?_range hlt)
      go_wp2_with fail
      go_roundg (25 - (i + 1))
      case measure => omega
      case rel => exact ⟨i + 1, by omega, Nat.le_refl _, by go_num, HN.out⟩
    · have hlt' : ¬ (i : Int) < (n : Int) := by omega
      obtain rfl : n = i := by omega
      have HE : Hid (Ints wr w.heap.size (.slice (some ⟨D, 0, none⟩) n n) (List.range n)) := by have := HAT.out.row; rw [osAt_full HF.out] at this; exact this
      go_wp2_with fail
      go_ret
      exact ⟨_, rfl, HE.out, HAT.out.below⟩
end
end Go.Proofs.YtcabaecbmkgclaaGreatDoor.Kd

namespace Go.Proofs.YtcabaecbmkgclaaGreatDoor.Kd
open Go.RowKit Bz Mt Mg Rf

section
variable {w : World} {B base : Nat} {s : ByteArray} {p : St}

set_option maxRecDepth 100000 in
set_option maxHeartbeats 4000000 in
theorem doubled_any (h : Kd w B base p) (o : Ok s p) (hs : s.size ≤ 160) {pv : Value} {P : List (Nat × Nat)} (hP : NPr w pv P) (hPl : P.length ≤ 1000) :
    Calls Tryz.prog 40 #[.pointer (some ⟨B, 0, none⟩), pv] w fun e w' => ∃ v, e = .returned v ∧ Ints w' w.heap.size v (p.bonds.map (ordN P)) ∧ Below w.heap.size w w' := by
  obtain ⟨i0, hi0, hz0, hz1, hz2⟩ := info_parts Mg.Tryz.infoInt
  have HK : Hid (Kd w B base p) := h
  have HO : Hid (Ok s p) := o
  have HPN : Hid (NPr w pv P) := hP
  have hbl : p.bonds.length ≤ 160 := by have := o.bonds; have := o.pos; omega
  have hBl := h.lt
  have HF : Hid ((p.bonds.map (ordN P)).length = p.bonds.length) := (by simp : (p.bonds.map (ordN P)).length = p.bonds.length)
  obtain ⟨bv, hbv0, hbo⟩ := h.bonds
  obtain ⟨bso, bcap, hbs⟩ := ownsRow_shape hbo
  subst hbs
  obtain ⟨po, pc, hpv, _, _⟩ := hP
  subst hpv
  have HBV : Hid (w.cell? ⟨B, 25, none⟩ = some (.slice bso p.bonds.length bcap)) := hbv0
  clear hbo h o
  go_enter Tryz.func40, Tryz.ntmps40
  go_wp2_with (at_make; go_must (refine wpList_make_full _ rfl _ _ 25 rfl w.heap.size 3 i0 (.int .i64 0) 1 Tryz.underlying25 hi0 hz0 hz1 .i64 .i64 _ _ p.bonds.length rfl rfl rfl rfl ?c1 ?c2 ?c3 ?_))
  case c1 => rw [hz2]; omega
  case c2 => unfold maxLen; omega
  case c3 => exact Nat.le_refl _
  intro w1 hown hgrow
  have HST : Hid (RwAt w w1 w.heap.size p.bonds.length (p.bonds.map (ordN P)) 0) := ⟨by rw [osAt_zero]; exact ints_made hown, (Below.refl _ w).grown hgrow (Nat.le_refl _) (by simp), Nat.le_refl _⟩
  have hbv := (HST.out.below.cell (p := ⟨B, 25, none⟩) hBl).trans hbv0
  clear hown hgrow hbv0
  generalize w.heap.size = D at HST ⊢
  go_wp2_with fail
  go_loopg [19] (p.bonds.length + 1) (fun k v19 wr => ∃ i : Nat, i ≤ p.bonds.length ∧ p.bonds.length - i < k ∧ v19 = .int .i64 (i : Nat) ∧ RwAt w wr D p.bonds.length (p.bonds.map (ordN P)) i)
  case atStart => exact ⟨0, by omega, by omega, rfl, HST.out⟩
  case round =>
    clear HST hbv
    obtain ⟨i, hi, hk, rfl, hat⟩ := hrel
    have HAT : Hid (RwAt w wr D p.bonds.length (p.bonds.map (ordN P)) i) := hat
    clear hat
    by_cases hlt : i < p.bonds.length
    · have hlt' : (i : Int) < (p.bonds.length : Int) := by omega
      have gi := List.getElem?_eq_getElem hlt
      obtain ⟨g, cap, hv, hc, _, _, hgl⟩ := HK.out.bondsAt (by omega)
      have es := hv.symm.trans HBV.out
      simp only [Option.some.injEq, Value.slice.injEq, true_and] at es
      obtain ⟨rfl, rfl⟩ := es
      have c0 := (HAT.out.below.cell (p := ⟨g, i * 4, none⟩) hgl).trans (hc i _ 0 _ gi rfl)
      have c1 := (HAT.out.below.cell (p := ⟨g, i * 4 + 1, none⟩) hgl).trans (hc i _ 1 _ gi rfl)
      have c2 := (HAT.out.below.cell (p := ⟨g, i * 4 + 2, none⟩) hgl).trans (hc i _ 2 _ gi rfl)
      have c3 := (HAT.out.below.cell (p := ⟨g, i * 4 + 3, none⟩) hgl).trans (hc i _ 3 _ gi rfl)
      have hord := HO.out.ords _ (List.mem_of_getElem? gi)
      have gx : (p.bonds.map (ordN P))[i]? = some (ordN P p.bonds[i]) := by rw [List.getElem?_map, gi]; rfl
      generalize p.bonds[i] = b at *
      obtain ⟨ba, bb, bo, bpl⟩ := b
      simp only at c0 c1 c2 c3 hord
      obtain ⟨m, rfl⟩ := Int.eq_ofNat_of_zero_le (show 0 ≤ bo by omega)
      have HGX : Hid ((p.bonds.map (ordN P))[i]? = some (ordN P ⟨ba, bb, (m : Int), bpl⟩)) := gx
      clear gi hc hv gx
      have HA2 : Hid (RwAt w (wr.alloc (.cells #[.int .i64 (ba : Int), .int .i64 (bb : Int), .int .i64 (m : Int), .int .i64 (bpl : Int)] 102)) D p.bonds.length (p.bonds.map (ordN P)) i) := HAT.out.on ((Below.refl _ _).alloc (Nat.le_refl _) _)
      have q0 : (wr.alloc (.cells #[.int .i64 (ba : Int), .int .i64 (bb : Int), .int .i64 (m : Int), .int .i64 (bpl : Int)] 102)).cell? ⟨wr.heap.size, 0, none⟩ = some (.int .i64 (ba : Int)) := by rw [World.cell?_alloc_new]; rfl
      have q1 : (wr.alloc (.cells #[.int .i64 (ba : Int), .int .i64 (bb : Int), .int .i64 (m : Int), .int .i64 (bpl : Int)] 102)).cell? ⟨wr.heap.size, 1, none⟩ = some (.int .i64 (bb : Int)) := by rw [World.cell?_alloc_new]; rfl
      have q2 : (wr.alloc (.cells #[.int .i64 (ba : Int), .int .i64 (bb : Int), .int .i64 (m : Int), .int .i64 (bpl : Int)] 102)).cell? ⟨wr.heap.size, 2, none⟩ = some (.int .i64 (m : Int)) := by rw [World.cell?_alloc_new]; rfl
      clear HAT
      go_upto_region 6 with fail
      generalize wr.alloc (.cells #[.int .i64 (ba : Int), .int .i64 (bb : Int), .int .i64 (m : Int), .int .i64 (bpl : Int)] 102) = wq at *
      generalize wr.heap.size = X at *
      clear c0 c1 c2 c3
      cases h4 : ((m : Int) == 4)
      · have h4n : ((m : Int) != 4) = true := by simp [bne, h4]
        have HOR : Hid (ordN P ⟨ba, bb, (m : Int), bpl⟩ = m) := by
          unfold Hid ordN
          rw [if_neg (by simpa using h4)]
          simp
        obtain ⟨⟨y, cy⟩, fy⟩ := HA2.out.cell HF.out hlt
        have HN : Hid (RwAt w (wq.setCell ⟨D, i, none⟩ (.int .i64 (m : Int))) D p.bonds.length (p.bonds.map (ordN P)) (i + 1)) := by
          have := HA2.out.set HF.out hlt HGX.out
          rw [HOR.out] at this
          exact this
        go_wp2_with fail
        go_roundg (p.bonds.length - i)
        case measure => omega
        case rel => exact ⟨i + 1, by omega, by omega, by go_num, HN.out⟩
      · have h4n : ((m : Int) != 4) = false := by simp [bne, h4]
        have PC := pcontains_any wq (HPN.out.below HA2.out.below) ba bb hPl
        by_cases hin : (ba, bb) ∈ P
        · rw [decide_eq_true hin] at PC
          have HOR : Hid (ordN P ⟨ba, bb, (m : Int), bpl⟩ = 2) := by
            unfold Hid ordN
            rw [if_pos (by simpa using h4), if_pos hin]
          clear hin
          go_wp2_with fail
          refine PC.mono ?_
          rintro e w2 ⟨rfl, hb2⟩
          have HA3 : Hid (RwAt w w2 D p.bonds.length (p.bonds.map (ordN P)) i) := HA2.out.on hb2
          obtain ⟨⟨y, cy⟩, fy⟩ := HA3.out.cell HF.out hlt
          have HN : Hid (RwAt w (w2.setCell ⟨D, i, none⟩ (.int .i64 2)) D p.bonds.length (p.bonds.map (ordN P)) (i + 1)) := by
            have := HA3.out.set HF.out hlt HGX.out
            rw [HOR.out] at this
            exact this
          clear PC hb2
          go_wp2_with fail
          go_roundg (p.bonds.length - i)
          case measure => omega
          case rel => exact ⟨i + 1, by omega, by omega, by go_num, HN.out⟩
        · rw [decide_eq_false hin] at PC
          have HOR : Hid (ordN P ⟨ba, bb, (m : Int), bpl⟩ = 1) := by
            unfold Hid ordN
            rw [if_pos (by simpa using h4), if_neg hin]
          clear hin
          go_wp2_with fail
          refine PC.mono ?_
          rintro e w2 ⟨rfl, hb2⟩
          have HA3 : Hid (RwAt w w2 D p.bonds.length (p.bonds.map (ordN P)) i) := HA2.out.on hb2
          obtain ⟨⟨y, cy⟩, fy⟩ := HA3.out.cell HF.out hlt
          have HN : Hid (RwAt w (w2.setCell ⟨D, i, none⟩ (.int .i64 1)) D p.bonds.length (p.bonds.map (ordN P)) (i + 1)) := by
            have := HA3.out.set HF.out hlt HGX.out
            rw [HOR.out] at this
            exact this
          clear PC hb2
          go_wp2_with fail
          go_roundg (p.bonds.length - i)
          case measure => omega
          case rel => exact ⟨i + 1, by omega, by omega, by go_num, HN.out⟩
    · have hlt' : ¬ (i : Int) < (p.bonds.length : Int) := by omega
      have HE : Hid (Ints wr w.heap.size (.slice (some ⟨D, 0, none⟩) p.bonds.length p.bonds.length) (p.bonds.map (ordN P))) := by
        have := HAT.out.row
        rw [show i = p.bonds.length by omega, osAt_full HF.out] at this
        exact this
      go_wp2_with fail
      go_ret
      exact ⟨_, rfl, HE.out, HAT.out.below⟩
end
end Go.Proofs.YtcabaecbmkgclaaGreatDoor.Kd

namespace Go.Proofs.YtcabaecbmkgclaaGreatDoor.Kd
open Go.RowKit Bz Mt Mg Rf

theorem start_en : Eo Bz.start := ⟨fun b hb => (by cases hb), List.Pairwise.nil, List.Pairwise.nil, fun b hb => (by cases hb)⟩

/-- Of the bonds of a molecule that was read: both ends are there, they are all different, they stand by rising places. -/
theorem parse_en {s : ByteArray} {ats : List Atm} {l : List Bnd} (h : Bz.parse s = .ok (ats, l)) : s.size ≤ 160 ∧ En ats.length l s.size := by
  unfold Bz.parse at h
  split at h
  · cases h
  · rename_i hs
    refine ⟨by omega, ?_⟩
    split at h
    · cases h
    · rename_i p hc
      have ho := (chain_wf s (s.size + 1) _ _ _ (start_ok s) (.inl rfl) hc).1
      have he := chain_en s (s.size + 1) _ _ _ (start_ok s) (.inl rfl) start_en hc
      split at h
      · cases h
      · split at h
        · cases h
        · simp only at h
          split at h
          · cases h
          · simp only [Except.ok.injEq, Prod.mk.injEq] at h
            obtain ⟨rfl, rfl⟩ := h
            rw [List.length_mapIdx]
            exact En.mono he (Nat.le_refl _) ho.pos

theorem candEdges_mem {p : St} {l : List Bnd} {x y : Nat} : (x, y) ∈ candEdges p l ↔ ∃ b ∈ l, isEdge p b = true ∧ b.a = x ∧ b.b = y := by
  unfold candEdges
  rw [List.mem_map]
  constructor
  · rintro ⟨b, hb, e⟩
    obtain ⟨h1, h2⟩ := List.mem_filter.1 hb
    simp only [Prod.mk.injEq] at e
    exact ⟨b, h1, h2, e.1, e.2⟩
  · rintro ⟨b, h1, h2, rfl, rfl⟩
    exact ⟨b, List.mem_filter.2 ⟨h1, h2⟩, rfl⟩

theorem candEdges_ok {p : St} {n pos : Nat} (h : En n p.bonds pos) : EdOk n (candEdges p p.bonds) := by
  intro q hq
  obtain ⟨x, y⟩ := q
  obtain ⟨b, hb, _, rfl, rfl⟩ := candEdges_mem.1 hq
  obtain ⟨h1, h2⟩ := h.ends b hb
  exact ⟨by simp only; omega, h2, by simp only; omega⟩

/-- Only candidates have edges. -/
theorem candEdges_in {p : St} (x y : Nat) (h : adjL (candEdges p p.bonds) x y = true) : cand p x = true ∧ cand p y = true := by
  have key : ∀ u v, (u, v) ∈ candEdges p p.bonds → cand p u = true ∧ cand p v = true := fun u v hm => by
    obtain ⟨b, _, he, rfl, rfl⟩ := candEdges_mem.1 hm
    unfold isEdge at he
    simp only [Bool.and_eq_true] at he
    exact he.2
  rcases adjL_iff.1 h with k | k
  · exact key x y k
  · exact (key y x k).symm

/-- The pairs are bonds: each stands in the list of bonds just once. -/
theorem pair_bond {p : St} {n pos : Nat} {mate : Nat → Option Nat} {f : Fo} {h : Gh} (en : En n p.bonds pos) (hB : Best (grL n (candEdges p p.bonds)) mate f h) {x y : Nat} (hxy : (x, y) ∈ pairsF n mate) : ∃ b ∈ p.bonds, isEdge p b = true ∧ b.a = x ∧ b.b = y := by
  obtain ⟨h1, h2, h3⟩ := pairsF_mem hxy
  simp only at h1 h2 h3
  have ha : adjL (candEdges p p.bonds) x y = true := hB.m.adj x y h1
  rcases adjL_iff.1 ha with k | k
  · exact candEdges_mem.1 k
  · obtain ⟨b, hb, _, e1, e2⟩ := candEdges_mem.1 k
    have := (en.ends b hb).1
    omega

/-- As many bonds become double as there are pairs. -/
theorem doubled_count {p : St} {n pos : Nat} {mate : Nat → Option Nat} {f : Fo} {h : Gh} (en : En n p.bonds pos) (hB : Best (grL n (candEdges p p.bonds)) mate f h) :
    (p.bonds.filter fun b => b.o == 4 && decide ((b.a, b.b) ∈ pairsF n mate)).length = (pairsF n mate).length := by
  have e1 : ((p.bonds.filter fun b => b.o == 4 && decide ((b.a, b.b) ∈ pairsF n mate)).map fun b => (b.a, b.b)).length = (p.bonds.filter fun b => b.o == 4 && decide ((b.a, b.b) ∈ pairsF n mate)).length := List.length_map ..
  rw [← e1]
  have nd1 : ((p.bonds.filter fun b => b.o == 4 && decide ((b.a, b.b) ∈ pairsF n mate)).map fun b => (b.a, b.b)).Nodup := by
    unfold List.Nodup
    rw [List.pairwise_map]
    refine (List.Pairwise.filter _ en.dist).imp fun {x y} hxy e => hxy ?_
    simp only [Prod.mk.injEq] at e
    exact e
  have nd2 : (pairsF n mate).Nodup := (pairsF_rising (n := n) (mate := mate)).imp fun {x y} hxy e => by rw [e] at hxy; omega
  have m1 : ∀ q ∈ (p.bonds.filter fun b => b.o == 4 && decide ((b.a, b.b) ∈ pairsF n mate)).map (fun b => (b.a, b.b)), q ∈ pairsF n mate := fun q hq => by
    obtain ⟨b, hb, rfl⟩ := List.mem_map.1 hq
    have := (List.mem_filter.1 hb).2
    simp only [Bool.and_eq_true, decide_eq_true_eq] at this
    exact this.2
  have m2 : ∀ q ∈ pairsF n mate, q ∈ (p.bonds.filter fun b => b.o == 4 && decide ((b.a, b.b) ∈ pairsF n mate)).map (fun b => (b.a, b.b)) := fun q hq => by
    obtain ⟨x, y⟩ := q
    obtain ⟨b, hb, he, rfl, rfl⟩ := pair_bond en hB hq
    refine List.mem_map.2 ⟨b, List.mem_filter.2 ⟨hb, ?_⟩, rfl⟩
    unfold isEdge at he
    simp only [Bool.and_eq_true] at he ⊢
    exact ⟨he.1, decide_eq_true hq⟩
  have len : ∀ (l r : List (Nat × Nat)), l.Nodup → (∀ q ∈ l, q ∈ r) → l.length ≤ r.length := by
    intro l
    induction l with
    | nil => intro r _ _; exact Nat.zero_le _
    | cons a l ih =>
      intro r hn hm
      rw [List.nodup_cons] at hn
      have ha := hm a (by simp)
      have := ih (r.erase a) hn.2 (fun q hq => (List.mem_erase_of_ne (show q ≠ a from fun e => hn.1 (by rw [← e]; exact hq))).2 (hm q (by simp [hq])))
      rw [List.length_erase_of_mem ha] at this
      have := List.length_pos_of_mem ha
      simp only [List.length_cons]
      omega
  exact Nat.le_antisymm (len _ _ nd1 m1) (len _ _ nd2 m2)
end Go.Proofs.YtcabaecbmkgclaaGreatDoor.Kd
