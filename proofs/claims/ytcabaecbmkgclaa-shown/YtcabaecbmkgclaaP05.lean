/-
  What joined and most do.
  What most does.
  Values of graphs and matchings; what empty does.
  What single does: each vertex a ring of its own.
  Values of forests; what plant does.
  A forest out of its cells.
  Roots planted one by one; a forest's cells as a list, laid elsewhere.
-/
import Derived.Test.YtcabaecbmkgclaaP04

namespace Go.Proofs.Ytcabaecbmkgclaa.Kp
open Go.RowKit Mt Mg

/-- A list of pairs of numbers that is read: it lies in block b from o on. -/
def NPr (w : World) (v : Value) (l : List (Nat × Nat)) : Prop := ∃ so cap, v = .slice so l.length cap ∧ l.length ≤ cap ∧ (l = [] ∨ ∃ b o, so = some ⟨b, o, none⟩ ∧ ∀ i a c : Nat, l[i]? = some (a, c) → w.cell? ⟨b, o + i * 2, none⟩ = some (.int .i64 (a : Int)) ∧ w.cell? ⟨b, o + i * 2 + 1, none⟩ = some (.int .i64 (c : Int)))

theorem NPr.at {w : World} {so : Option Addr} {n cap : Nat} {l : List (Nat × Nat)} (h : NPr w (.slice so n cap) l) {i a c : Nat} (hi : l[i]? = some (a, c)) : ∃ b o, so = some ⟨b, o, none⟩ ∧ w.cell? ⟨b, o + i * 2, none⟩ = some (.int .i64 (a : Int)) ∧ w.cell? ⟨b, o + i * 2 + 1, none⟩ = some (.int .i64 (c : Int)) := by
  obtain ⟨so', cap', e, _, hl⟩ := h
  simp only [Value.slice.injEq] at e
  obtain ⟨rfl, -, -⟩ := e
  rcases hl with rfl | ⟨b, o, rfl, hx⟩
  · simp at hi
  · exact ⟨b, o, rfl, hx i a c hi⟩

theorem NPr.same {w w' : World} {v : Value} {l : List (Nat × Nat)} (h : NPr w v l) (hs : ∀ so n cap b o, v = .slice so n cap → so = some ⟨b, o, none⟩ → b < w.heap.size → w'.heap[b]? = w.heap[b]?) : NPr w' v l := by
  obtain ⟨so, cap, rfl, hc, hl⟩ := h
  refine ⟨so, cap, rfl, hc, ?_⟩
  rcases hl with rfl | ⟨b, o, rfl, hx⟩
  · exact .inl rfl
  · refine .inr ⟨b, o, rfl, fun i a c hi => ?_⟩
    have hlt := World.block_lt_of_cell? w ⟨b, o + i * 2, none⟩ (hx i a c hi).1
    have hb := hs _ _ _ b o rfl rfl hlt
    exact ⟨(World.cell?_of_block (a := ⟨b, o + i * 2, none⟩) hb).trans (hx i a c hi).1, (World.cell?_of_block (a := ⟨b, o + i * 2 + 1, none⟩) hb).trans (hx i a c hi).2⟩

theorem NPr.below {w w' : World} {v : Value} {l : List (Nat × Nat)} (h : NPr w v l) (hb : Below w.heap.size w w') : NPr w' v l := h.same fun _ _ _ b _ _ _ hlt => hb.block b hlt

theorem pairCells_at {l : List (Nat × Nat)} {i a c : Nat} (h : l[i]? = some (a, c)) : (pairCells l)[i * 2]? = some (.int .i64 (a : Int)) ∧ (pairCells l)[i * 2 + 1]? = some (.int .i64 (c : Int)) := by
  induction l generalizing i with
  | nil => simp at h
  | cons p l ih =>
    have e : pairCells (p :: l) = .int .i64 (p.1 : Int) :: .int .i64 (p.2 : Int) :: pairCells l := by simp [pairCells]
    rw [e]
    cases i with
    | zero =>
      simp at h
      subst h
      exact ⟨rfl, rfl⟩
    | succ i =>
      simp only [List.getElem?_cons_succ] at h
      obtain ⟨h1, h2⟩ := ih h
      rw [show (i + 1) * 2 = i * 2 + 1 + 1 by omega]
      simp only [List.getElem?_cons_succ]
      exact ⟨h1, h2⟩

theorem ownsRow_cap {w : World} {base : Nat} {e : TypeId} {size : Nat} {so : Option Addr} {n cap : Nat} {xs : List Value} (h : w.ownsRow base e size (.slice so n cap) n xs) : n ≤ cap := by
  rcases h.2 with ⟨e, rfl⟩ | ⟨g, cap', cur, e, _, _, hnc, _⟩
  · exact Nat.zero_le _
  · simp only [Value.slice.injEq] at e
    obtain ⟨-, -, rfl⟩ := e
    exact hnc

theorem NPr.of {w : World} {base : Nat} {v : Value} {l : List (Nat × Nat)} (h : Prs w base v l) : NPr w v l := by
  obtain ⟨so, cap, rfl⟩ := ownsRow_shape h
  refine ⟨so, cap, rfl, ownsRow_cap h, ?_⟩
  by_cases hl : l = []
  · exact .inl hl
  · obtain ⟨g, cap', e, _, _, hc, _⟩ := ownsRow_at h (List.length_pos_iff.2 hl)
    simp only [Value.slice.injEq, true_and] at e
    obtain ⟨rfl, rfl⟩ := e
    refine .inr ⟨g, 0, rfl, fun i a c hi => ?_⟩
    have hil := (List.getElem?_eq_some_iff.1 hi).1
    obtain ⟨h1, h2⟩ := pairCells_at hi
    rw [Nat.zero_add]
    exact ⟨(hc _ (by omega)).trans h1, (hc _ (by omega)).trans h2⟩

theorem adjL_take_no {l : List (Nat × Nat)} {i x y a b : Nat} (h : adjL (l.take i) a b = false) (hi : l[i]? = some (x, y)) (h1 : ¬ (x = a ∧ y = b)) (h2 : ¬ (x = b ∧ y = a)) : adjL (l.take (i + 1)) a b = false := by
  rw [take_snoc hi]
  unfold adjL at *
  rw [List.any_append, h]
  simp
  exact ⟨fun k1 k2 => h1 ⟨k1, k2⟩, fun k1 k2 => h2 ⟨k1, k2⟩⟩

theorem adjL_yes {l : List (Nat × Nat)} {i x y a b : Nat} (hi : l[i]? = some (x, y)) (h : (x = a ∧ y = b) ∨ (x = b ∧ y = a)) : adjL l a b = true := by
  rcases h with ⟨rfl, rfl⟩ | ⟨rfl, rfl⟩
  · exact adjL_iff.2 (.inl (List.mem_of_getElem? hi))
  · exact adjL_iff.2 (.inr (List.mem_of_getElem? hi))

set_option maxRecDepth 100000 in
set_option maxHeartbeats 1000000 in
theorem kjoined_any (w : World) {v : Value} {l : List (Nat × Nat)} (h : NPr w v l) (a b : Nat) (hl : l.length ≤ 1000000000000000) :
    Calls Try.prog 9 #[v, .int .i64 (a : Int), .int .i64 (b : Int)] w fun e w' => e = .returned (.bool (adjL l a b)) ∧ w' = w := by
  have HR : Hid (NPr w v l) := h
  obtain ⟨so, cap, hv, hcap, hcc⟩ := h
  subst hv
  clear hcc
  go_enter Try.func9, Try.ntmps9
  go_wp2_with fail
  go_loopg [7] (l.length + 1) (fun k v7 wr => ∃ i : Nat, i ≤ l.length ∧ l.length - i < k ∧ v7 = .int .i64 (i : Nat) ∧ adjL (l.take i) a b = false ∧ w = wr)
  case atStart => exact ⟨0, by omega, by omega, rfl, rfl, rfl⟩
  case round =>
    obtain ⟨i, hi, hk, rfl, hno, hw⟩ := hrel
    subst hw
    have HNO : Hid (adjL (l.take i) a b = false) := hno
    clear hno
    by_cases hlt : i < l.length
    · have hlt' : (i : Int) < (l.length : Int) := by omega
      obtain ⟨x, y, gi⟩ : ∃ x y, l[i]? = some (x, y) := ⟨_, _, List.getElem?_eq_getElem hlt⟩
      obtain ⟨bb, oo, hso, c0, c1⟩ := HR.out.at gi
      subst hso
      have HGI : Hid (l[i]? = some (x, y)) := gi
      clear gi
      by_cases k1 : x = a
      · have k1' : ((x : Int) == (a : Int)) = true := by simp; omega
        have K1 : Hid (x = a) := k1
        clear k1
        by_cases k2 : y = b
        · have k2' : ((y : Int) == (b : Int)) = true := by simp; omega
          have K2 : Hid (y = b) := k2
          clear k2
          have HE : Hid (adjL l a b = true) := adjL_yes HGI.out (.inl ⟨K1.out, K2.out⟩)
          go_wp2_with fail
          go_ret
          exact ⟨by rw [HE.out]; rfl, rfl⟩
        · have k2' : ((y : Int) == (b : Int)) = false := by simp; omega
          have K2 : Hid (¬ y = b) := k2
          clear k2
          by_cases k3 : x = b
          · have k3' : ((x : Int) == (b : Int)) = true := by simp; omega
            have K3 : Hid (x = b) := k3
            clear k3
            by_cases k4 : y = a
            · have k4' : ((y : Int) == (a : Int)) = true := by simp; omega
              have K4 : Hid (y = a) := k4
              clear k4
              have HE : Hid (adjL l a b = true) := adjL_yes HGI.out (.inr ⟨K3.out, K4.out⟩)
              go_wp2_with fail
              go_ret
              exact ⟨by rw [HE.out]; rfl, rfl⟩
            · have k4' : ((y : Int) == (a : Int)) = false := by simp; omega
              have K4 : Hid (¬ y = a) := k4
              clear k4
              have HN : Hid (adjL (l.take (i + 1)) a b = false) := adjL_take_no HNO.out HGI.out (fun k => K2.out k.2) (fun k => K4.out k.2)
              go_wp2_with fail
              go_roundg (l.length - i)
              case measure => omega
              case rel => exact ⟨i + 1, by omega, by omega, by go_num, HN.out, rfl⟩
          · have k3' : ((x : Int) == (b : Int)) = false := by simp; omega
            have K3 : Hid (¬ x = b) := k3
            clear k3
            have HN : Hid (adjL (l.take (i + 1)) a b = false) := adjL_take_no HNO.out HGI.out (fun k => K2.out k.2) (fun k => K3.out k.1)
            go_wp2_with fail
            go_roundg (l.length - i)
            case measure => omega
            case rel => exact ⟨i + 1, by omega, by omega, by go_num, HN.out, rfl⟩
      · have k1' : ((x : Int) == (a : Int)) = false := by simp; omega
        have K1 : Hid (¬ x = a) := k1
        clear k1
        by_cases k3 : x = b
        · have k3' : ((x : Int) == (b : Int)) = true := by simp; omega
          have K3 : Hid (x = b) := k3
          clear k3
          by_cases k4 : y = a
          · have k4' : ((y : Int) == (a : Int)) = true := by simp; omega
            have K4 : Hid (y = a) := k4
            clear k4
            have HE : Hid (adjL l a b = true) := adjL_yes HGI.out (.inr ⟨K3.out, K4.out⟩)
            go_wp2_with fail
            go_ret
            exact ⟨by rw [HE.out]; rfl, rfl⟩
          · have k4' : ((y : Int) == (a : Int)) = false := by simp; omega
            have K4 : Hid (¬ y = a) := k4
            clear k4
            have HN : Hid (adjL (l.take (i + 1)) a b = false) := adjL_take_no HNO.out HGI.out (fun k => K1.out k.1) (fun k => K4.out k.2)
            go_wp2_with fail
            go_roundg (l.length - i)
            case measure => omega
            case rel => exact ⟨i + 1, by omega, by omega, by go_num, HN.out, rfl⟩
        · have k3' : ((x : Int) == (b : Int)) = false := by simp; omega
          have K3 : Hid (¬ x = b) := k3
          clear k3
          have HN : Hid (adjL (l.take (i + 1)) a b = false) := adjL_take_no HNO.out HGI.out (fun k => K1.out k.1) (fun k => K3.out k.1)
          go_wp2_with fail
          go_roundg (l.length - i)
          case measure => omega
          case rel => exact ⟨i + 1, by omega, by omega, by go_num, HN.out, rfl⟩
    · have hlt' : ¬ (i : Int) < (l.length : Int) := by omega
      have HE : Hid (adjL l a b = false) := by have := HNO.out; rw [List.take_of_length_le (by omega)] at this; exact this
      go_wp2_with fail
      go_ret
      exact ⟨by rw [HE.out]; rfl, rfl⟩
end Go.Proofs.Ytcabaecbmkgclaa.Kp

namespace Go.Proofs.Ytcabaecbmkgclaa.Kp
open Go.RowKit Mt Mg

/-- Block U holds n Booleans. -/
structure Bls (w : World) (U n : Nat) (u : Nat → Bool) : Prop where
  cell : ∀ x, x < n → w.cell? ⟨U, x, none⟩ = some (.bool (u x))
  free : ∀ i, w.frozen? ⟨U, i, none⟩ = false

theorem Bls.set {w : World} {U n : Nat} {u : Nat → Bool} (h : Bls w U n u) {a : Nat} (ha : a < n) (b : Bool) : Bls (w.setCell ⟨U, a, none⟩ (.bool b)) U n (setAt u a b) := by
  refine ⟨fun k hk => ?_, fun i => by rw [World.frozen?_setCell]; exact h.free i⟩
  by_cases e : k = a
  · subst e
    rw [World.cell?_setCell_same w _ _ (h.cell k hk)]
    simp [setAt]
  · rw [cell_set_ne (fun e' => e e'.symm)]
    simp only [setAt, if_neg e]
    exact h.cell k hk

theorem Bls.same {w w' : World} {U n : Nat} {u : Nat → Bool} (h : Bls w U n u) (hs : w'.heap[U]? = w.heap[U]?) : Bls w' U n u :=
  ⟨fun k hk => (World.cell?_of_block (a := ⟨U, k, none⟩) hs).trans (h.cell k hk), fun i => (World.frozen?_of_block (a := ⟨U, i, none⟩) hs).trans (h.free i)⟩

def Away (v : Value) (U : Nat) : Prop := ∀ b o n c, v = .slice (some ⟨b, o, none⟩) n c → b ≠ U

theorem NPr.mfr {w w' : World} {v : Value} {l : List (Nat × Nat)} {U : Nat} (h : NPr w v l) (ha : Away v U) (hf : MFr U w w') : NPr w' v l :=
  h.same fun so n cap b o hv hso hlt => hf.block b hlt (ha b o n cap (by rw [hv, hso]))

theorem mostF_used {l : List (Nat × Nat)} {u : Nat → Bool} {i a b : Nat} (hi : l[i]? = some (a, b)) (h : (u a || u b) = true) : mostF (l.drop (i + 1)) u = mostF (l.drop i) u := by
  obtain ⟨hl, e⟩ := List.getElem?_eq_some_iff.1 hi
  rw [List.drop_eq_getElem_cons hl, e, mostF, if_pos h]

theorem mostF_free {l : List (Nat × Nat)} {u : Nat → Bool} {i a b : Nat} (hi : l[i]? = some (a, b)) (h1 : u a = false) (h2 : u b = false) : mostF (l.drop i) u = max (1 + mostF (l.drop (i + 1)) (setAt (setAt u a true) b true)) (mostF (l.drop (i + 1)) u) := by
  obtain ⟨hl, e⟩ := List.getElem?_eq_some_iff.1 hi
  rw [List.drop_eq_getElem_cons hl, e, mostF, if_neg (by rw [h1, h2]; simp)]

theorem unset {u : Nat → Bool} {a b : Nat} (ha : u a = false) (hb : u b = false) : setAt (setAt (setAt (setAt u a true) b true) a false) b false = u := by
  funext x
  simp only [setAt]
  by_cases e : x = b
  · rw [if_pos e, e, hb]
  · by_cases e1 : x = a
    · rw [if_neg e, if_pos e1, e1, ha]
    · rw [if_neg e, if_neg e1, if_neg e, if_neg e1]

theorem NPr.drop {w : World} {b o n cap : Nat} {l : List (Nat × Nat)} (h : NPr w (.slice (some ⟨b, o, none⟩) n cap) l) (i : Nat) (hi : i ≤ l.length) (so : Option Addr) (hso : i < l.length → so = some ⟨b, o + i * 2, none⟩) : NPr w (.slice so (l.length - i) (cap - i)) (l.drop i) := by
  obtain ⟨so', cap', e, hc, hl⟩ := h
  simp only [Value.slice.injEq] at e
  obtain ⟨rfl, rfl, rfl⟩ := e
  refine ⟨so, cap - i, by rw [List.length_drop], by rw [List.length_drop]; omega, ?_⟩
  by_cases hlt : i < l.length
  · rcases hl with rfl | ⟨b', o', e, hx⟩
    · simp at hlt
    · simp only [Option.some.injEq] at e
      cases e
      refine .inr ⟨b, o + i * 2, hso hlt, fun j a c hj => ?_⟩
      rw [List.getElem?_drop] at hj
      have := hx _ _ _ hj
      rw [show o + i * 2 + j * 2 = o + (i + j) * 2 by omega]
      exact this
  · exact .inl (List.drop_of_length_le (by omega))

set_option maxRecDepth 100000 in
set_option maxHeartbeats 1000000 in
theorem most_any : ∀ (N : Nat) (w : World) (v : Value) (l : List (Nat × Nat)) (U n uc : Nat) (u : Nat → Bool), l.length ≤ N → N ≤ 1000 → NPr w v l → Away v U → EdOk n l → n ≤ 1000 → Bls w U n u →
    Calls Try.prog 8 #[v, .slice (some ⟨U, 0, none⟩) n uc] w fun e w' => e = .returned (.int .i64 (mostF l u : Nat)) ∧ Bls w' U n u ∧ MFr U w w' := by
  intro N
  induction N with
  | zero =>
    intro w v l U n uc u hl _ hp _ _ _ hb
    obtain ⟨so, cap, hv, _, _⟩ := hp
    subst hv
    obtain rfl : l = [] := List.eq_nil_of_length_eq_zero (by omega)
    have HB : Hid (Bls w U n u) := hb
    clear hb
    go_enter Try.func8, Try.ntmps8
    go_wp2_with fail
    go_loopg [5, 6] 2 (fun k v5 v6 wr => 1 ≤ k ∧ v5 = .int .i64 0 ∧ v6 = .int .i64 0 ∧ w = wr)
    case atStart => exact ⟨by omega, rfl, rfl, rfl⟩
    case round =>
      obtain ⟨_, rfl, rfl, hw⟩ := hrel
      subst hw
      go_wp2_with fail
      go_ret
      exact ⟨rfl, HB.out, MFr.refl _ _⟩
  | succ N ih =>
    intro w v l U n uc u hl hN hp haw hed hn hb
    have HP : Hid (NPr w v l) := hp
    have HB : Hid (Bls w U n u) := hb
    have HAW : Hid (Away v U) := haw
    have HED : Hid (EdOk n l) := hed
    have IH : Hid (∀ (w : World) (v : Value) (l : List (Nat × Nat)) (U n uc : Nat) (u : Nat → Bool), l.length ≤ N → N ≤ 1000 → NPr w v l → Away v U → EdOk n l → n ≤ 1000 → Bls w U n u →
      Calls Try.prog 8 #[v, .slice (some ⟨U, 0, none⟩) n uc] w fun e w' => e = .returned (.int .i64 (mostF l u : Nat)) ∧ Bls w' U n u ∧ MFr U w w') := ih
    obtain ⟨so, cap, hv, hlc, _⟩ := hp
    subst hv
    clear hb haw hed ih
    go_enter Try.func8, Try.ntmps8
    go_wp2_with fail
    go_loopg [5, 6] (l.length + 1) (fun k v5 v6 wr => ∃ i : Nat, i ≤ l.length ∧ l.length - i < k ∧ v5 = .int .i64 0 ∧ v6 = .int .i64 (i : Nat) ∧ mostF (l.drop i) u = mostF l u ∧ w = wr)
    case atStart => exact ⟨0, by omega, by omega, rfl, rfl, rfl, rfl⟩
    case round =>
      obtain ⟨i, hi, hk, rfl, rfl, hmo, hw⟩ := hrel
      subst hw
      have HMO : Hid (mostF (l.drop i) u = mostF l u) := hmo
      clear hmo
      by_cases hlt : i < l.length
      · have hlt' : (i : Int) < (l.length : Int) := by omega
        obtain ⟨a, b, gi⟩ : ∃ a b, l[i]? = some (a, b) := ⟨_, _, List.getElem?_eq_getElem hlt⟩
        obtain ⟨bb, oo, hso, c0, c1⟩ := HP.out.at gi
        subst hso
        have HGI : Hid (l[i]? = some (a, b)) := gi
        obtain ⟨ha, hb', hab⟩ := HED.out _ (List.mem_of_getElem? gi)
        simp only at ha hb' hab
        have ha' : (a : Int) < (n : Int) := by omega
        have hb2 : (b : Int) < (n : Int) := by omega
        have ua := HB.out.cell a ha
        have ub := HB.out.cell b hb'
        clear gi
        cases hua : u a
        · rw [hua] at ua
          cases hub : u b
          · rw [hub] at ub
            have fa := HB.out.free a
            have fb := HB.out.free b
            have hUb : bb ≠ U := HAW.out bb oo _ _ rfl
            have HU : Hid (u a = false ∧ u b = false) := ⟨hua, hub⟩
            clear hua hub
            go_upto_region 8 with fail
            have HB2 : Hid (Bls ((w.setCell ⟨U, a, none⟩ (.bool true)).setCell ⟨U, b, none⟩ (.bool true)) U n (setAt (setAt u a true) b true)) := (HB.out.set ha true).set hb' true
            have HF2 : Hid (MFr U w ((w.setCell ⟨U, a, none⟩ (.bool true)).setCell ⟨U, b, none⟩ (.bool true))) := ((MFr.refl U w).set _ _).set _ _
            generalize (w.setCell ⟨U, a, none⟩ (.bool true)).setCell ⟨U, b, none⟩ (.bool true) = w2 at HB2 HF2 ⊢
            clear ua ub fa fb c0 c1
            by_cases hz : cap = i + 1
            · have hz1 : cap - (i + 1) = 0 := by omega
              have HNP : Hid (∀ wx, MFr U w wx → NPr wx (.slice (some ⟨bb, oo, none⟩) (l.length - (i + 1)) 0) (l.drop (i + 1))) := fun wx hf => by
                have := (HP.out.mfr HAW.out hf).drop (i + 1) (by omega) (some ⟨bb, oo, none⟩) (fun hh => by first | rfl | omega)
                first | exact this | (rw [hz1] at this; exact this)
              have HAW2 : Hid (Away (.slice (some ⟨bb, oo, none⟩) (l.length - (i + 1)) 0) U) := fun b' o' n' c' e => by cases e; exact hUb
              have HED2 : Hid (EdOk n (l.drop (i + 1))) := fun p hp => HED.out p (List.mem_of_mem_drop hp)
              have P1 := IH.out w2 (.slice (some ⟨bb, oo, none⟩) (l.length - (i + 1)) 0) (l.drop (i + 1)) U n uc (setAt (setAt u a true) b true) (by rw [List.length_drop]; omega) (by omega) (HNP.out w2 HF2.out) HAW2.out HED2.out hn HB2.out
              have HF : Hid (mostF l u = max (1 + mostF (l.drop (i + 1)) (setAt (setAt u a true) b true)) (mostF (l.drop (i + 1)) u)) := HMO.out.symm.trans (mostF_free HGI.out HU.out.1 HU.out.2)
              have r1b : mostF (l.drop (i + 1)) (setAt (setAt u a true) b true) ≤ 1000 := Nat.le_trans (mostF_len _ _) (by rw [List.length_drop]; omega)
              have r2b : mostF (l.drop (i + 1)) u ≤ 1000 := Nat.le_trans (mostF_len _ _) (by rw [List.length_drop]; omega)
              generalize hr1 : mostF (l.drop (i + 1)) (setAt (setAt u a true) b true) = r1 at P1 HF r1b
              have HR1 : Hid _ := hr1
              clear hr1 HMO
              go_wp2_with fail
              refine P1.mono ?_
              rintro e w3 ⟨rfl, hB3, hF3⟩
              have HF3 : Hid (MFr U w w3) := HF2.out.trans hF3
              have HB3 : Hid (Bls w3 U n (setAt (setAt u a true) b true)) := hB3
              obtain ⟨bb', oo', es, c0, c1⟩ := (HP.out.mfr HAW.out HF3.out).at HGI.out
              simp only [Option.some.injEq, Addr.mk.injEq, and_true] at es
              obtain ⟨rfl, rfl⟩ := es
              have ua := hB3.cell a ha
              have ub := hB3.cell b hb'
              have fa := hB3.free a
              have fb := hB3.free b
              clear P1 hF3 hB3
              go_upto_region 11 with fail
              have HB4 : Hid (Bls ((w3.setCell ⟨U, a, none⟩ (.bool false)).setCell ⟨U, b, none⟩ (.bool false)) U n u) := by
                have := (HB3.out.set ha false).set hb' false
                rw [unset HU.out.1 HU.out.2] at this
                exact this
              have HF4 : Hid (MFr U w ((w3.setCell ⟨U, a, none⟩ (.bool false)).setCell ⟨U, b, none⟩ (.bool false))) := (HF3.out.set _ _).set _ _
              generalize (w3.setCell ⟨U, a, none⟩ (.bool false)).setCell ⟨U, b, none⟩ (.bool false) = w4 at HB4 HF4 ⊢
              clear ua ub fa fb c0 c1
              have P2 := IH.out w4 (.slice (some ⟨bb, oo, none⟩) (l.length - (i + 1)) 0) (l.drop (i + 1)) U n uc u (by rw [List.length_drop]; omega) (by omega) (HNP.out w4 HF4.out) HAW2.out HED2.out hn HB4.out
              generalize hr2 : mostF (l.drop (i + 1)) u = r2 at P2 HF r2b
              have HR2 : Hid _ := hr2
              clear hr2
              go_wp2_with fail
              refine P2.mono ?_
              rintro e w5 ⟨rfl, hB5, hF5⟩
              have HF5 : Hid (MFr U w w5) := HF4.out.trans hF5
              have HB5 : Hid (Bls w5 U n u) := hB5
              clear P2 hB5 hF5
              by_cases hmx : r2 ≤ 1 + r1
              · have hmx' : (r2 : Int) ≤ 1 + (r1 : Int) := by omega
                have HE : Hid (mostF l u = 1 + r1) := by have := HF.out; unfold Hid; omega
                go_wp2_with fail
                go_ret
                exact ⟨by rw [HE.out]; simp, HB5.out, HF5.out⟩
              · have hmx' : ¬ (r2 : Int) ≤ 1 + (r1 : Int) := by omega
                have HE : Hid (mostF l u = r2) := by have := HF.out; unfold Hid; omega
                go_wp2_with fail
                go_ret
                exact ⟨by rw [HE.out]; simp, HB5.out, HF5.out⟩
            · have hz1 : ¬ (cap - (i + 1) = 0) := by omega
              have hz2 : i + 1 ≤ l.length := by omega
              have hz3 : i + 1 ≤ cap := by omega
              have HNP : Hid (∀ wx, MFr U w wx → NPr wx (.slice (some ⟨bb, oo + (i + 1) * 2, none⟩) (l.length - (i + 1)) (cap - (i + 1))) (l.drop (i + 1))) := fun wx hf => by
                have := (HP.out.mfr HAW.out hf).drop (i + 1) (by omega) (some ⟨bb, oo + (i + 1) * 2, none⟩) (fun hh => by first | rfl | omega)
                first | exact this | (rw [hz1] at this; exact this)
              have HAW2 : Hid (Away (.slice (some ⟨bb, oo + (i + 1) * 2, none⟩) (l.length - (i + 1)) (cap - (i + 1))) U) := fun b' o' n' c' e => by cases e; exact hUb
              have HED2 : Hid (EdOk n (l.drop (i + 1))) := fun p hp => HED.out p (List.mem_of_mem_drop hp)
              have P1 := IH.out w2 (.slice (some ⟨bb, oo + (i + 1) * 2, none⟩) (l.length - (i + 1)) (cap - (i + 1))) (l.drop (i + 1)) U n uc (setAt (setAt u a true) b true) (by rw [List.length_drop]; omega) (by omega) (HNP.out w2 HF2.out) HAW2.out HED2.out hn HB2.out
              have HF : Hid (mostF l u = max (1 + mostF (l.drop (i + 1)) (setAt (setAt u a true) b true)) (mostF (l.drop (i + 1)) u)) := HMO.out.symm.trans (mostF_free HGI.out HU.out.1 HU.out.2)
              have r1b : mostF (l.drop (i + 1)) (setAt (setAt u a true) b true) ≤ 1000 := Nat.le_trans (mostF_len _ _) (by rw [List.length_drop]; omega)
              have r2b : mostF (l.drop (i + 1)) u ≤ 1000 := Nat.le_trans (mostF_len _ _) (by rw [List.length_drop]; omega)
              generalize hr1 : mostF (l.drop (i + 1)) (setAt (setAt u a true) b true) = r1 at P1 HF r1b
              have HR1 : Hid _ := hr1
              clear hr1 HMO
              go_wp2_with fail
              refine P1.mono ?_
              rintro e w3 ⟨rfl, hB3, hF3⟩
              have HF3 : Hid (MFr U w w3) := HF2.out.trans hF3
              have HB3 : Hid (Bls w3 U n (setAt (setAt u a true) b true)) := hB3
              obtain ⟨bb', oo', es, c0, c1⟩ := (HP.out.mfr HAW.out HF3.out).at HGI.out
              simp only [Option.some.injEq, Addr.mk.injEq, and_true] at es
              obtain ⟨rfl, rfl⟩ := es
              have ua := hB3.cell a ha
              have ub := hB3.cell b hb'
              have fa := hB3.free a
              have fb := hB3.free b
              clear P1 hF3 hB3
              go_upto_region 11 with fail
              have HB4 : Hid (Bls ((w3.setCell ⟨U, a, none⟩ (.bool false)).setCell ⟨U, b, none⟩ (.bool false)) U n u) := by
                have := (HB3.out.set ha false).set hb' false
                rw [unset HU.out.1 HU.out.2] at this
                exact this
              have HF4 : Hid (MFr U w ((w3.setCell ⟨U, a, none⟩ (.bool false)).setCell ⟨U, b, none⟩ (.bool false))) := (HF3.out.set _ _).set _ _
              generalize (w3.setCell ⟨U, a, none⟩ (.bool false)).setCell ⟨U, b, none⟩ (.bool false) = w4 at HB4 HF4 ⊢
              clear ua ub fa fb c0 c1
              have P2 := IH.out w4 (.slice (some ⟨bb, oo + (i + 1) * 2, none⟩) (l.length - (i + 1)) (cap - (i + 1))) (l.drop (i + 1)) U n uc u (by rw [List.length_drop]; omega) (by omega) (HNP.out w4 HF4.out) HAW2.out HED2.out hn HB4.out
              generalize hr2 : mostF (l.drop (i + 1)) u = r2 at P2 HF r2b
              have HR2 : Hid _ := hr2
              clear hr2
              go_wp2_with fail
              refine P2.mono ?_
              rintro e w5 ⟨rfl, hB5, hF5⟩
              have HF5 : Hid (MFr U w w5) := HF4.out.trans hF5
              have HB5 : Hid (Bls w5 U n u) := hB5
              clear P2 hB5 hF5
              by_cases hmx : r2 ≤ 1 + r1
              · have hmx' : (r2 : Int) ≤ 1 + (r1 : Int) := by omega
                have HE : Hid (mostF l u = 1 + r1) := by have := HF.out; unfold Hid; omega
                go_wp2_with fail
                go_ret
                exact ⟨by rw [HE.out]; simp, HB5.out, HF5.out⟩
              · have hmx' : ¬ (r2 : Int) ≤ 1 + (r1 : Int) := by omega
                have HE : Hid (mostF l u = r2) := by have := HF.out; unfold Hid; omega
                go_wp2_with fail
                go_ret
                exact ⟨by rw [HE.out]; simp, HB5.out, HF5.out⟩
          · rw [hub] at ub
            have HN : Hid (mostF (l.drop (i + 1)) u = mostF l u) := (mostF_used HGI.out (by rw [hub]; simp)).trans HMO.out
            clear hua hub
            go_wp2_with fail
            go_roundg (l.length - i)
            case measure => omega
            case rel => exact ⟨i + 1, by omega, by omega, rfl, by go_num, HN.out, rfl⟩
        · rw [hua] at ua
          have HN : Hid (mostF (l.drop (i + 1)) u = mostF l u) := (mostF_used HGI.out (by rw [hua]; rfl)).trans HMO.out
          clear hua
          go_wp2_with fail
          go_roundg (l.length - i)
          case measure => omega
          case rel => exact ⟨i + 1, by omega, by omega, rfl, by go_num, HN.out, rfl⟩
      · have hlt' : ¬ (i : Int) < (l.length : Int) := by omega
        have HE : Hid (mostF l u = 0) := by have := HMO.out; rw [List.drop_of_length_le (by omega)] at this; exact this.symm
        go_wp2_with fail
        go_ret
        exact ⟨by rw [HE.out]; rfl, HB.out, MFr.refl _ _⟩
end Go.Proofs.Ytcabaecbmkgclaa.Kp

namespace Go.Proofs.Ytcabaecbmkgclaa.Mg
open Go.RowKit Mt

def nearCells (nr : Nat → Nat) : List Value := (List.range 24).map fun k => .int .u32 (nr k : Int)
def mateCells (mt : Nat → Int) : List Value := (List.range 24).map fun k => .int .i64 (mt k)
/-- The cells of a matching. -/
def matCells (nr : Nat → Nat) (n : Nat) (mt : Nat → Int) : List Value := nearCells nr ++ (.int .i64 (n : Int) :: mateCells mt)

theorem Try.sizeGraph : (Try.prog.info? 39).map (·.size) = some 24 := by kernel_rfl
theorem Try.sizeMatching : (Try.prog.info? 48).map (·.size) = some 49 := by kernel_rfl

theorem nearCells_len (nr : Nat → Nat) : (nearCells nr).length = 24 := by simp [nearCells]
theorem matCells_len (nr : Nat → Nat) (n : Nat) (mt : Nat → Int) : (matCells nr n mt).length = 49 := by simp [matCells, nearCells, mateCells]
theorem matCells_near (nr : Nat → Nat) (n : Nat) (mt : Nat → Int) {k : Nat} (hk : k < 24) : (matCells nr n mt)[k]? = some (.int .u32 (nr k : Int)) := by
  unfold matCells
  rw [List.getElem?_append_left (by rw [nearCells_len]; exact hk)]
  simp [nearCells, hk]
theorem matCells_n (nr : Nat → Nat) (n : Nat) (mt : Nat → Int) : (matCells nr n mt)[24]? = some (.int .i64 (n : Int)) := by
  unfold matCells
  rw [List.getElem?_append_right (by rw [nearCells_len]; exact Nat.le_refl _), nearCells_len]
  rfl
theorem matCells_mate (nr : Nat → Nat) (n : Nat) (mt : Nat → Int) {k : Nat} (hk : k < 24) : (matCells nr n mt)[25 + k]? = some (.int .i64 (mt k)) := by
  unfold matCells
  rw [List.getElem?_append_right (by rw [nearCells_len]; omega), nearCells_len, show 25 + k - 24 = k + 1 by omega, List.getElem?_cons_succ]
  simp [mateCells, hk]
theorem matCells_one (nr : Nat → Nat) (n : Nat) (mt : Nat → Int) : (matCells nr n mt).toArray.all (·.oneCell') = true := all_oneCell_toArray (by
  intro v hv
  unfold matCells nearCells mateCells at hv
  simp only [List.mem_append, List.mem_map, List.mem_cons] at hv
  rcases hv with ⟨_, _, rfl⟩ | rfl | ⟨_, _, rfl⟩ <;> rfl)

set_option maxRecDepth 100000 in
theorem build_mat (w : World) (nr : Nat → Nat) (n : Nat) : (Instr.build 48 #[(0, .agg (nearCells nr).toArray), (1, .int .i64 (n : Int))]).run Try.prog w = .ok (.agg (matCells nr n fun _ => 0).toArray) w := by kernel_rfl
theorem alloc_mat (w : World) : (Instr.alloc 48 true (.tuple #[])).run Try.prog w = .ok (.pointer (some ⟨w.heap.size, 0, none⟩)) (w.alloc (.cells (matCells (fun _ => 0) 0 fun _ => 0).toArray 48)) := by kernel_rfl
theorem wpList_build {P : Program} {ops : Array Oper} {rest : List Oper} {op : Oper} {a : Act} {w : World} {Q : Exit → Act → World → Prop} (hgd : op.guard = none) (t : TypeId) (parts : Array (Nat × Operand)) (ho : op.op = .build t parts) (vals : Array (Nat × Value)) (hv : (parts.map fun (i, x) => (i, a.eval x)) = vals) (v : Value)
    (hr : (Instr.build t vals).run P w = .ok v w) (h : wpList P ops Q rest (a.put op.dst v) w) : wpList P ops Q (op :: rest) a w :=
  wpList_plain hgd fun _ hK => by
    unfold Oper.wp execOp
    simp only [ho, hv, Sem.run_bind, Sem.run_pure, hr, Result.andThen_ok]
    exact hK _ _ h

theorem wpList_alloc {P : Program} {ops : Array Oper} {rest : List Oper} {op : Oper} {a : Act} {w : World} {Q : Exit → Act → World → Prop} (hgd : op.guard = none) (t : TypeId) (ho : op.op = .alloc t) (v : Value) (w' : World)
    (hr : (Instr.alloc t true (.tuple #[])).run P w = .ok v w') (h : wpList P ops Q rest (a.put op.dst v) w') : wpList P ops Q (op :: rest) a w :=
  wpList_plain hgd fun _ hK => by
    unfold Oper.wp execOp
    simp only [ho, Sem.run_bind, Sem.run_pure, hr, Result.andThen_ok]
    exact hK _ _ h

theorem graph_range (w : World) (nr : Nat → Nat) (t : TypeId) : (w.alloc (.cells (nearCells nr).toArray t)).rangeAt w.heap.size 0 (nearCells nr) := by
  intro j u hj
  rw [Nat.zero_add, World.cell?_alloc_new]
  simpa using hj

theorem mat_there (w : World) (nr : Nat → Nat) (n : Nat) (mt : Nat → Int) (t : TypeId) : (w.alloc (.cells (matCells nr n mt).toArray t)).there w.heap.size 0 49 := by
  intro j hj
  rw [Nat.zero_add]
  refine ⟨?_, by simp⟩
  rw [World.cell?_alloc_new]
  simp [matCells_len, hj]

theorem mat_stored {wx : World} {L : Nat} (nr : Nat → Nat) (n : Nat) (mt : Nat → Int) (ht : wx.there L 0 49) : (loadVar 48 ⟨L, 0, none⟩).run Try.prog (wx.setCells L 0 (matCells nr n mt)) = .ok (.agg (matCells nr n mt).toArray) (wx.setCells L 0 (matCells nr n mt)) :=
  run_loadVar_mid _ L 0 _ (matCells nr n mt) _ (World.rangeAt_setCells_same wx L 0 (matCells nr n mt) (by rw [matCells_len]; exact ht)) Try.underlying48 rfl (by rw [matCells_len]; exact Try.sizeMatching)

theorem mat_size (nr : Nat → Nat) (n : Nat) (mt : Nat → Int) : (matCells nr n mt).toArray.size = 49 := by simp [matCells_len]

/-- Where empty stands. -/
structure EmAt (A : Nat) (w wr : World) (nr : Nat → Nat) (n : Nat) (cur : Nat → Int) : Prop where
  below : Below A w wr
  box : wr.rangeAt (A + 2) 0 (matCells nr n cur)
  thr : wr.there (A + 2) 0 49
  res : wr.there (A + 1) 0 49

theorem EmAt.start (w : World) (nr : Nat → Nat) (n : Nat) (t t' : TypeId) : EmAt w.heap.size w ((((w.alloc (.cells (nearCells nr).toArray t)).alloc (.cells (matCells (fun _ => 0) 0 fun _ => 0).toArray t')).alloc (.cells (matCells (fun _ => 0) 0 fun _ => 0).toArray t')).setCells (w.heap.size + 2) 0 (matCells nr n fun _ => 0)) nr n (fun _ => 0) := by
  have h1 : (w.alloc (.cells (nearCells nr).toArray t)).heap.size = w.heap.size + 1 := by simp
  have h2 : ((w.alloc (.cells (nearCells nr).toArray t)).alloc (.cells (matCells (fun _ => 0) 0 fun _ => 0).toArray t')).heap.size = w.heap.size + 2 := by simp
  have hth : (((w.alloc (.cells (nearCells nr).toArray t)).alloc (.cells (matCells (fun _ => 0) 0 fun _ => 0).toArray t')).alloc (.cells (matCells (fun _ => 0) 0 fun _ => 0).toArray t')).there (w.heap.size + 2) 0 49 := by
    rw [← h2]
    exact mat_there _ _ _ _ _
  refine ⟨below_cells (by omega) _ _ _ ((((Below.refl _ w).alloc (Nat.le_refl _) _).alloc (by omega) _).alloc (by omega) _), World.rangeAt_setCells_same _ _ _ _ (by rw [matCells_len]; exact hth), World.there_setCells hth _ _ _, World.there_setCells (World.there_alloc ?_ _) _ _ _⟩
  rw [← h1]
  exact mat_there _ _ _ _ _

theorem EmAt.set {A : Nat} {w wr : World} {nr : Nat → Nat} {n : Nat} {cur cur' : Nat → Int} (h : EmAt A w wr nr n cur) {i : Nat} (hi : i < 24) (b : Int) (h1 : cur' i = b) (h2 : ∀ x, x ≠ i → cur' x = cur x) : EmAt A w (wr.setCell ⟨A + 2, 25 + i, none⟩ (.int .i64 b)) nr n cur' := by
  refine ⟨h.below.setCell (p := ⟨A + 2, 25 + i, none⟩) (by show A ≤ A + 2; omega) _, ?_, World.there_setCells h.thr (A + 2) (25 + i) [.int .i64 b], World.there_setCells h.res (A + 2) (25 + i) [.int .i64 b]⟩
  intro j v hj
  rw [Nat.zero_add]
  have hj49 : j < 49 := by
    have := (List.getElem?_eq_some_iff.1 hj).1
    rwa [matCells_len] at this
  by_cases e : j = 25 + i
  · subst e
    rw [matCells_mate _ _ _ hi] at hj
    cases hj
    have := (h.thr (25 + i) (by omega)).1
    rw [Nat.zero_add] at this
    rw [World.cell?_setCell_same' _ _ _ this, h1]
  · rw [World.cell?_setCell_other (w := wr) (a := ⟨A + 2, 25 + i, none⟩) (b := ⟨A + 2, j, none⟩) (v := .int .i64 b) (by intro e'; injection e' with _ e'; exact e e'.symm)]
    have old : ∀ u, (matCells nr n cur)[j]? = some u → wr.cell? ⟨A + 2, j, none⟩ = some u := fun u hu => by
      have := h.box j u hu
      rwa [Nat.zero_add] at this
    apply old
    rw [← hj]
    rcases Nat.lt_trichotomy j 24 with k | k | k
    · rw [matCells_near _ _ _ k, matCells_near _ _ _ k]
    · subst k
      rw [matCells_n, matCells_n]
    · obtain ⟨q, rfl⟩ : ∃ q, j = 25 + q := ⟨j - 25, by omega⟩
      rw [matCells_mate _ _ _ (by omega), matCells_mate _ _ _ (by omega), h2 q (by omega)]

theorem EmAt.cell {A : Nat} {w wr : World} {nr : Nat → Nat} {n : Nat} {cur : Nat → Int} (h : EmAt A w wr nr n cur) {i : Nat} (hi : i < 24) : wr.cell? ⟨A + 2, 25 + i, none⟩ = some (.int .i64 (cur i)) ∧ wr.frozen? ⟨A + 2, 25 + i, none⟩ = false := by
  have := h.box (25 + i) _ (matCells_mate nr n cur hi)
  have t := (h.thr (25 + i) (by omega)).2
  rw [Nat.zero_add] at this t
  exact ⟨this, t⟩

theorem matCells_congr {nr : Nat → Nat} {n : Nat} {a b : Nat → Int} (h : ∀ x, x < 24 → a x = b x) : matCells nr n a = matCells nr n b := by
  unfold matCells mateCells
  rw [List.map_congr_left fun x hx => by rw [h x (List.mem_range.1 hx)]]

set_option maxRecDepth 100000 in
set_option maxHeartbeats 1000000 in
theorem empty_any (w : World) (nr : Nat → Nat) (n : Nat) :
    Calls Try.prog 15 #[.agg (nearCells nr).toArray, .int .i64 (n : Int)] w fun e w' => e = .returned (.agg (matCells nr n fun _ => -1).toArray) ∧ Below w.heap.size w w' := by
  have HST : Hid (EmAt w.heap.size w ((((w.alloc (.cells (nearCells nr).toArray 39)).alloc (.cells (matCells (fun _ => 0) 0 fun _ => 0).toArray 48)).alloc (.cells (matCells (fun _ => 0) 0 fun _ => 0).toArray 48)).setCells (w.heap.size + 2) 0 (matCells nr n fun _ => 0)) nr n (fun _ => 0)) := EmAt.start w nr n _ _
  have HGR : Hid ((((w.alloc (.cells (nearCells nr).toArray 39)).alloc (.cells (matCells (fun _ => 0) 0 fun _ => 0).toArray 48))).rangeAt w.heap.size 0 (nearCells nr)) := World.rangeAt_alloc (graph_range w nr _) _
  have HTH : Hid ((((w.alloc (.cells (nearCells nr).toArray 39)).alloc (.cells (matCells (fun _ => 0) 0 fun _ => 0).toArray 48)).alloc (.cells (matCells (fun _ => 0) 0 fun _ => 0).toArray 48)).there (w.heap.size + 2) 0 49) := by
    have h2 : ((w.alloc (.cells (nearCells nr).toArray 39)).alloc (.cells (matCells (fun _ => 0) 0 fun _ => 0).toArray 48)).heap.size = w.heap.size + 2 := by simp
    rw [← h2]
    exact mat_there _ _ _ _ _
  go_enter Try.func15, Try.ntmps15
  go_upto_region 2 with (first | (refine wpList_alloc rfl 48 rfl _ _ (alloc_mat _) ?_; simp only [Act.put, List.setIfInBounds_toArray, List.set_cons_zero, List.set_cons_succ]) | (refine wpList_load_mid rfl 39 (.tmp 2) rfl w.heap.size 0 (by simp [Act.eval]) (nearCells nr) _ HGR.out Try.underlying39 rfl (by rw [Try.sizeGraph, nearCells_len]) ?_; simp only [Act.put, List.setIfInBounds_toArray, List.set_cons_zero, List.set_cons_succ]) | (refine wpList_build rfl 48 #[(0, .tmp 7), (1, .tmp 8)] rfl #[(0, .agg (nearCells nr).toArray), (1, .int .i64 (n : Int))] (by simp [Act.eval]) (.agg (matCells nr n fun _ => 0).toArray) (build_mat _ nr n) ?_; simp only [Act.put, List.setIfInBounds_toArray, List.set_cons_zero, List.set_cons_succ]) | (refine wpList_store_mid rfl 48 (.tmp 5) (.tmp 9) rfl (w.heap.size + 2) 0 (matCells nr n fun _ => 0).toArray (by simp [Act.eval]) (by simp [Act.eval]) (by rw [mat_size]; exact HTH.out) (by rw [mat_size]; exact Try.sizeMatching) (matCells_one _ _ _) ?_; simp only [Act.put]))
  generalize World.setCells _ _ _ _ = w2 at HST ⊢
  have e1 : (w.alloc (.cells (nearCells nr).toArray 39)).heap.size = w.heap.size + 1 := by simp
  have e2 : ((w.alloc (.cells (nearCells nr).toArray 39)).alloc (.cells (matCells (fun _ => 0) 0 fun _ => 0).toArray 48)).heap.size = w.heap.size + 2 := by simp
  rw [e1, e2]
  clear e1 e2
  clear HGR HTH
  go_wp2_with fail
  go_loopg [10] 26 (fun k vi wr => ∃ i : Nat, i ≤ 24 ∧ 25 - i ≤ k ∧ vi = .int .i64 i ∧ EmAt w.heap.size w wr nr n (fun x => if x < i then -1 else 0))
  case atStart => exact ⟨0, by omega, by omega, rfl, HST.out⟩
  case round =>
    clear HST
    obtain ⟨i, hi, hk, rfl, hat⟩ := hrel
    have HAT : Hid (EmAt w.heap.size w wr nr n (fun x => if x < i then -1 else 0)) := hat
    clear hat
    by_cases hlt : i < 24
    · have hlt' : (i : Int) < (24 : Int) := by omega
      obtain ⟨ci, fi⟩ := HAT.out.cell hlt
      have HAN : Hid (EmAt w.heap.size w (wr.setCell ⟨w.heap.size + 2, 25 + i, none⟩ (.int .i64 (-1))) nr n (fun x => if x < i + 1 then -1 else 0)) := HAT.out.set hlt _ (by simp) (fun x hx => by
        by_cases k : x < i
        · rw [if_pos k, if_pos (by omega)]
        · rw [if_neg k, if_neg (by omega)])
      go_wp2_with fail
      go_roundg (25 - (i + 1))
      case measure => omega
      case rel => exact ⟨i + 1, by omega, Nat.le_refl _, by go_num, HAN.out⟩
    · have hlt' : ¬ (i : Int) < (24 : Int) := by omega
      have HE : Hid (matCells nr n (fun x => if x < i then -1 else 0) = matCells nr n (fun _ => -1)) := matCells_congr fun x hx => by rw [if_pos (by omega)]
      have HBX : Hid (wr.rangeAt (w.heap.size + 2) 0 (matCells nr n (fun _ => -1))) := by
        have := HAT.out.box
        rw [HE.out] at this
        exact this
      go_wp2_with (first | (refine wpList_load_mid rfl 48 (.tmp 5) rfl (w.heap.size + 2) 0 (by simp [Act.eval]) (matCells nr n (fun _ => -1)) _ HBX.out Try.underlying48 rfl (by rw [Try.sizeMatching, matCells_len]) ?_; simp only [Act.put, List.setIfInBounds_toArray, List.set_cons_zero, List.set_cons_succ]) | (refine wpList_store_mid rfl 48 (.tmp 4) (.tmp 17) rfl (w.heap.size + 1) 0 (matCells nr n (fun _ => -1)).toArray (by simp [Act.eval]) (by rfl) (by rw [mat_size]; exact HAT.out.res) (by rw [mat_size]; exact Try.sizeMatching) (matCells_one _ _ _) ?_; simp only [Act.put]))
      have HLD := mat_stored nr n (fun _ => -1) HAT.out.res
      refine bodyPost_ret (v := .agg (matCells nr n (fun _ => -1)).toArray) ?_ rfl ⟨rfl, below_cells (by omega) _ _ _ HAT.out.below⟩
      simp [results, Try.results15, asAddr, HLD]
end Go.Proofs.Ytcabaecbmkgclaa.Mg

namespace Go.Proofs.Ytcabaecbmkgclaa.Mg
open Go.RowKit Mt

/-- The cells of all rings. -/
def rgCells (r : Nat → Nat → Bool) : List Value := (List.range 576).map fun j => .bool (r (j / 24) (j % 24))
theorem rgCells_len (r : Nat → Nat → Bool) : (rgCells r).length = 576 := by simp [rgCells]
theorem rgCells_get (r : Nat → Nat → Bool) {j : Nat} (hj : j < 576) : (rgCells r)[j]? = some (.bool (r (j / 24) (j % 24))) := by simp [rgCells, hj]
theorem rgCells_at (r : Nat → Nat → Bool) {v x : Nat} (hv : v < 24) (hx : x < 24) : (rgCells r)[v * 24 + x]? = some (.bool (r v x)) := by
  rw [rgCells_get r (by omega), show (v * 24 + x) / 24 = v by omega, show (v * 24 + x) % 24 = x by omega]
theorem rgCells_one (r : Nat → Nat → Bool) : (rgCells r).toArray.all (·.oneCell') = true := all_oneCell_toArray (by
  intro v hv
  obtain ⟨_, _, rfl⟩ := List.mem_map.1 hv
  rfl)
theorem rg_size (r : Nat → Nat → Bool) : (rgCells r).toArray.size = 576 := by simp [rgCells_len]
theorem Try.sizeRings : (Try.prog.info? 52).map (·.size) = some 576 := by kernel_rfl
theorem alloc_rings (w : World) : (Instr.alloc 52 true (.tuple #[])).run Try.prog w = .ok (.pointer (some ⟨w.heap.size, 0, none⟩)) (w.alloc (.cells (rgCells fun _ _ => false).toArray 52)) := by kernel_rfl

theorem rg_there (w : World) (r : Nat → Nat → Bool) (t : TypeId) : (w.alloc (.cells (rgCells r).toArray t)).there w.heap.size 0 576 := by
  intro j hj
  rw [Nat.zero_add]
  refine ⟨?_, by simp⟩
  rw [World.cell?_alloc_new]
  simp [rgCells_len, hj]
theorem rg_range (w : World) (r : Nat → Nat → Bool) (t : TypeId) : (w.alloc (.cells (rgCells r).toArray t)).rangeAt w.heap.size 0 (rgCells r) := by
  intro j u hj
  rw [Nat.zero_add, World.cell?_alloc_new]
  simpa using hj
theorem rg_stored {wx : World} {L : Nat} (r : Nat → Nat → Bool) (ht : wx.there L 0 576) : (loadVar 52 ⟨L, 0, none⟩).run Try.prog (wx.setCells L 0 (rgCells r)) = .ok (.agg (rgCells r).toArray) (wx.setCells L 0 (rgCells r)) :=
  run_loadVar_mid _ L 0 _ (rgCells r) _ (World.rangeAt_setCells_same wx L 0 (rgCells r) (by rw [rgCells_len]; exact ht)) Try.underlying52 rfl (by rw [rgCells_len]; exact Try.sizeRings)

/-- Where single stands. -/
structure SgAt (A : Nat) (w wr : World) (cur : Nat → Nat → Bool) : Prop where
  below : Below A w wr
  box : wr.rangeAt (A + 1) 0 (rgCells cur)
  thr : wr.there (A + 1) 0 576
  res : wr.there A 0 576

theorem SgAt.start (w : World) (t : TypeId) : SgAt w.heap.size w ((w.alloc (.cells (rgCells fun _ _ => false).toArray t)).alloc (.cells (rgCells fun _ _ => false).toArray t)) (fun _ _ => false) := by
  have h1 : (w.alloc (.cells (rgCells fun _ _ => false).toArray t)).heap.size = w.heap.size + 1 := by simp
  refine ⟨((Below.refl _ w).alloc (Nat.le_refl _) _).alloc (by omega) _, ?_, ?_, World.there_alloc (rg_there w _ t) _⟩
  · rw [← h1]
    exact rg_range _ _ _
  · rw [← h1]
    exact rg_there _ _ _

theorem SgAt.set {A : Nat} {w wr : World} {i : Nat} (h : SgAt A w wr (fun v x => v == x && decide (v < i))) (hi : i < 24) : SgAt A w (wr.setCell ⟨A + 1, i * 24 + i, none⟩ (.bool true)) (fun v x => v == x && decide (v < i + 1)) := by
  refine ⟨h.below.setCell (p := ⟨A + 1, i * 24 + i, none⟩) (by show A ≤ A + 1; omega) _, ?_, World.there_setCells h.thr (A + 1) (i * 24 + i) [.bool true], World.there_setCells h.res (A + 1) (i * 24 + i) [.bool true]⟩
  intro j v hj
  rw [Nat.zero_add]
  have hj5 : j < 576 := by
    have := (List.getElem?_eq_some_iff.1 hj).1
    rwa [rgCells_len] at this
  rw [rgCells_get _ hj5] at hj
  cases hj
  by_cases e : j = i * 24 + i
  · subst e
    have := (h.thr (i * 24 + i) (by omega)).1
    rw [Nat.zero_add] at this
    rw [World.cell?_setCell_same' _ _ _ this, show (i * 24 + i) / 24 = i by omega, show (i * 24 + i) % 24 = i by omega]
    simp
  · rw [World.cell?_setCell_other (w := wr) (a := ⟨A + 1, i * 24 + i, none⟩) (b := ⟨A + 1, j, none⟩) (v := .bool true) (by intro e'; injection e' with _ e'; exact e e'.symm)]
    have := h.box j _ (rgCells_get _ hj5)
    rw [Nat.zero_add] at this
    rw [this]
    by_cases k : j / 24 = j % 24
    · rw [← k, dec_succ (show j / 24 ≠ i by omega)]
    · have e0 : (j / 24 == j % 24) = false := by simpa using k
      rw [e0]
      simp

theorem SgAt.cell {A : Nat} {w wr : World} {cur : Nat → Nat → Bool} (h : SgAt A w wr cur) {i : Nat} (hi : i < 24) : wr.cell? ⟨A + 1, i * 24 + i, none⟩ = some (.bool (cur i i)) ∧ wr.frozen? ⟨A + 1, i * 24 + i, none⟩ = false := by
  have := h.box (i * 24 + i) _ (rgCells_at cur hi hi)
  have t := (h.thr (i * 24 + i) (by omega)).2
  rw [Nat.zero_add] at this t
  exact ⟨this, t⟩

set_option maxRecDepth 100000 in
set_option maxHeartbeats 1000000 in
theorem single_any (w : World) :
    Calls Try.prog 21 #[] w fun e w' => e = .returned (.agg (rgCells fun v x => v == x).toArray) ∧ Below w.heap.size w w' := by
  have HST : Hid (SgAt w.heap.size w ((w.alloc (.cells (rgCells fun _ _ => false).toArray 52)).alloc (.cells (rgCells fun _ _ => false).toArray 52)) (fun _ _ => false)) := SgAt.start w _
  go_enter Try.func21, Try.ntmps21
  go_upto_region 2 with (refine wpList_alloc rfl 52 rfl _ _ (alloc_rings _) ?_; simp only [Act.put, List.setIfInBounds_toArray, List.set_cons_zero, List.set_cons_succ])
  have e1 : (w.alloc (.cells (rgCells fun _ _ => false).toArray 52)).heap.size = w.heap.size + 1 := by simp
  rw [e1]
  clear e1
  generalize World.alloc _ _ = w2 at HST ⊢
  go_wp2_with fail
  go_loopg [3] 26 (fun k vi wr => ∃ i : Nat, i ≤ 24 ∧ 25 - i ≤ k ∧ vi = .int .i64 i ∧ SgAt w.heap.size w wr (fun v x => v == x && decide (v < i)))
  case atStart =>
    refine ⟨0, by omega, by omega, rfl, ?_⟩
    have e : (fun v x : Nat => v == x && decide (v < 0)) = fun _ _ => false := by funext v x; simp
    rw [e]
    exact HST.out
  case round =>
    clear HST
    obtain ⟨i, hi, hk, rfl, hat⟩ := hrel
    have HAT : Hid (SgAt w.heap.size w wr (fun v x => v == x && decide (v < i))) := hat
    clear hat
    by_cases hlt : i < 24
    · have hlt' : (i : Int) < (24 : Int) := by omega
      obtain ⟨ci, fi⟩ := HAT.out.cell hlt
      have HAN := HAT.out.set hlt
      have HAN' : Hid (SgAt w.heap.size w (wr.setCell ⟨w.heap.size + 1, i * 24 + i, none⟩ (.bool true)) (fun v x => v == x && decide (v < i + 1))) := HAN
      clear HAN
      go_wp2_with fail
      go_roundg (25 - (i + 1))
      case measure => omega
      case rel => exact ⟨i + 1, by omega, Nat.le_refl _, by go_num, HAN'.out⟩
    · have hlt' : ¬ (i : Int) < (24 : Int) := by omega
      have HE : Hid (rgCells (fun v x => v == x && decide (v < i)) = rgCells (fun v x => v == x)) := List.map_congr_left fun j hj => by
        have := List.mem_range.1 hj
        simp [show j / 24 < i by omega]
      have HBX : Hid (wr.rangeAt (w.heap.size + 1) 0 (rgCells (fun v x => v == x))) := by
        have := HAT.out.box
        rw [HE.out] at this
        exact this
      go_wp2_with (first | (refine wpList_load_mid rfl 52 (.tmp 1) rfl (w.heap.size + 1) 0 (by simp [Act.eval]) (rgCells (fun v x => v == x)) _ HBX.out Try.underlying52 rfl (by rw [Try.sizeRings, rgCells_len]) ?_; simp only [Act.put, List.setIfInBounds_toArray, List.set_cons_zero, List.set_cons_succ]) | (refine wpList_store_mid rfl 52 (.tmp 0) (.tmp 11) rfl w.heap.size 0 (rgCells (fun v x => v == x)).toArray (by simp [Act.eval]) (by rfl) (by rw [rg_size]; exact HAT.out.res) (by rw [rg_size]; exact Try.sizeRings) (rgCells_one _) ?_; simp only [Act.put]))
      have HLD := rg_stored (fun v x => v == x) HAT.out.res
      refine bodyPost_ret (v := .agg (rgCells (fun v x => v == x)).toArray) ?_ rfl ⟨rfl, below_cells (Nat.le_refl _) _ _ _ HAT.out.below⟩
      simp [results, Try.results21, asAddr, HLD]
end Go.Proofs.Ytcabaecbmkgclaa.Mg

namespace Go.Proofs.Ytcabaecbmkgclaa.Mg
open Go.RowKit Mt

/-- The cells of a forest that has reached nothing. -/
def foCells (nr : Nat → Nat) (n : Nat) (mt : Nat → Int) (r : Nat → Nat → Bool) : List Value := matCells nr n mt ++ (rgCells r ++ (List.replicate 24 (Value.int .i64 0) ++ (List.replicate 48 (Value.bool false) ++ [Value.slice none 0 0])))

theorem Try.sizeForest : (Try.prog.info? 54).map (·.size) = some 698 := by kernel_rfl
theorem foCells_len (nr : Nat → Nat) (n : Nat) (mt : Nat → Int) (r : Nat → Nat → Bool) : (foCells nr n mt r).length = 698 := by simp [foCells, matCells_len, rgCells_len]

set_option maxRecDepth 100000 in
theorem build_fo (w : World) (nr : Nat → Nat) (n : Nat) (mt : Nat → Int) (r : Nat → Nat → Bool) : (Instr.build 54 #[(0, .agg (matCells nr n mt).toArray), (1, .agg (rgCells r).toArray)]).run Try.prog w = .ok (.agg (foCells nr n mt r).toArray) w := by kernel_rfl
set_option maxRecDepth 100000 in
theorem alloc_fo (w : World) : (Instr.alloc 54 true (.tuple #[])).run Try.prog w = .ok (.pointer (some ⟨w.heap.size, 0, none⟩)) (w.alloc (.cells (foCells (fun _ => 0) 0 (fun _ => 0) fun _ _ => false).toArray 54)) := by kernel_rfl
end Go.Proofs.Ytcabaecbmkgclaa.Mg

namespace Go.Proofs.Ytcabaecbmkgclaa.Mg
open Go.RowKit Mt

def bareFo (r : Nat → Nat → Bool) : Fo := ⟨r, fun _ => 0, fun _ => false, fun _ => false, []⟩

section
variable {nr : Nat → Nat} {n : Nat} {mt : Nat → Int} {r : Nat → Nat → Bool}

theorem foCells_mat {j : Nat} (hj : j < 49) : (foCells nr n mt r)[j]? = (matCells nr n mt)[j]? := by
  unfold foCells
  rw [List.getElem?_append_left (by rw [matCells_len]; exact hj)]

theorem foCells_ring {v x : Nat} (hv : v < 24) (hx : x < 24) : (foCells nr n mt r)[49 + v * 24 + x]? = some (.bool (r v x)) := by
  unfold foCells
  rw [List.getElem?_append_right (by rw [matCells_len]; omega), matCells_len, List.getElem?_append_left (by rw [rgCells_len]; omega), show 49 + v * 24 + x - 49 = v * 24 + x by omega, rgCells_at r hv hx]

theorem foCells_next {k : Nat} (hk : k < 24) : (foCells nr n mt r)[625 + k]? = some (.int .i64 0) := by
  unfold foCells
  rw [List.getElem?_append_right (by rw [matCells_len]; omega), matCells_len, List.getElem?_append_right (by rw [rgCells_len]; omega), rgCells_len, List.getElem?_append_left (by rw [List.length_replicate]; omega)]
  exact List.getElem?_replicate_of_lt (by omega)

theorem foCells_flags {k : Nat} (hk : k < 48) : (foCells nr n mt r)[649 + k]? = some (.bool false) := by
  unfold foCells
  rw [List.getElem?_append_right (by rw [matCells_len]; omega), matCells_len, List.getElem?_append_right (by rw [rgCells_len]; omega), rgCells_len, List.getElem?_append_right (by rw [List.length_replicate]; omega), List.length_replicate, List.getElem?_append_left (by rw [List.length_replicate]; omega)]
  exact List.getElem?_replicate_of_lt (by omega)

theorem foCells_queue : (foCells nr n mt r)[697]? = some (.slice none 0 0) := by
  unfold foCells
  rw [List.getElem?_append_right (by rw [matCells_len]; omega), matCells_len, List.getElem?_append_right (by rw [rgCells_len]; omega), rgCells_len, List.getElem?_append_right (by simp), List.getElem?_append_right (by simp)]
  simp

theorem FAt.bare {w : World} {F : Nat} {g : Gr} {mate : Nat → Option Nat} (h : w.rangeAt F 0 (foCells nr n mt r)) (hf : ∀ i, w.frozen? ⟨F, i, none⟩ = false)
    (hb : ∀ k, k < 24 → nr k < 4294967296 ∧ ∀ j, j < 24 → (nr k).testBit j = g.adj k j) (hn : n = g.n) (hm : ∀ k, k < 24 → mt k = mi (mate k)) : FAt w F g mate (bareFo r) := by
  have c : ∀ j u, (foCells nr n mt r)[j]? = some u → w.cell? ⟨F, j, none⟩ = some u := fun j u hu => by
    have := h j u hu
    rwa [Nat.zero_add] at this
  refine ⟨fun k hk => ⟨nr k, c k _ (by rw [foCells_mat (by omega), matCells_near _ _ _ hk]), (hb k hk).1, (hb k hk).2⟩, by rw [← hn]; exact c 24 _ (by rw [foCells_mat (by omega), matCells_n]), fun k hk => by rw [← hm k hk]; exact c _ _ (by rw [foCells_mat (by omega), matCells_mate _ _ _ hk]),
    fun v x hv hx => c _ _ (foCells_ring hv hx), fun k hk => c _ _ (foCells_next hk), fun k hk => c _ _ (foCells_flags (by omega)), fun k hk => ?_, ⟨_, c _ _ foCells_queue, Ints.nil _ _, by simp [Value.ownBlock]⟩, hf⟩
  have := c (649 + (24 + k)) _ (foCells_flags (by omega))
  rwa [show 649 + (24 + k) = 673 + k by omega] at this
end
end Go.Proofs.Ytcabaecbmkgclaa.Mg

namespace Go.Proofs.Ytcabaecbmkgclaa.Mg
open Go.RowKit Mt

theorem heap_cells_ne {b k : Nat} (hk : k ≠ b) : ∀ (vs : List Value) (o : Nat) (w : World), (w.setCells b o vs).heap[k]? = w.heap[k]?
  | [], _, _ => rfl
  | v :: vs, o, w => by
    rw [World.setCells]
    refine (heap_cells_ne hk vs _ _).trans ?_
    exact Below.heap_setCell w ⟨b, o, none⟩ v k hk

theorem size_cells (b : Nat) : ∀ (vs : List Value) (o : Nat) (w : World), (w.setCells b o vs).heap.size = w.heap.size
  | [], _, _ => rfl
  | v :: vs, o, w => by
    rw [World.setCells, size_cells b vs]
    simp

def rootsTo (mate : Nat → Option Nat) (c : Nat) : Fo :=
  ⟨fun v x => v == x, fun _ => 0, fun v => decide (v < c) && (mate v).isNone, fun _ => false, (List.range c).filter fun v => (mate v).isNone⟩

theorem rootsTo_zero (mate : Nat → Option Nat) : rootsTo mate 0 = bareFo fun v x => v == x := by
  unfold rootsTo bareFo
  simp

theorem rootsTo_no {mate : Nat → Option Nat} {c : Nat} (h : (mate c).isNone = false) : rootsTo mate (c + 1) = rootsTo mate c := by
  unfold rootsTo
  rw [filter_no (p := fun v => (mate v).isNone) h]
  congr 1
  funext v
  by_cases e : v = c
  · subst e
    simp [h]
  · congr 1
    simp
    omega

theorem rootsTo_yes {mate : Nat → Option Nat} {c : Nat} (h : mate c = none) : { rootsTo mate c with outer := setAt (rootsTo mate c).outer c true, queue := (rootsTo mate c).queue ++ [c] } = rootsTo mate (c + 1) := by
  have e1 : setAt (rootsTo mate c).outer c true = (rootsTo mate (c + 1)).outer := by
    funext v
    simp only [setAt, rootsTo]
    by_cases e : v = c
    · subst e
      simp [h]
    · rw [if_neg e]
      congr 1
      simp
      omega
  have e2 : (rootsTo mate c).queue ++ [c] = (rootsTo mate (c + 1)).queue := (filter_yes (p := fun v => (mate v).isNone) (by rw [h]; rfl)).symm
  rw [e1, e2]
  rfl

theorem rootsTo_len (mate : Nat → Option Nat) (c : Nat) : (rootsTo mate c).queue.length ≤ c := filter_len _ c

section
variable {w w' wr : World} {B F : Nat} {g : Gr} {mate : Nat → Option Nat} {f f' : Fo}

theorem FAt.congr (h : FAt w B g mate f) (hr : ∀ v x, v < 24 → x < 24 → f'.ring v x = f.ring v x) (hn : ∀ k, k < 24 → f'.next k = f.next k) (ho : ∀ k, k < 24 → f'.outer k = f.outer k) (hi : ∀ k, k < 24 → f'.inner k = f.inner k) (hq : f'.queue = f.queue) : FAt w B g mate f' :=
  ⟨h.near, h.n, h.mate, fun v x hv hx => by rw [hr v x hv hx]; exact h.ring v x hv hx, fun k hk => by rw [hn k hk]; exact h.next k hk, fun k hk => by rw [ho k hk]; exact h.outer k hk, fun k hk => by rw [hi k hk]; exact h.inner k hk, by rw [hq]; exact h.queue, h.free⟩

theorem FAt.planted (h : FAt w F g mate (rootsTo mate g.n)) : FAt w F g mate (planted g mate) :=
  h.congr (fun v x hv _ => by simp [Mt.planted, rootsTo, hv]) (fun _ _ => rfl) (fun _ _ => rfl) (fun _ _ => rfl) rfl

theorem FAt.cells (h : FAt w F g mate f) (j : Nat) (hj : j < 698) : ∃ v, w.cell? ⟨F, j, none⟩ = some v ∧ v.oneCell' = true := by
  by_cases h1 : j < 24
  · obtain ⟨m, hm, _⟩ := h.near j h1
    exact ⟨_, hm, rfl⟩
  by_cases h2 : j = 24
  · subst h2
    exact ⟨_, h.n, rfl⟩
  by_cases h3 : j < 49
  · obtain ⟨q, rfl⟩ : ∃ q, j = 25 + q := ⟨j - 25, by omega⟩
    exact ⟨_, h.mate q (by omega), rfl⟩
  by_cases h4 : j < 625
  · obtain ⟨q, rfl⟩ : ∃ q, j = 49 + q := ⟨j - 49, by omega⟩
    have := h.ring (q / 24) (q % 24) (by omega) (by omega)
    rw [show 49 + q / 24 * 24 + q % 24 = 49 + q by omega] at this
    exact ⟨_, this, rfl⟩
  by_cases h5 : j < 649
  · obtain ⟨q, rfl⟩ : ∃ q, j = 625 + q := ⟨j - 625, by omega⟩
    exact ⟨_, h.next q (by omega), rfl⟩
  by_cases h6 : j < 673
  · obtain ⟨q, rfl⟩ : ∃ q, j = 649 + q := ⟨j - 649, by omega⟩
    exact ⟨_, h.outer q (by omega), rfl⟩
  by_cases h7 : j < 697
  · obtain ⟨q, rfl⟩ : ∃ q, j = 673 + q := ⟨j - 673, by omega⟩
    exact ⟨_, h.inner q (by omega), rfl⟩
  obtain rfl : j = 697 := by omega
  obtain ⟨v, hv, hI, _⟩ := h.queue
  obtain ⟨so, sc, rfl⟩ := hI.shape
  exact ⟨_, hv, rfl⟩

def blockCells (w : World) (F n : Nat) : List Value := (List.range n).map fun j => (w.cell? ⟨F, j, none⟩).getD (.bool false)

theorem blockCells_len (w : World) (F n : Nat) : (blockCells w F n).length = n := by simp [blockCells]

theorem FAt.cellsAt (h : FAt w F g mate f) {j : Nat} (hj : j < 698) : (blockCells w F 698)[j]? = w.cell? ⟨F, j, none⟩ := by
  obtain ⟨v, hv, _⟩ := h.cells j hj
  unfold blockCells
  simp [hj, hv]

theorem FAt.range (h : FAt w F g mate f) : w.rangeAt F 0 (blockCells w F 698) := by
  intro j v hj
  have hl := (List.getElem?_eq_some_iff.1 hj).1
  rw [blockCells_len] at hl
  rw [h.cellsAt hl] at hj
  rw [Nat.zero_add]
  exact hj

theorem FAt.cellsOne (h : FAt w F g mate f) : (blockCells w F 698).toArray.all (·.oneCell') = true := all_oneCell_toArray (by
  intro v hv
  obtain ⟨j, hj⟩ := List.mem_iff_getElem?.1 hv
  have hl := (List.getElem?_eq_some_iff.1 hj).1
  rw [blockCells_len] at hl
  obtain ⟨u, hu, h1⟩ := h.cells j hl
  rw [h.cellsAt hl, hu] at hj
  cases hj
  exact h1)

/-- A forest's cells laid in another block, its queue's row as it stood. -/
theorem FAt.moved (h : FAt w F g mate f) {F' : Nat} (hr : w'.rangeAt F' 0 (blockCells w F 698)) (hz : ∀ i, w'.frozen? ⟨F', i, none⟩ = false) (hq : ∀ v k, w.cell? ⟨F, 697, none⟩ = some v → v.ownBlock = some k → k ≠ F' ∧ w'.heap[k]? = w.heap[k]?) : FAt w' F' g mate f := by
  have c : ∀ j, j < 698 → w'.cell? ⟨F', j, none⟩ = w.cell? ⟨F, j, none⟩ := fun j hj => by
    obtain ⟨v, hv, _⟩ := h.cells j hj
    have := hr j v (by rw [h.cellsAt hj, hv])
    rw [Nat.zero_add] at this
    rw [this, hv]
  obtain ⟨v, hv, hI, hne⟩ := h.queue
  refine ⟨fun k hk => by rw [c _ (by omega)]; exact h.near k hk, by rw [c _ (by omega)]; exact h.n, fun k hk => by rw [c _ (by omega)]; exact h.mate k hk, fun v x hv hx => by rw [c _ (by omega)]; exact h.ring v x hv hx, fun k hk => by rw [c _ (by omega)]; exact h.next k hk, fun k hk => by rw [c _ (by omega)]; exact h.outer k hk,
    fun k hk => by rw [c _ (by omega)]; exact h.inner k hk, ⟨v, by rw [c _ (by omega)]; exact hv, ownsRow_same hI fun k hk => (hq v k hv hk).2, fun e => (hq v F' hv e).1 rfl⟩, hz⟩
end
end Go.Proofs.Ytcabaecbmkgclaa.Mg
