/-
  The document's Sum.
  The document's valences.
  The document's hydrogens.
  The document's Candidate.
  Hydrogens and valences of the document beside the plain ones.
  The leftmost open ring number, beside the document's list.
  The document's Parse: what its loops need.
-/
import Derived.Test.YtcabaecbmkgclaaGreatDoorR18
namespace Go.Proofs.YtcabaecbmkgclaaGreatDoor
open Go.RowKit Bz
section
variable {w : World}
set_option maxRecDepth 100000 in
set_option maxHeartbeats 2000000 in
theorem rsum_any {base : Nat} {va vb : Value} {l : List Bnd} (ho : w.ownsRow base 46 3 vb l.length (l.flatMap bndCells)) (a : Nat) (hl : l.length ≤ 1000) (hb : ∀ b ∈ l, 1 ≤ b.o ∧ b.o ≤ 4) :
    Calls Tryz.prog 99 #[.agg #[va, vb], .int .i64 a] w fun e w' => e = .returned (.int .i64 (Bz.sum l a)) ∧ Below w.heap.size w w' := by
  have HS : Hid _ := sum_bd l a hb
  have HB : Hid (∀ b ∈ l, 1 ≤ b.o ∧ b.o ≤ 4) := hb
  obtain ⟨bo, bc, rfl⟩ := ownsRow_shape ho
  have hbox : Hid (∀ t, (w.alloc (.cells #[va, .slice bo l.length bc] t)).cell? ⟨w.heap.size, 1, none⟩ = some (.slice bo l.length bc)) := by intro t; simp [go_sem]
  have HBel : Hid (∀ o, Below w.heap.size w (w.alloc o)) := fun o => (Below.refl _ _).alloc (Nat.le_refl _) o
  have HO : Hid (∀ o, (w.alloc o).ownsRow base 46 3 (.slice bo l.length bc) l.length (l.flatMap bndCells)) := fun o => ho.alloc o
  have HLt : Hid (∀ o, w.heap.size < (w.alloc o).heap.size) := by intro o; simp
  clear hb ho
  go_enter Tryz.func99, Tryz.ntmps99
  go_wp2_with fail
  have hbx := hbox.out 39
  have hBel := HBel.out (.cells #[va, .slice bo l.length bc] 39)
  have hO := HO.out (.cells #[va, .slice bo l.length bc] 39)
  have hLt := HLt.out (.cells #[va, .slice bo l.length bc] 39)
  generalize World.alloc w _ = w1 at *
  have HBl : Hid (Below w.heap.size w w1) := hBel
  have HO1 : Hid (w1.ownsRow base 46 3 (.slice bo l.length bc) l.length (l.flatMap bndCells)) := hO
  clear hBel hO hbox HBel HO HLt
  go_loopg [5, 6] (l.length + 1) (fun k vs vi wr => SumAt w1 l a k vs vi wr)
  case atStart => exact ⟨0, by omega, by omega, rfl, by simp [Bz.sum], Below.refl _ _⟩
  case round =>
    obtain ⟨i, hi, hk, rfl, rfl, hbel⟩ := hrel
    have c1 := (hbel.cell (p := ⟨w.heap.size, 1, none⟩) hLt).trans hbx
    have hsz := hbel.size
    have HBe : Hid (Below w1.heap.size w1 wr) := hbel
    by_cases hlt : i < l.length
    · have hlt' : (i : Int) < (l.length : Int) := by omega
      have hsi := HS.out i hi
      have hst := sum_take l a i hlt
      have hbo := HB.out l[i] (List.getElem_mem _)
      have gi := List.getElem?_eq_getElem hlt
      obtain ⟨g, cap', hv, h1, h2, h3, h4⟩ := ownsRow_at HO1.out (by omega)
      simp only [Value.slice.injEq] at hv
      obtain ⟨rfl, _, rfl⟩ := hv
      have d0 := flatMap_get bndCells 3 bndCells_len _ i 0 _ gi (by omega)
      have d1 := flatMap_get bndCells 3 bndCells_len _ i 1 _ gi (by omega)
      have d2 := flatMap_get bndCells 3 bndCells_len _ i 2 _ gi (by omega)
      rw [Nat.add_zero] at d0
      have e0 := ((hbel.cell (p := ⟨g, i * 3, none⟩) h2).trans (h3 (i * 3) (by omega))).trans d0
      have e1 := ((hbel.cell (p := ⟨g, i * 3 + 1, none⟩) h2).trans (h3 (i * 3 + 1) (by omega))).trans d1
      have e2 := ((hbel.cell (p := ⟨g, i * 3 + 2, none⟩) h2).trans (h3 (i * 3 + 2) (by omega))).trans d2
      generalize l[i] = b at *
      obtain ⟨ba, bb, b3, bpl⟩ := b
      simp only [bndCells, List.getElem?_cons_zero, List.getElem?_cons_succ] at e0 e1 e2 hbo
      have HST : Hid _ := hst
      clear hst gi d0 d1 d2 h3 h4 hbel
      generalize Bz.sum (l.take i) a = sm at *
      have FIN : Hid (∀ wx, Below w1.heap.size w1 wx → ∀ u : Int, u = sm + part a ⟨ba, bb, b3, bpl⟩ → SumAt w1 l a (l.length - (i + 1)) (.int .i64 u) (.int .i64 ((i : Int) + 1)) wx) := by
        intro wx hx u hu
        exact ⟨i + 1, by omega, Nat.le_refl _, by go_num, by rw [HST.out, hu], hx⟩
      have hnat : ∀ m : Nat, ((m : Int) != (a : Int)) = !decide (m = a) := by intro m; rw [Bool.eq_iff_iff]; simp; omega
      have HP : Hid (part a ⟨ba, bb, b3, bpl⟩ = if (!((ba : Int) != (a : Int)) || !((bb : Int) != (a : Int))) = true then (if (b3 == 4) = true then 1 else b3) else 0) := by
        unfold Hid part
        rw [hnat, hnat]
        simp
      clear hnat
      cases n1 : ((ba : Int) != (a : Int)) <;> cases n2 : ((bb : Int) != (a : Int)) <;> cases n4 : (b3 == 4)
      all_goals
        rw [n1, n2, n4] at HP
        go_wp2_with fail
        go_roundg (l.length - (i + 1))
        case measure => omega
        case rel => exact FIN.out _ (by repeat (first | with_reducible exact HBe.out | with_reducible refine Below.setCell ?_ hsz _ | with_reducible refine Below.alloc ?_ hsz _)) _ (by rw [HP.out]; simp)
    · have hlt' : ¬ (i : Int) < (l.length : Int) := by omega
      have he : i = l.length := by omega
      have HE : Hid (Bz.sum (l.take i) a = Bz.sum l a) := by unfold Hid; rw [he, List.take_length]
      clear he hbel
      go_wp2_with fail
      go_ret
      exact ⟨ret_int HE.out, HBl.out.trans (HBe.out.mono HBl.out.size)⟩
end
def vNames : List ByteArray := [⟨#[66]⟩, ⟨#[67]⟩, ⟨#[78]⟩, ⟨#[79]⟩, ⟨#[80]⟩, ⟨#[83]⟩]
def vTable : List (List (List Int)) := [[[3], [], [4]], [[4], [3], [3]], [[3, 5], [4], [2]], [[2], [3], [1]], [[3, 5], [4], [2]], [[2, 4, 6], [3, 5], [1]]]
def chAt (ch : Int) : Nat := if ch = 1 then 1 else if ch = -1 then 2 else 0

/-- A row of three lists of numbers. -/
def Row3 (w : World) (K : Nat) (l : List (List Int)) : Prop := ∃ u v x, w.cell? ⟨K, 0, none⟩ = some u ∧ w.cell? ⟨K, 1, none⟩ = some v ∧ w.cell? ⟨K, 2, none⟩ = some x ∧ l.length = 3 ∧ IntsAt w u (l.getD 0 []) ∧ IntsAt w v (l.getD 1 []) ∧ IntsAt w x (l.getD 2 [])

/-- The table lies in memory. -/
def ValsAt (w wc : World) (v : Value) : Prop :=
  ∃ H, v = .slice (some ⟨H, 0, none⟩) 6 6 ∧ Below w.heap.size w wc ∧
    (∀ i, i < 6 → wc.cell? ⟨w.heap.size, i, none⟩ = some (.string (vNames.getD i ⟨#[]⟩))) ∧
    (∀ i, i < 6 → ∃ K, wc.cell? ⟨H, i, none⟩ = some (.slice (some ⟨K, 0, none⟩) 3 3) ∧ Row3 wc K (vTable.getD i []))

theorem six {P : Nat → Prop} (h0 : P 0) (h1 : P 1) (h2 : P 2) (h3 : P 3) (h4 : P 4) (h5 : P 5) : ∀ i, i < 6 → P i := by
  intro i hi
  rcases (by omega : i = 0 ∨ i = 1 ∨ i = 2 ∨ i = 3 ∨ i = 4 ∨ i = 5) with rfl | rfl | rfl | rfl | rfl | rfl <;> assumption

set_option maxRecDepth 100000 in
set_option maxHeartbeats 4000000 in
theorem rval_any (el : ByteArray) (ch : Int) (hch : ch = 0 ∨ ch = 1 ∨ ch = -1) (w : World) : Calls Tryz.prog 100 #[.string el, .int .i64 ch] w (ValPost w (valences el ch)) := by
  go_enter Tryz.func100, Tryz.ntmps100
  go_upto_region 2 with fail
  go_cut [6] from 10 to 33 (fun v wc => ValsAt w wc v)
  case first =>
    go_wp2_with fail
    go_meet
    case rel =>
      refine ⟨_, rfl, (by repeat (first | with_reducible exact Below.refl _ _ | with_reducible refine below_drewN ?_ _ | with_reducible refine Below.drew ?_ | with_reducible refine Below.setCell ?_ (by simp) _ | with_reducible refine Below.alloc ?_ (by simp; try omega) _)), six (by simp [go_sem, vNames]) (by simp [go_sem, vNames]) (by simp [go_sem, vNames]) (by simp [go_sem, vNames]) (by simp [go_sem, vNames]) (by simp [go_sem, vNames]), six ?_ ?_ ?_ ?_ ?_ ?_⟩
      · exact ⟨w.heap.size + 3, by simp [go_sem], .slice (some ⟨w.heap.size + 1, 0, none⟩) 1 1, .slice none 0 0, .slice (some ⟨w.heap.size + 2, 0, none⟩) 1 1, by simp [go_sem], by simp [go_sem], by simp [go_sem], rfl, intsAt1 (by simp [go_sem]), intsAt_nil _, intsAt1 (by simp [go_sem])⟩
      · exact ⟨w.heap.size + 7, by simp [go_sem], .slice (some ⟨w.heap.size + 4, 0, none⟩) 1 1, .slice (some ⟨w.heap.size + 5, 0, none⟩) 1 1, .slice (some ⟨w.heap.size + 6, 0, none⟩) 1 1, by simp [go_sem], by simp [go_sem], by simp [go_sem], rfl, intsAt1 (by simp [go_sem]), intsAt1 (by simp [go_sem]), intsAt1 (by simp [go_sem])⟩
      · exact ⟨w.heap.size + 11, by simp [go_sem], .slice (some ⟨w.heap.size + 8, 0, none⟩) 2 2, .slice (some ⟨w.heap.size + 9, 0, none⟩) 1 1, .slice (some ⟨w.heap.size + 10, 0, none⟩) 1 1, by simp [go_sem], by simp [go_sem], by simp [go_sem], rfl, intsAt2 (by simp [go_sem]) (by simp [go_sem]), intsAt1 (by simp [go_sem]), intsAt1 (by simp [go_sem])⟩
      · exact ⟨w.heap.size + 15, by simp [go_sem], .slice (some ⟨w.heap.size + 12, 0, none⟩) 1 1, .slice (some ⟨w.heap.size + 13, 0, none⟩) 1 1, .slice (some ⟨w.heap.size + 14, 0, none⟩) 1 1, by simp [go_sem], by simp [go_sem], by simp [go_sem], rfl, intsAt1 (by simp [go_sem]), intsAt1 (by simp [go_sem]), intsAt1 (by simp [go_sem])⟩
      · exact ⟨w.heap.size + 19, by simp [go_sem], .slice (some ⟨w.heap.size + 16, 0, none⟩) 2 2, .slice (some ⟨w.heap.size + 17, 0, none⟩) 1 1, .slice (some ⟨w.heap.size + 18, 0, none⟩) 1 1, by simp [go_sem], by simp [go_sem], by simp [go_sem], rfl, intsAt2 (by simp [go_sem]) (by simp [go_sem]), intsAt1 (by simp [go_sem]), intsAt1 (by simp [go_sem])⟩
      · exact ⟨w.heap.size + 23, by simp [go_sem], .slice (some ⟨w.heap.size + 20, 0, none⟩) 3 3, .slice (some ⟨w.heap.size + 21, 0, none⟩) 2 2, .slice (some ⟨w.heap.size + 22, 0, none⟩) 1 1, by simp [go_sem], by simp [go_sem], by simp [go_sem], rfl, intsAt3 (by simp [go_sem]) (by simp [go_sem]) (by simp [go_sem]), intsAt2 (by simp [go_sem]) (by simp [go_sem]), intsAt1 (by simp [go_sem])⟩
  case rest =>
    obtain ⟨H, rfl, hbel, hn, ht⟩ := hcut
    have HB : Hid (Below w.heap.size w wc) := hbel
    have HN : Hid (∀ i, i < 6 → wc.cell? ⟨w.heap.size, i, none⟩ = some (.string (vNames.getD i ⟨#[]⟩))) := hn
    have HT : Hid (∀ i, i < 6 → ∃ K, wc.cell? ⟨H, i, none⟩ = some (.slice (some ⟨K, 0, none⟩) 3 3) ∧ Row3 wc K (vTable.getD i [])) := ht
    have hsz := hbel.size
    clear hbel hn ht
    have HV : Hid (∀ k : Nat, k = chAt ch → (∀ i, i < 6 → vNames.getD i ⟨#[]⟩ = el → valences el ch = (vTable.getD i []).getD k []) ∧ ((∀ i, i < 6 → vNames.getD i ⟨#[]⟩ ≠ el) → valences el ch = [[1], [2], [0]].getD k [])) := by
      intro k hk
      subst hk
      refine ⟨six ?_ ?_ ?_ ?_ ?_ ?_, ?_⟩
      · rintro rfl; rcases hch with rfl | rfl | rfl <;> decide
      · rintro rfl; rcases hch with rfl | rfl | rfl <;> decide
      · rintro rfl; rcases hch with rfl | rfl | rfl <;> decide
      · rintro rfl; rcases hch with rfl | rfl | rfl <;> decide
      · rintro rfl; rcases hch with rfl | rfl | rfl <;> decide
      · rintro rfl; rcases hch with rfl | rfl | rfl <;> decide
      · intro h
        have h0 := h 0 (by omega)
        have h1 := h 1 (by omega)
        have h2 := h 2 (by omega)
        have h3 := h 3 (by omega)
        have h4 := h 4 (by omega)
        have h5 := h 5 (by omega)
        simp only [vNames, List.getD_cons_zero, List.getD_cons_succ] at h0 h1 h2 h3 h4 h5
        unfold valences
        simp only
        rw [if_neg (Ne.symm h0), if_neg (Ne.symm h1), if_neg (fun e => e.elim (fun e => h2 e.symm) (fun e => h4 e.symm)), if_neg (Ne.symm h3), if_neg (Ne.symm h5)]
        rcases hch with rfl | rfl | rfl <;> decide
    rcases hch with rfl | rfl | rfl
    · have HVk := HV.out 0 (by decide)
      have HV1 : Hid _ := HVk.1
      have HV2 : Hid _ := HVk.2
      clear HVk HV
      go_wp2_with fail
      go_loopg [8] 7 (fun kk vi wr => ∃ i : Nat, i ≤ 6 ∧ 6 - i ≤ kk ∧ vi = .int .i64 i ∧ wr = wc ∧ ∀ j, j < i → vNames.getD j ⟨#[]⟩ ≠ el)
      case atStart => exact ⟨0, by omega, by omega, rfl, rfl, by intro j hj; omega⟩
      case round =>
        obtain ⟨i, hi, hkk, rfl, rfl, hall⟩ := hrel
        have HA : Hid _ := hall
        clear hall
        by_cases hlt : i < 6
        · have hlt' : (i : Int) < 6 := by omega
          have cn := HN.out i hlt
          by_cases he : vNames.getD i ⟨#[]⟩ = el
          · have HVi : Hid _ := HV1.out i hlt he
            obtain ⟨K, cK, u, v, x, c0, c1, c2, _, i0, i1, i2⟩ := HT.out i hlt
            rw [he] at cn
            have I : Hid (IntsAt wr u ((vTable.getD i []).getD 0 [])) := i0
            clear he i0 i1 i2
            go_wp2_with fail
            go_ret
            exact ⟨_, rfl, by rw [HVi.out]; exact I.out, HB.out⟩
          · have hb : ((vNames.getD i ⟨#[]⟩).toList == el.toList) = false := by
              cases hq : ((vNames.getD i ⟨#[]⟩).toList == el.toList)
              · rfl
              · exfalso
                apply he
                apply bytes_ext
                rw [ByteArray.toList_eq, ByteArray.toList_eq] at hq
                simpa using hq
            have HE : Hid (vNames.getD i ⟨#[]⟩ ≠ el) := he
            clear he
            generalize hnm : vNames.getD i ⟨#[]⟩ = nm at cn hb
            clear hnm
            go_wp2_with fail
            go_roundg (6 - (i + 1))
            case measure => omega
            case rel =>
              refine ⟨i + 1, by omega, Nat.le_refl _, by go_num, rfl, ?_⟩
              intro j hj
              by_cases e : j = i
              · subst e; exact HE.out
              · exact HA.out j (by omega)
        · have hlt' : ¬ (i : Int) < 6 := by omega
          have HVn : Hid _ := HV2.out (fun j hj => HA.out j (by omega))
          go_wp2_with fail
          go_ret
          refine ⟨_, rfl, by rw [HVn.out]; exact intsAt1 (by simp [go_sem]), ?_⟩
          repeat (first | with_reducible exact HB.out | with_reducible refine Below.alloc ?_ (by first | exact hsz | (simp; omega)) _)
    · have HVk := HV.out 1 (by decide)
      have HV1 : Hid _ := HVk.1
      have HV2 : Hid _ := HVk.2
      clear HVk HV
      go_wp2_with fail
      go_loopg [8] 7 (fun kk vi wr => ∃ i : Nat, i ≤ 6 ∧ 6 - i ≤ kk ∧ vi = .int .i64 i ∧ wr = wc ∧ ∀ j, j < i → vNames.getD j ⟨#[]⟩ ≠ el)
      case atStart => exact ⟨0, by omega, by omega, rfl, rfl, by intro j hj; omega⟩
      case round =>
        obtain ⟨i, hi, hkk, rfl, rfl, hall⟩ := hrel
        have HA : Hid _ := hall
        clear hall
        by_cases hlt : i < 6
        · have hlt' : (i : Int) < 6 := by omega
          have cn := HN.out i hlt
          by_cases he : vNames.getD i ⟨#[]⟩ = el
          · have HVi : Hid _ := HV1.out i hlt he
            obtain ⟨K, cK, u, v, x, c0, c1, c2, _, i0, i1, i2⟩ := HT.out i hlt
            rw [he] at cn
            have I : Hid (IntsAt wr v ((vTable.getD i []).getD 1 [])) := i1
            clear he i0 i1 i2
            go_wp2_with fail
            go_ret
            exact ⟨_, rfl, by rw [HVi.out]; exact I.out, HB.out⟩
          · have hb : ((vNames.getD i ⟨#[]⟩).toList == el.toList) = false := by
              cases hq : ((vNames.getD i ⟨#[]⟩).toList == el.toList)
              · rfl
              · exfalso
                apply he
                apply bytes_ext
                rw [ByteArray.toList_eq, ByteArray.toList_eq] at hq
                simpa using hq
            have HE : Hid (vNames.getD i ⟨#[]⟩ ≠ el) := he
            clear he
            generalize hnm : vNames.getD i ⟨#[]⟩ = nm at cn hb
            clear hnm
            go_wp2_with fail
            go_roundg (6 - (i + 1))
            case measure => omega
            case rel =>
              refine ⟨i + 1, by omega, Nat.le_refl _, by go_num, rfl, ?_⟩
              intro j hj
              by_cases e : j = i
              · subst e; exact HE.out
              · exact HA.out j (by omega)
        · have hlt' : ¬ (i : Int) < 6 := by omega
          have HVn : Hid _ := HV2.out (fun j hj => HA.out j (by omega))
          go_wp2_with fail
          go_ret
          refine ⟨_, rfl, by rw [HVn.out]; exact intsAt1 (by simp [go_sem]), ?_⟩
          repeat (first | with_reducible exact HB.out | with_reducible refine Below.alloc ?_ (by first | exact hsz | (simp; omega)) _)
    · have HVk := HV.out 2 (by decide)
      have HV1 : Hid _ := HVk.1
      have HV2 : Hid _ := HVk.2
      clear HVk HV
      go_wp2_with fail
      go_loopg [8] 7 (fun kk vi wr => ∃ i : Nat, i ≤ 6 ∧ 6 - i ≤ kk ∧ vi = .int .i64 i ∧ wr = wc ∧ ∀ j, j < i → vNames.getD j ⟨#[]⟩ ≠ el)
      case atStart => exact ⟨0, by omega, by omega, rfl, rfl, by intro j hj; omega⟩
      case round =>
        obtain ⟨i, hi, hkk, rfl, rfl, hall⟩ := hrel
        have HA : Hid _ := hall
        clear hall
        by_cases hlt : i < 6
        · have hlt' : (i : Int) < 6 := by omega
          have cn := HN.out i hlt
          by_cases he : vNames.getD i ⟨#[]⟩ = el
          · have HVi : Hid _ := HV1.out i hlt he
            obtain ⟨K, cK, u, v, x, c0, c1, c2, _, i0, i1, i2⟩ := HT.out i hlt
            rw [he] at cn
            have I : Hid (IntsAt wr x ((vTable.getD i []).getD 2 [])) := i2
            clear he i0 i1 i2
            go_wp2_with fail
            go_ret
            exact ⟨_, rfl, by rw [HVi.out]; exact I.out, HB.out⟩
          · have hb : ((vNames.getD i ⟨#[]⟩).toList == el.toList) = false := by
              cases hq : ((vNames.getD i ⟨#[]⟩).toList == el.toList)
              · rfl
              · exfalso
                apply he
                apply bytes_ext
                rw [ByteArray.toList_eq, ByteArray.toList_eq] at hq
                simpa using hq
            have HE : Hid (vNames.getD i ⟨#[]⟩ ≠ el) := he
            clear he
            generalize hnm : vNames.getD i ⟨#[]⟩ = nm at cn hb
            clear hnm
            go_wp2_with fail
            go_roundg (6 - (i + 1))
            case measure => omega
            case rel =>
              refine ⟨i + 1, by omega, Nat.le_refl _, by go_num, rfl, ?_⟩
              intro j hj
              by_cases e : j = i
              · subst e; exact HE.out
              · exact HA.out j (by omega)
        · have hlt' : ¬ (i : Int) < 6 := by omega
          have HVn : Hid _ := HV2.out (fun j hj => HA.out j (by omega))
          go_wp2_with fail
          go_ret
          refine ⟨_, rfl, by rw [HVn.out]; exact intsAt1 (by simp [go_sem]), ?_⟩
          repeat (first | with_reducible exact HB.out | with_reducible refine Below.alloc ?_ (by first | exact hsz | (simp; omega)) _)
/-- The hydrogens of an atom without brackets, and whether there is a valence for it. -/
def rhyd (a : Atm) (n : Int) : Int × Bool :=
  if a.aro then (if a.el = ⟨#[67]⟩ then max (3 - n) 0 else 0, true)
  else match (valences a.el 0).find? (fun v => decide (n ≤ v)) with
    | some v => (v - n, true)
    | none => (0, false)

theorem atomAt {w : World} {base : Nat} {va : Value} {ats : List Atm} (h : w.ownsRow base 50 4 va ats.length (ats.flatMap plainCells)) {k : Nat} {a : Atm} (hk : ats[k]? = some a) :
    ∃ g cap, va = .slice (some ⟨g, 0, none⟩) ats.length cap ∧ g < w.heap.size ∧ w.cell? ⟨g, k * 4, none⟩ = some (.string a.el) ∧ w.cell? ⟨g, k * 4 + 1, none⟩ = some (.bool a.aro) ∧ w.cell? ⟨g, k * 4 + 2, none⟩ = some (.int .i64 a.ch) ∧ w.cell? ⟨g, k * 4 + 3, none⟩ = some (.int .i64 a.hy) := by
  have hl : k < ats.length := (List.getElem?_eq_some_iff.1 hk).1
  obtain ⟨g, cap, rfl, h1, h2, h3, h4⟩ := ownsRow_at h (by omega)
  have d0 := flatMap_get plainCells 4 plainCells_len _ k 0 a hk (by omega)
  rw [Nat.add_zero] at d0
  refine ⟨g, cap, rfl, h2, (h3 (k * 4) (by omega)).trans d0, ?_, ?_, ?_⟩
  · exact (h3 (k * 4 + 1) (by omega)).trans (flatMap_get plainCells 4 plainCells_len _ k 1 a hk (by omega))
  · exact (h3 (k * 4 + 2) (by omega)).trans (flatMap_get plainCells 4 plainCells_len _ k 2 a hk (by omega))
  · exact (h3 (k * 4 + 3) (by omega)).trans (flatMap_get plainCells 4 plainCells_len _ k 3 a hk (by omega))

theorem find_first {l : List Int} {i : Nat} {x : Int} {f : Int → Bool} (hi : l[i]? = some x) (hx : f x = true) (hb : ∀ (j : Nat) y, j < i → l[j]? = some y → f y = false) : l.find? f = some x := by
  induction l generalizing i with
  | nil => simp at hi
  | cons a r ih =>
    cases i with
    | zero => simp at hi; subst hi; rw [List.find?_cons_of_pos hx]
    | succ i =>
      have h0 := hb 0 a (by omega) rfl
      rw [List.find?_cons_of_neg (by rw [h0]; decide)]
      exact ih (i := i) (by simpa using hi) (fun j y hj hy => hb (j + 1) y (by omega) (by simpa using hy))

theorem valences_bd (el : ByteArray) (ch : Int) : (valences el ch).length ≤ 3 ∧ ∀ x ∈ valences el ch, 0 ≤ x ∧ x ≤ 9 := by
  unfold valences
  simp only
  repeat' split
  all_goals simp

section
variable {w : World}
set_option maxRecDepth 100000 in
set_option maxHeartbeats 2000000 in
theorem rhyd_any {base : Nat} {va vb : Value} {ats : List Atm} {l : List Bnd} (hA : w.ownsRow base 50 4 va ats.length (ats.flatMap plainCells)) (hB : w.ownsRow base 46 3 vb l.length (l.flatMap bndCells))
    (k : Nat) (a : Atm) (hk : ats[k]? = some a) (hl : l.length ≤ 200) (hb : ∀ b ∈ l, 1 ≤ b.o ∧ b.o ≤ 4) :
    Calls Tryz.prog 73 #[.agg #[va, vb], .int .i64 k] w fun e w' => e = .returned (.tuple #[.int .i64 (rhyd a (Bz.sum l k)).1, .bool (rhyd a (Bz.sum l k)).2]) ∧ Below w.heap.size w w' := by
  have hsb := sum_bd l k hb l.length (Nat.le_refl _)
  rw [List.take_length] at hsb
  have hkl : (k : Int) < (ats.length : Int) := by have := (List.getElem?_eq_some_iff.1 hk).1; omega
  obtain ⟨bo, bc, rfl⟩ := ownsRow_shape hB
  obtain ⟨g, cap, rfl, hg, c0, c1, c2, c3⟩ := atomAt hA hk
  have RS1 : Hid (∀ o o', Calls Tryz.prog 99 #[.agg #[.slice (some ⟨g, 0, none⟩) ats.length cap, .slice bo l.length bc], .int .i64 k] ((w.alloc o).alloc o') fun e w' => e = .returned (.int .i64 (Bz.sum l k)) ∧ Below ((w.alloc o).alloc o').heap.size ((w.alloc o).alloc o') w') := fun o o' => rsum_any ((hB.alloc o).alloc o') k (by omega) hb
  have HV := rval_any a.el 0 (.inl rfl)
  have HVb : Hid _ := valences_bd a.el 0
  have HRh : Hid (∀ n, rhyd a n = if a.aro then (if a.el = ⟨#[67]⟩ then max (3 - n) 0 else 0, true) else match (valences a.el 0).find? (fun v => decide (n ≤ v)) with
    | some v => (v - n, true)
    | none => (0, false)) := fun n => rfl
  have HB2 : Hid (∀ o o', Below w.heap.size w ((w.alloc o).alloc o')) := fun o o' => ((Below.refl _ _).alloc (Nat.le_refl _) o).alloc (by simp) o'
  clear hA hB hb hk
  generalize Bz.sum l k = n at *
  go_enter Tryz.func73, Tryz.ntmps73
  go_wp2_with fail
  refine (RS1.out _ _).mono ?_
  rintro e w2 ⟨rfl, hb2⟩
  have e0 : w2.cell? ⟨w.heap.size + 1, 0, none⟩ = some (.string a.el) := by rw [hb2.cell (by simp)]; simp [go_sem]
  have e1 : w2.cell? ⟨w.heap.size + 1, 1, none⟩ = some (.bool a.aro) := by rw [hb2.cell (by simp)]; simp [go_sem]
  have HBl : Hid (Below w.heap.size w w2) := (HB2.out _ _).trans (hb2.mono (by simp; omega))
  clear hb2 HB2 RS1 c0 c1 c2 c3
  cases ha : a.aro
  · rw [ha] at e1 HRh
    go_wp2_with fail
    refine (HV _).mono ?_
    rintro e w3 ⟨v, rfl, hi, hb3⟩
    have HBl3 : Hid (Below w.heap.size w w3) := HBl.out.trans (hb3.mono HBl.out.size)
    clear hb3 HV e0 e1
    generalize valences a.el 0 = vs at *
    have hvl := HVb.out.1
    have HX : Hid (∀ x ∈ vs, 0 ≤ x ∧ x ≤ 9) := HVb.out.2
    obtain ⟨vo, vc, hv, hcell⟩ : ∃ vo vc, v = .slice vo vs.length vc ∧ ∀ j x, vs[j]? = some x → ∃ g', vo = some ⟨g', 0, none⟩ ∧ w3.cell? ⟨g', j, none⟩ = some (.int .i64 x) := by
      rcases hi with ⟨rfl, rfl⟩ | ⟨g', cap', rfl, hc⟩
      · exact ⟨none, 0, rfl, by intro j x hj; simp at hj⟩
      · exact ⟨_, cap', rfl, fun j x hj => ⟨g', rfl, hc j x hj⟩⟩
    subst hv
    have HCe : Hid (∀ j x, vs[j]? = some x → ∃ g', vo = some ⟨g', 0, none⟩ ∧ w3.cell? ⟨g', j, none⟩ = some (.int .i64 x)) := hcell
    clear hi hcell HVb
    go_wp2_with fail
    go_loopg [9] (vs.length + 1) (fun kk vi wr => ∃ i : Nat, i ≤ vs.length ∧ vs.length - i ≤ kk ∧ vi = .int .i64 i ∧ wr = w3 ∧ ∀ (j : Nat) x, j < i → vs[j]? = some x → ¬ n ≤ x)
    case atStart => exact ⟨0, by omega, by omega, rfl, rfl, by intro j x hj; omega⟩
    case round =>
      obtain ⟨i, hi, hkk, rfl, rfl, hall⟩ := hrel
      have HA : Hid (∀ (j : Nat) x, j < i → vs[j]? = some x → ¬ n ≤ x) := hall
      clear hall
      by_cases hlt : i < vs.length
      · have hlt' : (i : Int) < (vs.length : Int) := by omega
        have gi := List.getElem?_eq_getElem hlt
        have hx9 := HX.out vs[i] (List.getElem_mem _)
        generalize vs[i] = x at gi hx9
        obtain ⟨g', rfl, cx⟩ := HCe.out i x gi
        have HG : Hid _ := gi
        clear gi
        by_cases hnx : n ≤ x
        · have HF : Hid (vs.find? (fun v => decide (n ≤ v)) = some x) := find_first HG.out (by simpa using hnx) (fun j y hj hy => by simpa using HA.out j y hj hy)
          go_wp2_with fail
          go_ret2
          exact ⟨by rw [HRh.out, HF.out]; rfl, HBl3.out⟩
        · have HNX : Hid (¬ n ≤ x) := hnx
          go_wp2_with fail
          go_roundg (vs.length - (i + 1))
          case measure => omega
          case rel =>
            refine ⟨i + 1, by omega, Nat.le_refl _, by go_num, rfl, ?_⟩
            intro j y hj hy
            by_cases e : j = i
            · subst e
              rw [HG.out] at hy
              cases hy
              exact HNX.out
            · exact HA.out j y (by omega) hy
      · have hlt' : ¬ (i : Int) < (vs.length : Int) := by omega
        have HF : Hid (vs.find? (fun v => decide (n ≤ v)) = none) := by
          unfold Hid
          rw [List.find?_eq_none]
          intro y hy
          obtain ⟨j, hj⟩ := List.getElem?_of_mem hy
          have := HA.out j y (by have := (List.getElem?_eq_some_iff.1 hj).1; omega) hj
          simpa using this
        go_wp2_with fail
        go_ret2
        exact ⟨by rw [HRh.out, HF.out]; rfl, HBl3.out⟩
  · rw [ha] at e1 HRh
    by_cases hC : a.el = ⟨#[67]⟩
    · have HR : Hid (rhyd a n = (max (3 - n) 0, true)) := by unfold Hid; rw [HRh.out, if_pos hC]; rfl
      rw [hC] at e0
      clear HV hC HRh
      by_cases h3 : n ≤ 3
      · have h3' : 0 ≤ 3 - n := by omega
        have HM : Hid (max (3 - n) 0 = 3 - n) := by unfold Hid; omega
        go_wp2_with fail
        go_ret2
        exact ⟨by rw [HR.out, HM.out]; rfl, HBl.out⟩
      · have h3' : ¬ 0 ≤ 3 - n := by omega
        have HM : Hid (max (3 - n) 0 = 0) := by unfold Hid; omega
        go_wp2_with fail
        go_ret2
        exact ⟨by rw [HR.out, HM.out]; rfl, HBl.out⟩
    · have HR : Hid (rhyd a n = (0, true)) := by unfold Hid; rw [HRh.out, if_neg hC]; rfl
      have hne := str_ne hC
      clear HV hC HRh
      go_wp2_with fail
      go_ret2
      exact ⟨by rw [HR.out]; rfl, HBl.out⟩
end
def CandPost (w : World) (g : Bool) (e : Ending) (w' : World) : Prop := (∃ b, e = .returned (.tuple #[.bool b, .bool (!g)])) ∧ Below w.heap.size w w'

/-- Is it a candidate? -/
def candB (l : List Bnd) (k : Nat) (a : Atm) : Bool := a.aro && (match valences a.el a.ch with
  | x :: _ => Bz.sum l k + a.hy == x - 1
  | [] => false)

section
variable {w : World}
set_option maxRecDepth 100000 in
set_option maxHeartbeats 2000000 in
theorem rcand_full {base : Nat} {va vb : Value} {ats : List Atm} {l : List Bnd} (hA : w.ownsRow base 50 4 va ats.length (ats.flatMap plainCells)) (hB : w.ownsRow base 46 3 vb l.length (l.flatMap bndCells))
    (k : Nat) (a : Atm) (hk : ats[k]? = some a) (hl : l.length ≤ 200) (hb : ∀ b ∈ l, 1 ≤ b.o ∧ b.o ≤ 4) (hch : a.ch = 0 ∨ a.ch = 1 ∨ a.ch = -1) (hhy : 0 ≤ a.hy ∧ a.hy ≤ 9) (haro : a.aro = true → valences a.el a.ch ≠ []) :
    Calls Tryz.prog 74 #[.agg #[va, vb], .int .i64 k] w fun e w' => e = .returned (.tuple #[.bool (candB l k a), .bool (!Bz.wrong l k a)]) ∧ Below w.heap.size w w' := by
  have hsb := sum_bd l k hb l.length (Nat.le_refl _)
  rw [List.take_length] at hsb
  have hkl : (k : Int) < (ats.length : Int) := by have := (List.getElem?_eq_some_iff.1 hk).1; omega
  obtain ⟨bo, bc, rfl⟩ := ownsRow_shape hB
  obtain ⟨g, cap, rfl, hg, c0, c1, c2, c3⟩ := atomAt hA hk
  have RS1 : Hid (∀ o o', Calls Tryz.prog 99 #[.agg #[.slice (some ⟨g, 0, none⟩) ats.length cap, .slice bo l.length bc], .int .i64 k] ((w.alloc o).alloc o').drew fun e w' => e = .returned (.int .i64 (Bz.sum l k)) ∧ Below ((w.alloc o).alloc o').drew.heap.size ((w.alloc o).alloc o').drew w') := fun o o' => rsum_any ((hB.alloc o).alloc o').drew k (by omega) hb
  have HV := rval_any a.el a.ch hch
  have HVb : Hid _ := valences_bd a.el a.ch
  have HW : Hid (Bz.wrong l k a = if a.aro then (match (valences a.el a.ch).head? with
    | some v => !(Bz.sum l k + a.hy == v - 1) && !(Bz.sum l k + a.hy == v)
    | none => true) else !((valences a.el a.ch).contains (Bz.sum l k + a.hy))) := rfl
  have HC : Hid (candB l k a = (a.aro && (match valences a.el a.ch with
    | x :: _ => Bz.sum l k + a.hy == x - 1
    | [] => false))) := rfl
  have HB2 : Hid (∀ o o', Below w.heap.size w ((w.alloc o).alloc o').drew) := fun o o' => (((Below.refl _ _).alloc (Nat.le_refl _) o).alloc (by simp) o').drew
  have HAr : Hid (a.aro = true → valences a.el a.ch ≠ []) := haro
  clear hA hB hb hk haro hch
  generalize Bz.wrong l k a = wg at *
  generalize candB l k a = cb at *
  generalize Bz.sum l k = n at *
  obtain ⟨hh1, hh2⟩ := hhy
  have HWr : Hid (IntKind.i64.wrap (n + a.hy) = n + a.hy) := by unfold Hid; simp [IntKind.wrap, IntKind.bits, IntKind.signed]; omega
  go_enter Tryz.func74, Tryz.ntmps74
  go_upto_region 2 with fail
  go_cut [7] from 15 to 20 (fun v wc => v = .int .i64 (n + a.hy) ∧ Below w.heap.size w wc ∧ wc.cell? ⟨w.heap.size + 1, 0, none⟩ = some (.string a.el) ∧ wc.cell? ⟨w.heap.size + 1, 1, none⟩ = some (.bool a.aro) ∧ wc.cell? ⟨w.heap.size + 1, 2, none⟩ = some (.int .i64 a.ch))
  case first =>
    go_region_with (go_at_call 99; with_reducible refine (RS1.out _ _).mono ?_; rintro e w2 ⟨rfl, hb2⟩; have d3 : w2.cell? ⟨w.heap.size + 1, 3, none⟩ = some (.int .i64 a.hy) := by (rw [hb2.cell (by simp)]; simp [go_sem]))
    all_goals
      have e0 : w2.cell? ⟨w.heap.size + 1, 0, none⟩ = some (.string a.el) := by rw [hb2.cell (by simp)]; simp [go_sem]
      have e1 : w2.cell? ⟨w.heap.size + 1, 1, none⟩ = some (.bool a.aro) := by rw [hb2.cell (by simp)]; simp [go_sem]
      have e2 : w2.cell? ⟨w.heap.size + 1, 2, none⟩ = some (.int .i64 a.ch) := by rw [hb2.cell (by simp)]; simp [go_sem]
      have HBl : Hid (Below w.heap.size w w2) := (HB2.out _ _).trans (hb2.mono (by simp; omega))
      clear hb2
      go_simp
      go_wp2_with fail
      go_meet
      case rel => exact ⟨congrArg (Value.int .i64) HWr.out, HBl.out, e0, e1, e2⟩
  case rest =>
    obtain ⟨rfl, hbl, e0, e1, e2⟩ := hcut
    have hmb : 0 ≤ n + a.hy ∧ n + a.hy ≤ 1000 := by omega
    have HBl : Hid (Below w.heap.size w wc) := hbl
    have hlt1 := World.block_lt_of_cell? wc _ e0
    clear hbl RS1 HB2 c0 c1 c2 c3 HWr
    generalize n + a.hy = m at *
    go_wp2_with fail
    refine (HV _).mono ?_
    rintro e w3 ⟨v, rfl, hi, hb3⟩
    have d1 := (hb3.cell (p := ⟨w.heap.size + 1, 1, none⟩) hlt1).trans e1
    have HBl3 : Hid (Below w.heap.size w w3) := HBl.out.trans (hb3.mono HBl.out.size)
    clear hb3 HV e0 e1 e2 HBl
    generalize valences a.el a.ch = vs at *
    have hvl := HVb.out.1
    have HX : Hid (∀ x ∈ vs, 0 ≤ x ∧ x ≤ 9) := HVb.out.2
    obtain ⟨vo, vc, hv, hcell⟩ : ∃ vo vc, v = .slice vo vs.length vc ∧ ∀ j x, vs[j]? = some x → ∃ g', vo = some ⟨g', 0, none⟩ ∧ w3.cell? ⟨g', j, none⟩ = some (.int .i64 x) := by
      rcases hi with ⟨rfl, rfl⟩ | ⟨g', cap', rfl, hc⟩
      · exact ⟨none, 0, rfl, by intro j x hj; simp at hj⟩
      · exact ⟨_, cap', rfl, fun j x hj => ⟨g', rfl, hc j x hj⟩⟩
    subst hv
    have HCe : Hid (∀ j x, vs[j]? = some x → ∃ g', vo = some ⟨g', 0, none⟩ ∧ w3.cell? ⟨g', j, none⟩ = some (.int .i64 x)) := hcell
    clear hi hcell HVb
    cases ha : a.aro
    · rw [ha] at d1 HW HC
      have HCF : Hid (cb = false) := HC.out
      clear HAr HC
      go_wp2_with fail
      go_loopg [9] (vs.length + 1) (fun kk vi wr' => ∃ i : Nat, i ≤ vs.length ∧ vs.length - i ≤ kk ∧ vi = .int .i64 i ∧ wr' = w3 ∧ ∀ (j : Nat) x, j < i → vs[j]? = some x → x ≠ m)
      case atStart => exact ⟨0, by omega, by omega, rfl, rfl, by intro j x hj; omega⟩
      case round =>
        obtain ⟨i, hi, hkk, rfl, rfl, hall⟩ := hrel
        have HA : Hid (∀ (j : Nat) x, j < i → vs[j]? = some x → x ≠ m) := hall
        clear hall
        by_cases hlt : i < vs.length
        · have hlt' : (i : Int) < (vs.length : Int) := by omega
          have gi := List.getElem?_eq_getElem hlt
          generalize vs[i] = x at gi
          obtain ⟨g', rfl, cx⟩ := HCe.out i x gi
          have HG : Hid (vs[i]? = some x) := gi
          clear gi
          cases hnx : (x == m)
          · have HNX : Hid (x ≠ m) := by unfold Hid; simpa using hnx
            go_wp2_with fail
            go_roundg (vs.length - (i + 1))
            case measure => omega
            case rel =>
              refine ⟨i + 1, by omega, Nat.le_refl _, by go_num, rfl, ?_⟩
              intro j y hj hy
              by_cases e : j = i
              · subst e
                rw [HG.out] at hy
                cases hy
                exact HNX.out
              · exact HA.out j y (by omega) hy
          · have HF : Hid (wg = false) := by
              unfold Hid
              have hm : m ∈ vs := by have := List.mem_of_getElem? HG.out; simp at hnx; rw [← hnx]; exact this
              rw [HW.out]
              simp [hm]
            go_wp2_with fail
            go_ret2
            exact ⟨by rw [HF.out, HCF.out]; rfl, HBl3.out⟩
        · have hlt' : ¬ (i : Int) < (vs.length : Int) := by omega
          have HF : Hid (wg = true) := by
            unfold Hid
            have hm : m ∉ vs := by
              intro hm
              obtain ⟨j, hj⟩ := List.getElem?_of_mem hm
              exact HA.out j m (by have := (List.getElem?_eq_some_iff.1 hj).1; omega) hj rfl
            rw [HW.out]
            simp [hm]
          go_wp2_with fail
          go_ret2
          exact ⟨by rw [HF.out, HCF.out]; rfl, HBl3.out⟩
    · rw [ha] at d1 HW HC
      have hne := HAr.out ha
      obtain ⟨v0, r, rfl⟩ : ∃ v0 r, vs = v0 :: r := by
        cases vs with
        | nil => exact absurd rfl hne
        | cons v0 r => exact ⟨v0, r, rfl⟩
      obtain ⟨g', rfl, cx⟩ := HCe.out 0 v0 rfl
      have hx9 := HX.out v0 (by simp)
      have hlen : (0 : Int) < ((v0 :: r).length : Int) := by simp
      have HW2 : Hid ((!wg) = ((m == v0 - 1) || (m == v0))) := by
        unfold Hid
        rw [HW.out]
        simp only [if_true, List.head?_cons]
        cases (m == v0 - 1) <;> cases (m == v0) <;> rfl
      have HC2 : Hid (cb = (m == v0 - 1)) := HC.out
      have hw1 : IntKind.i64.wrap (v0 - 1) = v0 - 1 := by simp [IntKind.wrap, IntKind.bits, IntKind.signed]; omega
      clear HW HC HAr HCe HX hne
      generalize (v0 :: r).length = vl at *
      cases f1 : (m == v0 - 1)
      · cases f2 : (m == v0)
        · rw [f1, f2] at HW2
          rw [f1] at HC2
          go_wp2_with fail
          go_quiet (fail)
          go_wp2_with fail
          go_ret2
          exact ⟨by rw [HW2.out, HC2.out]; rfl, (by first | exact HBl3.out | exact below_drewN HBl3.out _)⟩
        · rw [f1, f2] at HW2
          rw [f1] at HC2
          go_wp2_with fail
          go_quiet (fail)
          go_wp2_with fail
          go_ret2
          exact ⟨by rw [HW2.out, HC2.out]; rfl, (by first | exact HBl3.out | exact below_drewN HBl3.out _)⟩
      · rw [f1] at HW2 HC2
        go_wp2_with fail
        go_quiet (fail)
        go_wp2_with fail
        go_ret2
        exact ⟨by rw [HW2.out, HC2.out]; rfl, (by first | exact HBl3.out | exact below_drewN HBl3.out _)⟩

theorem rcand_any {base : Nat} {va vb : Value} {ats : List Atm} {l : List Bnd} (hA : w.ownsRow base 50 4 va ats.length (ats.flatMap plainCells)) (hB : w.ownsRow base 46 3 vb l.length (l.flatMap bndCells))
    (k : Nat) (a : Atm) (hk : ats[k]? = some a) (hl : l.length ≤ 200) (hb : ∀ b ∈ l, 1 ≤ b.o ∧ b.o ≤ 4) (hch : a.ch = 0 ∨ a.ch = 1 ∨ a.ch = -1) (hhy : 0 ≤ a.hy ∧ a.hy ≤ 9) (haro : a.aro = true → valences a.el a.ch ≠ []) :
    Calls Tryz.prog 74 #[.agg #[va, vb], .int .i64 k] w (CandPost w (Bz.wrong l k a)) :=
  (rcand_full hA hB k a hk hl hb hch hhy haro).mono fun _ _ h => ⟨⟨_, h.1⟩, h.2⟩
end
theorem rhyd_implied {a : Atm} (hch : a.ch = 0) (n : Int) : (rhyd a n).1 = implied a n := by
  unfold rhyd implied missing
  rw [hch]
  cases a.aro
  · simp only [Bool.false_eq_true, if_false]
    cases (valences a.el 0).find? (fun v => decide (n ≤ v)) <;> rfl
  · simp only [if_true]

theorem rhyd_no {a : Atm} (hch : a.ch = 0) {l : List Bnd} {i : Nat} (h : (rhyd a (Bz.sum l i)).2 = false) : Bz.wrong l i { a with hy := implied a (Bz.sum l i) } = true := by
  have hi := rhyd_implied hch (Bz.sum l i)
  rw [← hi]
  unfold rhyd at h ⊢
  unfold Bz.wrong
  cases ha : a.aro
  · simp only [ha, Bool.false_eq_true, if_false] at h ⊢
    cases hf : (valences a.el 0).find? (fun v => decide (Bz.sum l i ≤ v)) with
    | some v => rw [hf] at h; cases h
    | none =>
      rw [List.find?_eq_none] at hf
      simp only [hch]
      have : Bz.sum l i + 0 ∉ valences a.el 0 := by
        intro hm
        have := hf _ hm
        simp at this
      simpa using this
  · simp only [ha, if_true] at h
    cases h

theorem rhyd_bd {a : Atm} {n : Int} (hn : 0 ≤ n) : 0 ≤ (rhyd a n).1 ∧ (rhyd a n).1 ≤ 9 := by
  unfold rhyd
  cases a.aro
  · simp only [Bool.false_eq_true, if_false]
    cases hf : (valences a.el 0).find? (fun v => decide (n ≤ v)) with
    | some v =>
      have h1 := List.find?_some hf
      have h2 := (valences_bd a.el 0).2 v (List.mem_of_find?_eq_some hf)
      simp at h1
      simp only
      omega
    | none => simp
  · simp only [if_true]
    split <;> omega

theorem leftmost_spec (f : Nat → Option Opn) (d : Nat) : ∀ n, leftmost f d n ≤ d ∧ (∀ k o, k < n → f k = some o → leftmost f d n ≤ o.place) ∧ (leftmost f d n = d ∨ ∃ k o, k < n ∧ f k = some o ∧ leftmost f d n = o.place)
  | 0 => ⟨Nat.le_refl _, fun k o h => absurd h (Nat.not_lt_zero _), .inl rfl⟩
  | n + 1 => by
    obtain ⟨h1, h2, h3⟩ := leftmost_spec f d n
    cases hf : f n with
    | none =>
      have e : leftmost f d (n + 1) = leftmost f d n := by rw [leftmost, hf]
      rw [e]
      refine ⟨h1, ?_, ?_⟩
      · intro k o hk ho
        by_cases ek : k = n
        · rw [ek, hf] at ho; cases ho
        · exact h2 k o (by omega) ho
      · rcases h3 with h | ⟨k, o, hk, ho, h⟩
        · exact .inl h
        · exact .inr ⟨k, o, by omega, ho, h⟩
    | some x =>
      have e : leftmost f d (n + 1) = min (leftmost f d n) x.place := by rw [leftmost, hf]
      rw [e]
      refine ⟨by omega, ?_, ?_⟩
      · intro k o hk ho
        by_cases ek : k = n
        · rw [ek, hf] at ho; cases ho; omega
        · have := h2 k o (by omega) ho; omega
      · by_cases hm : leftmost f d n ≤ x.place
        · rw [Nat.min_eq_left hm]
          rcases h3 with h | ⟨k, o, hk, ho, h⟩
          · exact .inl h
          · exact .inr ⟨k, o, by omega, ho, h⟩
        · rw [Nat.min_eq_right (by omega)]
          exact .inr ⟨n, x, by omega, hf, rfl⟩

theorem RTie.openOf {s : ByteArray} {q : RSt} {p : St} (t : RTie s q p) {x : ROpn} (hx : x ∈ q.opens) : ∃ o, p.rings x.num = some o ∧ o.place = x.place := by
  obtain ⟨i, hi⟩ := List.getElem?_of_mem hx
  have hf := find_apart q.opens i x t.apart hi
  have ho := t.opens x.num
  rw [hf] at ho
  cases hO : p.rings x.num with
  | none => rw [hO] at ho; simp at ho
  | some O =>
    rw [hO] at ho
    simp only [Option.map_some, Option.some.injEq, Prod.mk.injEq] at ho
    exact ⟨O, rfl, ho.2.1⟩

theorem RTie.ofOpen {s : ByteArray} {q : RSt} {p : St} (t : RTie s q p) {n : Nat} {o : Opn} (h : p.rings n = some o) : ∃ x ∈ q.opens, x.place = o.place := by
  have ho := t.opens n
  rw [h] at ho
  cases hf : q.opens.find? (fun x => x.num == n) with
  | none => rw [hf] at ho; simp at ho
  | some x =>
    rw [hf] at ho
    simp only [Option.map_some, Option.some.injEq, Prod.mk.injEq] at ho
    exact ⟨x, List.mem_of_find?_eq_some hf, ho.2.1.symm⟩

theorem leftmost_is {s : ByteArray} {q : RSt} {p : St} (t : RTie s q p) {m : Nat} (h1 : ∀ x ∈ q.opens, m ≤ x.place) (h2 : ∃ x ∈ q.opens, x.place = m) : leftmost p.rings s.size 100 = m ∧ m < s.size := by
  obtain ⟨x, hx, rfl⟩ := h2
  obtain ⟨l1, l2, l3⟩ := leftmost_spec p.rings s.size 100
  obtain ⟨hn, hp⟩ := t.nums x hx
  obtain ⟨o, ho, hpl⟩ := t.openOf hx
  have := l2 _ _ hn ho
  refine ⟨?_, hp⟩
  rcases l3 with h | ⟨k, o', hk, ho', h⟩
  · omega
  · obtain ⟨y, hy, hyp⟩ := t.ofOpen ho'
    have := h1 y hy
    omega

theorem leftmost_none {s : ByteArray} {q : RSt} {p : St} (t : RTie s q p) (h : q.opens = []) : leftmost p.rings s.size 100 = s.size := by
  obtain ⟨l1, l2, l3⟩ := leftmost_spec p.rings s.size 100
  rcases l3 with h' | ⟨k, o', hk, ho', h'⟩
  · exact h'
  · obtain ⟨y, hy, _⟩ := t.ofOpen ho'
    rw [h] at hy
    cases hy

theorem plain_set (l : List Atm) : ∀ (i : Nat) (a : Atm) (x : Int), l[i]? = some a → (l.flatMap plainCells).set (i * 4 + 3) (.int .i64 x) = (l.set i { a with hy := x }).flatMap plainCells := by
  induction l with
  | nil => intro i a x h; simp at h
  | cons b r ih =>
    intro i a x h
    match i, h with
    | 0, h => simp at h; subst h; rfl
    | i + 1, h =>
      simp at h
      rw [List.flatMap_cons, List.set_cons_succ, List.flatMap_cons, ← ih i a x h]
      have : (i + 1) * 4 + 3 = (i * 4 + 3) + (plainCells b).length := by rw [plainCells_len]; omega
      rw [this, List.set_append_right _ _ (by omega), Nat.add_sub_cancel]

theorem map_set_same {α : Type} (f : Atm → α) {l : List Atm} {i : Nat} {a b : Atm} (hi : l[i]? = some a) (h : f b = f a) : (l.set i b).map f = l.map f := by
  rw [List.map_set, h]
  apply List.ext_getElem?
  intro j
  rw [List.getElem?_set]
  by_cases e : i = j
  · subst e
    rw [if_pos rfl, List.length_map, if_pos (List.getElem?_eq_some_iff.1 hi).1, List.getElem?_map, hi]
    rfl
  · rw [if_neg e]

section
variable {w : World} {B : Nat} {s : ByteArray} {p : RSt}
theorem RRd.setHy (h : RRd w B s p) {g cap i : Nat} {a : Atm} (hi : p.atoms[i]? = some a) (hsl : w.cell? ⟨B, 2, none⟩ = some (.slice (some ⟨g, 0, none⟩) p.atoms.length cap)) (x : Int) :
    RRd (w.setCell ⟨g, i * 4 + 3, none⟩ (.int .i64 x)) B s { p with atoms := p.atoms.set i { a with hy := x } } := by
  obtain ⟨va, ha, oa⟩ := h.atoms
  obtain ⟨vb, hb, ob⟩ := h.bonds
  obtain ⟨vc, hcc, oc⟩ := h.ats
  obtain ⟨vd, hd, od⟩ := h.brs
  obtain ⟨ve, he, oe⟩ := h.opens
  rw [hsl] at ha
  cases ha
  have hgB := (oa.lt g rfl).1
  have hB : (w.setCell ⟨g, i * 4 + 3, none⟩ (.int .i64 x)).heap[B]? = w.heap[B]? := Below.heap_setCell w _ _ B (by simp; omega)
  have hc : ∀ k, (w.setCell ⟨g, i * 4 + 3, none⟩ (.int .i64 x)).cell? ⟨B, k, none⟩ = w.cell? ⟨B, k, none⟩ := fun k => World.cell?_of_block (w := w) hB
  have hf : ∀ k, (w.setCell ⟨g, i * 4 + 3, none⟩ (.int .i64 x)).frozen? ⟨B, k, none⟩ = w.frozen? ⟨B, k, none⟩ := fun k => World.frozen?_of_block (w := w) hB
  have hst := (oa.stored (i * 4 + 3) (.int .i64 x)).1
  rw [plain_set _ _ _ _ hi] at hst
  have m1 : (p.atoms.set i { a with hy := x }).map (fun a => Value.int .i64 a.pl) = p.atoms.map fun a => Value.int .i64 a.pl := map_set_same _ hi rfl
  have m2 : (p.atoms.set i { a with hy := x }).map (fun a => Value.bool a.br) = p.atoms.map fun a => Value.bool a.br := map_set_same _ hi rfl
  refine ⟨by rw [hc]; exact h.text, by rw [hc]; exact h.pos, ⟨_, by rw [hc]; exact hsl, by simpa using hst⟩, ⟨vb, by rw [hc]; exact hb, ?_⟩, ⟨vc, by rw [hc]; exact hcc, ?_⟩, ⟨vd, by rw [hc]; exact hd, ?_⟩, ⟨ve, by rw [hc]; exact he, ?_⟩,
    by rw [hc]; exact h.err, by rw [hc]; exact h.plc, fun k => by rw [hf]; exact h.free k⟩
  · exact ownsRow_setCell_other ob (fun e => ownBlock_ne oa ob (by decide) g rfl e) _
  · rw [m1, List.length_set]
    exact ownsRow_setCell_other oc (fun e => ownBlock_ne oa oc (by decide) g rfl e) _
  · rw [m2, List.length_set]
    exact ownsRow_setCell_other od (fun e => ownBlock_ne oa od (by decide) g rfl e) _
  · exact ownsRow_setCell_other oe (fun e => ownBlock_ne oa oe (by decide) g rfl e) _

theorem RFr.setRow {g i : Nat} {a : World} (h : RFr B a w) (hm : RMine w B g) (hg : g ≠ B) (u : Value) : RFr B a (w.setCell ⟨g, i, none⟩ u) := by
  have hB : (w.setCell ⟨g, i, none⟩ u).heap[B]? = w.heap[B]? := Below.heap_setCell w _ u B (by simpa using fun e => hg e.symm)
  refine ⟨h.os, h.tape, h.output, by simpa using h.size, fun k hk hn => ?_, fun k hk hk' => h.mine k hk ((RMine.same hB).1 hk')⟩
  rw [Below.heap_setCell w _ u k (by rintro rfl; exact hn (h.mine _ hk hm))]
  exact h.block k hk hn

theorem rrd_new (w : World) (s : ByteArray) : RRd (w.alloc (.cells #[.string s, .int .i64 0, .slice none 0 0, .slice none 0 0, .slice none 0 0, .slice none 0 0, .slice none 0 0, .int .i64 0, .int .i64 0] 162)) w.heap.size s ⟨0, [], [], [], 0, 0⟩ :=
  ⟨by simp, by simp, ⟨_, by simp, World.ownsRow_nil _ _ _ _⟩, ⟨_, by simp, World.ownsRow_nil _ _ _ _⟩, ⟨_, by simp, World.ownsRow_nil _ _ _ _⟩, ⟨_, by simp, World.ownsRow_nil _ _ _ _⟩, ⟨_, by simp, World.ownsRow_nil _ _ _ _⟩, by simp, by simp, fun i => by simp⟩

theorem rtie_start (s : ByteArray) : RTie s ⟨0, [], [], [], 0, 0⟩ Bz.start :=
  ⟨rfl, rfl, rfl, rfl, fun n => rfl, List.Pairwise.nil, (by intro x hx; cases hx), Nat.le_refl _, (by intro a ha; cases ha)⟩

/-- All that lay there before the reader lies there still. -/
theorem RFr.keeps {N : Nat} {a : World} {s : ByteArray} {q : RSt} (h : RFr B a w) (hr : RRd a B s q) (hN : N ≤ B) : Below N a w :=
  ⟨h.os, h.tape, h.output, h.size, fun k hk => h.block k (by have := hr.lt; omega) (fun hm => by have := (hr.mine hm).1; omega)⟩
end
theorem rfirst_at (l : List Bnd) : ∀ (r : List Atm) (j k : Nat) (a : Atm), r[k]? = some a → Bz.wrong l (j + k) a = true → (∀ i b, i < k → r[i]? = some b → Bz.wrong l (j + i) b = false) → firstWrong l j r = some a
  | [], _, _, _, h, _, _ => by simp at h
  | b :: r, j, 0, a, h, hw, _ => by
    simp at h
    subst h
    rw [firstWrong, if_pos (by simpa using hw)]
  | b :: r, j, k + 1, a, h, hw, hb => by
    have h0 := hb 0 b (by omega) rfl
    rw [firstWrong, if_neg (by rw [Nat.add_zero] at h0; rw [h0]; decide)]
    refine rfirst_at l r (j + 1) k a (by simpa using h) (by rw [show j + 1 + k = j + (k + 1) by omega]; exact hw) fun i c hi hc => ?_
    rw [show j + 1 + i = j + (i + 1) by omega]
    exact hb (i + 1) c (by omega) (by simpa using hc)

theorem rfirst_none (l : List Bnd) : ∀ (r : List Atm) (j : Nat), (∀ i b, r[i]? = some b → Bz.wrong l (j + i) b = false) → firstWrong l j r = none
  | [], _, _ => rfl
  | b :: r, j, hb => by
    have h0 := hb 0 b rfl
    rw [firstWrong, if_neg (by rw [Nat.add_zero] at h0; rw [h0]; decide)]
    refine rfirst_none l r (j + 1) fun i c hc => ?_
    rw [show j + 1 + i = j + (i + 1) by omega]
    exact hb (i + 1) c (by simpa using hc)

end Go.Proofs.YtcabaecbmkgclaaGreatDoor
