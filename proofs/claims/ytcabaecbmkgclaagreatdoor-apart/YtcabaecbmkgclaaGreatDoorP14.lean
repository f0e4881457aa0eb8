/-
  The document's Sum.
  The document's valences.
  The document's hydrogens.
  Of the bonds that the plain reader lays: both ends are there, the first below the second; no two join the same atoms; they stand by rising places.
  A text that can be read has signs below 128 alone.
  A molecule in a box of its own: what its Sum, filled and candidate do.
-/
import Derived.Test.YtcabaecbmkgclaaGreatDoorP13

namespace Go.Proofs.YtcabaecbmkgclaaGreatDoor
open Go.RowKit Bz

section
variable {w : World}

set_option maxRecDepth 100000 in
set_option maxHeartbeats 2000000 in
theorem rsum_any {base : Nat} {va vb : Value} {l : List Bnd} (ho : w.ownsRow base 46 3 vb l.length (l.flatMap bndCells)) (a : Nat) (hl : l.length ≤ 1000) (hb : ∀ b ∈ l, 1 ≤ b.o ∧ b.o ≤ 4) :
    Calls Tryz.prog 99 #[.agg #[va, vb], .int .i64 a] w fun e w' => e = .returned (.int .i64 (Bz.sum l a)) ∧ Below w.heap.size w w' := by
  have HS : Hid _ := sum_bd l a hb
  have HB : Hid (∀ b ∈ l, 1 ≤ b.o ∧ b.o ≤ 4) := hb
  obtain ⟨bo, bc, rfl⟩ := ownsRow_shape ho
  have hbox : Hid (∀ t, (w.alloc (.cells #[va, .slice bo l.length bc] t)).cell? ⟨w.heap.size, 1, none⟩ = some (.slice bo l.length bc)) := by intro t; simp [go_sem]
  have HBel : Hid (∀ o, Below w.heap.size w (w.alloc o)) := fun o => (Below.refl _ _).alloc (Nat.le_refl _) o
  have HO : Hid (∀ o, (w.alloc o).ownsRow base 46 3 (.slice bo l.length bc) l.length (l.flatMap bndCells)) := fun o => ho.alloc o
  have HLt : Hid (∀ o, w.heap.size < (w.alloc o).heap.size) := by intro o; simp
  clear hb ho
  go_enter Tryz.func99, Tryz.ntmps99
  go_wp2_with fail
  have hbx := hbox.out 39
  have hBel := HBel.out (.cells #[va, .slice bo l.length bc] 39)
  have hO := HO.out (.cells #[va, .slice bo l.length bc] 39)
  have hLt := HLt.out (.cells #[va, .slice bo l.length bc] 39)
  generalize World.alloc w _ = w1 at *
  have HBl : Hid (Below w.heap.size w w1) := hBel
  have HO1 : Hid (w1.ownsRow base 46 3 (.slice bo l.length bc) l.length (l.flatMap bndCells)) := hO
  clear hBel hO hbox HBel HO HLt
  go_loopg [5, 6] (l.length + 1) (fun k vs vi wr => SumAt w1 l a k vs vi wr)
  case atStart => exact ⟨0, by omega, by omega, rfl, by simp [Bz.sum], Below.refl _ _⟩
  case round =>
    obtain ⟨i, hi, hk, rfl, rfl, hbel⟩ := hrel
    have c1 := (hbel.cell (p := ⟨w.heap.size, 1, none⟩) hLt).trans hbx
    have hsz := hbel.size
    have HBe : Hid (Below w1.heap.size w1 wr) := hbel
    by_cases hlt : i < l.length
    · have hlt' : (i : Int) < (l.length : Int) := by omega
      have hsi := HS.out i hi
      have hst := sum_take l a i hlt
      have hbo := HB.out l[i] (List.getElem_mem _)
      have gi := List.getElem?_eq_getElem hlt
      obtain ⟨g, cap', hv, h1, h2, h3, h4⟩ := ownsRow_at HO1.out (by omega)
      simp only [Value.slice.injEq] at hv
      obtain ⟨rfl, _, rfl⟩ := hv
      have d0 := flatMap_get bndCells 3 bndCells_len _ i 0 _ gi (by omega)
      have d1 := flatMap_get bndCells 3 bndCells_len _ i 1 _ gi (by omega)
      have d2 := flatMap_get bndCells 3 bndCells_len _ i 2 _ gi (by omega)
      rw [Nat.add_zero] at d0
      have e0 := ((hbel.cell (p := ⟨g, i * 3, none⟩) h2).trans (h3 (i * 3) (by omega))).trans d0
      have e1 := ((hbel.cell (p := ⟨g, i * 3 + 1, none⟩) h2).trans (h3 (i * 3 + 1) (by omega))).trans d1
      have e2 := ((hbel.cell (p := ⟨g, i * 3 + 2, none⟩) h2).trans (h3 (i * 3 + 2) (by omega))).trans d2
      generalize l[i] = b at *
      obtain ⟨ba, bb, b3, bpl⟩ := b
      simp only [bndCells, List.getElem?_cons_zero, List.getElem?_cons_succ] at e0 e1 e2 hbo
      have HST : Hid _ := hst
      clear hst gi d0 d1 d2 h3 h4 hbel
      generalize Bz.sum (l.take i) a = sm at *
      have FIN : Hid (∀ wx, Below w1.heap.size w1 wx → ∀ u : Int, u = sm + part a ⟨ba, bb, b3, bpl⟩ → SumAt w1 l a (l.length - (i + 1)) (.int .i64 u) (.int .i64 ((i : Int) + 1)) wx) := by
        intro wx hx u hu
        exact ⟨i + 1, by omega, Nat.le_refl _, by go_num, by rw [HST.out, hu], hx⟩
      have hnat : ∀ m : Nat, ((m : Int) != (a : Int)) = !decide (m = a) := by intro m; rw [Bool.eq_iff_iff]; simp; omega
      have HP : Hid (part a ⟨ba, bb, b3, bpl⟩ = if (!((ba : Int) != (a : Int)) || !((bb : Int) != (a : Int))) = true then (if (b3 == 4) = true then 1 else b3) else 0) := by
        unfold Hid part
        rw [hnat, hnat]
        simp
      clear hnat
      cases n1 : ((ba : Int) != (a : Int)) <;> cases n2 : ((bb : Int) != (a : Int)) <;> cases n4 : (b3 == 4)
      all_goals
        rw [n1, n2, n4] at HP
        go_wp2_with fail
        go_roundg (l.length - (i + 1))
        case measure => omega
        case rel => exact FIN.out _ (by repeat (first | with_reducible exact HBe.out | with_reducible refine Below.setCell ?_ hsz _ | with_reducible refine Below.alloc ?_ hsz _)) _ (by rw [HP.out]; simp)
    · have hlt' : ¬ (i : Int) < (l.length : Int) := by omega
      have he : i = l.length := by omega
      have HE : Hid (Bz.sum (l.take i) a = Bz.sum l a) := by unfold Hid; rw [he, List.take_length]
      clear he hbel
      go_wp2_with fail
      go_ret
      exact ⟨ret_int HE.out, HBl.out.trans (HBe.out.mono HBl.out.size)⟩
end
end Go.Proofs.YtcabaecbmkgclaaGreatDoor

namespace Go.Proofs.YtcabaecbmkgclaaGreatDoor
open Go.RowKit Bz

def vNames : List ByteArray := [⟨#[66]⟩, ⟨#[67]⟩, ⟨#[78]⟩, ⟨#[79]⟩, ⟨#[80]⟩, ⟨#[83]⟩]
def vTable : List (List (List Int)) := [[[3], [], [4]], [[4], [3], [3]], [[3, 5], [4], [2]], [[2], [3], [1]], [[3, 5], [4], [2]], [[2, 4, 6], [3, 5], [1]]]
def chAt (ch : Int) : Nat := if ch = 1 then 1 else if ch = -1 then 2 else 0

/-- A row of three lists of numbers. -/
def Row3 (w : World) (K : Nat) (l : List (List Int)) : Prop := ∃ u v x, w.cell? ⟨K, 0, none⟩ = some u ∧ w.cell? ⟨K, 1, none⟩ = some v ∧ w.cell? ⟨K, 2, none⟩ = some x ∧ l.length = 3 ∧ IntsAt w u (l.getD 0 []) ∧ IntsAt w v (l.getD 1 []) ∧ IntsAt w x (l.getD 2 [])

/-- The table lies in memory. -/
def ValsAt (w wc : World) (v : Value) : Prop :=
  ∃ H, v = .slice (some ⟨H, 0, none⟩) 6 6 ∧ Below w.heap.size w wc ∧
    (∀ i, i < 6 → wc.cell? ⟨w.heap.size, i, none⟩ = some (.string (vNames.getD i ⟨#[]⟩))) ∧
    (∀ i, i < 6 → ∃ K, wc.cell? ⟨H, i, none⟩ = some (.slice (some ⟨K, 0, none⟩) 3 3) ∧ Row3 wc K (vTable.getD i []))

theorem six {P : Nat → Prop} (h0 : P 0) (h1 : P 1) (h2 : P 2) (h3 : P 3) (h4 : P 4) (h5 : P 5) : ∀ i, i < 6 → P i := by
  intro i hi
  rcases (by omega : i = 0 ∨ i = 1 ∨ i = 2 ∨ i = 3 ∨ i = 4 ∨ i = 5) with rfl | rfl | rfl | rfl | rfl | rfl <;> assumption

set_option maxRecDepth 100000 in
set_option maxHeartbeats 4000000 in
theorem rval_any (el : ByteArray) (ch : Int) (hch : ch = 0 ∨ ch = 1 ∨ ch = -1) (w : World) : Calls Tryz.prog 100 #[.string el, .int .i64 ch] w (ValPost w (valences el ch)) := by
  go_enter Tryz.func100, Tryz.ntmps100
  go_upto_region 2 with fail
  go_cut [6] from 10 to 33 (fun v wc => ValsAt w wc v)
  case first =>
    go_wp2_with fail
    go_meet
    case rel =>
      refine ⟨_, rfl, (by repeat (first | with_reducible exact Below.refl _ _ | with_reducible refine below_drewN ?_ _ | with_reducible refine Below.drew ?_ | with_reducible refine Below.setCell ?_ (by simp) _ | with_reducible refine Below.alloc ?_ (by simp; try omega) _)), six (by simp [go_sem, vNames]) (by simp [go_sem, vNames]) (by simp [go_sem, vNames]) (by simp [go_sem, vNames]) (by simp [go_sem, vNames]) (by simp [go_sem, vNames]), six ?_ ?_ ?_ ?_ ?_ ?_⟩
      · exact ⟨w.heap.size + 3, by simp [go_sem], .slice (some ⟨w.heap.size + 1, 0, none⟩) 1 1, .slice none 0 0, .slice (some ⟨w.heap.size + 2, 0, none⟩) 1 1, by simp [go_sem], by simp [go_sem], by simp [go_sem], rfl, intsAt1 (by simp [go_sem]), intsAt_nil _, intsAt1 (by simp [go_sem])⟩
      · exact ⟨w.heap.size + 7, by simp [go_sem], .slice (some ⟨w.heap.size + 4, 0, none⟩) 1 1, .slice (some ⟨w.heap.size + 5, 0, none⟩) 1 1, .slice (some ⟨w.heap.size + 6, 0, none⟩) 1 1, by simp [go_sem], by simp [go_sem], by simp [go_sem], rfl, intsAt1 (by simp [go_sem]), intsAt1 (by simp [go_sem]), intsAt1 (by simp [go_sem])⟩
      · exact ⟨w.heap.size + 11, by simp [go_sem], .slice (some ⟨w.heap.size + 8, 0, none⟩) 2 2, .slice (some ⟨w.heap.size + 9, 0, none⟩) 1 1, .slice (some ⟨w.heap.size + 10, 0, none⟩) 1 1, by simp [go_sem], by simp [go_sem], by simp [go_sem], rfl, intsAt2 (by simp [go_sem]) (by simp [go_sem]), intsAt1 (by simp [go_sem]), intsAt1 (by simp [go_sem])⟩
      · exact ⟨w.heap.size + 15, by simp [go_sem], .slice (some ⟨w.heap.size + 12, 0, none⟩) 1 1, .slice (some ⟨w.heap.size + 13, 0, none⟩) 1 1, .slice (some ⟨w.heap.size + 14, 0, none⟩) 1 1, by simp [go_sem], by simp [go_sem], by simp [go_sem], rfl, intsAt1 (by simp [go_sem]), intsAt1 (by simp [go_sem]), intsAt1 (by simp [go_sem])⟩
      · exact ⟨w.heap.size + 19, by simp [go_sem], .slice (some ⟨w.heap.size + 16, 0, none⟩) 2 2, .slice (some ⟨w.heap.size + 17, 0, none⟩) 1 1, .slice (some ⟨w.heap.size + 18, 0, none⟩) 1 1, by simp [go_sem], by simp [go_sem], by simp [go_sem], rfl, intsAt2 (by simp [go_sem]) (by simp [go_sem]), intsAt1 (by simp [go_sem]), intsAt1 (by simp [go_sem])⟩
      · exact ⟨w.heap.size + 23, by simp [go_sem], .slice (some ⟨w.heap.size + 20, 0, none⟩) 3 3, .slice (some ⟨w.heap.size + 21, 0, none⟩) 2 2, .slice (some ⟨w.heap.size + 22, 0, none⟩) 1 1, by simp [go_sem], by simp [go_sem], by simp [go_sem], rfl, intsAt3 (by simp [go_sem]) (by simp [go_sem]) (by simp [go_sem]), intsAt2 (by simp [go_sem]) (by simp [go_sem]), intsAt1 (by simp [go_sem])⟩
  case rest =>
    obtain ⟨H, rfl, hbel, hn, ht⟩ := hcut
    have HB : Hid (Below w.heap.size w wc) := hbel
    have HN : Hid (∀ i, i < 6 → wc.cell? ⟨w.heap.size, i, none⟩ = some (.string (vNames.getD i ⟨#[]⟩))) := hn
    have HT : Hid (∀ i, i < 6 → ∃ K, wc.cell? ⟨H, i, none⟩ = some (.slice (some ⟨K, 0, none⟩) 3 3) ∧ Row3 wc K (vTable.getD i [])) := ht
    have hsz := hbel.size
    clear hbel hn ht
    have HV : Hid (∀ k : Nat, k = chAt ch → (∀ i, i < 6 → vNames.getD i ⟨#[]⟩ = el → valences el ch = (vTable.getD i []).getD k []) ∧ ((∀ i, i < 6 → vNames.getD i ⟨#[]⟩ ≠ el) → valences el ch = [[1], [2], [0]].getD k [])) := by
      intro k hk
      subst hk
      refine ⟨six ?_ ?_ ?_ ?_ ?_ ?_, ?_⟩
      · rintro rfl; rcases hch with rfl | rfl | rfl <;> decide
      · rintro rfl; rcases hch with rfl | rfl | rfl <;> decide
      · rintro rfl; rcases hch with rfl | rfl | rfl <;> decide
      · rintro rfl; rcases hch with rfl | rfl | rfl <;> decide
      · rintro rfl; rcases hch with rfl | rfl | rfl <;> decide
      · rintro rfl; rcases hch with rfl | rfl | rfl <;> decide
      · intro h
        have h0 := h 0 (by omega)
        have h1 := h 1 (by omega)
        have h2 := h 2 (by omega)
        have h3 := h 3 (by omega)
        have h4 := h 4 (by omega)
        have h5 := h 5 (by omega)
        simp only [vNames, List.getD_cons_zero, List.getD_cons_succ] at h0 h1 h2 h3 h4 h5
        unfold valences
        simp only
        rw [if_neg (Ne.symm h0), if_neg (Ne.symm h1), if_neg (fun e => e.elim (fun e => h2 e.symm) (fun e => h4 e.symm)), if_neg (Ne.symm h3), if_neg (Ne.symm h5)]
        rcases hch with rfl | rfl | rfl <;> decide
    rcases hch with rfl | rfl | rfl
    · have HVk := HV.out 0 (by decide)
      have HV1 : Hid _ := HVk.1
      have HV2 : Hid _ := HVk.2
      clear HVk HV
      go_wp2_with fail
      go_loopg [8] 7 (fun kk vi wr => ∃ i : Nat, i ≤ 6 ∧ 6 - i ≤ kk ∧ vi = .int .i64 i ∧ wr = wc ∧ ∀ j, j < i → vNames.getD j ⟨#[]⟩ ≠ el)
      case atStart => exact ⟨0, by omega, by omega, rfl, rfl, by intro j hj; omega⟩
      case round =>
        obtain ⟨i, hi, hkk, rfl, rfl, hall⟩ := hrel
        have HA : Hid _ := hall
        clear hall
        by_cases hlt : i < 6
        · have hlt' : (i : Int) < 6 := by omega
          have cn := HN.out i hlt
          by_cases he : vNames.getD i ⟨#[]⟩ = el
          · have HVi : Hid _ := HV1.out i hlt he
            obtain ⟨K, cK, u, v, x, c0, c1, c2, _, i0, i1, i2⟩ := HT.out i hlt
            rw [he] at cn
            have I : Hid (IntsAt wr u ((vTable.getD i []).getD 0 [])) := i0
            clear he i0 i1 i2
            go_wp2_with fail
            go_ret
            exact ⟨_, rfl, by rw [HVi.out]; exact I.out, HB.out⟩
          · have hb : ((vNames.getD i ⟨#[]⟩).toList == el.toList) = false := by
              cases hq : ((vNames.getD i ⟨#[]⟩).toList == el.toList)
              · rfl
              · exfalso
                apply he
                apply bytes_ext
                rw [ByteArray.toList_eq, ByteArray.toList_eq] at hq
                simpa using hq
            have HE : Hid (vNames.getD i ⟨#[]⟩ ≠ el) := he
            clear he
            generalize hnm : vNames.getD i ⟨#[]⟩ = nm at cn hb
            clear hnm
            go_wp2_with fail
            go_roundg (6 - (i + 1))
            case measure => omega
            case rel =>
              refine ⟨i + 1, by omega, Nat.le_refl _, by go_num, rfl, ?_⟩
              intro j hj
              by_cases e : j = i
              · subst e; exact HE.out
              · exact HA.out j (by omega)
        · have hlt' : ¬ (i : Int) < 6 := by omega
          have HVn : Hid _ := HV2.out (fun j hj => HA.out j (by omega))
          go_wp2_with fail
          go_ret
          refine ⟨_, rfl, by rw [HVn.out]; exact intsAt1 (by simp [go_sem]), ?_⟩
          repeat (first | with_reducible exact HB.out | with_reducible refine Below.alloc ?_ (by first | exact hsz | (simp; omega)) _)
    · have HVk := HV.out 1 (by decide)
      have HV1 : Hid _ := HVk.1
      have HV2 : Hid _ := HVk.2
      clear HVk HV
      go_wp2_with fail
      go_loopg [8] 7 (fun kk vi wr => ∃ i : Nat, i ≤ 6 ∧ 6 - i ≤ kk ∧ vi = .int .i64 i ∧ wr = wc ∧ ∀ j, j < i → vNames.getD j ⟨#[]⟩ ≠ el)
      case atStart => exact ⟨0, by omega, by omega, rfl, rfl, by intro j hj; omega⟩
      case round =>
        obtain ⟨i, hi, hkk, rfl, rfl, hall⟩ := hrel
        have HA : Hid _ := hall
        clear hall
        by_cases hlt : i < 6
        · have hlt' : (i : Int) < 6 := by omega
          have cn := HN.out i hlt
          by_cases he : vNames.getD i ⟨#[]⟩ = el
          · have HVi : Hid _ := HV1.out i hlt he
            obtain ⟨K, cK, u, v, x, c0, c1, c2, _, i0, i1, i2⟩ := HT.out i hlt
            rw [he] at cn
            have I : Hid (IntsAt wr v ((vTable.getD i []).getD 1 [])) := i1
            clear he i0 i1 i2
            go_wp2_with fail
            go_ret
            exact ⟨_, rfl, by rw [HVi.out]; exact I.out, HB.out⟩
          · have hb : ((vNames.getD i ⟨#[]⟩).toList == el.toList) = false := by
              cases hq : ((vNames.getD i ⟨#[]⟩).toList == el.toList)
              · rfl
              · exfalso
                apply he
                apply bytes_ext
                rw [ByteArray.toList_eq, ByteArray.toList_eq] at hq
                simpa using hq
            have HE : Hid (vNames.getD i ⟨#[]⟩ ≠ el) := he
            clear he
            generalize hnm : vNames.getD i ⟨#[]⟩ = nm at cn hb
            clear hnm
            go_wp2_with fail
            go_roundg (6 - (i + 1))
            case measure => omega
            case rel =>
              refine ⟨i + 1, by omega, Nat.le_refl _, by go_num, rfl, ?_⟩
              intro j hj
              by_cases e : j = i
              · subst e; exact HE.out
              · exact HA.out j (by omega)
        · have hlt' : ¬ (i : Int) < 6 := by omega
          have HVn : Hid _ := HV2.out (fun j hj => HA.out j (by omega))
          go_wp2_with fail
          go_ret
          refine ⟨_, rfl, by rw [HVn.out]; exact intsAt1 (by simp [go_sem]), ?_⟩
          repeat (first | with_reducible exact HB.out | with_reducible refine Below.alloc ?_ (by first | exact hsz | (simp; omega)) _)
    · have HVk := HV.out 2 (by decide)
      have HV1 : Hid _ := HVk.1
      have HV2 : Hid _ := HVk.2
      clear HVk HV
      go_wp2_with fail
      go_loopg [8] 7 (fun kk vi wr => ∃ i : Nat, i ≤ 6 ∧ 6 - i ≤ kk ∧ vi = .int .i64 i ∧ wr = wc ∧ ∀ j, j < i → vNames.getD j ⟨#[]⟩ ≠ el)
      case atStart => exact ⟨0, by omega, by omega, rfl, rfl, by intro j hj; omega⟩
      case round =>
        obtain ⟨i, hi, hkk, rfl, rfl, hall⟩ := hrel
        have HA : Hid _ := hall
        clear hall
        by_cases hlt : i < 6
        · have hlt' : (i : Int) < 6 := by omega
          have cn := HN.out i hlt
          by_cases he : vNames.getD i ⟨#[]⟩ = el
          · have HVi : Hid _ := HV1.out i hlt he
            obtain ⟨K, cK, u, v, x, c0, c1, c2, _, i0, i1, i2⟩ := HT.out i hlt
            rw [he] at cn
            have I : Hid (IntsAt wr x ((vTable.getD i []).getD 2 [])) := i2
            clear he i0 i1 i2
            go_wp2_with fail
            go_ret
            exact ⟨_, rfl, by rw [HVi.out]; exact I.out, HB.out⟩
          · have hb : ((vNames.getD i ⟨#[]⟩).toList == el.toList) = false := by
              cases hq : ((vNames.getD i ⟨#[]⟩).toList == el.toList)
              · rfl
              · exfalso
                apply he
                apply bytes_ext
                rw [ByteArray.toList_eq, ByteArray.toList_eq] at hq
                simpa using hq
            have HE : Hid (vNames.getD i ⟨#[]⟩ ≠ el) := he
            clear he
            generalize hnm : vNames.getD i ⟨#[]⟩ = nm at cn hb
            clear hnm
            go_wp2_with fail
            go_roundg (6 - (i + 1))
            case measure => omega
            case rel =>
              refine ⟨i + 1, by omega, Nat.le_refl _, by go_num, rfl, ?_⟩
              intro j hj
              by_cases e : j = i
              · subst e; exact HE.out
              · exact HA.out j (by omega)
        · have hlt' : ¬ (i : Int) < 6 := by omega
          have HVn : Hid _ := HV2.out (fun j hj => HA.out j (by omega))
          go_wp2_with fail
          go_ret
          refine ⟨_, rfl, by rw [HVn.out]; exact intsAt1 (by simp [go_sem]), ?_⟩
          repeat (first | with_reducible exact HB.out | with_reducible refine Below.alloc ?_ (by first | exact hsz | (simp; omega)) _)
end Go.Proofs.YtcabaecbmkgclaaGreatDoor

namespace Go.Proofs.YtcabaecbmkgclaaGreatDoor
open Go.RowKit Bz

/-- The hydrogens of an atom without brackets, and whether there is a valence for it. -/
def rhyd (a : Atm) (n : Int) : Int × Bool :=
  if a.aro then (if a.el = ⟨#[67]⟩ then max (3 - n) 0 else 0, true)
  else match (valences a.el 0).find? (fun v => decide (n ≤ v)) with
    | some v => (v - n, true)
    | none => (0, false)

theorem atomAt {w : World} {base : Nat} {va : Value} {ats : List Atm} (h : w.ownsRow base 50 4 va ats.length (ats.flatMap plainCells)) {k : Nat} {a : Atm} (hk : ats[k]? = some a) :
    ∃ g cap, va = .slice (some ⟨g, 0, none⟩) ats.length cap ∧ g < w.heap.size ∧ w.cell? ⟨g, k * 4, none⟩ = some (.string a.el) ∧ w.cell? ⟨g, k * 4 + 1, none⟩ = some (.bool a.aro) ∧ w.cell? ⟨g, k * 4 + 2, none⟩ = some (.int .i64 a.ch) ∧ w.cell? ⟨g, k * 4 + 3, none⟩ = some (.int .i64 a.hy) := by
  have hl : k < ats.length := (List.getElem?_eq_some_iff.1 hk).1
  obtain ⟨g, cap, rfl, h1, h2, h3, h4⟩ := ownsRow_at h (by omega)
  have d0 := flatMap_get plainCells 4 plainCells_len _ k 0 a hk (by omega)
  rw [Nat.add_zero] at d0
  refine ⟨g, cap, rfl, h2, (h3 (k * 4) (by omega)).trans d0, ?_, ?_, ?_⟩
  · exact (h3 (k * 4 + 1) (by omega)).trans (flatMap_get plainCells 4 plainCells_len _ k 1 a hk (by omega))
  · exact (h3 (k * 4 + 2) (by omega)).trans (flatMap_get plainCells 4 plainCells_len _ k 2 a hk (by omega))
  · exact (h3 (k * 4 + 3) (by omega)).trans (flatMap_get plainCells 4 plainCells_len _ k 3 a hk (by omega))

theorem find_first {l : List Int} {i : Nat} {x : Int} {f : Int → Bool} (hi : l[i]? = some x) (hx : f x = true) (hb : ∀ (j : Nat) y, j < i → l[j]? = some y → f y = false) : l.find? f = some x := by
  induction l generalizing i with
  | nil => simp at hi
  | cons a r ih =>
    cases i with
    | zero => simp at hi; subst hi; rw [List.find?_cons_of_pos hx]
    | succ i =>
      have h0 := hb 0 a (by omega) rfl
      rw [List.find?_cons_of_neg (by rw [h0]; decide)]
      exact ih (i := i) (by simpa using hi) (fun j y hj hy => hb (j + 1) y (by omega) (by simpa using hy))

theorem valences_bd (el : ByteArray) (ch : Int) : (valences el ch).length ≤ 3 ∧ ∀ x ∈ valences el ch, 0 ≤ x ∧ x ≤ 9 := by
  unfold valences
  simp only
  repeat' split
  all_goals simp

section
variable {w : World}

set_option maxRecDepth 100000 in
set_option maxHeartbeats 2000000 in
theorem rhyd_any {base : Nat} {va vb : Value} {ats : List Atm} {l : List Bnd} (hA : w.ownsRow base 50 4 va ats.length (ats.flatMap plainCells)) (hB : w.ownsRow base 46 3 vb l.length (l.flatMap bndCells))
    (k : Nat) (a : Atm) (hk : ats[k]? = some a) (hl : l.length ≤ 200) (hb : ∀ b ∈ l, 1 ≤ b.o ∧ b.o ≤ 4) :
    Calls Tryz.prog 73 #[.agg #[va, vb], .int .i64 k] w fun e w' => e = .returned (.tuple #[.int .i64 (rhyd a (Bz.sum l k)).1, .bool (rhyd a (Bz.sum l k)).2]) ∧ Below w.heap.size w w' := by
  have hsb := sum_bd l k hb l.length (Nat.le_refl _)
  rw [List.take_length] at hsb
  have hkl : (k : Int) < (ats.length : Int) := by have := (List.getElem?_eq_some_iff.1 hk).1; omega
  obtain ⟨bo, bc, rfl⟩ := ownsRow_shape hB
  obtain ⟨g, cap, rfl, hg, c0, c1, c2, c3⟩ := atomAt hA hk
  have RS1 : Hid (∀ o o', Calls Tryz.prog 99 #[.agg #[.slice (some ⟨g, 0, none⟩) ats.length cap, .slice bo l.length bc], .int .i64 k] ((w.alloc o).alloc o') fun e w' => e = .returned (.int .i64 (Bz.sum l k)) ∧ Below ((w.alloc o).alloc o').heap.size ((w.alloc o).alloc o') w') := fun o o' => rsum_any ((hB.alloc o).alloc o') k (by omega) hb
  have HV := rval_any a.el 0 (.inl rfl)
  have HVb : Hid _ := valences_bd a.el 0
  have HRh : Hid (∀ n, rhyd a n = if a.aro then (if a.el = ⟨#[67]⟩ then max (3 - n) 0 else 0, true) else match (valences a.el 0).find? (fun v => decide (n ≤ v)) with
    | some v => (v - n, true)
    | none => (0, false)) := fun n => rfl
  have HB2 : Hid (∀ o o', Below w.heap.size w ((w.alloc o).alloc o')) := fun o o' => ((Below.refl _ _).alloc (Nat.le_refl _) o).alloc (by simp) o'
  clear hA hB hb hk
  generalize Bz.sum l k = n at *
  go_enter Tryz.func73, Tryz.ntmps73
  go_wp2_with fail
  refine (RS1.out _ _).mono ?_
  rintro e w2 ⟨rfl, hb2⟩
  have e0 : w2.cell? ⟨w.heap.size + 1, 0, none⟩ = some (.string a.el) := by rw [hb2.cell (by simp)]; simp [go_sem]
  have e1 : w2.cell? ⟨w.heap.size + 1, 1, none⟩ = some (.bool a.aro) := by rw [hb2.cell (by simp)]; simp [go_sem]
  have HBl : Hid (Below w.heap.size w w2) := (HB2.out _ _).trans (hb2.mono (by simp; omega))
  clear hb2 HB2 RS1 c0 c1 c2 c3
  cases ha : a.aro
  · rw [ha] at e1 HRh
    go_wp2_with fail
    refine (HV _).mono ?_
    rintro e w3 ⟨v, rfl, hi, hb3⟩
    have HBl3 : Hid (Below w.heap.size w w3) := HBl.out.trans (hb3.mono HBl.out.size)
    clear hb3 HV e0 e1
    generalize valences a.el 0 = vs at *
    have hvl := HVb.out.1
    have HX : Hid (∀ x ∈ vs, 0 ≤ x ∧ x ≤ 9) := HVb.out.2
    obtain ⟨vo, vc, hv, hcell⟩ : ∃ vo vc, v = .slice vo vs.length vc ∧ ∀ j x, vs[j]? = some x → ∃ g', vo = some ⟨g', 0, none⟩ ∧ w3.cell? ⟨g', j, none⟩ = some (.int .i64 x) := by
      rcases hi with ⟨rfl, rfl⟩ | ⟨g', cap', rfl, hc⟩
      · exact ⟨none, 0, rfl, by intro j x hj; simp at hj⟩
      · exact ⟨_, cap', rfl, fun j x hj => ⟨g', rfl, hc j x hj⟩⟩
    subst hv
    have HCe : Hid (∀ j x, vs[j]? = some x → ∃ g', vo = some ⟨g', 0, none⟩ ∧ w3.cell? ⟨g', j, none⟩ = some (.int .i64 x)) := hcell
    clear hi hcell HVb
    go_wp2_with fail
    go_loopg [9] (vs.length + 1) (fun kk vi wr => ∃ i : Nat, i ≤ vs.length ∧ vs.length - i ≤ kk ∧ vi = .int .i64 i ∧ wr = w3 ∧ ∀ (j : Nat) x, j < i → vs[j]? = some x → ¬ n ≤ x)
    case atStart => exact ⟨0, by omega, by omega, rfl, rfl, by intro j x hj; omega⟩
    case round =>
      obtain ⟨i, hi, hkk, rfl, rfl, hall⟩ := hrel
      have HA : Hid (∀ (j : Nat) x, j < i → vs[j]? = some x → ¬ n ≤ x) := hall
      clear hall
      by_cases hlt : i < vs.length
      · have hlt' : (i : Int) < (vs.length : Int) := by omega
        have gi := List.getElem?_eq_getElem hlt
        have hx9 := HX.out vs[i] (List.getElem_mem _)
        generalize vs[i] = x at gi hx9
        obtain ⟨g', rfl, cx⟩ := HCe.out i x gi
        have HG : Hid _ := gi
        clear gi
        by_cases hnx : n ≤ x
        · have HF : Hid (vs.find? (fun v => decide (n ≤ v)) = some x) := find_first HG.out (by simpa using hnx) (fun j y hj hy => by simpa using HA.out j y hj hy)
          go_wp2_with fail
          go_ret2
          exact ⟨by rw [HRh.out, HF.out]; rfl, HBl3.out⟩
        · have HNX : Hid (¬ n ≤ x) := hnx
          go_wp2_with fail
          go_roundg (vs.length - (i + 1))
          case measure => omega
          case rel =>
            refine ⟨i + 1, by omega, Nat.le_refl _, by go_num, rfl, ?_⟩
            intro j y hj hy
            by_cases e : j = i
            · subst e
              rw [HG.out] at hy
              cases hy
              exact HNX.out
            · exact HA.out j y (by omega) hy
      · have hlt' : ¬ (i : Int) < (vs.length : Int) := by omega
        have HF : Hid (vs.find? (fun v => decide (n ≤ v)) = none) := by
          unfold Hid
          rw [List.find?_eq_none]
          intro y hy
          obtain ⟨j, hj⟩ := List.getElem?_of_mem hy
          have := HA.out j y (by have := (List.getElem?_eq_some_iff.1 hj).1; omega) hj
          simpa using this
        go_wp2_with fail
        go_ret2
        exact ⟨by rw [HRh.out, HF.out]; rfl, HBl3.out⟩
  · rw [ha] at e1 HRh
    by_cases hC : a.el = ⟨#[67]⟩
    · have HR : Hid (rhyd a n = (max (3 - n) 0, true)) := by unfold Hid; rw [HRh.out, if_pos hC]; rfl
      rw [hC] at e0
      clear HV hC HRh
      by_cases h3 : n ≤ 3
      · have h3' : 0 ≤ 3 - n := by omega
        have HM : Hid (max (3 - n) 0 = 3 - n) := by unfold Hid; omega
        go_wp2_with fail
        go_ret2
        exact ⟨by rw [HR.out, HM.out]; rfl, HBl.out⟩
      · have h3' : ¬ 0 ≤ 3 - n := by omega
        have HM : Hid (max (3 - n) 0 = 0) := by unfold Hid; omega
        go_wp2_with fail
        go_ret2
        exact ⟨by rw [HR.out, HM.out]; rfl, HBl.out⟩
    · have HR : Hid (rhyd a n = (0, true)) := by unfold Hid; rw [HRh.out, if_neg hC]; rfl
      have hne := str_ne hC
      clear HV hC HRh
      go_wp2_with fail
      go_ret2
      exact ⟨by rw [HR.out]; rfl, HBl.out⟩
end
end Go.Proofs.YtcabaecbmkgclaaGreatDoor

namespace Go.Proofs.YtcabaecbmkgclaaGreatDoor
open Go.RowKit Bz

structure En (n : Nat) (l : List Bnd) (pos : Nat) : Prop where
  ends : ∀ b ∈ l, b.a < b.b ∧ b.b < n
  dist : l.Pairwise fun x y => ¬ (x.a = y.a ∧ x.b = y.b)
  rise : l.Pairwise fun x y => x.pl < y.pl
  plt : ∀ b ∈ l, b.pl < pos

theorem En.mono {n n' pos pos' : Nat} {l : List Bnd} (h : En n l pos) (hn : n ≤ n') (hp : pos ≤ pos') : En n' l pos' :=
  ⟨fun b hb => ⟨(h.ends b hb).1, Nat.lt_of_lt_of_le (h.ends b hb).2 hn⟩, h.dist, h.rise, fun b hb => Nat.lt_of_lt_of_le (h.plt b hb) hp⟩

theorem En.snoc {n pos pos' : Nat} {l : List Bnd} (h : En n l pos) {a b pl : Nat} (o : Int) (hab : a < b) (hb : b < n) (hd : ∀ x ∈ l, ¬ (x.a = a ∧ x.b = b)) (hp : pos ≤ pl) (hp' : pl < pos') : En n (l ++ [⟨a, b, o, pl⟩]) pos' := by
  refine ⟨fun x hx => ?_, ?_, ?_, fun x hx => ?_⟩
  · rcases List.mem_append.1 hx with hx | hx
    · exact h.ends x hx
    · simp at hx; subst hx; exact ⟨hab, hb⟩
  · rw [List.pairwise_append]
    refine ⟨h.dist, by simp, fun x hx y hy => ?_⟩
    simp at hy; subst hy; exact hd x hx
  · rw [List.pairwise_append]
    refine ⟨h.rise, by simp, fun x hx y hy => ?_⟩
    simp at hy; subst hy
    have := h.plt x hx
    simp only
    omega
  · rcases List.mem_append.1 hx with hx | hx
    · have := h.plt x hx; omega
    · simp at hx; subst hx; exact hp'

def Eo (p : St) : Prop := En p.atoms.length p.bonds p.pos

theorem bondEnd_en {s : ByteArray} {a : Nat} {p q : St} {g : Hung} (h : bondEnd s a p = .ok (g, q)) (o : Ok s p) (e : Eo p) : Eo q := by
  obtain ⟨h1, h2, h3, h4, h5, h6⟩ := bondEnd_ok h o.pos
  unfold Eo
  rw [h1, h2]
  exact En.mono e (Nat.le_refl _) (by omega)

theorem link_en {s : ByteArray} {a : Nat} {p q : St} {g : Hung} (h : link s a p = .ok (g, q)) (o : Ok s p) (e : Eo p) : Eo q := by
  unfold link at h
  split at h
  · simp only [Except.ok.injEq, Prod.mk.injEq] at h
    obtain ⟨rfl, rfl⟩ := h
    exact En.mono e (Nat.le_refl _) (by simp)
  · exact bondEnd_en h o e

theorem head_pl {s : ByteArray} {p : St} {g : Hung} {a : Atm} {j : Nat} (h : atomHead s g p = .ok (a, j)) : a.pl = p.pos := by
  unfold atomHead at h
  split at h
  · split at h <;> cases h
  · split at h
    · cases h
    · split at h
      · cases h
      · split at h
        · cases h
        · simp only [Except.ok.injEq, Prod.mk.injEq] at h
          obtain ⟨rfl, rfl⟩ := h
          rfl

theorem atom_en {s : ByteArray} {p q : St} {g : Hung} {k : Nat} (h : atom s g p = .ok (k, q)) (hg : HungOk g p) (e : Eo p) : Eo q := by
  rw [atom_eq] at h
  cases hh : atomHead s g p with
  | error e => rw [hh] at h; cases h
  | ok x =>
    obtain ⟨a, j⟩ := x
    rw [hh] at h
    simp only [Except.ok.injEq] at h
    have hj := head_pos hh
    unfold atomTail at h
    simp only [Prod.mk.injEq] at h
    obtain ⟨rfl, rfl⟩ := h
    split
    · exact En.mono e (by simp) (by simp; omega)
    · rename_i hne
      rcases hg with hg | ⟨fa, hf, hl⟩
      · exact absurd hg hne
      · unfold Eo Bz.bind
        simp only [hf, Int.toNat_natCast]
        have e1 : min fa p.atoms.length = fa := by omega
        have e2 : max fa p.atoms.length = p.atoms.length := by omega
        rw [e1, e2, head_pl hh]
        refine En.snoc (pos := p.pos) (En.mono e (by simp) (Nat.le_refl _)) _ hl (by simp) (fun x hx => ?_) (Nat.le_refl _) hj.1
        have := (e.ends x hx).2
        omega

theorem bonded_no {l : List Bnd} {a b : Nat} (h : bonded l a b = false) : ∀ x ∈ l, ¬ (x.a = min a b ∧ x.b = max a b) := by
  intro x hx hc
  unfold bonded at h
  have := List.any_eq_false.1 h x hx
  simp at this
  rcases Nat.le_total a b with k | k
  · rw [Nat.min_eq_left k, Nat.max_eq_right k] at hc
    exact this.1 hc.1 hc.2
  · rw [Nat.min_eq_right k, Nat.max_eq_left k] at hc
    exact this.2 hc.1 hc.2

theorem ring_en {s : ByteArray} {a : Nat} {p q : St} (h : ring s a p = .ok q) (o : Ok s p) (ha : a < p.atoms.length) (e : Eo p) : Eo q := by
  unfold ring at h
  split at h
  · cases h
  · rename_i g p1 hbe
    obtain ⟨o1, hg, ha1, hp1⟩ := bondEnd_wf hbe o ha
    have e1 := bondEnd_en hbe o e
    obtain ⟨_, _, _, _, _, h6⟩ := bondEnd_ok hbe o.pos
    split at h
    · cases h
    · rename_i n j hrn
      obtain ⟨h1, h2⟩ := ringNumber_pos hrn
      split at h
      · simp only [Except.ok.injEq] at h
        subst h
        exact En.mono e1 (Nat.le_refl _) (by simp; omega)
      · rename_i op hop
        obtain ⟨fa, hfa, hfl⟩ := o1.rings n op hop
        unfold closeRing at h
        simp only at h
        split at h
        · cases h
        · split at h
          · cases h
          · split at h
            · cases h
            · rename_i hno
              simp only [Except.ok.injEq] at h
              subst h
              simp only [not_or] at hno
              obtain ⟨n1, n2, _⟩ := hno
              have n2' : bonded p1.bonds op.hung.atom.toNat g.atom.toNat = false := by simpa using n2
              rw [hfa, h6] at n1 n2'
              simp only [Int.toNat_natCast] at n2'
              unfold Eo Bz.bind
              simp only [hfa, h6, Int.toNat_natCast]
              have hal : a < p1.atoms.length := by rw [ha1]; exact ha
              refine En.snoc (pos := p1.pos) e1 _ (by omega) (by omega) (bonded_no n2') (Nat.le_refl _) (by omega)

theorem ringsOf_en {s : ByteArray} {a : Nat} : ∀ (n : Nat) {p q : St}, ringsOf s a n p = .ok q → Ok s p → a < p.atoms.length → Eo p → Eo q
  | 0, p, q, h, _, _, e => by simp only [ringsOf, Except.ok.injEq] at h; subst h; exact e
  | n + 1, p, q, h, o, ha, e => by
    unfold ringsOf at h
    split at h
    · split at h
      · cases h
      · rename_i p1 hr
        obtain ⟨o1, h1, h2⟩ := ring_wf hr o ha
        exact ringsOf_en n h o1 (by omega) (ring_en hr o ha e)
    · simp only [Except.ok.injEq] at h; subst h; exact e

def ChainEn (s : ByteArray) (c : Hung → St → R St) : Prop := ∀ g q q', Ok s q → HungOk g q → Eo q → c g q = .ok q' → Eo q'

theorem branch_en {s : ByteArray} {c : Hung → St → R St} (hc : ChainEn s c) {a : Nat} {p q : St} (h : branch s c a p = .ok q) (o : Ok s p) (ha : a < p.atoms.length) (e : Eo p) : Eo q := by
  unfold branch at h
  split at h
  · cases h
  · rename_i g p1 hl
    obtain ⟨o1, hg, ha1, hp1⟩ := link_wf hl o ha
    have e1 := link_en hl o e
    split at h
    · cases h
    · rename_i p2 hch
      have e2 := hc g p1 p2 o1 hg e1 hch
      split at h
      · simp only [Except.ok.injEq] at h
        subst h
        exact En.mono e2 (Nat.le_refl _) (by simp)
      · cases h

theorem branches_en {s : ByteArray} {c : Hung → St → R St} (hk : ChainOk s c) (hc : ChainEn s c) {a : Nat} : ∀ (n : Nat) {p q : St}, branches s c a n p = .ok q → Ok s p → a < p.atoms.length → Eo p → Eo q
  | 0, p, q, h, _, _, e => by simp only [branches, Except.ok.injEq] at h; subst h; exact e
  | n + 1, p, q, h, o, ha, e => by
    unfold branches at h
    split at h
    · rename_i eb
      split at h
      · cases h
      · rename_i p1 hr
        have os := o.step (byte_lt eb (by decide))
        have es : Eo { p with pos := p.pos + 1 } := En.mono e (Nat.le_refl _) (by simp)
        obtain ⟨o1, h1, h2⟩ := branch_wf hk hr os ha
        simp only at h1 h2
        exact branches_en hk hc n h o1 (by omega) (branch_en hc hr os ha es)
    · simp only [Except.ok.injEq] at h; subst h; exact e

theorem knot_en {s : ByteArray} {c : Hung → St → R St} (hk : ChainOk s c) (hc : ChainEn s c) {g : Hung} {p q : St} {k : Nat} (h : knot s c g p = .ok (k, q)) (o : Ok s p) (hg : HungOk g p) (e : Eo p) : Eo q := by
  unfold knot at h
  split at h
  · cases h
  · rename_i k1 p1 ha
    obtain ⟨o1, h1, h2, h3⟩ := atom_wf ha o
    have e1 := atom_en ha hg e
    split at h
    · cases h
    · rename_i p2 hr
      obtain ⟨o2, h4, h5⟩ := ringsOf_wf _ hr o1 h1
      have e2 := ringsOf_en _ hr o1 h1 e1
      split at h
      · cases h
      · rename_i p3 hb
        simp only [Except.ok.injEq, Prod.mk.injEq] at h
        obtain ⟨rfl, rfl⟩ := h
        exact branches_en hk hc _ hb o2 (by omega) e2

theorem linkedKnot_en {s : ByteArray} {c : Hung → St → R St} (hk : ChainOk s c) (hc : ChainEn s c) {a : Nat} {p q : St} {k : Nat} (h : linkedKnot s c a p = .ok (k, q)) (o : Ok s p) (ha : a < p.atoms.length) (e : Eo p) : Eo q := by
  unfold linkedKnot at h
  split at h
  · cases h
  · rename_i g p1 hl
    obtain ⟨o1, hg, ha1, hp1⟩ := link_wf hl o ha
    exact knot_en hk hc h o1 hg (link_en hl o e)

theorem linked_en {s : ByteArray} {c : Hung → St → R St} (hk : ChainOk s c) (hc : ChainEn s c) : ∀ (n : Nat) {a : Nat} {p q : St}, Bz.linked s c n a p = .ok q → Ok s p → a < p.atoms.length → Eo p → Eo q
  | 0, a, p, q, h, _, _, e => by simp only [Bz.linked, Except.ok.injEq] at h; subst h; exact e
  | n + 1, a, p, q, h, o, ha, e => by
    unfold Bz.linked at h
    split at h
    · split at h
      · cases h
      · rename_i k1 p1 hr
        obtain ⟨o1, h1, h2, h3⟩ := linkedKnot_wf hk hr o ha
        exact linked_en hk hc n h o1 h1 (linkedKnot_en hk hc hr o ha e)
    · simp only [Except.ok.injEq] at h; subst h; exact e

theorem chain_en (s : ByteArray) : ∀ n, ChainEn s (chain s n)
  | 0 => by intro g q q' _ _ _ h; simp [chain] at h
  | n + 1 => by
    intro g q q' o hg e h
    unfold chain at h
    split at h
    · cases h
    · rename_i k p1 hk
      obtain ⟨o1, h1, h2, h3⟩ := knot_wf (chain_wf s n) hk o
      exact linked_en (chain_wf s n) (chain_en s n) _ h o1 h1 (knot_en (chain_wf s n) (chain_en s n) hk o hg e)
end Go.Proofs.YtcabaecbmkgclaaGreatDoor

namespace Go.Proofs.YtcabaecbmkgclaaGreatDoor
open Go.RowKit Bz

def Asc (s : ByteArray) (k : Nat) : Prop := ∀ i, i < k → byteAt s i < 128

theorem Asc.succ {s : ByteArray} {k : Nat} (h : Asc s k) (hk : byteAt s k < 128) : Asc s (k + 1) := fun i hi => by
  rcases Nat.lt_or_ge i k with hl | hl
  · exact h i hl
  · have : i = k := by omega
    subst this
    exact hk

theorem isSign_lt {c : Int} (h : isSign c = true) : c < 128 := by
  unfold isSign at h
  simp only [Bool.or_eq_true, beq_iff_eq] at h
  omega

theorem element_ac {s : ByteArray} {i : Nat} {el : ByteArray} {ar : Bool} {n : Nat} (h : element s i = some (el, ar, n)) (a : Asc s i) : Asc s (i + n) := by
  unfold element at h
  simp only at h
  split at h
  · rename_i hc
    simp only [Option.some.injEq, Prod.mk.injEq] at h
    obtain ⟨_, _, rfl⟩ := h
    exact (a.succ (by omega)).succ (by omega)
  · split at h
    · rename_i hc
      simp only [Option.some.injEq, Prod.mk.injEq] at h
      obtain ⟨_, _, rfl⟩ := h
      exact (a.succ (by omega)).succ (by omega)
    · split at h
      · rename_i hc
        simp only [Option.some.injEq, Prod.mk.injEq] at h
        obtain ⟨_, _, rfl⟩ := h
        exact a.succ (by omega)
      · split at h
        · rename_i hc
          simp only [Option.some.injEq, Prod.mk.injEq] at h
          obtain ⟨_, _, rfl⟩ := h
          exact a.succ (by omega)
        · cases h

theorem hydro_ac {s : ByteArray} {i : Nat} (a : Asc s i) : Asc s (hydro s i).2 := by
  unfold hydro
  split
  · split
    · exact (a.succ (by omega)).succ (by omega)
    · exact a.succ (by omega)
  · exact a

theorem charge_ac {s : ByteArray} {i : Nat} (a : Asc s i) : Asc s (charge s i).2 := by
  unfold charge
  split
  · exact a.succ (by omega)
  · split
    · exact a.succ (by omega)
    · exact a

theorem bracket_ac {s : ByteArray} {i : Nat} {x : Int × Int × Nat} (h : bracket s i = .ok x) (a : Asc s i) : Asc s x.2.2 := by
  unfold bracket at h
  simp only at h
  split at h
  · rename_i hc
    simp only [Except.ok.injEq] at h
    subst h
    exact (charge_ac (hydro_ac a)).succ (by omega)
  · cases h

theorem head_ac {s : ByteArray} {p : St} {g : Hung} {at_ : Atm} {j : Nat} (h : atomHead s g p = .ok (at_, j)) (a : Asc s p.pos) : Asc s j := by
  unfold atomHead at h
  split at h
  · split at h <;> cases h
  · rename_i el ar n he
    have a1 : Asc s (if (byteAt s p.pos == 91) = true then p.pos + 1 else p.pos) := by
      split
      · rename_i hb
        simp only [beq_iff_eq] at hb
        exact a.succ (by omega)
      · exact a
    have a2 := element_ac he a1
    split at h
    · cases h
    · split at h
      · cases h
      · split at h
        · cases h
        · rename_i ch hy j' hb
          simp only [Except.ok.injEq, Prod.mk.injEq] at h
          obtain ⟨_, rfl⟩ := h
          split at hb
          · rename_i hq
            rw [if_pos hq] at a2
            have := bracket_ac hb a2
            exact this
          · rename_i hq
            rw [if_neg hq] at a2
            simp only [Except.ok.injEq, Prod.mk.injEq] at hb
            obtain ⟨_, _, rfl⟩ := hb
            exact a2

theorem bondEnd_ac {s : ByteArray} {a : Nat} {p q : St} {g : Hung} (h : bondEnd s a p = .ok (g, q)) (e : Asc s p.pos) : Asc s q.pos := by
  unfold bondEnd at h
  simp only at h
  split at h
  · rename_i hs
    split at h
    · cases h
    · simp only [Except.ok.injEq, Prod.mk.injEq] at h
      obtain ⟨_, rfl⟩ := h
      exact e.succ (isSign_lt hs)
  · simp only [Except.ok.injEq, Prod.mk.injEq] at h
    obtain ⟨_, rfl⟩ := h
    exact e

theorem link_ac {s : ByteArray} {a : Nat} {p q : St} {g : Hung} (h : link s a p = .ok (g, q)) (e : Asc s p.pos) : Asc s q.pos := by
  unfold link at h
  split at h
  · simp only [Except.ok.injEq, Prod.mk.injEq] at h
    obtain ⟨_, rfl⟩ := h
    exact e.succ (by omega)
  · exact bondEnd_ac h e

theorem atom_ac {s : ByteArray} {p q : St} {g : Hung} {k : Nat} (h : atom s g p = .ok (k, q)) (e : Asc s p.pos) : Asc s q.pos := by
  rw [atom_eq] at h
  cases hh : atomHead s g p with
  | error e => rw [hh] at h; cases h
  | ok x =>
    obtain ⟨a, j⟩ := x
    rw [hh] at h
    simp only [Except.ok.injEq] at h
    have hj := head_ac hh e
    unfold atomTail at h
    simp only [Prod.mk.injEq] at h
    obtain ⟨_, rfl⟩ := h
    split
    · exact hj
    · exact hj

theorem digit_lt128 {c : Int} (h : isDigit c = true) : c < 128 := by
  unfold isDigit at h
  simp only [Bool.and_eq_true, decide_eq_true_eq] at h
  omega

theorem ringNumber_ac {s : ByteArray} {i n j : Nat} (h : ringNumber s i = .ok (n, j)) (e : Asc s i) : Asc s j := by
  unfold ringNumber at h
  split at h
  · rename_i h0
    split at h
    · split at h
      · rename_i h1 h2
        simp only [Except.ok.injEq, Prod.mk.injEq] at h
        obtain ⟨_, rfl⟩ := h
        exact ((e.succ (by omega)).succ (digit_lt128 h1)).succ (digit_lt128 h2)
      · cases h
    · cases h
  · split at h
    · rename_i h1
      simp only [Except.ok.injEq, Prod.mk.injEq] at h
      obtain ⟨_, rfl⟩ := h
      exact e.succ (digit_lt128 h1)
    · cases h

theorem ring_ac {s : ByteArray} {a : Nat} {p q : St} (h : ring s a p = .ok q) (e : Asc s p.pos) : Asc s q.pos := by
  unfold ring at h
  split at h
  · cases h
  · rename_i g p1 hbe
    have e1 := bondEnd_ac hbe e
    split at h
    · cases h
    · rename_i n j hrn
      have e2 := ringNumber_ac hrn e1
      split at h
      · simp only [Except.ok.injEq] at h
        subst h
        exact e2
      · unfold closeRing at h
        simp only at h
        split at h
        · cases h
        · split at h
          · cases h
          · split at h
            · cases h
            · simp only [Except.ok.injEq] at h
              subst h
              exact e2

theorem ringsOf_ac {s : ByteArray} {a : Nat} : ∀ (n : Nat) {p q : St}, ringsOf s a n p = .ok q → Asc s p.pos → Asc s q.pos
  | 0, p, q, h, e => by simp only [ringsOf, Except.ok.injEq] at h; subst h; exact e
  | n + 1, p, q, h, e => by
    unfold ringsOf at h
    split at h
    · split at h
      · cases h
      · rename_i p1 hr
        exact ringsOf_ac n h (ring_ac hr e)
    · simp only [Except.ok.injEq] at h; subst h; exact e

def ChainAc (s : ByteArray) (c : Hung → St → R St) : Prop := ∀ g q q', Asc s q.pos → c g q = .ok q' → Asc s q'.pos

theorem branch_ac {s : ByteArray} {c : Hung → St → R St} (hc : ChainAc s c) {a : Nat} {p q : St} (h : branch s c a p = .ok q) (e : Asc s p.pos) : Asc s q.pos := by
  unfold branch at h
  split at h
  · cases h
  · rename_i g p1 hl
    have e1 := link_ac hl e
    split at h
    · cases h
    · rename_i p2 hch
      have e2 := hc g p1 p2 e1 hch
      split at h
      · rename_i hb
        simp only [Except.ok.injEq] at h
        subst h
        exact e2.succ (by omega)
      · cases h

theorem branches_ac {s : ByteArray} {c : Hung → St → R St} (hc : ChainAc s c) {a : Nat} : ∀ (n : Nat) {p q : St}, branches s c a n p = .ok q → Asc s p.pos → Asc s q.pos
  | 0, p, q, h, e => by simp only [branches, Except.ok.injEq] at h; subst h; exact e
  | n + 1, p, q, h, e => by
    unfold branches at h
    split at h
    · rename_i eb
      split at h
      · cases h
      · rename_i p1 hr
        exact branches_ac hc n h (branch_ac hc hr (e.succ (by omega)))
    · simp only [Except.ok.injEq] at h; subst h; exact e

theorem knot_ac {s : ByteArray} {c : Hung → St → R St} (hc : ChainAc s c) {g : Hung} {p q : St} {k : Nat} (h : knot s c g p = .ok (k, q)) (e : Asc s p.pos) : Asc s q.pos := by
  unfold knot at h
  split at h
  · cases h
  · rename_i k1 p1 ha
    have e1 := atom_ac ha e
    split at h
    · cases h
    · rename_i p2 hr
      have e2 := ringsOf_ac _ hr e1
      split at h
      · cases h
      · rename_i p3 hb
        simp only [Except.ok.injEq, Prod.mk.injEq] at h
        obtain ⟨_, rfl⟩ := h
        exact branches_ac hc _ hb e2

theorem linked_ac {s : ByteArray} {c : Hung → St → R St} (hc : ChainAc s c) : ∀ (n : Nat) {a : Nat} {p q : St}, Bz.linked s c n a p = .ok q → Asc s p.pos → Asc s q.pos
  | 0, a, p, q, h, e => by simp only [Bz.linked, Except.ok.injEq] at h; subst h; exact e
  | n + 1, a, p, q, h, e => by
    unfold Bz.linked at h
    split at h
    · split at h
      · cases h
      · rename_i k1 p1 hr
        unfold linkedKnot at hr
        split at hr
        · cases hr
        · rename_i g p0 hl
          exact linked_ac hc n h (knot_ac hc hr (link_ac hl e))
    · simp only [Except.ok.injEq] at h; subst h; exact e

theorem chain_ac (s : ByteArray) : ∀ n, ChainAc s (chain s n)
  | 0 => by intro g q q' _ h; simp [chain] at h
  | n + 1 => by
    intro g q q' e h
    unfold chain at h
    split at h
    · cases h
    · rename_i k p1 hk
      exact linked_ac (chain_ac s n) _ h (knot_ac (chain_ac s n) hk e)

theorem parse_ac {s : ByteArray} {ats : List Atm} {l : List Bnd} (h : Bz.parse s = .ok (ats, l)) : ∀ b ∈ s.data.toList, b.toNat < 128 := by
  have key : Asc s s.size := by
    unfold Bz.parse at h
    split at h
    · cases h
    · split at h
      · cases h
      · rename_i p hc
        have he := chain_ac s (s.size + 1) _ _ _ (fun i hi => absurd hi (Nat.not_lt_zero i)) hc
        split at h
        · cases h
        · rename_i hp
          exact fun i hi => he i (by omega)
  intro b hb
  obtain ⟨i, hi, rfl⟩ := List.getElem_of_mem hb
  have hi' : i < s.size := by simpa using hi
  have := key i hi'
  rw [byteAt_lt s i hi'] at this
  have e : s.data.toList[i] = s[i] := rfl
  rw [e]
  omega
end Go.Proofs.YtcabaecbmkgclaaGreatDoor

namespace Go.Proofs.YtcabaecbmkgclaaGreatDoor.Kd
open Go.RowKit Bz

/-- A molecule lies in block B; its lists lie from base on. -/
structure Kd (w : World) (B base : Nat) (p : St) : Prop where
  atoms : ∃ v, w.cell? ⟨B, 24, none⟩ = some v ∧ w.ownsRow base 124 6 v p.atoms.length (p.atoms.flatMap atmCells)
  bonds : ∃ v, w.cell? ⟨B, 25, none⟩ = some v ∧ w.ownsRow base 102 4 v p.bonds.length (p.bonds.flatMap pbCells)
  lt : B < w.heap.size

section
variable {w : World} {B base : Nat} {s : ByteArray} {p : St}

theorem Kd.below {w' : World} (h : Kd w B base p) (hb : Below w.heap.size w w') : Kd w' B base p := by
  obtain ⟨v, hv, ho⟩ := h.atoms
  obtain ⟨u, hu, hq⟩ := h.bonds
  exact ⟨⟨v, (hb.cell (p := ⟨B, 24, none⟩) h.lt).trans hv, ownsRow_same ho fun k hk => hb.block k (ho.lt k hk).2⟩, ⟨u, (hb.cell (p := ⟨B, 25, none⟩) h.lt).trans hu, ownsRow_same hq fun k hk => hb.block k (hq.lt k hk).2⟩, Nat.lt_of_lt_of_le h.lt hb.size⟩
theorem Kd.drew (h : Kd w B base p) : Kd w.drew B base p := ⟨h.atoms, h.bonds, h.lt⟩

theorem Kd.atomsAt (h : Kd w B base p) (hn : 0 < p.atoms.length) : ∃ g cap, w.cell? ⟨B, 24, none⟩ = some (.slice (some ⟨g, 0, none⟩) p.atoms.length cap) ∧
    (∀ i a j v, p.atoms[i]? = some a → (atmCells a)[j]? = some v → w.cell? ⟨g, i * 6 + j, none⟩ = some v) ∧ (∀ j, w.frozen? ⟨g, j, none⟩ = false) ∧ base ≤ g ∧ g < w.heap.size := by
  obtain ⟨v, hv, ho⟩ := h.atoms
  obtain ⟨g, cap, rfl, h1, h2, h3, h4⟩ := ownsRow_at ho hn
  refine ⟨g, cap, hv, ?_, h4, h1, h2⟩
  intro i a j u hi hj
  have hj6 : j < 6 := by
    have := (List.getElem?_eq_some_iff.1 hj).1
    simpa [atmCells_len] using this
  have hil : i < p.atoms.length := (List.getElem?_eq_some_iff.1 hi).1
  rw [h3 (i * 6 + j) (by omega), flatMap_get atmCells 6 atmCells_len _ i j a hi hj6, hj]

theorem Kd.bondsAt (h : Kd w B base p) (hn : 0 < p.bonds.length) : ∃ g cap, w.cell? ⟨B, 25, none⟩ = some (.slice (some ⟨g, 0, none⟩) p.bonds.length cap) ∧
    (∀ i a j v, p.bonds[i]? = some a → (pbCells a)[j]? = some v → w.cell? ⟨g, i * 4 + j, none⟩ = some v) ∧ (∀ j, w.frozen? ⟨g, j, none⟩ = false) ∧ base ≤ g ∧ g < w.heap.size := by
  obtain ⟨v, hv, ho⟩ := h.bonds
  obtain ⟨g, cap, rfl, h1, h2, h3, h4⟩ := ownsRow_at ho hn
  refine ⟨g, cap, hv, ?_, h4, h1, h2⟩
  intro i a j u hi hj
  have hj6 : j < 4 := by
    have := (List.getElem?_eq_some_iff.1 hj).1
    simpa [pbCells_len] using this
  have hil : i < p.bonds.length := (List.getElem?_eq_some_iff.1 hi).1
  rw [h3 (i * 4 + j) (by omega), flatMap_get pbCells 4 pbCells_len _ i j a hi hj6, hj]

theorem Kd.bondsLen (h : Kd w B base p) : ∃ ao cap, w.cell? ⟨B, 25, none⟩ = some (.slice ao p.bonds.length cap) := by
  obtain ⟨v, hv, ho⟩ := h.bonds
  obtain ⟨ao, cap, rfl⟩ := ownsRow_shape ho
  exact ⟨ao, cap, hv⟩

set_option maxRecDepth 100000 in
set_option maxHeartbeats 2000000 in
theorem sum_any (h : Kd w B base p) (a : Nat) (hb : p.bonds.length ≤ 1000) (ho : ∀ b ∈ p.bonds, 1 ≤ b.o ∧ b.o ≤ 4) :
    Calls Tryz.prog 84 #[.pointer (some ⟨B, 0, none⟩), .int .i64 a] w fun e w' => e = .returned (.int .i64 (Bz.sum p.bonds a)) ∧ Below w.heap.size w w' := by
  have hsb := sum_bd p.bonds a ho
  by_cases hl : p.bonds.length = 0
  · obtain ⟨ao, cap, hc⟩ := h.bondsLen
    rw [hl] at hc
    have he : Hid (Bz.sum p.bonds a = 0) := by unfold Hid; rw [List.eq_nil_of_length_eq_zero hl]; rfl
    clear hsb hl ho
    go_enter Tryz.func84, Tryz.ntmps84
    go_wp2_with fail
    refine wp_loop_rounds 1 ?_
    rw [rounds_succ]
    go_wp2_with fail
    go_ret
    exact ⟨ret_int he.out.symm, Below.refl _ _⟩
  · obtain ⟨g, cap, hv, hc, _, hBg, hgl⟩ := h.bondsAt (by omega)
    have HC : Hid _ := hc
    have HO : Hid _ := ho
    have HS : Hid _ := hsb
    clear hc ho hsb
    go_enter Tryz.func84, Tryz.ntmps84
    go_wp2_with fail
    go_loopg [5, 13] (p.bonds.length + 1) (fun k vs vi wr => SumAt w p.bonds a k vs vi wr)
    case atStart => exact ⟨0, by omega, by omega, rfl, by simp [Bz.sum], Below.refl _ _⟩
    case round =>
      obtain ⟨i, hi, hk, rfl, rfl, hbel⟩ := hrel
      by_cases hlt : i < p.bonds.length
      · have hsi := HS.out i hi
        have hst := sum_take p.bonds a i hlt
        have hbo := HO.out p.bonds[i] (List.getElem_mem _)
        have gi := List.getElem?_eq_getElem hlt
        have c0 := (hbel.cell (p := ⟨g, i * 4, none⟩) hgl).trans (HC.out i _ 0 _ gi rfl)
        have c1 := (hbel.cell (p := ⟨g, i * 4 + 1, none⟩) hgl).trans (HC.out i _ 1 _ gi rfl)
        have c2 := (hbel.cell (p := ⟨g, i * 4 + 2, none⟩) hgl).trans (HC.out i _ 2 _ gi rfl)
        have c3 := (hbel.cell (p := ⟨g, i * 4 + 3, none⟩) hgl).trans (HC.out i _ 3 _ gi rfl)
        have hsz := hbel.size
        have hlt' : (i : Int) < (p.bonds.length : Int) := by omega
        generalize p.bonds[i] = b at *
        obtain ⟨ba, bb, bo, bpl⟩ := b
        simp only at c0 c1 c2 c3 hbo
        have HST : Hid _ := hst
        clear hst gi
        generalize Bz.sum (p.bonds.take i) a = sm at *
        have t4 : (bo == 4) = true ∨ (bo == 4) = false := by cases (bo == 4) <;> simp
        have fin : ∀ wx, Below w.heap.size w wx → ∀ u : Int, u = sm + part a ⟨ba, bb, bo, bpl⟩ → SumAt w p.bonds a (p.bonds.length - (i + 1)) (.int .i64 u) (.int .i64 ((i : Int) + 1)) wx := by
          intro wx hx u hu
          exact ⟨i + 1, by omega, Nat.le_refl _, by go_num, by rw [HST.out, hu], hx⟩
        have FIN : Hid _ := fin
        clear fin
        by_cases hin : ba = a ∨ bb = a
        · have tin : ((ba : Int) != (a : Int)) = false ∨ ((ba : Int) != (a : Int)) = true ∧ ((bb : Int) != (a : Int)) = false := by
            by_cases e : ba = a
            · left; simp [e]
            · right
              have e2 : bb = a := by omega
              exact ⟨by simp; omega, by simp [e2]⟩
          have HP : Hid (part a ⟨ba, bb, bo, bpl⟩ = if bo = 4 then 1 else bo) := by unfold Hid part; rw [if_pos hin]
          clear hin
          rcases t4 with t4 | t4
          · have hp : Hid (part a ⟨ba, bb, bo, bpl⟩ = 1) := by unfold Hid; rw [HP.out, if_pos (by simpa using t4)]
            rcases tin with tin | ⟨tin, tin2⟩
            all_goals
              go_wp2_with fail
              go_roundg (p.bonds.length - (i + 1))
              case measure => omega
              case rel => exact FIN.out _ (hbel.alloc hsz _) _ (by rw [hp.out])
          · have hp : Hid (part a ⟨ba, bb, bo, bpl⟩ = bo) := by unfold Hid; rw [HP.out, if_neg (by simpa using t4)]
            rcases tin with tin | ⟨tin, tin2⟩
            all_goals
              go_wp2_with fail
              go_roundg (p.bonds.length - (i + 1))
              case measure => omega
              case rel => exact FIN.out _ (hbel.alloc hsz _) _ (by rw [hp.out])
        · have hp : Hid (part a ⟨ba, bb, bo, bpl⟩ = 0) := by unfold Hid part; rw [if_neg hin]
          have tin : ((ba : Int) != (a : Int)) = true := by simp; omega
          have tin2 : ((bb : Int) != (a : Int)) = true := by simp; omega
          clear hin t4
          go_wp2_with fail
          go_roundg (p.bonds.length - (i + 1))
          case measure => omega
          case rel => exact FIN.out _ (hbel.alloc hsz _) _ (by rw [hp.out]; omega)
      · have hi' : i = p.bonds.length := by omega
        have he : Hid (Bz.sum (p.bonds.take i) a = Bz.sum p.bonds a) := by unfold Hid; rw [hi', List.take_length]
        have hlt' : ¬ (i : Int) < (p.bonds.length : Int) := by omega
        clear hi'
        go_wp2_with fail
        go_ret
        exact ⟨ret_int he.out, hbel⟩
/-- Atom i in the list: where its six cells lie. -/
structure AtI (w : World) (B g cap n i : Nat) (a : Atm) : Prop where
  sl : w.cell? ⟨B, 24, none⟩ = some (.slice (some ⟨g, 0, none⟩) n cap)
  c0 : w.cell? ⟨g, i * 6, none⟩ = some (.string a.el)
  c1 : w.cell? ⟨g, i * 6 + 1, none⟩ = some (.bool a.aro)
  c2 : w.cell? ⟨g, i * 6 + 2, none⟩ = some (.int .i64 a.ch)
  c3 : w.cell? ⟨g, i * 6 + 3, none⟩ = some (.int .i64 a.hy)
  c4 : w.cell? ⟨g, i * 6 + 4, none⟩ = some (.int .i64 a.pl)
  c5 : w.cell? ⟨g, i * 6 + 5, none⟩ = some (.bool a.br)

theorem Kd.atI (h : Kd w B base p) {i : Nat} {a : Atm} (hi : p.atoms[i]? = some a) : ∃ g cap, AtI w B g cap p.atoms.length i a ∧ g < w.heap.size := by
  have hl : i < p.atoms.length := (List.getElem?_eq_some_iff.1 hi).1
  obtain ⟨g, cap, hv, hc, _, _, hg⟩ := h.atomsAt (by omega)
  exact ⟨g, cap, ⟨hv, hc i a 0 _ hi rfl, hc i a 1 _ hi rfl, hc i a 2 _ hi rfl, hc i a 3 _ hi rfl, hc i a 4 _ hi rfl, hc i a 5 _ hi rfl⟩, hg⟩

theorem AtI.below {w' : World} {g cap n i : Nat} {a : Atm} (h : AtI w B g cap n i a) (hB : B < w.heap.size) (hg : g < w.heap.size) (hb : Below w.heap.size w w') : AtI w' B g cap n i a :=
  ⟨(hb.cell (p := ⟨B, 24, none⟩) hB).trans h.sl, (hb.cell (p := ⟨g, i * 6, none⟩) hg).trans h.c0, (hb.cell (p := ⟨g, i * 6 + 1, none⟩) hg).trans h.c1, (hb.cell (p := ⟨g, i * 6 + 2, none⟩) hg).trans h.c2,
    (hb.cell (p := ⟨g, i * 6 + 3, none⟩) hg).trans h.c3, (hb.cell (p := ⟨g, i * 6 + 4, none⟩) hg).trans h.c4, (hb.cell (p := ⟨g, i * 6 + 5, none⟩) hg).trans h.c5⟩

set_option maxRecDepth 100000 in
set_option maxHeartbeats 2000000 in
theorem filled_any (h : Kd w B base p) (o : Ok s p) (hs : s.size ≤ 160) (i : Nat) (a : Atm) (hi : p.atoms[i]? = some a) :
    Calls Tryz.prog 60 #[.pointer (some ⟨B, 0, none⟩), .int .i64 i] w fun e w' => e = .returned (.int .i64 (fill p i a)) ∧ Below w.heap.size w w' := by
  obtain ⟨g, cap, hA, hg⟩ := h.atI hi
  have hB := h.lt
  have hl : i < p.atoms.length := (List.getElem?_eq_some_iff.1 hi).1
  have hl' : (i : Int) < (p.atoms.length : Int) := by omega
  have hn := o.atoms
  have hsb := sum_bound o hs i
  have hhy := o.hys a (List.mem_of_getElem? hi)
  have hS : Calls Tryz.prog 84 #[.pointer (some ⟨B, 0, none⟩), .int .i64 i] w.drew fun e w' => e = .returned (.int .i64 (Bz.sum p.bonds i)) ∧ Below w.heap.size w w' ∧ w'.cell? ⟨B, 24, none⟩ = some (.slice (some ⟨g, 0, none⟩) p.atoms.length cap) ∧ w'.cell? ⟨g, i * 6 + 3, none⟩ = some (.int .i64 a.hy) := by
    refine (sum_any h.drew i (by have := o.bonds; have := o.pos; omega) o.ords).mono ?_
    rintro e w' ⟨he, hb⟩
    have hb' : Below w.heap.size w w' := (Below.refl _ _).drew.trans hb
    have hA' := hA.below hB hg hb'
    exact ⟨he, hb', hA'.sl, hA'.c3⟩
  have HF : Hid (fill p i a = Bz.sum p.bonds i + a.hy) := rfl
  have q0 := hA.sl
  have q1 := hA.c3
  clear hA
  generalize Bz.sum p.bonds i = sm at *
  generalize a.hy = hy at *
  go_enter Tryz.func60, Tryz.ntmps60
  go_wp2_with fail
  go_region_held3 (fun w' => w'.cell? ⟨B, 24, none⟩ = some (.slice (some ⟨g, 0, none⟩) p.atoms.length cap) ∧ w'.cell? ⟨g, i * 6 + 3, none⟩ = some (.int .i64 hy)) (go_keep) (first | (go_at_call 84; refine hS.mono ?_; rintro e w' ⟨rfl, hb, i0, i1⟩))
  all_goals
    go_wp2_with fail
    go_ret
    exact ⟨ret_int (by first | exact HF.out.symm | (rw [HF.out, IntKind.wrap_i64]; omega)), hb⟩

set_option maxRecDepth 100000 in
set_option maxHeartbeats 2000000 in
theorem candidate_yes (h : Kd w B base p) (o : Ok s p) (hs : s.size ≤ 160) (i : Nat) (a : Atm) (hi : p.atoms[i]? = some a) (ha : a.aro = true) (x : Int) (r : List Int) (hx : valences a.el a.ch = x :: r) :
    Calls Tryz.prog 32 #[.pointer (some ⟨B, 0, none⟩), .int .i64 i] w fun e w' => e = .returned (.bool (fill p i a == x - 1)) ∧ Below w.heap.size w w' := by
  obtain ⟨g, cap, hA, hg⟩ := h.atI hi
  have hB := h.lt
  have hl : i < p.atoms.length := (List.getElem?_eq_some_iff.1 hi).1
  have hl' : (i : Int) < (p.atoms.length : Int) := by omega
  have hn := o.atoms
  have hx9 := (valences_len a.el a.ch).2 x (by rw [hx]; simp)
  have HW : Hid (∀ wx, CandAt w wx a → Calls Tryz.prog 60 #[.pointer (some ⟨B, 0, none⟩), .int .i64 i] wx fun e w' => e = .returned (.int .i64 (fill p i a)) ∧ CandAt w w' a ∧ w'.cell? ⟨w.heap.size, 0, none⟩ = some (.string a.el) ∧
      w'.cell? ⟨w.heap.size, 1, none⟩ = some (.bool true) ∧ w'.cell? ⟨w.heap.size, 2, none⟩ = some (.int .i64 a.ch) ∧ w'.cell? ⟨w.heap.size, 3, none⟩ = some (.int .i64 a.hy)) := by
    intro wx hwx
    refine (filled_any (h.below hwx.below) o hs i a hi).mono ?_
    rintro e w' ⟨he, hb⟩
    have hc := hwx.step hb
    exact ⟨he, hc, hc.c0, ha ▸ hc.c1, hc.c2, hc.c3⟩
  have HV : Hid (∀ wx, CandAt w wx a → Calls Tryz.prog 61 #[.agg #[.string a.el, .bool true, .int .i64 a.ch, .int .i64 a.hy]] wx fun e w' => e = .returned (.int .i64 x) ∧ CandAt w w' a ∧ w'.cell? ⟨w.heap.size, 0, none⟩ = some (.string a.el) ∧
      w'.cell? ⟨w.heap.size, 1, none⟩ = some (.bool true) ∧ w'.cell? ⟨w.heap.size, 2, none⟩ = some (.int .i64 a.ch) ∧ w'.cell? ⟨w.heap.size, 3, none⟩ = some (.int .i64 a.hy)) := by
    intro wx hwx
    have hfv := firstValence_any a x r hx wx
    unfold aV at hfv
    rw [ha] at hfv
    refine hfv.mono ?_
    rintro e w' ⟨he, hb⟩
    have hc := hwx.step hb
    exact ⟨he, hc, hc.c0, ha ▸ hc.c1, hc.c2, hc.c3⟩
  have q0 := hA.sl
  have q1 := hA.c0
  have q2 := hA.c1
  rw [ha] at q2
  have q3 := hA.c2
  have q4 := hA.c3
  have hb0 : CandAt w ((w.alloc (.cells #[.string a.el, .bool true, .int .i64 a.ch, .int .i64 a.hy] 50)).drew) a := ⟨by simp [go_sem], by rw [ha]; simp [go_sem], by simp [go_sem], by simp [go_sem], ((Below.refl _ _).alloc (Nat.le_refl _) _).drew⟩
  have HX : Hid (0 ≤ x ∧ x ≤ 9) := hx9
  clear hA hx hx9 ha
  generalize fill p i a = fl at *
  go_enter Tryz.func32, Tryz.ntmps32
  go_wp2_with fail
  go_region_held3 (fun w' => w'.cell? ⟨w.heap.size, 0, none⟩ = some (.string a.el) ∧ w'.cell? ⟨w.heap.size, 1, none⟩ = some (.bool true) ∧ w'.cell? ⟨w.heap.size, 2, none⟩ = some (.int .i64 a.ch) ∧ w'.cell? ⟨w.heap.size, 3, none⟩ = some (.int .i64 a.hy)) (go_keep) (first | (go_at_call 60; refine (HW.out _ (by assumption)).mono ?_; rintro e w' ⟨rfl, hb, i0, i1, i2, i3⟩) | (go_at_call 61; refine (HV.out _ (by assumption)).mono ?_; rintro e w' ⟨rfl, hb', j0, j1, j2, j3⟩))
  all_goals
    go_wp2_with fail
    go_ret
    exact ⟨ret_bool (by have := HX.out; first | rfl | (rw [IntKind.wrap_i64, show (x - 1 + 9223372036854775808) % 18446744073709551616 - 9223372036854775808 = x - 1 from by omega])), (show CandAt w _ a by assumption).below⟩

set_option maxRecDepth 100000 in
set_option maxHeartbeats 2000000 in
theorem candidate_no (h : Kd w B base p) (i : Nat) (a : Atm) (hi : p.atoms[i]? = some a) (ha : a.aro = false) :
    Calls Tryz.prog 32 #[.pointer (some ⟨B, 0, none⟩), .int .i64 i] w fun e w' => e = .returned (.bool false) ∧ Below w.heap.size w w' := by
  obtain ⟨g, cap, hA, hg⟩ := h.atI hi
  have hB := h.lt
  have hl : i < p.atoms.length := (List.getElem?_eq_some_iff.1 hi).1
  have hl' : (i : Int) < (p.atoms.length : Int) := by omega
  have q0 := hA.sl
  have q1 := hA.c0
  have q2 := hA.c1
  rw [ha] at q2
  have q3 := hA.c2
  have q4 := hA.c3
  have HB : Hid (∀ n, Below w.heap.size w ((w.alloc (.cells #[.string a.el, .bool false, .int .i64 a.ch, .int .i64 a.hy] 50)).drewN n)) := fun n => below_drewN ((Below.refl _ _).alloc (Nat.le_refl _) _) n
  clear hA ha
  go_enter Tryz.func32, Tryz.ntmps32
  go_wp2_with fail
  go_quiet (fail)
  go_wp2_with fail
  go_ret
  exact ⟨rfl, HB.out _⟩

end
end Go.Proofs.YtcabaecbmkgclaaGreatDoor.Kd
