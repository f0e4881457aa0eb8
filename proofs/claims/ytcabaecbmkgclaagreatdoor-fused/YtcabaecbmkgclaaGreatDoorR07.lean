/-
  What filled, candidate, finished and wrong do.
  What wrong and FirstWrong do.
  What SetHydrogens does.
  What ringsClosed does.
-/
import Derived.Test.YtcabaecbmkgclaaGreatDoorR06
import Derived.Deep.MidRow
namespace Go.Proofs.YtcabaecbmkgclaaGreatDoor
open Go.RowKit Bz
section
variable {w : World} {B : Nat} {s : ByteArray} {p : St}
/-- Atom i in the list: where its six cells lie. -/
structure AtI (w : World) (B g cap n i : Nat) (a : Atm) : Prop where
  sl : w.cell? ⟨B, 26, none⟩ = some (.slice (some ⟨g, 0, none⟩) n cap)
  c0 : w.cell? ⟨g, i * 6, none⟩ = some (.string a.el)
  c1 : w.cell? ⟨g, i * 6 + 1, none⟩ = some (.bool a.aro)
  c2 : w.cell? ⟨g, i * 6 + 2, none⟩ = some (.int .i64 a.ch)
  c3 : w.cell? ⟨g, i * 6 + 3, none⟩ = some (.int .i64 a.hy)
  c4 : w.cell? ⟨g, i * 6 + 4, none⟩ = some (.int .i64 a.pl)
  c5 : w.cell? ⟨g, i * 6 + 5, none⟩ = some (.bool a.br)

theorem Rd.atI (h : Rd w B s p) {i : Nat} {a : Atm} (hi : p.atoms[i]? = some a) : ∃ g cap, AtI w B g cap p.atoms.length i a ∧ g < w.heap.size := by
  have hl : i < p.atoms.length := (List.getElem?_eq_some_iff.1 hi).1
  obtain ⟨g, cap, hv, hc, _, _, hg⟩ := h.atomsAt (by omega)
  exact ⟨g, cap, ⟨hv, hc i a 0 _ hi rfl, hc i a 1 _ hi rfl, hc i a 2 _ hi rfl, hc i a 3 _ hi rfl, hc i a 4 _ hi rfl, hc i a 5 _ hi rfl⟩, hg⟩

theorem AtI.below {w' : World} {g cap n i : Nat} {a : Atm} (h : AtI w B g cap n i a) (hB : B < w.heap.size) (hg : g < w.heap.size) (hb : Below w.heap.size w w') : AtI w' B g cap n i a :=
  ⟨(hb.cell (p := ⟨B, 26, none⟩) hB).trans h.sl, (hb.cell (p := ⟨g, i * 6, none⟩) hg).trans h.c0, (hb.cell (p := ⟨g, i * 6 + 1, none⟩) hg).trans h.c1, (hb.cell (p := ⟨g, i * 6 + 2, none⟩) hg).trans h.c2,
    (hb.cell (p := ⟨g, i * 6 + 3, none⟩) hg).trans h.c3, (hb.cell (p := ⟨g, i * 6 + 4, none⟩) hg).trans h.c4, (hb.cell (p := ⟨g, i * 6 + 5, none⟩) hg).trans h.c5⟩

theorem sum_bound (o : Ok s p) (hs : s.size ≤ 160) (i : Nat) : 0 ≤ Bz.sum p.bonds i ∧ Bz.sum p.bonds i ≤ 1000 := by
  have h := sum_bd p.bonds i o.ords p.bonds.length (Nat.le_refl _)
  rw [List.take_length] at h
  have := o.bonds
  have := o.pos
  omega

def fill (p : St) (i : Nat) (a : Atm) : Int := Bz.sum p.bonds i + a.hy

set_option maxRecDepth 100000 in
set_option maxHeartbeats 2000000 in
theorem filled_any (h : Rd w B s p) (o : Ok s p) (hs : s.size ≤ 160) (i : Nat) (a : Atm) (hi : p.atoms[i]? = some a) :
    Calls Tryz.prog 60 #[.pointer (some ⟨B, 2, none⟩), .int .i64 i] w fun e w' => e = .returned (.int .i64 (fill p i a)) ∧ Below w.heap.size w w' := by
  obtain ⟨g, cap, hA, hg⟩ := h.atI hi
  have hB := h.lt
  have hl : i < p.atoms.length := (List.getElem?_eq_some_iff.1 hi).1
  have hl' : (i : Int) < (p.atoms.length : Int) := by omega
  have hn := o.atoms
  have hsb := sum_bound o hs i
  have hhy := o.hys a (List.mem_of_getElem? hi)
  have hS : Calls Tryz.prog 84 #[.pointer (some ⟨B, 2, none⟩), .int .i64 i] w.drew fun e w' => e = .returned (.int .i64 (Bz.sum p.bonds i)) ∧ Below w.heap.size w w' ∧ w'.cell? ⟨B, 26, none⟩ = some (.slice (some ⟨g, 0, none⟩) p.atoms.length cap) ∧ w'.cell? ⟨g, i * 6 + 3, none⟩ = some (.int .i64 a.hy) := by
    refine (sum_any h.drew i (by have := o.bonds; have := o.pos; omega) o.ords).mono ?_
    rintro e w' ⟨he, hb⟩
    have hb' : Below w.heap.size w w' := (Below.refl _ _).drew.trans hb
    have hA' := hA.below hB hg hb'
    exact ⟨he, hb', hA'.sl, hA'.c3⟩
  have HF : Hid (fill p i a = Bz.sum p.bonds i + a.hy) := rfl
  have q0 := hA.sl
  have q1 := hA.c3
  clear hA
  generalize Bz.sum p.bonds i = sm at *
  generalize a.hy = hy at *
  go_enter Tryz.func60, Tryz.ntmps60
  go_wp2_with fail
  go_region_held3 (fun w' => w'.cell? ⟨B, 26, none⟩ = some (.slice (some ⟨g, 0, none⟩) p.atoms.length cap) ∧ w'.cell? ⟨g, i * 6 + 3, none⟩ = some (.int .i64 hy)) (go_keep) (first | (go_at_call 84; refine hS.mono ?_; rintro e w' ⟨rfl, hb, i0, i1⟩))
  all_goals
    go_wp2_with fail
    go_ret
    exact ⟨ret_int (by first | exact HF.out.symm | (rw [HF.out, IntKind.wrap_i64]; omega)), hb⟩

/-- The atom in candidate's own box. -/
structure CandAt (w wx : World) (a : Atm) : Prop where
  c0 : wx.cell? ⟨w.heap.size, 0, none⟩ = some (.string a.el)
  c1 : wx.cell? ⟨w.heap.size, 1, none⟩ = some (.bool a.aro)
  c2 : wx.cell? ⟨w.heap.size, 2, none⟩ = some (.int .i64 a.ch)
  c3 : wx.cell? ⟨w.heap.size, 3, none⟩ = some (.int .i64 a.hy)
  below : Below w.heap.size w wx

theorem CandAt.step {wx w' : World} {a : Atm} (h : CandAt w wx a) (hb : Below wx.heap.size wx w') : CandAt w w' a := by
  have hl : w.heap.size < wx.heap.size := World.block_lt_of_cell? wx ⟨w.heap.size, 0, none⟩ h.c0
  exact ⟨(hb.cell (p := ⟨w.heap.size, 0, none⟩) hl).trans h.c0, (hb.cell (p := ⟨w.heap.size, 1, none⟩) hl).trans h.c1, (hb.cell (p := ⟨w.heap.size, 2, none⟩) hl).trans h.c2, (hb.cell (p := ⟨w.heap.size, 3, none⟩) hl).trans h.c3, h.below.trans (hb.mono h.below.size)⟩

set_option maxRecDepth 100000 in
set_option maxHeartbeats 2000000 in
theorem candidate_yes (h : Rd w B s p) (o : Ok s p) (hs : s.size ≤ 160) (i : Nat) (a : Atm) (hi : p.atoms[i]? = some a) (ha : a.aro = true) (x : Int) (r : List Int) (hx : valences a.el a.ch = x :: r) :
    Calls Tryz.prog 32 #[.pointer (some ⟨B, 2, none⟩), .int .i64 i] w fun e w' => e = .returned (.bool (fill p i a == x - 1)) ∧ Below w.heap.size w w' := by
  obtain ⟨g, cap, hA, hg⟩ := h.atI hi
  have hB := h.lt
  have hl : i < p.atoms.length := (List.getElem?_eq_some_iff.1 hi).1
  have hl' : (i : Int) < (p.atoms.length : Int) := by omega
  have hn := o.atoms
  have hx9 := (valences_len a.el a.ch).2 x (by rw [hx]; simp)
  have HW : Hid (∀ wx, CandAt w wx a → Calls Tryz.prog 60 #[.pointer (some ⟨B, 2, none⟩), .int .i64 i] wx fun e w' => e = .returned (.int .i64 (fill p i a)) ∧ CandAt w w' a ∧ w'.cell? ⟨w.heap.size, 0, none⟩ = some (.string a.el) ∧
      w'.cell? ⟨w.heap.size, 1, none⟩ = some (.bool true) ∧ w'.cell? ⟨w.heap.size, 2, none⟩ = some (.int .i64 a.ch) ∧ w'.cell? ⟨w.heap.size, 3, none⟩ = some (.int .i64 a.hy)) := by
    intro wx hwx
    refine (filled_any (h.below hwx.below) o hs i a hi).mono ?_
    rintro e w' ⟨he, hb⟩
    have hc := hwx.step hb
    exact ⟨he, hc, hc.c0, ha ▸ hc.c1, hc.c2, hc.c3⟩
  have HV : Hid (∀ wx, CandAt w wx a → Calls Tryz.prog 61 #[.agg #[.string a.el, .bool true, .int .i64 a.ch, .int .i64 a.hy]] wx fun e w' => e = .returned (.int .i64 x) ∧ CandAt w w' a ∧ w'.cell? ⟨w.heap.size, 0, none⟩ = some (.string a.el) ∧
      w'.cell? ⟨w.heap.size, 1, none⟩ = some (.bool true) ∧ w'.cell? ⟨w.heap.size, 2, none⟩ = some (.int .i64 a.ch) ∧ w'.cell? ⟨w.heap.size, 3, none⟩ = some (.int .i64 a.hy)) := by
    intro wx hwx
    have hfv := firstValence_any a x r hx wx
    unfold aV at hfv
    rw [ha] at hfv
    refine hfv.mono ?_
    rintro e w' ⟨he, hb⟩
    have hc := hwx.step hb
    exact ⟨he, hc, hc.c0, ha ▸ hc.c1, hc.c2, hc.c3⟩
  have q0 := hA.sl
  have q1 := hA.c0
  have q2 := hA.c1
  rw [ha] at q2
  have q3 := hA.c2
  have q4 := hA.c3
  have hb0 : CandAt w ((w.alloc (.cells #[.string a.el, .bool true, .int .i64 a.ch, .int .i64 a.hy] 50)).drew) a := ⟨by simp [go_sem], by rw [ha]; simp [go_sem], by simp [go_sem], by simp [go_sem], ((Below.refl _ _).alloc (Nat.le_refl _) _).drew⟩
  have HX : Hid (0 ≤ x ∧ x ≤ 9) := hx9
  clear hA hx hx9 ha
  generalize fill p i a = fl at *
  go_enter Tryz.func32, Tryz.ntmps32
  go_wp2_with fail
  go_region_held3 (fun w' => w'.cell? ⟨w.heap.size, 0, none⟩ = some (.string a.el) ∧ w'.cell? ⟨w.heap.size, 1, none⟩ = some (.bool true) ∧ w'.cell? ⟨w.heap.size, 2, none⟩ = some (.int .i64 a.ch) ∧ w'.cell? ⟨w.heap.size, 3, none⟩ = some (.int .i64 a.hy)) (go_keep) (first | (go_at_call 60; refine (HW.out _ (by assumption)).mono ?_; rintro e w' ⟨rfl, hb, i0, i1, i2, i3⟩) | (go_at_call 61; refine (HV.out _ (by assumption)).mono ?_; rintro e w' ⟨rfl, hb', j0, j1, j2, j3⟩))
  all_goals
    go_wp2_with fail
    go_ret
    exact ⟨ret_bool (by have := HX.out; first | rfl | (rw [IntKind.wrap_i64, show (x - 1 + 9223372036854775808) % 18446744073709551616 - 9223372036854775808 = x - 1 from by omega])), (show CandAt w _ a by assumption).below⟩

set_option maxRecDepth 100000 in
set_option maxHeartbeats 2000000 in
theorem candidate_no (h : Rd w B s p) (i : Nat) (a : Atm) (hi : p.atoms[i]? = some a) (ha : a.aro = false) :
    Calls Tryz.prog 32 #[.pointer (some ⟨B, 2, none⟩), .int .i64 i] w fun e w' => e = .returned (.bool false) ∧ Below w.heap.size w w' := by
  obtain ⟨g, cap, hA, hg⟩ := h.atI hi
  have hB := h.lt
  have hl : i < p.atoms.length := (List.getElem?_eq_some_iff.1 hi).1
  have hl' : (i : Int) < (p.atoms.length : Int) := by omega
  have q0 := hA.sl
  have q1 := hA.c0
  have q2 := hA.c1
  rw [ha] at q2
  have q3 := hA.c2
  have q4 := hA.c3
  have HB : Hid (∀ n, Below w.heap.size w ((w.alloc (.cells #[.string a.el, .bool false, .int .i64 a.ch, .int .i64 a.hy] 50)).drewN n)) := fun n => below_drewN ((Below.refl _ _).alloc (Nat.le_refl _) _) n
  clear hA ha
  go_enter Tryz.func32, Tryz.ntmps32
  go_wp2_with fail
  go_quiet (fail)
  go_wp2_with fail
  go_ret
  exact ⟨rfl, HB.out _⟩

set_option maxRecDepth 100000 in
set_option maxHeartbeats 2000000 in
theorem finished_any (h : Rd w B s p) (o : Ok s p) (hs : s.size ≤ 160) (i : Nat) (a : Atm) (hi : p.atoms[i]? = some a) (x : Int) (r : List Int) (hx : valences a.el a.ch = x :: r) :
    Calls Tryz.prog 138 #[.pointer (some ⟨B, 2, none⟩), .int .i64 i] w fun e w' => e = .returned (.bool (fill p i a == x)) ∧ Below w.heap.size w w' := by
  obtain ⟨g, cap, hA, hg⟩ := h.atI hi
  have hB := h.lt
  have hl : i < p.atoms.length := (List.getElem?_eq_some_iff.1 hi).1
  have hl' : (i : Int) < (p.atoms.length : Int) := by omega
  have hn := o.atoms
  have hx9 := (valences_len a.el a.ch).2 x (by rw [hx]; simp)
  have HW : Hid (∀ wx, Below w.heap.size w wx → Calls Tryz.prog 60 #[.pointer (some ⟨B, 2, none⟩), .int .i64 i] wx fun e w' => e = .returned (.int .i64 (fill p i a)) ∧ Below w.heap.size w w' ∧ w'.cell? ⟨B, 26, none⟩ = some (.slice (some ⟨g, 0, none⟩) p.atoms.length cap) ∧ w'.cell? ⟨g, i * 6, none⟩ = some (.string a.el) ∧
      w'.cell? ⟨g, i * 6 + 1, none⟩ = some (.bool a.aro) ∧ w'.cell? ⟨g, i * 6 + 2, none⟩ = some (.int .i64 a.ch) ∧ w'.cell? ⟨g, i * 6 + 3, none⟩ = some (.int .i64 a.hy)) := by
    intro wx hwx
    refine (filled_any (h.below hwx) o hs i a hi).mono ?_
    rintro e w' ⟨he, hb⟩
    have hb' : Below w.heap.size w w' := hwx.trans (hb.mono hwx.size)
    have hA' := hA.below hB hg hb'
    exact ⟨he, hb', hA'.sl, hA'.c0, hA'.c1, hA'.c2, hA'.c3⟩
  have HV : Hid (∀ wx, Below w.heap.size w wx → Calls Tryz.prog 61 #[.agg #[.string a.el, .bool a.aro, .int .i64 a.ch, .int .i64 a.hy]] wx fun e w' => e = .returned (.int .i64 x) ∧ Below w.heap.size w w' ∧ w'.cell? ⟨B, 26, none⟩ = some (.slice (some ⟨g, 0, none⟩) p.atoms.length cap) ∧ w'.cell? ⟨g, i * 6, none⟩ = some (.string a.el) ∧
      w'.cell? ⟨g, i * 6 + 1, none⟩ = some (.bool a.aro) ∧ w'.cell? ⟨g, i * 6 + 2, none⟩ = some (.int .i64 a.ch) ∧ w'.cell? ⟨g, i * 6 + 3, none⟩ = some (.int .i64 a.hy)) := by
    intro wx hwx
    refine (firstValence_any a x r hx wx).mono ?_
    rintro e w' ⟨he, hb⟩
    have hb' : Below w.heap.size w w' := hwx.trans (hb.mono hwx.size)
    have hA' := hA.below hB hg hb'
    exact ⟨he, hb', hA'.sl, hA'.c0, hA'.c1, hA'.c2, hA'.c3⟩
  have q0 := hA.sl
  have q1 := hA.c0
  have q2 := hA.c1
  have q3 := hA.c2
  have q4 := hA.c3
  have hb0 : Below w.heap.size w w.drew := (Below.refl _ _).drew
  clear hA hx
  generalize fill p i a = fl at *
  go_enter Tryz.func138, Tryz.ntmps138
  go_wp2_with fail
  go_region_held3 (fun w' => w'.cell? ⟨B, 26, none⟩ = some (.slice (some ⟨g, 0, none⟩) p.atoms.length cap) ∧ w'.cell? ⟨g, i * 6, none⟩ = some (.string a.el) ∧ w'.cell? ⟨g, i * 6 + 1, none⟩ = some (.bool a.aro) ∧ w'.cell? ⟨g, i * 6 + 2, none⟩ = some (.int .i64 a.ch) ∧ w'.cell? ⟨g, i * 6 + 3, none⟩ = some (.int .i64 a.hy)) (go_keep) (first | (go_at_call 60; refine (HW.out _ (by assumption)).mono ?_; rintro e w' ⟨rfl, hb, i0, i1, i2, i3, i4⟩) | (go_at_call 61; refine (HV.out _ (by assumption)).mono ?_; rintro e w' ⟨rfl, hb', j0, j1, j2, j3, j4⟩))
  all_goals
    go_wp2_with fail
    go_ret
    exact ⟨ret_bool (by first | rfl | rfl), by assumption⟩
end
section
variable {w : World} {B : Nat} {s : ByteArray} {p : St}
set_option maxRecDepth 100000 in
set_option maxHeartbeats 2000000 in
theorem wrong_any (h : Rd w B s p) (o : Ok s p) (hs : s.size ≤ 160) (i : Nat) (a : Atm) (hi : p.atoms[i]? = some a) :
    Calls Tryz.prog 109 #[.pointer (some ⟨B, 2, none⟩), .int .i64 i] w fun e w' => e = .returned (.bool (Bz.wrong p.bonds i a)) ∧ Below w.heap.size w w' := by
  obtain ⟨g, cap, hA, hg⟩ := h.atI hi
  have hB := h.lt
  have hl : i < p.atoms.length := (List.getElem?_eq_some_iff.1 hi).1
  have hl' : (i : Int) < (p.atoms.length : Int) := by omega
  have hn := o.atoms
  have q0 := hA.sl
  have q1 := hA.c0
  have q2 := hA.c1
  have q3 := hA.c2
  have q4 := hA.c3
  have q5 := hA.c4
  have q6 := hA.c5
  clear hA
  have hbA : Below w.heap.size w (w.alloc (.cells #[.string a.el, .bool a.aro, .int .i64 a.ch, .int .i64 a.hy, .int .i64 a.pl, .bool a.br] 124)) := (Below.refl _ _).alloc (Nat.le_refl _) _
  cases har : a.aro
  · have HW : Hid (Bz.wrong p.bonds i a = !((valences a.el a.ch).contains (fill p i a))) := by unfold Hid Bz.wrong fill; rw [har]; rfl
    rw [har] at q2 hbA
    clear har
    go_enter Tryz.func109, Tryz.ntmps109
    go_wp2_with fail
    refine (valencesOf_any _ _ _).mono ?_
    rintro e w1 ⟨v, rfl, hv, hb⟩
    have hb1 : Below w.heap.size w w1 := hbA.trans (hb.mono hbA.size)
    have hF := filled_any (h.below hb1) o hs i a hi
    go_wp2_with fail
    refine hF.mono ?_
    rintro e w2 ⟨rfl, hb2⟩
    have hb3 : Below w.heap.size w w2 := hb1.trans (hb2.mono hb1.size)
    have hCo := contains_any w2 v _ (fill p i a) (intsAt_below hv hb2) (by have := (valences_len a.el a.ch).1; omega)
    clear hF hv hb hb2
    go_wp2_with fail
    refine hCo.mono ?_
    rintro e w3 ⟨rfl, rfl⟩
    go_wp2_with fail
    go_ret
    exact ⟨ret_bool (by rw [HW.out]; simp), hb3⟩
  · obtain ⟨x, r, hx⟩ : ∃ x r, valences a.el a.ch = x :: r := by
      cases hv : valences a.el a.ch with
      | nil => exact absurd hv (o.aros a (List.mem_of_getElem? hi) har)
      | cons x r => exact ⟨x, r, rfl⟩
    have HW : Hid (Bz.wrong p.bonds i a = (!(fill p i a == x - 1) && !(fill p i a == x))) := by unfold Hid Bz.wrong fill; rw [har, hx]; rfl
    rw [har] at q2 hbA
    have hCa := candidate_yes (h.below hbA) o hs i a hi har x r hx
    have HFi : Hid (∀ wx, Below w.heap.size w wx → Calls Tryz.prog 138 #[.pointer (some ⟨B, 2, none⟩), .int .i64 i] wx fun e w' => e = .returned (.bool (fill p i a == x)) ∧ Below wx.heap.size wx w') := fun wx hwx => finished_any (h.below hwx) o hs i a hi x r hx
    clear har hx
    cases hc : (fill p i a == x - 1)
    · rw [hc] at hCa HW
      clear hc
      go_enter Tryz.func109, Tryz.ntmps109
      go_wp2_with fail
      refine hCa.mono ?_
      rintro e w1 ⟨rfl, hb⟩
      have hb1 : Below w.heap.size w w1 := hbA.trans (hb.mono hbA.size)
      go_wp2_with fail
      refine (HFi.out _ hb1).mono ?_
      rintro e w2 ⟨rfl, hb2⟩
      have hb3 : Below w.heap.size w w2 := hb1.trans (hb2.mono hb1.size)
      clear hCa hb hb2
      go_wp2_with fail
      go_ret
      exact ⟨ret_bool (by rw [HW.out]; simp), hb3⟩
    · rw [hc] at hCa HW
      clear hc
      go_enter Tryz.func109, Tryz.ntmps109
      go_wp2_with fail
      refine hCa.mono ?_
      rintro e w1 ⟨rfl, hb⟩
      have hb1 : Below w.heap.size w w1 := hbA.trans (hb.mono hbA.size)
      clear hCa hb
      go_wp2_with fail
      go_ret
      exact ⟨ret_bool (by rw [HW.out]; simp), hb1⟩

/-- The number of the first atom from i on whose valence is wrong. -/
def wrongAt (l : List Bnd) : Nat → List Atm → Option Nat
  | _, [] => none
  | i, a :: r => if Bz.wrong l i a then some i else wrongAt l (i + 1) r

def FwPost (w : World) (r : Option Nat) (e : Ending) (w' : World) : Prop :=
  (match r with
  | some k => e = .returned (.tuple #[.int .i64 k, .bool true])
  | none => e = .returned (.tuple #[.int .i64 0, .bool false])) ∧ Below w.heap.size w w'

theorem FwPost.some {w w' : World} {r : Option Nat} {e : Ending} {k : Nat} (hr : r = .some k) (he : e = .returned (.tuple #[.int .i64 k, .bool true])) (hb : Below w.heap.size w w') : FwPost w r e w' := by subst hr; exact ⟨he, hb⟩
theorem FwPost.none {w w' : World} {r : Option Nat} {e : Ending} (hr : r = .none) (he : e = .returned (.tuple #[.int .i64 0, .bool false])) (hb : Below w.heap.size w w') : FwPost w r e w' := by subst hr; exact ⟨he, hb⟩

theorem drop_consA {l : List Atm} {i : Nat} {x : Atm} (h : l[i]? = some x) : l.drop i = x :: l.drop (i + 1) := by
  obtain ⟨h1, h2⟩ := List.getElem?_eq_some_iff.1 h
  rw [List.drop_eq_getElem_cons h1, h2]

set_option maxRecDepth 100000 in
set_option maxHeartbeats 2000000 in
theorem firstWrong_any (h : Rd w B s p) (o : Ok s p) (hs : s.size ≤ 160) :
    Calls Tryz.prog 83 #[.pointer (some ⟨B, 2, none⟩)] w (FwPost w (wrongAt p.bonds 0 p.atoms)) := by
  obtain ⟨ao, cap, hc⟩ := h.atomsLen
  have hn := o.atoms
  go_enter Tryz.func83, Tryz.ntmps83
  go_wp2_with fail
  go_loopg [10] (p.atoms.length + 1) (fun k vi wr => ∃ i : Nat, i ≤ p.atoms.length ∧ p.atoms.length - i ≤ k ∧ vi = .int .i64 i ∧ wrongAt p.bonds 0 p.atoms = wrongAt p.bonds i (p.atoms.drop i) ∧ Below w.heap.size w wr)
  case atStart => exact ⟨0, by omega, by omega, rfl, by simp, Below.refl _ _⟩
  case round =>
    obtain ⟨i, hi, hk, rfl, hm, hb⟩ := hrel
    have HM : Hid _ := hm
    clear hm
    by_cases hlt : i < p.atoms.length
    · have gi := List.getElem?_eq_getElem hlt
      have hd := drop_consA gi
      have hW := wrong_any (h.below hb) o hs i _ gi
      have hlt' : (i : Int) < (p.atoms.length : Int) := by omega
      generalize p.atoms[i] = a at *
      cases hw : Bz.wrong p.bonds i a
      · rw [hw] at hW
        have HE : Hid _ := HM.out.trans (show wrongAt p.bonds i (p.atoms.drop i) = wrongAt p.bonds (i + 1) (p.atoms.drop (i + 1)) by rw [hd, wrongAt, hw]; rfl)
        clear hw hd gi
        go_wp2_with fail
        refine hW.mono ?_
        rintro e w1 ⟨rfl, hb1⟩
        have hb2 : Below w.heap.size w w1 := hb.trans (hb1.mono hb.size)
        clear hW hb1
        go_wp2_with fail
        go_roundg (p.atoms.length - (i + 1))
        case measure => omega
        case rel => exact ⟨i + 1, by omega, Nat.le_refl _, by go_num, HE.out, hb2⟩
      · rw [hw] at hW
        have HE : Hid _ := HM.out.trans (show wrongAt p.bonds i (p.atoms.drop i) = some i by rw [hd, wrongAt, hw]; rfl)
        clear hw hd gi
        go_wp2_with fail
        refine hW.mono ?_
        rintro e w1 ⟨rfl, hb1⟩
        have hb2 : Below w.heap.size w w1 := hb.trans (hb1.mono hb.size)
        clear hW hb1
        go_wp2_with fail
        go_ret2
        exact FwPost.some HE.out rfl hb2
    · have hlt' : ¬ (i : Int) < (p.atoms.length : Int) := by omega
      have HE : Hid _ := HM.out.trans (show wrongAt p.bonds i (p.atoms.drop i) = none by rw [List.drop_eq_nil_of_le (by omega)]; rfl)
      go_wp2_with fail
      go_ret2
      exact FwPost.none HE.out rfl hb
end
theorem flatMap_set (l : List Atm) : ∀ (i : Nat) (a : Atm) (x : Int), l[i]? = some a → (l.flatMap atmCells).set (i * 6 + 3) (.int .i64 x) = (l.set i { a with hy := x }).flatMap atmCells := by
  induction l with
  | nil => intro i a x h; simp at h
  | cons b r ih =>
    intro i a x h
    match i, h with
    | 0, h => simp at h; subst h; rfl
    | i + 1, h =>
      simp at h
      rw [List.flatMap_cons, List.set_cons_succ, List.flatMap_cons, ← ih i a x h]
      have : (i + 1) * 6 + 3 = (i * 6 + 3) + (atmCells b).length := by rw [atmCells_len]; omega
      rw [this, List.set_append_right _ _ (by omega), Nat.add_sub_cancel]

section
variable {w : World} {B : Nat} {s : ByteArray} {p : St}
theorem Rd.setHy (h : Rd w B s p) {g cap i : Nat} {a : Atm} (hi : p.atoms[i]? = some a) (hsl : w.cell? ⟨B, 26, none⟩ = some (.slice (some ⟨g, 0, none⟩) p.atoms.length cap)) (x : Int) :
    Rd (w.setCell ⟨g, i * 6 + 3, none⟩ (.int .i64 x)) B s { p with atoms := p.atoms.set i { a with hy := x } } := by
  obtain ⟨va, ha, oa⟩ := h.atoms
  obtain ⟨vb, hb, ob⟩ := h.bonds
  rw [hsl] at ha
  cases ha
  have hgB := (oa.lt g rfl).1
  have hB : (w.setCell ⟨g, i * 6 + 3, none⟩ (.int .i64 x)).heap[B]? = w.heap[B]? := Below.heap_setCell w _ _ B (by simp; omega)
  have hc : ∀ k, (w.setCell ⟨g, i * 6 + 3, none⟩ (.int .i64 x)).cell? ⟨B, k, none⟩ = w.cell? ⟨B, k, none⟩ := fun k => World.cell?_of_block (w := w) hB
  have hf : ∀ k, (w.setCell ⟨g, i * 6 + 3, none⟩ (.int .i64 x)).frozen? ⟨B, k, none⟩ = w.frozen? ⟨B, k, none⟩ := fun k => World.frozen?_of_block (w := w) hB
  have hst := (oa.stored (i * 6 + 3) (.int .i64 x)).1
  rw [flatMap_set _ _ _ _ hi] at hst
  refine ⟨by rw [hc]; exact h.text, by rw [hc]; exact h.pos, fun k hk => by rw [hc]; exact h.near k hk,
    ⟨_, by rw [hc]; exact hsl, by simpa using hst⟩, ⟨vb, by rw [hc]; exact hb, ?_⟩, by rw [hc]; exact h.err, by rw [hc]; exact h.plc, fun n j v hn hv => by rw [hc]; exact h.rings n j v hn hv, fun k => by rw [hf]; exact h.free k⟩
  exact ownsRow_setCell_other ob (fun e => ownBlock_ne oa ob (by decide) g rfl e) _

theorem Fr.setRow {B g i : Nat} {a w : World} (h : Fr B a w) (hm : Mine w B g) (hg : g ≠ B) (u : Value) : Fr B a (w.setCell ⟨g, i, none⟩ u) := by
  have hB : (w.setCell ⟨g, i, none⟩ u).heap[B]? = w.heap[B]? := Below.heap_setCell w _ u B (by simpa using fun e => hg e.symm)
  refine ⟨h.os, h.tape, h.output, by simpa using h.size, fun k hk hn => ?_, fun k hk hk' => h.mine k hk ((Mine.same hB).1 hk')⟩
  rw [Below.heap_setCell w _ u k (by rintro rfl; exact hn (h.mine _ hk hm))]
  exact h.block k hk hn

theorem Rd.belowAt {w' : World} (h : Rd w B s p) (hb : Below w.heap.size w w') : Rd w' B s p := h.same fun k hk => hb.block k (h.mine hk).2

/-- The first k atoms have their hydrogens. -/
def hyTo (l : List Bnd) (at_ : List Atm) (k : Nat) : List Atm := at_.mapIdx fun i a => if i < k then withHydrogens l i a else a

theorem hyTo_get (l : List Bnd) (at_ : List Atm) (k i : Nat) : (hyTo l at_ k)[i]? = (at_[i]?).map fun a => if i < k then withHydrogens l i a else a := by
  unfold hyTo; rw [List.getElem?_mapIdx]

theorem hyTo_len (l : List Bnd) (at_ : List Atm) (k : Nat) : (hyTo l at_ k).length = at_.length := by unfold hyTo; simp

theorem hyTo_br (l : List Bnd) (at_ : List Atm) (k : Nat) (a : Atm) (ha : at_[k]? = some a) (hb : a.br = true) : hyTo l at_ (k + 1) = hyTo l at_ k := by
  apply List.ext_getElem?
  intro i
  rw [hyTo_get, hyTo_get]
  cases hi : at_[i]? with
  | none => rfl
  | some b =>
    simp only [Option.map_some, Option.some.injEq]
    by_cases e : i = k
    · subst e
      rw [ha] at hi
      cases hi
      rw [if_pos (by omega), if_neg (by omega)]
      unfold withHydrogens
      rw [hb]; rfl
    · by_cases e2 : i < k
      · rw [if_pos (by omega), if_pos e2]
      · rw [if_neg (by omega), if_neg e2]

theorem hyTo_set (l : List Bnd) (at_ : List Atm) (k : Nat) (a : Atm) (ha : at_[k]? = some a) (hb : a.br = false) : hyTo l at_ (k + 1) = (hyTo l at_ k).set k { a with hy := implied a (Bz.sum l k) } := by
  apply List.ext_getElem?
  intro i
  rw [List.getElem?_set, hyTo_get, hyTo_get]
  have hk : k < (hyTo l at_ k).length := by rw [hyTo_len]; exact (List.getElem?_eq_some_iff.1 ha).1
  by_cases e : k = i
  · subst e
    rw [if_pos rfl, if_pos hk, ha]
    simp only [Option.map_some, Option.some.injEq]
    rw [if_pos (by omega)]
    unfold withHydrogens
    rw [hb]; rfl
  · rw [if_neg e]
    cases hi : at_[i]? with
    | none => rfl
    | some b =>
      simp only [Option.map_some, Option.some.injEq]
      by_cases e2 : i < k
      · rw [if_pos (by omega), if_pos e2]
      · rw [if_neg (by omega), if_neg e2]

theorem hyTo_at (l : List Bnd) (at_ : List Atm) (k : Nat) : (hyTo l at_ k)[k]? = at_[k]? := by
  rw [hyTo_get]
  cases at_[k]? with
  | none => rfl
  | some a => simp

theorem hyTo_all (l : List Bnd) (at_ : List Atm) : hyTo l at_ at_.length = at_.mapIdx (withHydrogens l) := by
  apply List.ext_getElem?
  intro i
  rw [hyTo_get, List.getElem?_mapIdx]
  cases hi : at_[i]? with
  | none => rfl
  | some a => simp only [Option.map_some]; rw [if_pos (List.getElem?_eq_some_iff.1 hi).1]

theorem hyTo_zero (l : List Bnd) (at_ : List Atm) : hyTo l at_ 0 = at_ := by
  apply List.ext_getElem?
  intro i
  rw [hyTo_get]
  cases at_[i]? <;> simp

theorem other_block {w : World} {g L i j : Nat} (h : L ≠ g) (u : Value) : (w.setCell ⟨g, i, none⟩ u).cell? ⟨L, j, none⟩ = w.cell? ⟨L, j, none⟩ :=
  World.cell?_setCell_other w _ _ u (fun e => h (by simpa using (congrArg Addr.block e).symm))

set_option maxRecDepth 100000 in
set_option maxHeartbeats 2000000 in
theorem setHydrogens_any (h : Rd w B s p) (o : Ok s p) (hs : s.size ≤ 160) (hne : 0 < p.atoms.length) :
    Calls Tryz.prog 82 #[.pointer (some ⟨B, 2, none⟩)] w fun e w' => e = .returned (.tuple #[]) ∧ Rd w' B s { p with atoms := p.atoms.mapIdx (withHydrogens p.bonds) } ∧ Fr B w w' := by
  obtain ⟨g, cap, hsl, _, _, hBg, hgl⟩ := h.atomsAt hne
  have hn := o.atoms
  have HALL : Hid _ := hyTo_all p.bonds p.atoms
  go_enter Tryz.func82, Tryz.ntmps82
  go_wp2_with fail
  go_loopg [9] (p.atoms.length + 1) (fun k vi wr => ∃ i : Nat, i ≤ p.atoms.length ∧ p.atoms.length - i ≤ k ∧ vi = .int .i64 i ∧ Rd wr B s { p with atoms := hyTo p.bonds p.atoms i } ∧ wr.cell? ⟨B, 26, none⟩ = some (.slice (some ⟨g, 0, none⟩) p.atoms.length cap) ∧ Fr B w wr)
  case atStart => exact ⟨0, by omega, by omega, rfl, by rw [hyTo_zero]; exact h, hsl, Fr.refl _ _⟩
  case round =>
    obtain ⟨i, hi, hk, rfl, hr, hs26, hf⟩ := hrel
    by_cases hlt : i < p.atoms.length
    · have gi := List.getElem?_eq_getElem hlt
      have gi2 : (hyTo p.bonds p.atoms i)[i]? = some p.atoms[i] := (hyTo_at _ _ _).trans gi
      have hlt' : (i : Int) < (p.atoms.length : Int) := by omega
      obtain ⟨g', cap', hA, hg'⟩ := hr.atI (i := i) gi2
      have e1 := hA.sl
      rw [hs26] at e1
      simp only [Option.some.injEq, Value.slice.injEq, Addr.mk.injEq, and_true] at e1
      obtain ⟨rfl, e2, rfl⟩ := e1
      clear e2
      generalize p.atoms[i] = a at *
      have q1 := hA.c0
      have q2 := hA.c1
      have q3 := hA.c2
      have q4 := hA.c3
      have q5 := hA.c4
      have q6 := hA.c5
      clear hA
      cases hbr : a.br
      · rw [hbr] at q6
        have HE : Hid _ := hyTo_set p.bonds p.atoms i a gi hbr
        clear hbr
        have hB2 := hr.lt
        have hsb := sum_bound o hs i
        have W0 : Below wr.heap.size wr (wr.alloc (.cells #[.string a.el, .bool a.aro, .int .i64 a.ch, .int .i64 a.hy, .int .i64 a.pl, .bool false] 124)).drew := ((Below.refl _ _).alloc (Nat.le_refl _) _).drew
        have hrs : ∀ j, wr.frozen? ⟨g, j, none⟩ = false := by
          obtain ⟨g2, cap2, hv2, _, hfz, _, _⟩ := hr.atomsAt (by show 0 < (hyTo p.bonds p.atoms i).length; rw [hyTo_len]; omega)
          rw [hs26] at hv2
          simp only [Option.some.injEq, Value.slice.injEq, Addr.mk.injEq, and_true] at hv2
          rw [hv2.1]
          exact hfz
        have hfr3 := hrs (i * 6 + 3)
        have cells : ∀ wx, Below (wr.heap.size + 1) (wr.alloc (.cells #[.string a.el, .bool a.aro, .int .i64 a.ch, .int .i64 a.hy, .int .i64 a.pl, .bool false] 124)) wx →
            wx.cell? ⟨B, 26, none⟩ = some (.slice (some ⟨g, 0, none⟩) p.atoms.length cap) ∧ wx.cell? ⟨wr.heap.size, 0, none⟩ = some (.string a.el) ∧ wx.cell? ⟨wr.heap.size, 1, none⟩ = some (.bool a.aro) ∧ wx.cell? ⟨wr.heap.size, 2, none⟩ = some (.int .i64 a.ch) ∧ wx.cell? ⟨wr.heap.size, 3, none⟩ = some (.int .i64 a.hy) ∧
            wx.cell? ⟨g, i * 6 + 3, none⟩ = some (.int .i64 a.hy) ∧ wx.frozen? ⟨g, i * 6 + 3, none⟩ = false := by
          intro wx hb
          refine ⟨?_, ?_, ?_, ?_, ?_, ?_, ?_⟩
          · rw [hb.cell (p := ⟨B, 26, none⟩) (by simp; omega), World.cell?_alloc_lt _ _ _ hB2]; exact hs26
          · rw [hb.cell (p := ⟨wr.heap.size, 0, none⟩) (by simp)]; simp
          · rw [hb.cell (p := ⟨wr.heap.size, 1, none⟩) (by simp)]; simp
          · rw [hb.cell (p := ⟨wr.heap.size, 2, none⟩) (by simp)]; simp
          · rw [hb.cell (p := ⟨wr.heap.size, 3, none⟩) (by simp)]; simp
          · rw [hb.cell (p := ⟨g, i * 6 + 3, none⟩) (by simp; omega), World.cell?_alloc_lt _ _ _ hg']; exact q4
          · rw [hb.frozen (p := ⟨g, i * 6 + 3, none⟩) (by simp; omega), World.frozen?_alloc_past _ _ _ hg']; exact hfr3
        have HSu : Hid (∀ wx, Below (wr.heap.size + 1) (wr.alloc (.cells #[.string a.el, .bool a.aro, .int .i64 a.ch, .int .i64 a.hy, .int .i64 a.pl, .bool false] 124)) wx → Calls Tryz.prog 84 #[.pointer (some ⟨B, 2, none⟩), .int .i64 i] wx fun e w' => e = .returned (.int .i64 (Bz.sum p.bonds i)) ∧
            Below (wr.heap.size + 1) (wr.alloc (.cells #[.string a.el, .bool a.aro, .int .i64 a.ch, .int .i64 a.hy, .int .i64 a.pl, .bool false] 124)) w' ∧
            w'.cell? ⟨B, 26, none⟩ = some (.slice (some ⟨g, 0, none⟩) p.atoms.length cap) ∧ w'.cell? ⟨wr.heap.size, 0, none⟩ = some (.string a.el) ∧ w'.cell? ⟨wr.heap.size, 1, none⟩ = some (.bool a.aro) ∧ w'.cell? ⟨wr.heap.size, 2, none⟩ = some (.int .i64 a.ch) ∧ w'.cell? ⟨wr.heap.size, 3, none⟩ = some (.int .i64 a.hy) ∧
            w'.cell? ⟨g, i * 6 + 3, none⟩ = some (.int .i64 a.hy) ∧ w'.frozen? ⟨g, i * 6 + 3, none⟩ = false) := by
          intro wx hb
          have hrx := (hr.alloc (.cells #[.string a.el, .bool a.aro, .int .i64 a.ch, .int .i64 a.hy, .int .i64 a.pl, .bool false] 124)).belowAt (by simpa using hb)
          refine (sum_any hrx i (by have := o.bonds; have := o.pos; show p.bonds.length ≤ 1000; omega) o.ords).mono ?_
          rintro e w' ⟨he, hb'⟩
          have hb2 := hb.trans (hb'.mono (by have := hb.size; simpa using this))
          exact ⟨he, hb2, cells w' hb2⟩
        have HIm : Hid (∀ wx, Below (wr.heap.size + 1) (wr.alloc (.cells #[.string a.el, .bool a.aro, .int .i64 a.ch, .int .i64 a.hy, .int .i64 a.pl, .bool false] 124)) wx → Calls Tryz.prog 108 #[.agg #[.string a.el, .bool a.aro, .int .i64 a.ch, .int .i64 a.hy], .int .i64 (Bz.sum p.bonds i)] wx fun e w' => e = .returned (.int .i64 (implied a (Bz.sum p.bonds i))) ∧
            Below (wr.heap.size + 1) (wr.alloc (.cells #[.string a.el, .bool a.aro, .int .i64 a.ch, .int .i64 a.hy, .int .i64 a.pl, .bool false] 124)) w' ∧
            w'.cell? ⟨B, 26, none⟩ = some (.slice (some ⟨g, 0, none⟩) p.atoms.length cap) ∧ w'.cell? ⟨wr.heap.size, 0, none⟩ = some (.string a.el) ∧ w'.cell? ⟨wr.heap.size, 1, none⟩ = some (.bool a.aro) ∧ w'.cell? ⟨wr.heap.size, 2, none⟩ = some (.int .i64 a.ch) ∧ w'.cell? ⟨wr.heap.size, 3, none⟩ = some (.int .i64 a.hy) ∧
            w'.cell? ⟨g, i * 6 + 3, none⟩ = some (.int .i64 a.hy) ∧ w'.frozen? ⟨g, i * 6 + 3, none⟩ = false) := by
          intro wx hb
          refine (implied_any a (Bz.sum p.bonds i) ⟨hsb.1, by omega⟩ wx).mono ?_
          rintro e w' ⟨he, hb'⟩
          have hb2 := hb.trans (hb'.mono (by have := hb.size; simpa using this))
          exact ⟨he, hb2, cells w' hb2⟩
        have hbA : Below (wr.heap.size + 1) (wr.alloc (.cells #[.string a.el, .bool a.aro, .int .i64 a.ch, .int .i64 a.hy, .int .i64 a.pl, .bool false] 124)) (wr.alloc (.cells #[.string a.el, .bool a.aro, .int .i64 a.ch, .int .i64 a.hy, .int .i64 a.pl, .bool false] 124)).drew := (Below.refl _ _).drew
        have HFIN : Hid (∀ wx, Below (wr.heap.size + 1) (wr.alloc (.cells #[.string a.el, .bool a.aro, .int .i64 a.ch, .int .i64 a.hy, .int .i64 a.pl, .bool false] 124)) wx →
            Rd (wx.setCell ⟨g, i * 6 + 3, none⟩ (.int .i64 (implied a (Bz.sum p.bonds i)))) B s { p with atoms := hyTo p.bonds p.atoms (i + 1) } ∧ (wx.setCell ⟨g, i * 6 + 3, none⟩ (.int .i64 (implied a (Bz.sum p.bonds i)))).cell? ⟨B, 26, none⟩ = some (.slice (some ⟨g, 0, none⟩) p.atoms.length cap) ∧
            Fr B w (wx.setCell ⟨g, i * 6 + 3, none⟩ (.int .i64 (implied a (Bz.sum p.bonds i))))) := by
          intro wx hb
          have hrx := (hr.alloc (.cells #[.string a.el, .bool a.aro, .int .i64 a.ch, .int .i64 a.hy, .int .i64 a.pl, .bool false] 124)).belowAt (by simpa using hb)
          have c26 := (cells wx hb).1
          have hfx : Fr B w wx := (hf.alloc hB2 _).trans (Fr.below (by simp; omega) (by simpa using hb))
          have hset := hrx.setHy (i := i) (cap := cap) gi2 (by simp only [hyTo_len]; exact c26) (implied a (Bz.sum p.bonds i))
          rw [HE.out]
          refine ⟨hset, ?_, hfx.setRow (.inr (.inl ⟨_, c26, rfl⟩)) (show g ≠ B by omega) _⟩
          rw [other_block (by omega)]
          exact c26
        have hgB1 : B ≠ g := by omega
        have hgL : wr.heap.size ≠ g := by omega
        clear cells HE gi gi2 hrs
        generalize implied a (Bz.sum p.bonds i) = im at *
        generalize Bz.sum p.bonds i = sm at *
        go_wp2_with fail
        go_region_held3 (fun w' => w'.cell? ⟨B, 26, none⟩ = some (.slice (some ⟨g, 0, none⟩) p.atoms.length cap) ∧ w'.cell? ⟨wr.heap.size, 0, none⟩ = some (.string a.el) ∧ w'.cell? ⟨wr.heap.size, 1, none⟩ = some (.bool a.aro) ∧ w'.cell? ⟨wr.heap.size, 2, none⟩ = some (.int .i64 a.ch) ∧ w'.cell? ⟨wr.heap.size, 3, none⟩ = some (.int .i64 a.hy)) (first | with_reducible exact ⟨(other_block hgB1 _).trans j0, (other_block hgL _).trans j1, (other_block hgL _).trans j2, (other_block hgL _).trans j3, (other_block hgL _).trans j4⟩ | go_keep) (first | (go_at_call 84; refine (HSu.out _ (by assumption)).mono ?_; rintro e w' ⟨rfl, hb, i0, i1, i2, i3, i4, i5, i6⟩) | (go_at_call 108; refine (HIm.out _ (by assumption)).mono ?_; rintro e w' ⟨rfl, hb', j0, j1, j2, j3, j4, j5, j6⟩))
        all_goals
          go_wp2_with fail
          go_roundg (p.atoms.length - (i + 1))
          case measure => omega
          case rel =>
            have X := HFIN.out _ hb'
            exact ⟨i + 1, by omega, Nat.le_refl _, by go_num, X.1, X.2.1, X.2.2⟩
      · rw [hbr] at q6
        have HE : Hid _ := hyTo_br p.bonds p.atoms i a gi hbr
        have hB2 := hr.lt
        clear hbr gi gi2
        go_wp2_with fail
        go_roundg (p.atoms.length - (i + 1))
        case measure => omega
        case rel => exact ⟨i + 1, by omega, Nat.le_refl _, by go_num, by rw [HE.out]; exact hr.alloc _, by rw [World.cell?_alloc_lt _ _ _ hB2]; exact hs26, hf.alloc hB2 _⟩
    · have hlt' : ¬ (i : Int) < (p.atoms.length : Int) := by omega
      have hi' : i = p.atoms.length := by omega
      rw [hi', HALL.out] at hr
      clear hi'
      go_wp2_with fail
      go_end0
      exact ⟨rfl, hr, hf⟩
end
section
variable {w : World} {B : Nat} {s : ByteArray} {p : St}
def ringList (f : Nat → Option Opn) : Nat → List Value
  | 0 => []
  | n + 1 => ringList f n ++ opnCells (f n)

theorem ringList_len (f : Nat → Option Opn) : ∀ n, (ringList f n).length = n * 5
  | 0 => rfl
  | n + 1 => by rw [ringList, List.length_append, ringList_len f n, opnCells_length]; omega

theorem ringList_get (f : Nat → Option Opn) : ∀ (n m j : Nat), m < n → j < 5 → (ringList f n)[m * 5 + j]? = (opnCells (f m))[j]?
  | 0, _, _, h, _ => absurd h (Nat.not_lt_zero _)
  | n + 1, m, j, h, hj => by
    rw [ringList]
    by_cases e : m = n
    · subst e
      rw [List.getElem?_append_right (by rw [ringList_len]; omega), ringList_len]
      congr 1
      omega
    · rw [List.getElem?_append_left (by rw [ringList_len]; omega)]
      exact ringList_get f n m j (by omega) hj

theorem Rd.ringRange (h : Rd w B s p) : w.rangeAt B 30 (ringList p.rings 100) := by
  intro j v hj
  have hl : j < 500 := by
    have := (List.getElem?_eq_some_iff.1 hj).1
    rwa [ringList_len] at this
  have hd : j = (j / 5) * 5 + j % 5 := by omega
  rw [hd, ringList_get p.rings 100 (j / 5) (j % 5) (by omega) (by omega)] at hj
  have := h.rings (j / 5) (j % 5) v (by omega) hj
  rw [hd, ← Nat.add_assoc]
  exact this

theorem Tryz.sizeOpen : (Tryz.prog.info? 94).map (·.size) = some 5 := by kernel_rfl
theorem Tryz.sizeRings : (Tryz.prog.info? 95).map (·.size) = some 500 := by kernel_rfl

theorem ring_extract (f : Nat → Option Opn) (i : Nat) (hi : i < 100) : (ringList f 100).toArray.extract (i * 5) (i * 5 + 5) = (opnCells (f i)).toArray := by
  apply Array.toList_inj.1
  rw [Array.toList_extract]
  apply List.ext_getElem?
  intro k
  simp only [List.extract_eq_take_drop, List.getElem?_take, List.getElem?_drop]
  by_cases hk : k < 5
  · rw [if_pos (by omega), ringList_get f 100 i k hi hk]
  · rw [if_neg (by omega)]
    symm
    rw [List.getElem?_eq_none]
    rw [opnCells_length]
    omega

theorem index_ring (f : Nat → Option Opn) (i : Nat) (hi : i < 100) (w : World) :
    (Instr.index 95 (.agg (ringList f 100).toArray) (.int .i64 i)).run Tryz.prog w = .ok (.agg (opnCells (f i)).toArray) w := by
  have hs := Tryz.sizeOpen
  cases hq : Tryz.prog.info? 94 with
  | none => rw [hq] at hs; cases hs
  | some q =>
    rw [hq] at hs
    simp only [Option.map_some, Option.some.injEq] at hs
    rw [← ring_extract f i hi]
    have h1 : (0 : Int) ≤ (i : Int) ∧ (i : Int) < 100 := by omega
    have hp : (Go.part 94 (ringList f 100).toArray (i * 5)).run Tryz.prog w = .ok (.agg ((ringList f 100).toArray.extract (i * 5) (i * 5 + 5))) w := by
      simp [Go.part, isAgg, run_underlying Tryz.underlying94, sizeOf, typeInfo, hq, hs]
    simp [Instr.index, asIntOf, run_underlying Tryz.underlying95, sizeOf, typeInfo, hq, hs, h1, hp]
    intro hge
    omega

def RcPost (w : World) (B : Nat) (s : ByteArray) (p : St) (e : Ending) (w' : World) : Prop :=
  if leftmost p.rings s.size 100 < s.size then e = .returned (.bool false) ∧ Wrong w' B (4, (leftmost p.rings s.size 100 : Nat)) ∧ Fr B w w'
  else e = .returned (.bool true) ∧ Rd w' B s p ∧ Fr B w w'

set_option maxRecDepth 100000 in
set_option maxHeartbeats 2000000 in
theorem ringsClosed_any (h : Rd w B s p) (_hs : s.size ≤ 160) :
    Calls Tryz.prog 58 #[.pointer (some ⟨B, 0, none⟩)] w (RcPost w B s p) := by
  have hB := h.lt
  have ht := h.text
  have HIX : Hid (∀ i, i < 100 → ∀ w, (Instr.index 95 (.agg (ringList p.rings 100).toArray) (.int .i64 (i : Nat))).run Tryz.prog w = .ok (.agg (opnCells (p.rings i)).toArray) w) := fun i hi w => index_ring p.rings i hi w
  go_enter Tryz.func58, Tryz.ntmps58
  go_wp2_with (refine wpList_load_mid rfl 95 _ rfl B 30 rfl (ringList p.rings 100) _ h.ringRange Tryz.underlying95 rfl (by rw [ringList_len]; exact Tryz.sizeRings) ?_)
  go_loopg [3, 16] 101 (fun k vp vi wr => ∃ i : Nat, i ≤ 100 ∧ 100 - i ≤ k ∧ vi = .int .i64 i ∧ vp = .int .i64 (leftmost p.rings s.size i : Nat) ∧ Below w.heap.size w wr)
  case atStart => exact ⟨0, by omega, by omega, rfl, rfl, Below.refl _ _⟩
  case round =>
    obtain ⟨i, hi, hk, rfl, rfl, hb⟩ := hrel
    have hsz := hb.size
    by_cases hlt : i < 100
    · have hix := fun w => HIX.out i hlt w
      have hlt' : (i : Int) < 100 := by omega
      cases hr : p.rings i with
      | none =>
        rw [hr] at hix
        simp only [opnCells] at hix
        have HE : Hid (leftmost p.rings s.size (i + 1) = leftmost p.rings s.size i) := by unfold Hid; rw [leftmost, hr]
        clear hr
        go_wp2_with fail
        go_roundg (100 - (i + 1))
        case measure => omega
        case rel => exact ⟨i + 1, by omega, Nat.le_refl _, by go_num, by rw [HE.out], hb.alloc hsz _⟩
      | some o =>
        rw [hr] at hix
        simp only [opnCells] at hix
        have HE : Hid (leftmost p.rings s.size (i + 1) = min (leftmost p.rings s.size i) o.place) := by unfold Hid; rw [leftmost, hr]
        clear hr
        generalize leftmost p.rings s.size i = lm at *
        by_cases hmin : o.place < lm
        · have hmin' : (o.place : Int) < (lm : Int) := by omega
          have HE2 : Hid (leftmost p.rings s.size (i + 1) = o.place) := by unfold Hid; rw [HE.out]; omega
          clear HE hmin
          go_wp2_with fail
          go_roundg (100 - (i + 1))
          case measure => omega
          case rel => exact ⟨i + 1, by omega, Nat.le_refl _, by go_num, by rw [HE2.out], hb.alloc hsz _⟩
        · have hmin' : ¬ (o.place : Int) < (lm : Int) := by omega
          have HE2 : Hid (leftmost p.rings s.size (i + 1) = lm) := by unfold Hid; rw [HE.out]; omega
          clear HE hmin
          go_wp2_with fail
          go_roundg (100 - (i + 1))
          case measure => omega
          case rel => exact ⟨i + 1, by omega, Nat.le_refl _, by go_num, by rw [HE2.out], hb.alloc hsz _⟩
    · obtain rfl : i = 100 := by omega
      have ht2 := (hb.cell (p := ⟨B, 0, none⟩) hB).trans ht
      have hrb := h.below hb
      have hfb := Fr.below hB hb
      by_cases hle : leftmost p.rings s.size 100 < s.size
      · have HP : Hid (∀ e w', RcPost w B s p e w' = (e = .returned (.bool false) ∧ Wrong w' B (4, (leftmost p.rings s.size 100 : Nat)) ∧ Fr B w w')) := by intro e w'; unfold RcPost; rw [if_pos hle]
        have hle' : ((leftmost p.rings s.size 100 : Nat) : Int) < (s.size : Int) := by omega
        have hfa := fail_any hrb 4 ((leftmost p.rings s.size 100 : Nat) : Int)
        clear hle
        generalize leftmost p.rings s.size 100 = lm at *
        go_wp2_with fail
        refine hfa.mono ?_
        rintro e w' ⟨rfl, hw, hf6⟩
        go_wp2_with fail
        go_ret
        rw [HP.out]
        exact ⟨rfl, hw, hfb.trans hf6⟩
      · have HP : Hid (∀ e w', RcPost w B s p e w' = (e = .returned (.bool true) ∧ Rd w' B s p ∧ Fr B w w')) := by intro e w'; unfold RcPost; rw [if_neg hle]
        have hle' : ¬ ((leftmost p.rings s.size 100 : Nat) : Int) < (s.size : Int) := by omega
        clear hle
        generalize leftmost p.rings s.size 100 = lm at *
        go_wp2_with fail
        go_ret
        rw [HP.out]
        exact ⟨rfl, hrb, hfb⟩
end
end Go.Proofs.YtcabaecbmkgclaaGreatDoor
