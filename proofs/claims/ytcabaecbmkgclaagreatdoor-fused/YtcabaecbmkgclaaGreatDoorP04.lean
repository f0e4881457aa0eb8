/-
  What Index, Contains, firstValence, impliedHydrogens, filled, candidate and finished do.
  What filled, candidate, finished and wrong do.
  A molecule in a box of its own: what its Sum, filled and candidate do.
  Of the bonds that the plain reader lays: both ends are there, the first below the second; no two join the same atoms; they stand by rising places.
  Matchings, with odd rings contracted, said on numbers and lists alone: what stands while a search grows, and that it goes on standing.
-/
import Derived.Test.YtcabaecbmkgclaaGreatDoorP03

namespace Go.Proofs.YtcabaecbmkgclaaGreatDoor
open Go.RowKit Bz

def IdxOk (l : List Int) (n r : Int) : Prop := decide (0 ≤ r) = l.contains n

set_option maxRecDepth 100000 in
set_option maxHeartbeats 2000000 in
theorem index_any (w : World) (v : Value) (l : List Int) (n : Int) (hv : IntsAt w v l) (hl : l.length ≤ 10) :
    Calls Tryz.prog 158 #[v, .int .i64 n] w fun e w' => ∃ r : Int, e = .returned (.int .i64 r) ∧ IdxOk l n r ∧ w' = w := by
  rcases hv with ⟨rfl, rfl⟩ | ⟨g, cap, rfl, hc⟩
  · go_enter Tryz.func158, Tryz.ntmps158
    go_wp2_with fail
    refine wp_loop_rounds 1 ?_
    rw [rounds_succ]
    go_wp2_with fail
    go_ret
    exact ⟨-1, rfl, by unfold IdxOk; simp, rfl⟩
  · have HC : Hid _ := hc
    clear hc
    go_enter Tryz.func158, Tryz.ntmps158
    go_wp2_with fail
    go_loopg [8] (l.length + 1) (fun k vi wr => ∃ i : Nat, i ≤ l.length ∧ l.length - i ≤ k ∧ vi = .int .i64 i ∧ l.contains n = (l.drop i).contains n ∧ wr = w)
    case atStart => exact ⟨0, by omega, by omega, rfl, by simp, rfl⟩
    case round =>
      obtain ⟨i, hi, hk, rfl, hm, rfl⟩ := hrel
      have HM : Hid _ := hm
      clear hm
      by_cases hlt : i < l.length
      · have gi := List.getElem?_eq_getElem hlt
        have c0 := HC.out i _ gi
        have hd := drop_cons gi
        have hlt' : (i : Int) < (l.length : Int) := by omega
        have HD : Hid _ := hd
        clear hd gi
        generalize l[i] = x at *
        by_cases hxn : n = x
        · have tx : (n == x) = true := by simpa using hxn
          have he : Hid (l.contains n = true) := by unfold Hid; rw [HM.out, HD.out, hxn]; simp
          clear hxn
          go_wp2_with fail
          go_ret
          exact ⟨_, rfl, by unfold IdxOk; rw [he.out]; simp, rfl⟩
        · have tx : (n == x) = false := by simpa using hxn
          have he : Hid (l.contains n = (l.drop (i + 1)).contains n) := by unfold Hid; rw [HM.out, HD.out, List.contains_cons, tx, Bool.false_or]
          clear hxn
          go_wp2_with fail
          go_roundg (l.length - (i + 1))
          case measure => omega
          case rel => exact ⟨i + 1, by omega, Nat.le_refl _, by go_num, he.out, rfl⟩
      · have hlt' : ¬ (i : Int) < (l.length : Int) := by omega
        have he : Hid (l.contains n = false) := by unfold Hid; rw [HM.out, List.drop_eq_nil_of_le (by omega)]; rfl
        go_wp2_with fail
        go_ret
        exact ⟨-1, rfl, by unfold IdxOk; rw [he.out]; rfl, rfl⟩

set_option maxHeartbeats 400000 in
theorem contains_any (w : World) (v : Value) (l : List Int) (n : Int) (hv : IntsAt w v l) (hl : l.length ≤ 10) :
    Calls Tryz.prog 139 #[v, .int .i64 n] w fun e w' => e = .returned (.bool (l.contains n)) ∧ w' = w := by
  have hI := index_any w v l n hv hl
  go_enter Tryz.func139, Tryz.ntmps139
  go_wp2_with fail
  refine hI.mono ?_
  rintro e w' ⟨r, rfl, hr, rfl⟩
  have HR : Hid _ := hr
  clear hr
  go_wp2_with fail
  go_ret
  exact ⟨ret_bool HR.out, rfl⟩

def aV (a : Atm) : Value := .agg #[.string a.el, .bool a.aro, .int .i64 a.ch, .int .i64 a.hy]

theorem valences_len (el : ByteArray) (ch : Int) : (valences el ch).length ≤ 3 ∧ ∀ x ∈ valences el ch, 0 ≤ x ∧ x ≤ 9 := by
  obtain ⟨a, b, c, hl, hc⟩ := valences_pick el ch
  rw [hl]
  rcases hc with ⟨_, rfl, rfl, rfl⟩ | ⟨_, rfl, rfl, rfl⟩ | ⟨_, rfl, rfl, rfl⟩ | ⟨_, rfl, rfl, rfl⟩ | ⟨_, rfl, rfl, rfl⟩ | ⟨_, rfl, rfl, rfl⟩
  all_goals
    split
    · simp
    · split <;> simp

set_option maxHeartbeats 1000000 in
theorem firstValence_any (a : Atm) (x : Int) (r : List Int) (hx : valences a.el a.ch = x :: r) (w : World) :
    Calls Tryz.prog 61 #[aV a] w fun e w' => e = .returned (.int .i64 x) ∧ Below w.heap.size w w' := by
  unfold aV
  go_enter Tryz.func61, Tryz.ntmps61
  go_wp2_with fail
  refine (valencesOf_any _ _ _).mono ?_
  rintro e w1 ⟨v, rfl, hv, hb⟩
  rw [hx] at hv
  rcases hv with ⟨h, _⟩ | ⟨g, cap, rfl, hc⟩
  · cases h
  · have c0 := hc 0 x rfl
    have hl : (x :: r).length = r.length + 1 := rfl
    rw [hl]
    clear hx hc hl
    go_wp2_with fail
    go_ret
    exact ⟨rfl, ((Below.refl _ _).alloc (Nat.le_refl _) _).trans (hb.mono (by simp))⟩

set_option maxHeartbeats 1000000 in
theorem implied_any (a : Atm) (n : Int) (hn : 0 ≤ n ∧ n ≤ 100000) (w : World) :
    Calls Tryz.prog 108 #[aV a, .int .i64 n] w fun e w' => e = .returned (.int .i64 (implied a n)) ∧ Below w.heap.size w w' := by
  unfold aV
  cases ha : a.aro
  · have HI : Hid (implied a n = missing (valences a.el a.ch) n) := by unfold Hid implied; rw [ha]; rfl
    clear ha
    go_enter Tryz.func108, Tryz.ntmps108
    go_wp2_with fail
    refine (valencesOf_any _ _ _).mono ?_
    rintro e w1 ⟨v, rfl, hv, hb⟩
    have hM := missing_any w1 v _ n hv (by have := (valences_len a.el a.ch).1; omega) hn (valences_len a.el a.ch).2
    clear hv
    go_wp2_with fail
    refine hM.mono ?_
    rintro e w2 ⟨rfl, rfl⟩
    go_wp2_with fail
    go_ret
    exact ⟨ret_int HI.out.symm, ((Below.refl _ _).alloc (Nat.le_refl _) _).trans (hb.mono (by simp))⟩
  · obtain ⟨n0, n1⟩ := hn
    by_cases hc : a.el = ⟨#[67]⟩
    · have HI : Hid (implied a n = max (3 - n) 0) := by unfold Hid implied; rw [ha, if_pos rfl, if_pos hc]
      rw [hc]
      clear ha hc
      by_cases h3 : n ≤ 3
      · have e : Hid (max (3 - n) 0 = 3 - n) := by unfold Hid; omega
        go_enter Tryz.func108, Tryz.ntmps108
        go_wp2_with fail
        go_ret
        exact ⟨ret_int (HI.out.trans e.out).symm, (Below.refl _ _).alloc (Nat.le_refl _) _⟩
      · have e : Hid (max (3 - n) 0 = 0) := by unfold Hid; omega
        go_enter Tryz.func108, Tryz.ntmps108
        go_wp2_with fail
        go_ret
        exact ⟨ret_int (HI.out.trans e.out).symm, (Below.refl _ _).alloc (Nat.le_refl _) _⟩
    · have HI : Hid (implied a n = 0) := by unfold Hid implied; rw [ha, if_pos rfl, if_neg hc]
      have tc := str_ne hc
      clear ha hc
      go_enter Tryz.func108, Tryz.ntmps108
      go_wp2_with fail
      go_ret
      exact ⟨ret_int HI.out.symm, (Below.refl _ _).alloc (Nat.le_refl _) _⟩
end Go.Proofs.YtcabaecbmkgclaaGreatDoor

namespace Go.Proofs.YtcabaecbmkgclaaGreatDoor
open Go.RowKit Bz

section
variable {w : World} {B : Nat} {s : ByteArray} {p : St}

/-- Atom i in the list: where its six cells lie. -/
structure AtI (w : World) (B g cap n i : Nat) (a : Atm) : Prop where
  sl : w.cell? ⟨B, 26, none⟩ = some (.slice (some ⟨g, 0, none⟩) n cap)
  c0 : w.cell? ⟨g, i * 6, none⟩ = some (.string a.el)
  c1 : w.cell? ⟨g, i * 6 + 1, none⟩ = some (.bool a.aro)
  c2 : w.cell? ⟨g, i * 6 + 2, none⟩ = some (.int .i64 a.ch)
  c3 : w.cell? ⟨g, i * 6 + 3, none⟩ = some (.int .i64 a.hy)
  c4 : w.cell? ⟨g, i * 6 + 4, none⟩ = some (.int .i64 a.pl)
  c5 : w.cell? ⟨g, i * 6 + 5, none⟩ = some (.bool a.br)

theorem Rd.atI (h : Rd w B s p) {i : Nat} {a : Atm} (hi : p.atoms[i]? = some a) : ∃ g cap, AtI w B g cap p.atoms.length i a ∧ g < w.heap.size := by
  have hl : i < p.atoms.length := (List.getElem?_eq_some_iff.1 hi).1
  obtain ⟨g, cap, hv, hc, _, _, hg⟩ := h.atomsAt (by omega)
  exact ⟨g, cap, ⟨hv, hc i a 0 _ hi rfl, hc i a 1 _ hi rfl, hc i a 2 _ hi rfl, hc i a 3 _ hi rfl, hc i a 4 _ hi rfl, hc i a 5 _ hi rfl⟩, hg⟩

theorem AtI.below {w' : World} {g cap n i : Nat} {a : Atm} (h : AtI w B g cap n i a) (hB : B < w.heap.size) (hg : g < w.heap.size) (hb : Below w.heap.size w w') : AtI w' B g cap n i a :=
  ⟨(hb.cell (p := ⟨B, 26, none⟩) hB).trans h.sl, (hb.cell (p := ⟨g, i * 6, none⟩) hg).trans h.c0, (hb.cell (p := ⟨g, i * 6 + 1, none⟩) hg).trans h.c1, (hb.cell (p := ⟨g, i * 6 + 2, none⟩) hg).trans h.c2,
    (hb.cell (p := ⟨g, i * 6 + 3, none⟩) hg).trans h.c3, (hb.cell (p := ⟨g, i * 6 + 4, none⟩) hg).trans h.c4, (hb.cell (p := ⟨g, i * 6 + 5, none⟩) hg).trans h.c5⟩

theorem sum_bound (o : Ok s p) (hs : s.size ≤ 160) (i : Nat) : 0 ≤ Bz.sum p.bonds i ∧ Bz.sum p.bonds i ≤ 1000 := by
  have h := sum_bd p.bonds i o.ords p.bonds.length (Nat.le_refl _)
  rw [List.take_length] at h
  have := o.bonds
  have := o.pos
  omega

def fill (p : St) (i : Nat) (a : Atm) : Int := Bz.sum p.bonds i + a.hy

set_option maxRecDepth 100000 in
set_option maxHeartbeats 2000000 in
theorem filled_any (h : Rd w B s p) (o : Ok s p) (hs : s.size ≤ 160) (i : Nat) (a : Atm) (hi : p.atoms[i]? = some a) :
    Calls Tryz.prog 60 #[.pointer (some ⟨B, 2, none⟩), .int .i64 i] w fun e w' => e = .returned (.int .i64 (fill p i a)) ∧ Below w.heap.size w w' := by
  obtain ⟨g, cap, hA, hg⟩ := h.atI hi
  have hB := h.lt
  have hl : i < p.atoms.length := (List.getElem?_eq_some_iff.1 hi).1
  have hl' : (i : Int) < (p.atoms.length : Int) := by omega
  have hn := o.atoms
  have hsb := sum_bound o hs i
  have hhy := o.hys a (List.mem_of_getElem? hi)
  have hS : Calls Tryz.prog 84 #[.pointer (some ⟨B, 2, none⟩), .int .i64 i] w.drew fun e w' => e = .returned (.int .i64 (Bz.sum p.bonds i)) ∧ Below w.heap.size w w' ∧ w'.cell? ⟨B, 26, none⟩ = some (.slice (some ⟨g, 0, none⟩) p.atoms.length cap) ∧ w'.cell? ⟨g, i * 6 + 3, none⟩ = some (.int .i64 a.hy) := by
    refine (sum_any h.drew i (by have := o.bonds; have := o.pos; omega) o.ords).mono ?_
    rintro e w' ⟨he, hb⟩
    have hb' : Below w.heap.size w w' := (Below.refl _ _).drew.trans hb
    have hA' := hA.below hB hg hb'
    exact ⟨he, hb', hA'.sl, hA'.c3⟩
  have HF : Hid (fill p i a = Bz.sum p.bonds i + a.hy) := rfl
  have q0 := hA.sl
  have q1 := hA.c3
  clear hA
  generalize Bz.sum p.bonds i = sm at *
  generalize a.hy = hy at *
  go_enter Tryz.func60, Tryz.ntmps60
  go_wp2_with fail
  go_region_held3 (fun w' => w'.cell? ⟨B, 26, none⟩ = some (.slice (some ⟨g, 0, none⟩) p.atoms.length cap) ∧ w'.cell? ⟨g, i * 6 + 3, none⟩ = some (.int .i64 hy)) (go_keep) (first | (go_at_call 84; refine hS.mono ?_; rintro e w' ⟨rfl, hb, i0, i1⟩))
  all_goals
    go_wp2_with fail
    go_ret
    exact ⟨ret_int (by first | exact HF.out.symm | (rw [HF.out, IntKind.wrap_i64]; omega)), hb⟩

/-- The atom in candidate's own box. -/
structure CandAt (w wx : World) (a : Atm) : Prop where
  c0 : wx.cell? ⟨w.heap.size, 0, none⟩ = some (.string a.el)
  c1 : wx.cell? ⟨w.heap.size, 1, none⟩ = some (.bool a.aro)
  c2 : wx.cell? ⟨w.heap.size, 2, none⟩ = some (.int .i64 a.ch)
  c3 : wx.cell? ⟨w.heap.size, 3, none⟩ = some (.int .i64 a.hy)
  below : Below w.heap.size w wx

theorem CandAt.step {wx w' : World} {a : Atm} (h : CandAt w wx a) (hb : Below wx.heap.size wx w') : CandAt w w' a := by
  have hl : w.heap.size < wx.heap.size := World.block_lt_of_cell? wx ⟨w.heap.size, 0, none⟩ h.c0
  exact ⟨(hb.cell (p := ⟨w.heap.size, 0, none⟩) hl).trans h.c0, (hb.cell (p := ⟨w.heap.size, 1, none⟩) hl).trans h.c1, (hb.cell (p := ⟨w.heap.size, 2, none⟩) hl).trans h.c2, (hb.cell (p := ⟨w.heap.size, 3, none⟩) hl).trans h.c3, h.below.trans (hb.mono h.below.size)⟩

set_option maxRecDepth 100000 in
set_option maxHeartbeats 2000000 in
theorem candidate_yes (h : Rd w B s p) (o : Ok s p) (hs : s.size ≤ 160) (i : Nat) (a : Atm) (hi : p.atoms[i]? = some a) (ha : a.aro = true) (x : Int) (r : List Int) (hx : valences a.el a.ch = x :: r) :
    Calls Tryz.prog 32 #[.pointer (some ⟨B, 2, none⟩), .int .i64 i] w fun e w' => e = .returned (.bool (fill p i a == x - 1)) ∧ Below w.heap.size w w' := by
  obtain ⟨g, cap, hA, hg⟩ := h.atI hi
  have hB := h.lt
  have hl : i < p.atoms.length := (List.getElem?_eq_some_iff.1 hi).1
  have hl' : (i : Int) < (p.atoms.length : Int) := by omega
  have hn := o.atoms
  have hx9 := (valences_len a.el a.ch).2 x (by rw [hx]; simp)
  have HW : Hid (∀ wx, CandAt w wx a → Calls Tryz.prog 60 #[.pointer (some ⟨B, 2, none⟩), .int .i64 i] wx fun e w' => e = .returned (.int .i64 (fill p i a)) ∧ CandAt w w' a ∧ w'.cell? ⟨w.heap.size, 0, none⟩ = some (.string a.el) ∧
      w'.cell? ⟨w.heap.size, 1, none⟩ = some (.bool true) ∧ w'.cell? ⟨w.heap.size, 2, none⟩ = some (.int .i64 a.ch) ∧ w'.cell? ⟨w.heap.size, 3, none⟩ = some (.int .i64 a.hy)) := by
    intro wx hwx
    refine (filled_any (h.below hwx.below) o hs i a hi).mono ?_
    rintro e w' ⟨he, hb⟩
    have hc := hwx.step hb
    exact ⟨he, hc, hc.c0, ha ▸ hc.c1, hc.c2, hc.c3⟩
  have HV : Hid (∀ wx, CandAt w wx a → Calls Tryz.prog 61 #[.agg #[.string a.el, .bool true, .int .i64 a.ch, .int .i64 a.hy]] wx fun e w' => e = .returned (.int .i64 x) ∧ CandAt w w' a ∧ w'.cell? ⟨w.heap.size, 0, none⟩ = some (.string a.el) ∧
      w'.cell? ⟨w.heap.size, 1, none⟩ = some (.bool true) ∧ w'.cell? ⟨w.heap.size, 2, none⟩ = some (.int .i64 a.ch) ∧ w'.cell? ⟨w.heap.size, 3, none⟩ = some (.int .i64 a.hy)) := by
    intro wx hwx
    have hfv := firstValence_any a x r hx wx
    unfold aV at hfv
    rw [ha] at hfv
    refine hfv.mono ?_
    rintro e w' ⟨he, hb⟩
    have hc := hwx.step hb
    exact ⟨he, hc, hc.c0, ha ▸ hc.c1, hc.c2, hc.c3⟩
  have q0 := hA.sl
  have q1 := hA.c0
  have q2 := hA.c1
  rw [ha] at q2
  have q3 := hA.c2
  have q4 := hA.c3
  have hb0 : CandAt w ((w.alloc (.cells #[.string a.el, .bool true, .int .i64 a.ch, .int .i64 a.hy] 50)).drew) a := ⟨by simp [go_sem], by rw [ha]; simp [go_sem], by simp [go_sem], by simp [go_sem], ((Below.refl _ _).alloc (Nat.le_refl _) _).drew⟩
  have HX : Hid (0 ≤ x ∧ x ≤ 9) := hx9
  clear hA hx hx9 ha
  generalize fill p i a = fl at *
  go_enter Tryz.func32, Tryz.ntmps32
  go_wp2_with fail
  go_region_held3 (fun w' => w'.cell? ⟨w.heap.size, 0, none⟩ = some (.string a.el) ∧ w'.cell? ⟨w.heap.size, 1, none⟩ = some (.bool true) ∧ w'.cell? ⟨w.heap.size, 2, none⟩ = some (.int .i64 a.ch) ∧ w'.cell? ⟨w.heap.size, 3, none⟩ = some (.int .i64 a.hy)) (go_keep) (first | (go_at_call 60; refine (HW.out _ (by assumption)).mono ?_; rintro e w' ⟨rfl, hb, i0, i1, i2, i3⟩) | (go_at_call 61; refine (HV.out _ (by assumption)).mono ?_; rintro e w' ⟨rfl, hb', j0, j1, j2, j3⟩))
  all_goals
    go_wp2_with fail
    go_ret
    exact ⟨ret_bool (by have := HX.out; first | rfl | (rw [IntKind.wrap_i64, show (x - 1 + 9223372036854775808) % 18446744073709551616 - 9223372036854775808 = x - 1 from by omega])), (show CandAt w _ a by assumption).below⟩

set_option maxRecDepth 100000 in
set_option maxHeartbeats 2000000 in
theorem candidate_no (h : Rd w B s p) (i : Nat) (a : Atm) (hi : p.atoms[i]? = some a) (ha : a.aro = false) :
    Calls Tryz.prog 32 #[.pointer (some ⟨B, 2, none⟩), .int .i64 i] w fun e w' => e = .returned (.bool false) ∧ Below w.heap.size w w' := by
  obtain ⟨g, cap, hA, hg⟩ := h.atI hi
  have hB := h.lt
  have hl : i < p.atoms.length := (List.getElem?_eq_some_iff.1 hi).1
  have hl' : (i : Int) < (p.atoms.length : Int) := by omega
  have q0 := hA.sl
  have q1 := hA.c0
  have q2 := hA.c1
  rw [ha] at q2
  have q3 := hA.c2
  have q4 := hA.c3
  have HB : Hid (∀ n, Below w.heap.size w ((w.alloc (.cells #[.string a.el, .bool false, .int .i64 a.ch, .int .i64 a.hy] 50)).drewN n)) := fun n => below_drewN ((Below.refl _ _).alloc (Nat.le_refl _) _) n
  clear hA ha
  go_enter Tryz.func32, Tryz.ntmps32
  go_wp2_with fail
  go_quiet (fail)
  go_wp2_with fail
  go_ret
  exact ⟨rfl, HB.out _⟩

set_option maxRecDepth 100000 in
set_option maxHeartbeats 2000000 in
theorem finished_any (h : Rd w B s p) (o : Ok s p) (hs : s.size ≤ 160) (i : Nat) (a : Atm) (hi : p.atoms[i]? = some a) (x : Int) (r : List Int) (hx : valences a.el a.ch = x :: r) :
    Calls Tryz.prog 138 #[.pointer (some ⟨B, 2, none⟩), .int .i64 i] w fun e w' => e = .returned (.bool (fill p i a == x)) ∧ Below w.heap.size w w' := by
  obtain ⟨g, cap, hA, hg⟩ := h.atI hi
  have hB := h.lt
  have hl : i < p.atoms.length := (List.getElem?_eq_some_iff.1 hi).1
  have hl' : (i : Int) < (p.atoms.length : Int) := by omega
  have hn := o.atoms
  have hx9 := (valences_len a.el a.ch).2 x (by rw [hx]; simp)
  have HW : Hid (∀ wx, Below w.heap.size w wx → Calls Tryz.prog 60 #[.pointer (some ⟨B, 2, none⟩), .int .i64 i] wx fun e w' => e = .returned (.int .i64 (fill p i a)) ∧ Below w.heap.size w w' ∧ w'.cell? ⟨B, 26, none⟩ = some (.slice (some ⟨g, 0, none⟩) p.atoms.length cap) ∧ w'.cell? ⟨g, i * 6, none⟩ = some (.string a.el) ∧
      w'.cell? ⟨g, i * 6 + 1, none⟩ = some (.bool a.aro) ∧ w'.cell? ⟨g, i * 6 + 2, none⟩ = some (.int .i64 a.ch) ∧ w'.cell? ⟨g, i * 6 + 3, none⟩ = some (.int .i64 a.hy)) := by
    intro wx hwx
    refine (filled_any (h.below hwx) o hs i a hi).mono ?_
    rintro e w' ⟨he, hb⟩
    have hb' : Below w.heap.size w w' := hwx.trans (hb.mono hwx.size)
    have hA' := hA.below hB hg hb'
    exact ⟨he, hb', hA'.sl, hA'.c0, hA'.c1, hA'.c2, hA'.c3⟩
  have HV : Hid (∀ wx, Below w.heap.size w wx → Calls Tryz.prog 61 #[.agg #[.string a.el, .bool a.aro, .int .i64 a.ch, .int .i64 a.hy]] wx fun e w' => e = .returned (.int .i64 x) ∧ Below w.heap.size w w' ∧ w'.cell? ⟨B, 26, none⟩ = some (.slice (some ⟨g, 0, none⟩) p.atoms.length cap) ∧ w'.cell? ⟨g, i * 6, none⟩ = some (.string a.el) ∧
      w'.cell? ⟨g, i * 6 + 1, none⟩ = some (.bool a.aro) ∧ w'.cell? ⟨g, i * 6 + 2, none⟩ = some (.int .i64 a.ch) ∧ w'.cell? ⟨g, i * 6 + 3, none⟩ = some (.int .i64 a.hy)) := by
    intro wx hwx
    refine (firstValence_any a x r hx wx).mono ?_
    rintro e w' ⟨he, hb⟩
    have hb' : Below w.heap.size w w' := hwx.trans (hb.mono hwx.size)
    have hA' := hA.below hB hg hb'
    exact ⟨he, hb', hA'.sl, hA'.c0, hA'.c1, hA'.c2, hA'.c3⟩
  have q0 := hA.sl
  have q1 := hA.c0
  have q2 := hA.c1
  have q3 := hA.c2
  have q4 := hA.c3
  have hb0 : Below w.heap.size w w.drew := (Below.refl _ _).drew
  clear hA hx
  generalize fill p i a = fl at *
  go_enter Tryz.func138, Tryz.ntmps138
  go_wp2_with fail
  go_region_held3 (fun w' => w'.cell? ⟨B, 26, none⟩ = some (.slice (some ⟨g, 0, none⟩) p.atoms.length cap) ∧ w'.cell? ⟨g, i * 6, none⟩ = some (.string a.el) ∧ w'.cell? ⟨g, i * 6 + 1, none⟩ = some (.bool a.aro) ∧ w'.cell? ⟨g, i * 6 + 2, none⟩ = some (.int .i64 a.ch) ∧ w'.cell? ⟨g, i * 6 + 3, none⟩ = some (.int .i64 a.hy)) (go_keep) (first | (go_at_call 60; refine (HW.out _ (by assumption)).mono ?_; rintro e w' ⟨rfl, hb, i0, i1, i2, i3, i4⟩) | (go_at_call 61; refine (HV.out _ (by assumption)).mono ?_; rintro e w' ⟨rfl, hb', j0, j1, j2, j3, j4⟩))
  all_goals
    go_wp2_with fail
    go_ret
    exact ⟨ret_bool (by first | rfl | rfl), by assumption⟩
end
end Go.Proofs.YtcabaecbmkgclaaGreatDoor

namespace Go.Proofs.YtcabaecbmkgclaaGreatDoor.Kd
open Go.RowKit Bz

/-- A molecule lies in block B; its lists lie from base on. -/
structure Kd (w : World) (B base : Nat) (p : St) : Prop where
  atoms : ∃ v, w.cell? ⟨B, 24, none⟩ = some v ∧ w.ownsRow base 124 6 v p.atoms.length (p.atoms.flatMap atmCells)
  bonds : ∃ v, w.cell? ⟨B, 25, none⟩ = some v ∧ w.ownsRow base 102 4 v p.bonds.length (p.bonds.flatMap pbCells)
  lt : B < w.heap.size

section
variable {w : World} {B base : Nat} {s : ByteArray} {p : St}

theorem Kd.below {w' : World} (h : Kd w B base p) (hb : Below w.heap.size w w') : Kd w' B base p := by
  obtain ⟨v, hv, ho⟩ := h.atoms
  obtain ⟨u, hu, hq⟩ := h.bonds
  exact ⟨⟨v, (hb.cell (p := ⟨B, 24, none⟩) h.lt).trans hv, ownsRow_same ho fun k hk => hb.block k (ho.lt k hk).2⟩, ⟨u, (hb.cell (p := ⟨B, 25, none⟩) h.lt).trans hu, ownsRow_same hq fun k hk => hb.block k (hq.lt k hk).2⟩, Nat.lt_of_lt_of_le h.lt hb.size⟩
theorem Kd.drew (h : Kd w B base p) : Kd w.drew B base p := ⟨h.atoms, h.bonds, h.lt⟩

theorem Kd.atomsAt (h : Kd w B base p) (hn : 0 < p.atoms.length) : ∃ g cap, w.cell? ⟨B, 24, none⟩ = some (.slice (some ⟨g, 0, none⟩) p.atoms.length cap) ∧
    (∀ i a j v, p.atoms[i]? = some a → (atmCells a)[j]? = some v → w.cell? ⟨g, i * 6 + j, none⟩ = some v) ∧ (∀ j, w.frozen? ⟨g, j, none⟩ = false) ∧ base ≤ g ∧ g < w.heap.size := by
  obtain ⟨v, hv, ho⟩ := h.atoms
  obtain ⟨g, cap, rfl, h1, h2, h3, h4⟩ := ownsRow_at ho hn
  refine ⟨g, cap, hv, ?_, h4, h1, h2⟩
  intro i a j u hi hj
  have hj6 : j < 6 := by
    have := (List.getElem?_eq_some_iff.1 hj).1
    simpa [atmCells_len] using this
  have hil : i < p.atoms.length := (List.getElem?_eq_some_iff.1 hi).1
  rw [h3 (i * 6 + j) (by omega), flatMap_get atmCells 6 atmCells_len _ i j a hi hj6, hj]

theorem Kd.bondsAt (h : Kd w B base p) (hn : 0 < p.bonds.length) : ∃ g cap, w.cell? ⟨B, 25, none⟩ = some (.slice (some ⟨g, 0, none⟩) p.bonds.length cap) ∧
    (∀ i a j v, p.bonds[i]? = some a → (pbCells a)[j]? = some v → w.cell? ⟨g, i * 4 + j, none⟩ = some v) ∧ (∀ j, w.frozen? ⟨g, j, none⟩ = false) ∧ base ≤ g ∧ g < w.heap.size := by
  obtain ⟨v, hv, ho⟩ := h.bonds
  obtain ⟨g, cap, rfl, h1, h2, h3, h4⟩ := ownsRow_at ho hn
  refine ⟨g, cap, hv, ?_, h4, h1, h2⟩
  intro i a j u hi hj
  have hj6 : j < 4 := by
    have := (List.getElem?_eq_some_iff.1 hj).1
    simpa [pbCells_len] using this
  have hil : i < p.bonds.length := (List.getElem?_eq_some_iff.1 hi).1
  rw [h3 (i * 4 + j) (by omega), flatMap_get pbCells 4 pbCells_len _ i j a hi hj6, hj]

theorem Kd.bondsLen (h : Kd w B base p) : ∃ ao cap, w.cell? ⟨B, 25, none⟩ = some (.slice ao p.bonds.length cap) := by
  obtain ⟨v, hv, ho⟩ := h.bonds
  obtain ⟨ao, cap, rfl⟩ := ownsRow_shape ho
  exact ⟨ao, cap, hv⟩

set_option maxRecDepth 100000 in
set_option maxHeartbeats 2000000 in
theorem sum_any (h : Kd w B base p) (a : Nat) (hb : p.bonds.length ≤ 1000) (ho : ∀ b ∈ p.bonds, 1 ≤ b.o ∧ b.o ≤ 4) :
    Calls Tryz.prog 84 #[.pointer (some ⟨B, 0, none⟩), .int .i64 a] w fun e w' => e = .returned (.int .i64 (Bz.sum p.bonds a)) ∧ Below w.heap.size w w' := by
  have hsb := sum_bd p.bonds a ho
  by_cases hl : p.bonds.length = 0
  · obtain ⟨ao, cap, hc⟩ := h.bondsLen
    rw [hl] at hc
    have he : Hid (Bz.sum p.bonds a = 0) := by unfold Hid; rw [List.eq_nil_of_length_eq_zero hl]; rfl
    clear hsb hl ho
    go_enter Tryz.func84, Tryz.ntmps84
    go_wp2_with fail
    refine wp_loop_rounds 1 ?_
    rw [rounds_succ]
    go_wp2_with fail
    go_ret
    exact ⟨ret_int he.out.symm, Below.refl _ _⟩
  · obtain ⟨g, cap, hv, hc, _, hBg, hgl⟩ := h.bondsAt (by omega)
    have HC : Hid _ := hc
    have HO : Hid _ := ho
    have HS : Hid _ := hsb
    clear hc ho hsb
    go_enter Tryz.func84, Tryz.ntmps84
    go_wp2_with fail
    go_loopg [5, 13] (p.bonds.length + 1) (fun k vs vi wr => SumAt w p.bonds a k vs vi wr)
    case atStart => exact ⟨0, by omega, by omega, rfl, by simp [Bz.sum], Below.refl _ _⟩
    case round =>
      obtain ⟨i, hi, hk, rfl, rfl, hbel⟩ := hrel
      by_cases hlt : i < p.bonds.length
      · have hsi := HS.out i hi
        have hst := sum_take p.bonds a i hlt
        have hbo := HO.out p.bonds[i] (List.getElem_mem _)
        have gi := List.getElem?_eq_getElem hlt
        have c0 := (hbel.cell (p := ⟨g, i * 4, none⟩) hgl).trans (HC.out i _ 0 _ gi rfl)
        have c1 := (hbel.cell (p := ⟨g, i * 4 + 1, none⟩) hgl).trans (HC.out i _ 1 _ gi rfl)
        have c2 := (hbel.cell (p := ⟨g, i * 4 + 2, none⟩) hgl).trans (HC.out i _ 2 _ gi rfl)
        have c3 := (hbel.cell (p := ⟨g, i * 4 + 3, none⟩) hgl).trans (HC.out i _ 3 _ gi rfl)
        have hsz := hbel.size
        have hlt' : (i : Int) < (p.bonds.length : Int) := by omega
        generalize p.bonds[i] = b at *
        obtain ⟨ba, bb, bo, bpl⟩ := b
        simp only at c0 c1 c2 c3 hbo
        have HST : Hid _ := hst
        clear hst gi
        generalize Bz.sum (p.bonds.take i) a = sm at *
        have t4 : (bo == 4) = true ∨ (bo == 4) = false := by cases (bo == 4) <;> simp
        have fin : ∀ wx, Below w.heap.size w wx → ∀ u : Int, u = sm + part a ⟨ba, bb, bo, bpl⟩ → SumAt w p.bonds a (p.bonds.length - (i + 1)) (.int .i64 u) (.int .i64 ((i : Int) + 1)) wx := by
          intro wx hx u hu
          exact ⟨i + 1, by omega, Nat.le_refl _, by go_num, by rw [HST.out, hu], hx⟩
        have FIN : Hid _ := fin
        clear fin
        by_cases hin : ba = a ∨ bb = a
        · have tin : ((ba : Int) != (a : Int)) = false ∨ ((ba : Int) != (a : Int)) = true ∧ ((bb : Int) != (a : Int)) = false := by
            by_cases e : ba = a
            · left; simp [e]
            · right
              have e2 : bb = a := by omega
              exact ⟨by simp; omega, by simp [e2]⟩
          have HP : Hid (part a ⟨ba, bb, bo, bpl⟩ = if bo = 4 then 1 else bo) := by unfold Hid part; rw [if_pos hin]
          clear hin
          rcases t4 with t4 | t4
          · have hp : Hid (part a ⟨ba, bb, bo, bpl⟩ = 1) := by unfold Hid; rw [HP.out, if_pos (by simpa using t4)]
            rcases tin with tin | ⟨tin, tin2⟩
            all_goals
              go_wp2_with fail
              go_roundg (p.bonds.length - (i + 1))
              case measure => omega
              case rel => exact FIN.out _ (hbel.alloc hsz _) _ (by rw [hp.out])
          · have hp : Hid (part a ⟨ba, bb, bo, bpl⟩ = bo) := by unfold Hid; rw [HP.out, if_neg (by simpa using t4)]
            rcases tin with tin | ⟨tin, tin2⟩
            all_goals
              go_wp2_with fail
              go_roundg (p.bonds.length - (i + 1))
              case measure => omega
              case rel => exact FIN.out _ (hbel.alloc hsz _) _ (by rw [hp.out])
        · have hp : Hid (part a ⟨ba, bb, bo, bpl⟩ = 0) := by unfold Hid part; rw [if_neg hin]
          have tin : ((ba : Int) != (a : Int)) = true := by simp; omega
          have tin2 : ((bb : Int) != (a : Int)) = true := by simp; omega
          clear hin t4
          go_wp2_with fail
          go_roundg (p.bonds.length - (i + 1))
          case measure => omega
          case rel => exact FIN.out _ (hbel.alloc hsz _) _ (by rw [hp.out]; omega)
      · have hi' : i = p.bonds.length := by omega
        have he : Hid (Bz.sum (p.bonds.take i) a = Bz.sum p.bonds a) := by unfold Hid; rw [hi', List.take_length]
        have hlt' : ¬ (i : Int) < (p.bonds.length : Int) := by omega
        clear hi'
        go_wp2_with fail
        go_ret
        exact ⟨ret_int he.out, hbel⟩
/-- Atom i in the list: where its six cells lie. -/
structure AtI (w : World) (B g cap n i : Nat) (a : Atm) : Prop where
  sl : w.cell? ⟨B, 24, none⟩ = some (.slice (some ⟨g, 0, none⟩) n cap)
  c0 : w.cell? ⟨g, i * 6, none⟩ = some (.string a.el)
  c1 : w.cell? ⟨g, i * 6 + 1, none⟩ = some (.bool a.aro)
  c2 : w.cell? ⟨g, i * 6 + 2, none⟩ = some (.int .i64 a.ch)
  c3 : w.cell? ⟨g, i * 6 + 3, none⟩ = some (.int .i64 a.hy)
  c4 : w.cell? ⟨g, i * 6 + 4, none⟩ = some (.int .i64 a.pl)
  c5 : w.cell? ⟨g, i * 6 + 5, none⟩ = some (.bool a.br)

theorem Kd.atI (h : Kd w B base p) {i : Nat} {a : Atm} (hi : p.atoms[i]? = some a) : ∃ g cap, AtI w B g cap p.atoms.length i a ∧ g < w.heap.size := by
  have hl : i < p.atoms.length := (List.getElem?_eq_some_iff.1 hi).1
  obtain ⟨g, cap, hv, hc, _, _, hg⟩ := h.atomsAt (by omega)
  exact ⟨g, cap, ⟨hv, hc i a 0 _ hi rfl, hc i a 1 _ hi rfl, hc i a 2 _ hi rfl, hc i a 3 _ hi rfl, hc i a 4 _ hi rfl, hc i a 5 _ hi rfl⟩, hg⟩

theorem AtI.below {w' : World} {g cap n i : Nat} {a : Atm} (h : AtI w B g cap n i a) (hB : B < w.heap.size) (hg : g < w.heap.size) (hb : Below w.heap.size w w') : AtI w' B g cap n i a :=
  ⟨(hb.cell (p := ⟨B, 24, none⟩) hB).trans h.sl, (hb.cell (p := ⟨g, i * 6, none⟩) hg).trans h.c0, (hb.cell (p := ⟨g, i * 6 + 1, none⟩) hg).trans h.c1, (hb.cell (p := ⟨g, i * 6 + 2, none⟩) hg).trans h.c2,
    (hb.cell (p := ⟨g, i * 6 + 3, none⟩) hg).trans h.c3, (hb.cell (p := ⟨g, i * 6 + 4, none⟩) hg).trans h.c4, (hb.cell (p := ⟨g, i * 6 + 5, none⟩) hg).trans h.c5⟩

set_option maxRecDepth 100000 in
set_option maxHeartbeats 2000000 in
theorem filled_any (h : Kd w B base p) (o : Ok s p) (hs : s.size ≤ 160) (i : Nat) (a : Atm) (hi : p.atoms[i]? = some a) :
    Calls Tryz.prog 60 #[.pointer (some ⟨B, 0, none⟩), .int .i64 i] w fun e w' => e = .returned (.int .i64 (fill p i a)) ∧ Below w.heap.size w w' := by
  obtain ⟨g, cap, hA, hg⟩ := h.atI hi
  have hB := h.lt
  have hl : i < p.atoms.length := (List.getElem?_eq_some_iff.1 hi).1
  have hl' : (i : Int) < (p.atoms.length : Int) := by omega
  have hn := o.atoms
  have hsb := sum_bound o hs i
  have hhy := o.hys a (List.mem_of_getElem? hi)
  have hS : Calls Tryz.prog 84 #[.pointer (some ⟨B, 0, none⟩), .int .i64 i] w.drew fun e w' => e = .returned (.int .i64 (Bz.sum p.bonds i)) ∧ Below w.heap.size w w' ∧ w'.cell? ⟨B, 24, none⟩ = some (.slice (some ⟨g, 0, none⟩) p.atoms.length cap) ∧ w'.cell? ⟨g, i * 6 + 3, none⟩ = some (.int .i64 a.hy) := by
    refine (sum_any h.drew i (by have := o.bonds; have := o.pos; omega) o.ords).mono ?_
    rintro e w' ⟨he, hb⟩
    have hb' : Below w.heap.size w w' := (Below.refl _ _).drew.trans hb
    have hA' := hA.below hB hg hb'
    exact ⟨he, hb', hA'.sl, hA'.c3⟩
  have HF : Hid (fill p i a = Bz.sum p.bonds i + a.hy) := rfl
  have q0 := hA.sl
  have q1 := hA.c3
  clear hA
  generalize Bz.sum p.bonds i = sm at *
  generalize a.hy = hy at *
  go_enter Tryz.func60, Tryz.ntmps60
  go_wp2_with fail
  go_region_held3 (fun w' => w'.cell? ⟨B, 24, none⟩ = some (.slice (some ⟨g, 0, none⟩) p.atoms.length cap) ∧ w'.cell? ⟨g, i * 6 + 3, none⟩ = some (.int .i64 hy)) (go_keep) (first | (go_at_call 84; refine hS.mono ?_; rintro e w' ⟨rfl, hb, i0, i1⟩))
  all_goals
    go_wp2_with fail
    go_ret
    exact ⟨ret_int (by first | exact HF.out.symm | (rw [HF.out, IntKind.wrap_i64]; omega)), hb⟩

set_option maxRecDepth 100000 in
set_option maxHeartbeats 2000000 in
theorem candidate_yes (h : Kd w B base p) (o : Ok s p) (hs : s.size ≤ 160) (i : Nat) (a : Atm) (hi : p.atoms[i]? = some a) (ha : a.aro = true) (x : Int) (r : List Int) (hx : valences a.el a.ch = x :: r) :
    Calls Tryz.prog 32 #[.pointer (some ⟨B, 0, none⟩), .int .i64 i] w fun e w' => e = .returned (.bool (fill p i a == x - 1)) ∧ Below w.heap.size w w' := by
  obtain ⟨g, cap, hA, hg⟩ := h.atI hi
  have hB := h.lt
  have hl : i < p.atoms.length := (List.getElem?_eq_some_iff.1 hi).1
  have hl' : (i : Int) < (p.atoms.length : Int) := by omega
  have hn := o.atoms
  have hx9 := (valences_len a.el a.ch).2 x (by rw [hx]; simp)
  have HW : Hid (∀ wx, CandAt w wx a → Calls Tryz.prog 60 #[.pointer (some ⟨B, 0, none⟩), .int .i64 i] wx fun e w' => e = .returned (.int .i64 (fill p i a)) ∧ CandAt w w' a ∧ w'.cell? ⟨w.heap.size, 0, none⟩ = some (.string a.el) ∧
      w'.cell? ⟨w.heap.size, 1, none⟩ = some (.bool true) ∧ w'.cell? ⟨w.heap.size, 2, none⟩ = some (.int .i64 a.ch) ∧ w'.cell? ⟨w.heap.size, 3, none⟩ = some (.int .i64 a.hy)) := by
    intro wx hwx
    refine (filled_any (h.below hwx.below) o hs i a hi).mono ?_
    rintro e w' ⟨he, hb⟩
    have hc := hwx.step hb
    exact ⟨he, hc, hc.c0, ha ▸ hc.c1, hc.c2, hc.c3⟩
  have HV : Hid (∀ wx, CandAt w wx a → Calls Tryz.prog 61 #[.agg #[.string a.el, .bool true, .int .i64 a.ch, .int .i64 a.hy]] wx fun e w' => e = .returned (.int .i64 x) ∧ CandAt w w' a ∧ w'.cell? ⟨w.heap.size, 0, none⟩ = some (.string a.el) ∧
      w'.cell? ⟨w.heap.size, 1, none⟩ = some (.bool true) ∧ w'.cell? ⟨w.heap.size, 2, none⟩ = some (.int .i64 a.ch) ∧ w'.cell? ⟨w.heap.size, 3, none⟩ = some (.int .i64 a.hy)) := by
    intro wx hwx
    have hfv := firstValence_any a x r hx wx
    unfold aV at hfv
    rw [ha] at hfv
    refine hfv.mono ?_
    rintro e w' ⟨he, hb⟩
    have hc := hwx.step hb
    exact ⟨he, hc, hc.c0, ha ▸ hc.c1, hc.c2, hc.c3⟩
  have q0 := hA.sl
  have q1 := hA.c0
  have q2 := hA.c1
  rw [ha] at q2
  have q3 := hA.c2
  have q4 := hA.c3
  have hb0 : CandAt w ((w.alloc (.cells #[.string a.el, .bool true, .int .i64 a.ch, .int .i64 a.hy] 50)).drew) a := ⟨by simp [go_sem], by rw [ha]; simp [go_sem], by simp [go_sem], by simp [go_sem], ((Below.refl _ _).alloc (Nat.le_refl _) _).drew⟩
  have HX : Hid (0 ≤ x ∧ x ≤ 9) := hx9
  clear hA hx hx9 ha
  generalize fill p i a = fl at *
  go_enter Tryz.func32, Tryz.ntmps32
  go_wp2_with fail
  go_region_held3 (fun w' => w'.cell? ⟨w.heap.size, 0, none⟩ = some (.string a.el) ∧ w'.cell? ⟨w.heap.size, 1, none⟩ = some (.bool true) ∧ w'.cell? ⟨w.heap.size, 2, none⟩ = some (.int .i64 a.ch) ∧ w'.cell? ⟨w.heap.size, 3, none⟩ = some (.int .i64 a.hy)) (go_keep) (first | (go_at_call 60; refine (HW.out _ (by assumption)).mono ?_; rintro e w' ⟨rfl, hb, i0, i1, i2, i3⟩) | (go_at_call 61; refine (HV.out _ (by assumption)).mono ?_; rintro e w' ⟨rfl, hb', j0, j1, j2, j3⟩))
  all_goals
    go_wp2_with fail
    go_ret
    exact ⟨ret_bool (by have := HX.out; first | rfl | (rw [IntKind.wrap_i64, show (x - 1 + 9223372036854775808) % 18446744073709551616 - 9223372036854775808 = x - 1 from by omega])), (show CandAt w _ a by assumption).below⟩

set_option maxRecDepth 100000 in
set_option maxHeartbeats 2000000 in
theorem candidate_no (h : Kd w B base p) (i : Nat) (a : Atm) (hi : p.atoms[i]? = some a) (ha : a.aro = false) :
    Calls Tryz.prog 32 #[.pointer (some ⟨B, 0, none⟩), .int .i64 i] w fun e w' => e = .returned (.bool false) ∧ Below w.heap.size w w' := by
  obtain ⟨g, cap, hA, hg⟩ := h.atI hi
  have hB := h.lt
  have hl : i < p.atoms.length := (List.getElem?_eq_some_iff.1 hi).1
  have hl' : (i : Int) < (p.atoms.length : Int) := by omega
  have q0 := hA.sl
  have q1 := hA.c0
  have q2 := hA.c1
  rw [ha] at q2
  have q3 := hA.c2
  have q4 := hA.c3
  have HB : Hid (∀ n, Below w.heap.size w ((w.alloc (.cells #[.string a.el, .bool false, .int .i64 a.ch, .int .i64 a.hy] 50)).drewN n)) := fun n => below_drewN ((Below.refl _ _).alloc (Nat.le_refl _) _) n
  clear hA ha
  go_enter Tryz.func32, Tryz.ntmps32
  go_wp2_with fail
  go_quiet (fail)
  go_wp2_with fail
  go_ret
  exact ⟨rfl, HB.out _⟩

end
end Go.Proofs.YtcabaecbmkgclaaGreatDoor.Kd

namespace Go.Proofs.YtcabaecbmkgclaaGreatDoor
open Go.RowKit Bz

structure En (n : Nat) (l : List Bnd) (pos : Nat) : Prop where
  ends : ∀ b ∈ l, b.a < b.b ∧ b.b < n
  dist : l.Pairwise fun x y => ¬ (x.a = y.a ∧ x.b = y.b)
  rise : l.Pairwise fun x y => x.pl < y.pl
  plt : ∀ b ∈ l, b.pl < pos

theorem En.mono {n n' pos pos' : Nat} {l : List Bnd} (h : En n l pos) (hn : n ≤ n') (hp : pos ≤ pos') : En n' l pos' :=
  ⟨fun b hb => ⟨(h.ends b hb).1, Nat.lt_of_lt_of_le (h.ends b hb).2 hn⟩, h.dist, h.rise, fun b hb => Nat.lt_of_lt_of_le (h.plt b hb) hp⟩

theorem En.snoc {n pos pos' : Nat} {l : List Bnd} (h : En n l pos) {a b pl : Nat} (o : Int) (hab : a < b) (hb : b < n) (hd : ∀ x ∈ l, ¬ (x.a = a ∧ x.b = b)) (hp : pos ≤ pl) (hp' : pl < pos') : En n (l ++ [⟨a, b, o, pl⟩]) pos' := by
  refine ⟨fun x hx => ?_, ?_, ?_, fun x hx => ?_⟩
  · rcases List.mem_append.1 hx with hx | hx
    · exact h.ends x hx
    · simp at hx; subst hx; exact ⟨hab, hb⟩
  · rw [List.pairwise_append]
    refine ⟨h.dist, by simp, fun x hx y hy => ?_⟩
    simp at hy; subst hy; exact hd x hx
  · rw [List.pairwise_append]
    refine ⟨h.rise, by simp, fun x hx y hy => ?_⟩
    simp at hy; subst hy
    have := h.plt x hx
    simp only
    omega
  · rcases List.mem_append.1 hx with hx | hx
    · have := h.plt x hx; omega
    · simp at hx; subst hx; exact hp'

def Eo (p : St) : Prop := En p.atoms.length p.bonds p.pos

theorem bondEnd_en {s : ByteArray} {a : Nat} {p q : St} {g : Hung} (h : bondEnd s a p = .ok (g, q)) (o : Ok s p) (e : Eo p) : Eo q := by
  obtain ⟨h1, h2, h3, h4, h5, h6⟩ := bondEnd_ok h o.pos
  unfold Eo
  rw [h1, h2]
  exact En.mono e (Nat.le_refl _) (by omega)

theorem link_en {s : ByteArray} {a : Nat} {p q : St} {g : Hung} (h : link s a p = .ok (g, q)) (o : Ok s p) (e : Eo p) : Eo q := by
  unfold link at h
  split at h
  · simp only [Except.ok.injEq, Prod.mk.injEq] at h
    obtain ⟨rfl, rfl⟩ := h
    exact En.mono e (Nat.le_refl _) (by simp)
  · exact bondEnd_en h o e

theorem head_pl {s : ByteArray} {p : St} {g : Hung} {a : Atm} {j : Nat} (h : atomHead s g p = .ok (a, j)) : a.pl = p.pos := by
  unfold atomHead at h
  split at h
  · split at h <;> cases h
  · split at h
    · cases h
    · split at h
      · cases h
      · split at h
        · cases h
        · simp only [Except.ok.injEq, Prod.mk.injEq] at h
          obtain ⟨rfl, rfl⟩ := h
          rfl

theorem atom_en {s : ByteArray} {p q : St} {g : Hung} {k : Nat} (h : atom s g p = .ok (k, q)) (hg : HungOk g p) (e : Eo p) : Eo q := by
  rw [atom_eq] at h
  cases hh : atomHead s g p with
  | error e => rw [hh] at h; cases h
  | ok x =>
    obtain ⟨a, j⟩ := x
    rw [hh] at h
    simp only [Except.ok.injEq] at h
    have hj := head_pos hh
    unfold atomTail at h
    simp only [Prod.mk.injEq] at h
    obtain ⟨rfl, rfl⟩ := h
    split
    · exact En.mono e (by simp) (by simp; omega)
    · rename_i hne
      rcases hg with hg | ⟨fa, hf, hl⟩
      · exact absurd hg hne
      · unfold Eo Bz.bind
        simp only [hf, Int.toNat_natCast]
        have e1 : min fa p.atoms.length = fa := by omega
        have e2 : max fa p.atoms.length = p.atoms.length := by omega
        rw [e1, e2, head_pl hh]
        refine En.snoc (pos := p.pos) (En.mono e (by simp) (Nat.le_refl _)) _ hl (by simp) (fun x hx => ?_) (Nat.le_refl _) hj.1
        have := (e.ends x hx).2
        omega

theorem bonded_no {l : List Bnd} {a b : Nat} (h : bonded l a b = false) : ∀ x ∈ l, ¬ (x.a = min a b ∧ x.b = max a b) := by
  intro x hx hc
  unfold bonded at h
  have := List.any_eq_false.1 h x hx
  simp at this
  rcases Nat.le_total a b with k | k
  · rw [Nat.min_eq_left k, Nat.max_eq_right k] at hc
    exact this.1 hc.1 hc.2
  · rw [Nat.min_eq_right k, Nat.max_eq_left k] at hc
    exact this.2 hc.1 hc.2

theorem ring_en {s : ByteArray} {a : Nat} {p q : St} (h : ring s a p = .ok q) (o : Ok s p) (ha : a < p.atoms.length) (e : Eo p) : Eo q := by
  unfold ring at h
  split at h
  · cases h
  · rename_i g p1 hbe
    obtain ⟨o1, hg, ha1, hp1⟩ := bondEnd_wf hbe o ha
    have e1 := bondEnd_en hbe o e
    obtain ⟨_, _, _, _, _, h6⟩ := bondEnd_ok hbe o.pos
    split at h
    · cases h
    · rename_i n j hrn
      obtain ⟨h1, h2⟩ := ringNumber_pos hrn
      split at h
      · simp only [Except.ok.injEq] at h
        subst h
        exact En.mono e1 (Nat.le_refl _) (by simp; omega)
      · rename_i op hop
        obtain ⟨fa, hfa, hfl⟩ := o1.rings n op hop
        unfold closeRing at h
        simp only at h
        split at h
        · cases h
        · split at h
          · cases h
          · split at h
            · cases h
            · rename_i hno
              simp only [Except.ok.injEq] at h
              subst h
              simp only [not_or] at hno
              obtain ⟨n1, n2, _⟩ := hno
              have n2' : bonded p1.bonds op.hung.atom.toNat g.atom.toNat = false := by simpa using n2
              rw [hfa, h6] at n1 n2'
              simp only [Int.toNat_natCast] at n2'
              unfold Eo Bz.bind
              simp only [hfa, h6, Int.toNat_natCast]
              have hal : a < p1.atoms.length := by rw [ha1]; exact ha
              refine En.snoc (pos := p1.pos) e1 _ (by omega) (by omega) (bonded_no n2') (Nat.le_refl _) (by omega)

theorem ringsOf_en {s : ByteArray} {a : Nat} : ∀ (n : Nat) {p q : St}, ringsOf s a n p = .ok q → Ok s p → a < p.atoms.length → Eo p → Eo q
  | 0, p, q, h, _, _, e => by simp only [ringsOf, Except.ok.injEq] at h; subst h; exact e
  | n + 1, p, q, h, o, ha, e => by
    unfold ringsOf at h
    split at h
    · split at h
      · cases h
      · rename_i p1 hr
        obtain ⟨o1, h1, h2⟩ := ring_wf hr o ha
        exact ringsOf_en n h o1 (by omega) (ring_en hr o ha e)
    · simp only [Except.ok.injEq] at h; subst h; exact e

def ChainEn (s : ByteArray) (c : Hung → St → R St) : Prop := ∀ g q q', Ok s q → HungOk g q → Eo q → c g q = .ok q' → Eo q'

theorem branch_en {s : ByteArray} {c : Hung → St → R St} (hc : ChainEn s c) {a : Nat} {p q : St} (h : branch s c a p = .ok q) (o : Ok s p) (ha : a < p.atoms.length) (e : Eo p) : Eo q := by
  unfold branch at h
  split at h
  · cases h
  · rename_i g p1 hl
    obtain ⟨o1, hg, ha1, hp1⟩ := link_wf hl o ha
    have e1 := link_en hl o e
    split at h
    · cases h
    · rename_i p2 hch
      have e2 := hc g p1 p2 o1 hg e1 hch
      split at h
      · simp only [Except.ok.injEq] at h
        subst h
        exact En.mono e2 (Nat.le_refl _) (by simp)
      · cases h

theorem branches_en {s : ByteArray} {c : Hung → St → R St} (hk : ChainOk s c) (hc : ChainEn s c) {a : Nat} : ∀ (n : Nat) {p q : St}, branches s c a n p = .ok q → Ok s p → a < p.atoms.length → Eo p → Eo q
  | 0, p, q, h, _, _, e => by simp only [branches, Except.ok.injEq] at h; subst h; exact e
  | n + 1, p, q, h, o, ha, e => by
    unfold branches at h
    split at h
    · rename_i eb
      split at h
      · cases h
      · rename_i p1 hr
        have os := o.step (byte_lt eb (by decide))
        have es : Eo { p with pos := p.pos + 1 } := En.mono e (Nat.le_refl _) (by simp)
        obtain ⟨o1, h1, h2⟩ := branch_wf hk hr os ha
        simp only at h1 h2
        exact branches_en hk hc n h o1 (by omega) (branch_en hc hr os ha es)
    · simp only [Except.ok.injEq] at h; subst h; exact e

theorem knot_en {s : ByteArray} {c : Hung → St → R St} (hk : ChainOk s c) (hc : ChainEn s c) {g : Hung} {p q : St} {k : Nat} (h : knot s c g p = .ok (k, q)) (o : Ok s p) (hg : HungOk g p) (e : Eo p) : Eo q := by
  unfold knot at h
  split at h
  · cases h
  · rename_i k1 p1 ha
    obtain ⟨o1, h1, h2, h3⟩ := atom_wf ha o
    have e1 := atom_en ha hg e
    split at h
    · cases h
    · rename_i p2 hr
      obtain ⟨o2, h4, h5⟩ := ringsOf_wf _ hr o1 h1
      have e2 := ringsOf_en _ hr o1 h1 e1
      split at h
      · cases h
      · rename_i p3 hb
        simp only [Except.ok.injEq, Prod.mk.injEq] at h
        obtain ⟨rfl, rfl⟩ := h
        exact branches_en hk hc _ hb o2 (by omega) e2

theorem linkedKnot_en {s : ByteArray} {c : Hung → St → R St} (hk : ChainOk s c) (hc : ChainEn s c) {a : Nat} {p q : St} {k : Nat} (h : linkedKnot s c a p = .ok (k, q)) (o : Ok s p) (ha : a < p.atoms.length) (e : Eo p) : Eo q := by
  unfold linkedKnot at h
  split at h
  · cases h
  · rename_i g p1 hl
    obtain ⟨o1, hg, ha1, hp1⟩ := link_wf hl o ha
    exact knot_en hk hc h o1 hg (link_en hl o e)

theorem linked_en {s : ByteArray} {c : Hung → St → R St} (hk : ChainOk s c) (hc : ChainEn s c) : ∀ (n : Nat) {a : Nat} {p q : St}, Bz.linked s c n a p = .ok q → Ok s p → a < p.atoms.length → Eo p → Eo q
  | 0, a, p, q, h, _, _, e => by simp only [Bz.linked, Except.ok.injEq] at h; subst h; exact e
  | n + 1, a, p, q, h, o, ha, e => by
    unfold Bz.linked at h
    split at h
    · split at h
      · cases h
      · rename_i k1 p1 hr
        obtain ⟨o1, h1, h2, h3⟩ := linkedKnot_wf hk hr o ha
        exact linked_en hk hc n h o1 h1 (linkedKnot_en hk hc hr o ha e)
    · simp only [Except.ok.injEq] at h; subst h; exact e

theorem chain_en (s : ByteArray) : ∀ n, ChainEn s (chain s n)
  | 0 => by intro g q q' _ _ _ h; simp [chain] at h
  | n + 1 => by
    intro g q q' o hg e h
    unfold chain at h
    split at h
    · cases h
    · rename_i k p1 hk
      obtain ⟨o1, h1, h2, h3⟩ := knot_wf (chain_wf s n) hk o
      exact linked_en (chain_wf s n) (chain_en s n) _ h o1 h1 (knot_en (chain_wf s n) (chain_en s n) hk o hg e)
end Go.Proofs.YtcabaecbmkgclaaGreatDoor

namespace Go.Proofs.YtcabaecbmkgclaaGreatDoor.Mt

structure Gr where
  n : Nat
  adj : Nat → Nat → Bool

structure GrOk (g : Gr) : Prop where
  n24 : g.n ≤ 24
  lt : ∀ a b, g.adj a b = true → a < g.n ∧ b < g.n
  sym : ∀ a b, g.adj a b = true → g.adj b a = true
  irr : ∀ a, g.adj a a = false

structure MtOk (g : Gr) (mate : Nat → Option Nat) : Prop where
  adj : ∀ a b, mate a = some b → g.adj a b = true
  back : ∀ a b, mate a = some b → mate b = some a

/-- What a search has reached. -/
structure Fo where
  ring : Nat → Nat → Bool
  next : Nat → Nat
  outer : Nat → Bool
  inner : Nat → Bool
  queue : List Nat

/-- By turns a pair and an edge, up to t. -/
def Alt (g : Gr) (mate : Nat → Option Nat) (next : Nat → Nat) (t : Nat) : List Nat → Prop
  | [] => False
  | [x] => x = t
  | x :: m :: l => mate x = some m ∧ g.adj m (next m) = true ∧ l.head? = some (next m) ∧ Alt g mate next t l

def Pairs (mate : Nat → Option Nat) : List Nat → Prop
  | [] => True
  | [_] => False
  | x :: m :: l => mate x = some m ∧ Pairs mate l

def EvO (outer : Nat → Bool) : List Nat → Prop
  | [] => True
  | [x] => outer x = true
  | x :: _ :: l => outer x = true ∧ EvO outer l

/-- What is kept in mind beside: each ring's base, its level, its tree. -/
structure Gh where
  base : Nat → Nat
  lev : Nat → Nat
  root : Nat → Nat

structure Inv (g : Gr) (mate : Nat → Option Nat) (f : Fo) (h : Gh) : Prop where
  olt : ∀ v, f.outer v = true → v < g.n
  ilt : ∀ v, f.inner v = true → v < g.n
  self : ∀ v, v < 24 → f.ring v v = true
  rlt : ∀ v x, f.ring v x = true → v < 24 ∧ x < 24
  same : ∀ v x, f.ring v x = true → f.ring x = f.ring v
  single : ∀ v x, f.outer v = false → f.ring v x = true → x = v
  rout : ∀ v x, f.outer v = true → f.ring v x = true → f.outer x = true
  base : ∀ v, f.outer v = true → f.ring v (h.base v) = true
  baseC : ∀ v x, f.outer v = true → f.ring v x = true → h.base x = h.base v ∧ h.lev x = h.lev v ∧ h.root x = h.root v
  seg : ∀ v, f.outer v = true → ∃ s, s.head? = some v ∧ Alt g mate f.next (h.base v) s ∧ (∀ x ∈ s, f.ring v x = true) ∧ s.Nodup
  up : ∀ b m, f.outer b = true → h.base b = b → mate b = some m → f.inner m = true ∧ f.outer m = false ∧ g.adj m (f.next m) = true ∧ f.outer (f.next m) = true ∧ h.lev (f.next m) < h.lev b ∧ h.root (f.next m) = h.root b
  inn : ∀ m, f.inner m = true → f.outer m = false → ∃ b, mate m = some b ∧ f.outer b = true ∧ h.base b = b
  rootO : ∀ v, v < g.n → mate v = none → f.outer v = true ∧ h.base v = v ∧ h.root v = v
  q : ∀ v, v ∈ f.queue ↔ f.outer v = true
  qn : f.queue.Nodup

section
variable {g : Gr} {mate : Nat → Option Nat} {next : Nat → Nat} {t : Nat}

theorem Alt.ne {l : List Nat} (h : Alt g mate next t l) : l ≠ [] := by
  rintro rfl
  exact h

theorem Alt.append : ∀ {s : List Nat} {b m : Nat} {l : List Nat}, Alt g mate next b s → mate b = some m → g.adj m (next m) = true → l.head? = some (next m) → Alt g mate next t l → Alt g mate next t (s ++ m :: l)
  | [x], b, m, l, h, hb, ha, hl, hr => by
    have : x = b := h
    subst this
    exact ⟨hb, ha, hl, hr⟩
  | x :: y :: s, b, m, l, h, hb, ha, hl, hr => by
    obtain ⟨h1, h2, h3, h4⟩ := h
    refine ⟨h1, h2, ?_, Alt.append h4 hb ha hl hr⟩
    cases s with
    | nil => cases h3
    | cons z s => exact h3

/-- The last of it. -/
theorem Alt.mem : ∀ {s : List Nat}, Alt g mate next t s → t ∈ s
  | [x], h => by have : x = t := h; subst this; simp
  | _ :: _ :: s, h => by
    have := Alt.mem h.2.2.2
    simp [this]

theorem Alt.unique {t' : Nat} (ht : mate t = none) (ht' : mate t' = none) : ∀ {l l' : List Nat}, Alt g mate next t l → Alt g mate next t' l' → l.head? = l'.head? → l = l'
  | [x], [y], _, _, e => by simpa using e
  | [x], y :: m :: l', h, h', e => by
    have hx : x = t := h
    simp at e
    have k := h'.1
    rw [← e, hx, ht] at k
    cases k
  | x :: m :: l, [y], h, h', e => by
    have hy : y = t' := h'
    simp at e
    have k := h.1
    rw [e, hy, ht'] at k
    cases k
  | x :: m :: l, y :: m' :: l', h, h', e => by
    simp at e
    subst e
    obtain ⟨h1, h2, h3, h4⟩ := h
    obtain ⟨k1, k2, k3, k4⟩ := h'
    rw [h1] at k1
    cases k1
    rw [Alt.unique ht ht' h4 k4 (h3.trans k3.symm)]

theorem Alt.evo {outer : Nat → Bool} : ∀ {s : List Nat}, Alt g mate next t s → (∀ x ∈ s, outer x = true) → EvO outer s
  | [x], _, h => h x (by simp)
  | x :: m :: s, ha, h => ⟨h x (by simp), Alt.evo ha.2.2.2 fun y hy => h y (by simp [hy])⟩

theorem EvO.append {outer : Nat → Bool} : ∀ {s : List Nat} {m : Nat} {l : List Nat} {b : Nat}, Alt g mate next b s → EvO outer s → EvO outer l → EvO outer (s ++ m :: l)
  | [_], _, _, _, _, h, k => ⟨h, k⟩
  | _ :: _ :: _, _, _, _, ha, h, k => ⟨h.1, EvO.append ha.2.2.2 h.2 k⟩

theorem Alt.pairs : ∀ {s : List Nat} {b m : Nat} {l : List Nat}, Alt g mate next b s → mate b = some m → Pairs mate l → Pairs mate (s ++ m :: l)
  | [x], b, m, l, h, hb, hl => by
    have : x = b := h
    subst this
    exact ⟨hb, hl⟩
  | _ :: _ :: _, _, _, _, h, hb, hl => ⟨h.1, Alt.pairs h.2.2.2 hb hl⟩

theorem Pairs.closed (back : ∀ a b, mate a = some b → mate b = some a) : ∀ {l : List Nat}, Pairs mate l → ∀ x ∈ l, ∃ y ∈ l, mate x = some y
  | [], _, x, hx => by cases hx
  | a :: m :: l, h, x, hx => by
    rcases List.mem_cons.1 hx with rfl | hx
    · exact ⟨m, by simp, h.1⟩
    rcases List.mem_cons.1 hx with rfl | hx
    · exact ⟨a, by simp, back _ _ h.1⟩
    · obtain ⟨y, hy, e⟩ := Pairs.closed back h.2 x hx
      exact ⟨y, by simp [hy], e⟩

/-- What is not outer stands behind its mate. -/
theorem EvO.before {outer : Nat → Bool} (back : ∀ a b, mate a = some b → mate b = some a) : ∀ {l : List Nat} {pre post : List Nat} {x : Nat}, Alt g mate next t l → EvO outer l → l = pre ++ x :: post → outer x = false → ∃ b ∈ pre, mate x = some b
  | [a], pre, post, x, _, ho, e, hx => by
    cases pre with
    | nil =>
      simp at e
      rw [← e.1] at hx
      have : outer a = true := ho
      rw [this] at hx
      cases hx
    | cons p pre => simp at e
  | a :: m :: l, pre, post, x, ha, ho, e, hx => by
    match pre, e with
    | [], e =>
      simp at e
      rw [← e.1] at hx
      rw [ho.1] at hx
      cases hx
    | [p], e =>
      simp at e
      obtain ⟨rfl, rfl, _⟩ := e
      exact ⟨_, by simp, back _ _ ha.1⟩
    | p :: p' :: pre, e =>
      simp at e
      obtain ⟨rfl, rfl, e⟩ := e
      obtain ⟨b, hb, hm⟩ := EvO.before back ha.2.2.2 ho.2 e hx
      exact ⟨b, by simp [hb], hm⟩
end

section
variable {g : Gr} {mate : Nat → Option Nat} {f : Fo} {h : Gh}

/-- Where what stands on a route belongs. -/
def Lab (mate : Nat → Option Nat) (f : Fo) (h : Gh) (v y : Nat) : Prop :=
  (f.outer y = true ∧ h.lev y ≤ h.lev v ∧ h.root y = h.root v) ∨ (f.outer y = false ∧ ∃ b, mate y = some b ∧ f.outer b = true ∧ h.base b = b ∧ h.lev b ≤ h.lev v ∧ h.root b = h.root v)

/-- The route from an outer vertex to its root. -/
structure Rt (g : Gr) (mate : Nat → Option Nat) (f : Fo) (h : Gh) (v : Nat) (l : List Nat) : Prop where
  head : l.head? = some v
  alt : Alt g mate f.next (h.root v) l
  nodup : l.Nodup
  free : mate (h.root v) = none
  lab : ∀ y ∈ l, Lab mate f h v y
  evo : EvO f.outer l

theorem Inv.baseB (I : Inv g mate f h) {v : Nat} (hv : f.outer v = true) : f.outer (h.base v) = true ∧ h.base (h.base v) = h.base v ∧ h.lev (h.base v) = h.lev v ∧ h.root (h.base v) = h.root v :=
  ⟨I.rout v _ hv (I.base v hv), I.baseC v _ hv (I.base v hv)⟩

theorem Lab.up {v u y : Nat} (hl : h.lev u ≤ h.lev v) (hr : h.root u = h.root v) (k : Lab mate f h u y) : Lab mate f h v y := by
  rcases k with ⟨a, b, c⟩ | ⟨a, b, c, d, e, e2, e3⟩
  · exact .inl ⟨a, by omega, by omega⟩
  · exact .inr ⟨a, b, c, d, e, by omega, by omega⟩

/-- A route is the way through its first ring, and what comes behind. -/
theorem Rt.ring (M : MtOk g mate) (I : Inv g mate f h) {v : Nat} (hv : f.outer v = true) {s : List Nat} (h1 : s.head? = some v) (h2 : Alt g mate f.next (h.base v) s) (h3 : ∀ x ∈ s, f.ring v x = true) (h4 : s.Nodup) {m : Nat} (hm : mate (h.base v) = some m) {l : List Nat} (r : Rt g mate f h (f.next m) l) :
    Rt g mate f h v (s ++ m :: l) := by
  obtain ⟨b1, b2, b3, b4⟩ := I.baseB hv
  obtain ⟨u1, u2, u3, u4, u5, u6⟩ := I.up _ _ b1 b2 hm
  have hroot : h.root (f.next m) = h.root v := u6.trans b4
  have hlev : h.lev (f.next m) < h.lev v := by omega
  have hsl : ∀ x ∈ s, f.outer x = true ∧ h.lev x = h.lev v ∧ h.root x = h.root v := fun x hx => ⟨I.rout v x hv (h3 x hx), (I.baseC v x hv (h3 x hx)).2⟩
  have hml : ∀ y ∈ l, f.outer y = true → h.lev y < h.lev v := by
    intro y hy ho
    rcases r.lab y hy with ⟨_, k, _⟩ | ⟨k, _⟩
    · omega
    · rw [ho] at k; cases k
  refine ⟨?_, ?_, ?_, ?_, ?_, ?_⟩
  · cases s with
    | nil => cases h1
    | cons a s => exact h1
  · rw [← hroot]; exact Alt.append h2 hm u3 r.head r.alt
  · rw [List.nodup_append]
    refine ⟨h4, ?_, ?_⟩
    · rw [List.nodup_cons]
      refine ⟨?_, r.nodup⟩
      intro hml2
      rcases r.lab m hml2 with ⟨k, _⟩ | ⟨_, b, k1, _, _, k4, _⟩
      · rw [u2] at k; cases k
      · rw [M.back _ _ hm] at k1
        cases k1
        omega
    · intro a ha b hb
      rcases List.mem_cons.1 hb with rfl | hb
      · rintro rfl
        have := (hsl _ ha).1
        rw [u2] at this
        cases this
      · rintro rfl
        have k1 := hsl _ ha
        have k2 := hml _ hb k1.1
        omega
  · rw [← hroot]; exact r.free
  · intro y hy
    rcases List.mem_append.1 hy with hy | hy
    · have k := hsl y hy
      exact .inl ⟨k.1, by omega, k.2.2⟩
    · rcases List.mem_cons.1 hy with rfl | hy
      · exact .inr ⟨u2, h.base v, M.back _ _ hm, b1, b2, by omega, b4⟩
      · exact (r.lab y hy).up (by omega) hroot
  · exact EvO.append h2 (h2.evo fun x hx => (hsl x hx).1) r.evo

theorem Rt.last (I : Inv g mate f h) {v : Nat} (hv : f.outer v = true) {s : List Nat} (h1 : s.head? = some v) (h2 : Alt g mate f.next (h.base v) s) (h3 : ∀ x ∈ s, f.ring v x = true) (h4 : s.Nodup) (hm : mate (h.base v) = none) : Rt g mate f h v s := by
  obtain ⟨b1, b2, b3, b4⟩ := I.baseB hv
  have k := (I.rootO _ (I.olt _ b1) hm).2.2
  have hroot : h.root v = h.base v := by rw [← b4]; exact k
  have hsl : ∀ x ∈ s, f.outer x = true ∧ h.lev x = h.lev v ∧ h.root x = h.root v := fun x hx => ⟨I.rout v x hv (h3 x hx), (I.baseC v x hv (h3 x hx)).2⟩
  exact ⟨h1, by rw [hroot]; exact h2, h4, by rw [hroot]; exact hm, fun y hy => .inl ⟨(hsl y hy).1, by have := (hsl y hy).2.1; omega, (hsl y hy).2.2⟩, h2.evo fun x hx => (hsl x hx).1⟩

theorem route_ex (M : MtOk g mate) (I : Inv g mate f h) : ∀ k v, f.outer v = true → h.lev v < k → ∃ l, Rt g mate f h v l
  | 0, _, _, hk => absurd hk (Nat.not_lt_zero _)
  | k + 1, v, hv, hk => by
    obtain ⟨s, h1, h2, h3, h4⟩ := I.seg v hv
    obtain ⟨b1, b2, b3, b4⟩ := I.baseB hv
    cases hm : mate (h.base v) with
    | none => exact ⟨s, Rt.last I hv h1 h2 h3 h4 hm⟩
    | some m =>
      obtain ⟨u1, u2, u3, u4, u5, u6⟩ := I.up _ _ b1 b2 hm
      obtain ⟨l, r⟩ := route_ex M I k _ u4 (by omega)
      exact ⟨_, Rt.ring M I hv h1 h2 h3 h4 hm r⟩

theorem Inv.route (M : MtOk g mate) (I : Inv g mate f h) {v : Nat} (hv : f.outer v = true) : ∃ l, Rt g mate f h v l := route_ex M I (h.lev v + 1) v hv (by omega)

theorem Rt.unique {v : Nat} {l l' : List Nat} (r : Rt g mate f h v l) (r' : Rt g mate f h v l') : l = l' := Alt.unique r.free r'.free r.alt r'.alt (r.head.trans r'.head.symm)

/-- A route up to a ring T on it. -/
structure Climb (g : Gr) (mate : Nat → Option Nat) (f : Fo) (h : Gh) (T : Nat → Bool) (v : Nat) (L : List Nat) (e : Nat) (R : List Nat) : Prop where
  rt : Rt g mate f h v (L ++ e :: R)
  ring : f.ring e = T
  eo : f.outer e = true
  er : Rt g mate f h e (e :: R)
  out : ∀ x ∈ L, f.ring x ≠ T
  pairs : Pairs mate L
  base : ∀ x ∈ L, f.outer x = true → h.base x ∈ L
  lev : h.lev e ≤ h.lev v
  levs : ∀ x ∈ L, f.outer x = true → h.lev e ≤ h.lev x

theorem climb_ex (G : GrOk g) (M : MtOk g mate) (I : Inv g mate f h) (T : Nat → Bool) : ∀ k v l, f.outer v = true → h.lev v < k → Rt g mate f h v l → (∃ y ∈ l, f.outer y = true ∧ f.ring y = T) → ∃ L e R, Climb g mate f h T v L e R
  | 0, _, _, _, hk, _, _ => absurd hk (Nat.not_lt_zero _)
  | k + 1, v, l, hv, hk, r, ⟨y, hy, hyo, hyT⟩ => by
    by_cases hT : f.ring v = T
    · cases l with
      | nil => exact absurd r.head (by simp)
      | cons a R =>
        have : a = v := by simpa using r.head
        subst this
        exact ⟨[], a, R, ⟨r, hT, hv, r, by simp, trivial, by simp, Nat.le_refl _, by simp⟩⟩
    · obtain ⟨s, h1, h2, h3, h4⟩ := I.seg v hv
      obtain ⟨b1, b2, b3, b4⟩ := I.baseB hv
      have hsT : ∀ x ∈ s, f.ring x ≠ T := fun x hx e => hT (by rw [← I.same v x (h3 x hx)]; exact e)
      cases hm : mate (h.base v) with
      | none =>
        have e := r.unique (Rt.last I hv h1 h2 h3 h4 hm)
        subst e
        exact absurd hyT (hsT y hy)
      | some m =>
        obtain ⟨u1, u2, u3, u4, u5, u6⟩ := I.up _ _ b1 b2 hm
        obtain ⟨l', r'⟩ := route_ex M I k _ u4 (by omega)
        have hr := Rt.ring M I hv h1 h2 h3 h4 hm r'
        have e := r.unique hr
        subst e
        have hy' : y ∈ l' := by
          rcases List.mem_append.1 hy with hy | hy
          · exact absurd hyT (hsT y hy)
          · rcases List.mem_cons.1 hy with rfl | hy
            · rw [u2] at hyo; cases hyo
            · exact hy
        obtain ⟨L, e, R, c⟩ := climb_ex G M I T k _ l' u4 (by omega) r' ⟨y, hy', hyo, hyT⟩
        have e2 := r'.unique c.rt
        subst e2
        refine ⟨s ++ m :: L, e, R, ⟨by simpa using hr, c.ring, c.eo, c.er, ?_, Alt.pairs h2 hm c.pairs, ?_, by have := c.lev; omega, ?_⟩⟩
        · intro x hx
          rcases List.mem_append.1 hx with hx | hx
          · exact hsT x hx
          · rcases List.mem_cons.1 hx with rfl | hx
            · intro e
              have hx24 := I.ilt _ u1
              have k1 : f.ring y x = true := by rw [hyT, ← e]; exact I.self x (by have := G.n24; omega)
              have := I.rout y x hyo k1
              rw [u2] at this
              cases this
            · exact c.out x hx
        · intro x hx hxo
          rcases List.mem_append.1 hx with hx | hx
          · rw [(I.baseC v x hv (h3 x hx)).1]
            exact List.mem_append_left _ h2.mem
          · rcases List.mem_cons.1 hx with rfl | hx
            · rw [u2] at hxo; cases hxo
            · exact List.mem_append_right _ (List.mem_cons_of_mem _ (c.base x hx hxo))
        · intro x hx hxo
          rcases List.mem_append.1 hx with hx | hx
          · have k := (I.baseC v x hv (h3 x hx)).2.1
            have := c.lev
            omega
          · rcases List.mem_cons.1 hx with rfl | hx
            · rw [u2] at hxo; cases hxo
            · exact c.levs x hx hxo
end
end Go.Proofs.YtcabaecbmkgclaaGreatDoor.Mt
