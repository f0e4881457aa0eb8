/-
  What valencesOf, missing, Contains, impliedHydrogens and firstValence do.
  What Index, Contains, firstValence, impliedHydrogens, filled, candidate and finished do.
  What filled, candidate, finished and wrong do.
  A molecule in a box of its own: what its Sum, filled and candidate do.
  The search's forest in memory: what its block and its queue hold; what a call may have turned.
-/
import Derived.Test.YtcabaecbmkgclaaGreatDoorP07
import Derived.Test.YtcabaecbmkgclaaGreatDoorRows
import Derived.WalkKit
import Derived.WalkSpells
import Derived.WalkLawsBesides
import Derived.Deep.QuietTactic
import Derived.BigQuiet
import Derived.Deep.RegionLaw
import Derived.ArgAppend
import Derived.OneCell
import Derived.Deep.MidRow
import Derived.Deep.LoopGhost
import Derived.Deep.CutRange
import Derived.Laws.DeepBits32

namespace Go.Proofs.YtcabaecbmkgclaaGreatDoor
open Go.RowKit Bz

/-- A list of numbers lies in memory. -/
def IntsAt (w : World) (v : Value) (l : List Int) : Prop :=
  (l = [] ∧ v = .slice none 0 0) ∨ ∃ g cap, v = .slice (some ⟨g, 0, none⟩) l.length cap ∧ ∀ j x, l[j]? = some x → w.cell? ⟨g, j, none⟩ = some (.int .i64 x)

def ValPost (w : World) (l : List Int) (e : Ending) (w' : World) : Prop := ∃ v, e = .returned v ∧ IntsAt w' v l ∧ Below w.heap.size w w'

theorem valences_pick (el : ByteArray) (ch : Int) : ∃ a b c : List Int, valences el ch = (if ch > 0 then b else if ch < 0 then c else a) ∧
    ((el = ⟨#[66]⟩ ∧ a = [3] ∧ b = [] ∧ c = [4]) ∨ (el = ⟨#[67]⟩ ∧ a = [4] ∧ b = [3] ∧ c = [3]) ∨ ((el = ⟨#[78]⟩ ∨ el = ⟨#[80]⟩) ∧ a = [3, 5] ∧ b = [4] ∧ c = [2]) ∨
     (el = ⟨#[79]⟩ ∧ a = [2] ∧ b = [3] ∧ c = [1]) ∨ (el = ⟨#[83]⟩ ∧ a = [2, 4, 6] ∧ b = [3, 5] ∧ c = [1]) ∨
     ((el ≠ ⟨#[66]⟩ ∧ el ≠ ⟨#[67]⟩ ∧ el ≠ ⟨#[78]⟩ ∧ el ≠ ⟨#[80]⟩ ∧ el ≠ ⟨#[79]⟩ ∧ el ≠ ⟨#[83]⟩) ∧ a = [1] ∧ b = [2] ∧ c = [0])) := by
  by_cases h1 : el = ⟨#[66]⟩
  · exact ⟨_, _, _, by unfold valences; rw [if_pos h1], .inl ⟨h1, rfl, rfl, rfl⟩⟩
  by_cases h2 : el = ⟨#[67]⟩
  · exact ⟨_, _, _, by unfold valences; simp only; rw [if_neg h1, if_pos h2], .inr (.inl ⟨h2, rfl, rfl, rfl⟩)⟩
  by_cases h3 : el = ⟨#[78]⟩ ∨ el = ⟨#[80]⟩
  · exact ⟨_, _, _, by unfold valences; simp only; rw [if_neg h1, if_neg h2, if_pos h3], .inr (.inr (.inl ⟨h3, rfl, rfl, rfl⟩))⟩
  by_cases h4 : el = ⟨#[79]⟩
  · exact ⟨_, _, _, by unfold valences; simp only; rw [if_neg h1, if_neg h2, if_neg h3, if_pos h4], .inr (.inr (.inr (.inl ⟨h4, rfl, rfl, rfl⟩)))⟩
  by_cases h5 : el = ⟨#[83]⟩
  · exact ⟨_, _, _, by unfold valences; simp only; rw [if_neg h1, if_neg h2, if_neg h3, if_neg h4, if_pos h5], .inr (.inr (.inr (.inr (.inl ⟨h5, rfl, rfl, rfl⟩))))⟩
  · exact ⟨_, _, _, by unfold valences; simp only; rw [if_neg h1, if_neg h2, if_neg h3, if_neg h4, if_neg h5], .inr (.inr (.inr (.inr (.inr ⟨⟨h1, h2, fun e => h3 (.inl e), fun e => h3 (.inr e), h4, h5⟩, rfl, rfl, rfl⟩))))⟩

/-- The charge's list. -/
def picked (ch : Int) (n p m : Value) : Value := if ch > 0 then p else if ch < 0 then m else n

set_option maxHeartbeats 400000 in
theorem byCharge_any (ch : Int) (an bn cn ap bp cp : Nat) (a b c : Option Addr) (w : World) :
    Calls Tryz.prog 110 #[.int .i64 ch, .slice a an ap, .slice b bn bp, .slice c cn cp] w fun e w' => e = .returned (picked ch (.slice a an ap) (.slice b bn bp) (.slice c cn cp)) ∧ w' = w := by
  by_cases h1 : 0 < ch
  · have e : picked ch (.slice a an ap) (.slice b bn bp) (.slice c cn cp) = .slice b bn bp := by unfold picked; rw [if_pos h1]
    rw [e]
    clear e
    go_enter Tryz.func110, Tryz.ntmps110
    go_wp2
    go_ret
    exact ⟨rfl, rfl⟩
  · by_cases h2 : ch < 0
    · have e : picked ch (.slice a an ap) (.slice b bn bp) (.slice c cn cp) = .slice c cn cp := by unfold picked; rw [if_neg h1, if_pos h2]
      rw [e]
      clear e
      go_enter Tryz.func110, Tryz.ntmps110
      go_wp2
      go_ret
      exact ⟨rfl, rfl⟩
    · have e : picked ch (.slice a an ap) (.slice b bn bp) (.slice c cn cp) = .slice a an ap := by unfold picked; rw [if_neg h1, if_neg h2]
      rw [e]
      clear e
      go_enter Tryz.func110, Tryz.ntmps110
      go_wp2
      go_ret
      exact ⟨rfl, rfl⟩

theorem picked_ints {w : World} {ch : Int} {n p m : Value} {a b c l : List Int} (hl : l = (if ch > 0 then b else if ch < 0 then c else a)) (hn : IntsAt w n a) (hp : IntsAt w p b) (hm : IntsAt w m c) : IntsAt w (picked ch n p m) l := by
  subst hl
  unfold picked
  split
  · exact hp
  · split
    · exact hm
    · exact hn

theorem intsAt_nil (w : World) : IntsAt w (.slice none 0 0) [] := .inl ⟨rfl, rfl⟩
theorem intsAt_mk {w : World} {g : Nat} {l : List Int} {cap : Nat} (h : ∀ j x, l[j]? = some x → w.cell? ⟨g, j, none⟩ = some (.int .i64 x)) : IntsAt w (.slice (some ⟨g, 0, none⟩) l.length cap) l := .inr ⟨g, cap, rfl, h⟩
theorem intsAt1 {w : World} {g : Nat} {x : Int} {cap : Nat} (h : w.cell? ⟨g, 0, none⟩ = some (.int .i64 x)) : IntsAt w (.slice (some ⟨g, 0, none⟩) 1 cap) [x] := intsAt_mk (l := [x]) (by
  intro j y hj
  match j, hj with
  | 0, hj => simp at hj; subst hj; exact h)
theorem intsAt2 {w : World} {g : Nat} {x y : Int} {cap : Nat} (h : w.cell? ⟨g, 0, none⟩ = some (.int .i64 x)) (h1 : w.cell? ⟨g, 1, none⟩ = some (.int .i64 y)) : IntsAt w (.slice (some ⟨g, 0, none⟩) 2 cap) [x, y] := intsAt_mk (l := [x, y]) (by
  intro j z hj
  match j, hj with
  | 0, hj => simp at hj; subst hj; exact h
  | 1, hj => simp at hj; subst hj; exact h1)
theorem intsAt3 {w : World} {g : Nat} {x y z : Int} {cap : Nat} (h : w.cell? ⟨g, 0, none⟩ = some (.int .i64 x)) (h1 : w.cell? ⟨g, 1, none⟩ = some (.int .i64 y)) (h2 : w.cell? ⟨g, 2, none⟩ = some (.int .i64 z)) : IntsAt w (.slice (some ⟨g, 0, none⟩) 3 cap) [x, y, z] := intsAt_mk (l := [x, y, z]) (by
  intro j u hj
  match j, hj with
  | 0, hj => simp at hj; subst hj; exact h
  | 1, hj => simp at hj; subst hj; exact h1
  | 2, hj => simp at hj; subst hj; exact h2)

theorem str_ne {el : ByteArray} {c : UInt8} (h : el ≠ ⟨#[c]⟩) : (el.toList == [c]) = false := by
  rw [ByteArray.toList_eq]
  simp
  intro e
  apply h
  cases el with
  | mk d => simp at e; rw [show d = #[c] from Array.toList_inj.1 e]

set_option maxRecDepth 100000 in
set_option maxHeartbeats 2000000 in
theorem valencesOf_any (el : ByteArray) (ch : Int) (w : World) : Calls Tryz.prog 85 #[.string el, .int .i64 ch] w (ValPost w (valences el ch)) := by
  obtain ⟨a, b, c, hl, hcase⟩ := valences_pick el ch
  have HL : Hid _ := hl
  clear hl
  rcases hcase with ⟨h, rfl, rfl, rfl⟩ | ⟨h, rfl, rfl, rfl⟩ | ⟨h | h, rfl, rfl, rfl⟩ | ⟨h, rfl, rfl, rfl⟩ | ⟨h, rfl, rfl, rfl⟩ | ⟨⟨h1, h2, h3, h4, h5, h6⟩, rfl, rfl, rfl⟩
  · subst h
    go_enter Tryz.func85, Tryz.ntmps85
    go_wp2_with fail
    refine (byCharge_any _ _ _ _ _ _ _ _ _ _ _).mono ?_
    rintro e w' ⟨rfl, rfl⟩
    go_wp2_with fail
    go_ret
    refine ⟨_, rfl, picked_ints HL.out (intsAt1 (by simp [go_sem])) (intsAt_nil _) (intsAt1 (by simp [go_sem])), ?_⟩
    exact (by repeat (first | with_reducible exact Below.refl _ _ | with_reducible refine below_drewN ?_ _ | with_reducible refine Below.drew ?_ | with_reducible refine Below.setCell ?_ (by simp) _ | with_reducible refine Below.alloc ?_ (by simp; try omega) _))
  · subst h
    go_enter Tryz.func85, Tryz.ntmps85
    go_wp2_with fail
    refine (byCharge_any _ _ _ _ _ _ _ _ _ _ _).mono ?_
    rintro e w' ⟨rfl, rfl⟩
    go_wp2_with fail
    go_ret
    refine ⟨_, rfl, picked_ints HL.out (intsAt1 (by simp [go_sem])) (intsAt1 (by simp [go_sem])) (intsAt1 (by simp [go_sem])), ?_⟩
    exact (by repeat (first | with_reducible exact Below.refl _ _ | with_reducible refine below_drewN ?_ _ | with_reducible refine Below.drew ?_ | with_reducible refine Below.setCell ?_ (by simp) _ | with_reducible refine Below.alloc ?_ (by simp; try omega) _))
  · subst h
    go_enter Tryz.func85, Tryz.ntmps85
    go_wp2_with fail
    refine (byCharge_any _ _ _ _ _ _ _ _ _ _ _).mono ?_
    rintro e w' ⟨rfl, rfl⟩
    go_wp2_with fail
    go_ret
    refine ⟨_, rfl, picked_ints HL.out (intsAt2 (by simp [go_sem]) (by simp [go_sem])) (intsAt1 (by simp [go_sem])) (intsAt1 (by simp [go_sem])), ?_⟩
    exact (by repeat (first | with_reducible exact Below.refl _ _ | with_reducible refine below_drewN ?_ _ | with_reducible refine Below.drew ?_ | with_reducible refine Below.setCell ?_ (by simp) _ | with_reducible refine Below.alloc ?_ (by simp; try omega) _))
  · subst h
    go_enter Tryz.func85, Tryz.ntmps85
    go_wp2_with fail
    refine (byCharge_any _ _ _ _ _ _ _ _ _ _ _).mono ?_
    rintro e w' ⟨rfl, rfl⟩
    go_wp2_with fail
    go_ret
    refine ⟨_, rfl, picked_ints HL.out (intsAt2 (by simp [go_sem]) (by simp [go_sem])) (intsAt1 (by simp [go_sem])) (intsAt1 (by simp [go_sem])), ?_⟩
    exact (by repeat (first | with_reducible exact Below.refl _ _ | with_reducible refine below_drewN ?_ _ | with_reducible refine Below.drew ?_ | with_reducible refine Below.setCell ?_ (by simp) _ | with_reducible refine Below.alloc ?_ (by simp; try omega) _))
  · subst h
    go_enter Tryz.func85, Tryz.ntmps85
    go_wp2_with fail
    refine (byCharge_any _ _ _ _ _ _ _ _ _ _ _).mono ?_
    rintro e w' ⟨rfl, rfl⟩
    go_wp2_with fail
    go_ret
    refine ⟨_, rfl, picked_ints HL.out (intsAt1 (by simp [go_sem])) (intsAt1 (by simp [go_sem])) (intsAt1 (by simp [go_sem])), ?_⟩
    exact (by repeat (first | with_reducible exact Below.refl _ _ | with_reducible refine below_drewN ?_ _ | with_reducible refine Below.drew ?_ | with_reducible refine Below.setCell ?_ (by simp) _ | with_reducible refine Below.alloc ?_ (by simp; try omega) _))
  · subst h
    go_enter Tryz.func85, Tryz.ntmps85
    go_wp2_with fail
    refine (byCharge_any _ _ _ _ _ _ _ _ _ _ _).mono ?_
    rintro e w' ⟨rfl, rfl⟩
    go_wp2_with fail
    go_ret
    refine ⟨_, rfl, picked_ints HL.out (intsAt3 (by simp [go_sem]) (by simp [go_sem]) (by simp [go_sem])) (intsAt2 (by simp [go_sem]) (by simp [go_sem])) (intsAt1 (by simp [go_sem])), ?_⟩
    exact (by repeat (first | with_reducible exact Below.refl _ _ | with_reducible refine below_drewN ?_ _ | with_reducible refine Below.drew ?_ | with_reducible refine Below.setCell ?_ (by simp) _ | with_reducible refine Below.alloc ?_ (by simp; try omega) _))
  · have t1 := str_ne h1
    have t2 := str_ne h2
    have t3 := str_ne h3
    have t4 := str_ne h4
    have t5 := str_ne h5
    have t6 := str_ne h6
    clear h1 h2 h3 h4 h5 h6
    go_enter Tryz.func85, Tryz.ntmps85
    go_wp2_with fail
    refine (byCharge_any _ _ _ _ _ _ _ _ _ _ _).mono ?_
    rintro e w' ⟨rfl, rfl⟩
    go_wp2_with fail
    go_ret
    refine ⟨_, rfl, picked_ints HL.out (intsAt1 (by simp [go_sem])) (intsAt1 (by simp [go_sem])) (intsAt1 (by simp [go_sem])), ?_⟩
    exact (by repeat (first | with_reducible exact Below.refl _ _ | with_reducible refine below_drewN ?_ _ | with_reducible refine Below.drew ?_ | with_reducible refine Below.setCell ?_ (by simp) _ | with_reducible refine Below.alloc ?_ (by simp; try omega) _))

theorem missing_cons (v : Int) (l : List Int) (n : Int) : missing (v :: l) n = if n ≤ v then v - n else missing l n := by
  unfold missing
  rw [List.find?_cons]
  by_cases h : n ≤ v <;> simp [h]

theorem intsAt_below {w w' : World} {v : Value} {l : List Int} (h : IntsAt w v l) (hb : Below w.heap.size w w') : IntsAt w' v l := by
  rcases h with ⟨rfl, rfl⟩ | ⟨g, cap, rfl, hc⟩
  · exact .inl ⟨rfl, rfl⟩
  · refine .inr ⟨g, cap, rfl, fun j x hj => ?_⟩
    have := hc j x hj
    rw [hb.cell (p := ⟨g, j, none⟩) (World.block_lt_of_cell? w _ this)]
    exact this

theorem drop_cons {l : List Int} {i : Nat} {x : Int} (h : l[i]? = some x) : l.drop i = x :: l.drop (i + 1) := by
  obtain ⟨h1, h2⟩ := List.getElem?_eq_some_iff.1 h
  rw [List.drop_eq_getElem_cons h1, h2]

set_option maxRecDepth 100000 in
set_option maxHeartbeats 2000000 in
theorem missing_any (w : World) (v : Value) (l : List Int) (n : Int) (hv : IntsAt w v l) (hl : l.length ≤ 10) (hn : 0 ≤ n ∧ n ≤ 100000) (hx : ∀ x ∈ l, 0 ≤ x ∧ x ≤ 9) :
    Calls Tryz.prog 137 #[v, .int .i64 n] w fun e w' => e = .returned (.int .i64 (missing l n)) ∧ w' = w := by
  rcases hv with ⟨rfl, rfl⟩ | ⟨g, cap, rfl, hc⟩
  · have he : Hid (missing [] n = 0) := rfl
    go_enter Tryz.func137, Tryz.ntmps137
    go_wp2_with fail
    refine wp_loop_rounds 1 ?_
    rw [rounds_succ]
    go_wp2_with fail
    go_ret
    exact ⟨ret_int he.out.symm, rfl⟩
  · have HC : Hid _ := hc
    have HX : Hid _ := hx
    clear hc hx
    go_enter Tryz.func137, Tryz.ntmps137
    go_wp2_with fail
    go_loopg [9] (l.length + 1) (fun k vi wr => ∃ i : Nat, i ≤ l.length ∧ l.length - i ≤ k ∧ vi = .int .i64 i ∧ missing l n = missing (l.drop i) n ∧ wr = w)
    case atStart => exact ⟨0, by omega, by omega, rfl, by simp, rfl⟩
    case round =>
      obtain ⟨i, hi, hk, rfl, hm, rfl⟩ := hrel
      have HM : Hid _ := hm
      clear hm
      by_cases hlt : i < l.length
      · have gi := List.getElem?_eq_getElem hlt
        have c0 := HC.out i _ gi
        have hxi := HX.out l[i] (List.getElem_mem _)
        have hd := drop_cons gi
        have hmc := missing_cons l[i] (l.drop (i + 1)) n
        rw [← hd] at hmc
        have HMC : Hid _ := HM.out.trans hmc
        have hlt' : (i : Int) < (l.length : Int) := by omega
        clear hd hmc gi
        generalize l[i] = x at *
        by_cases hxn : n ≤ x
        · rw [if_pos hxn] at HMC
          go_wp2_with fail
          go_ret
          exact ⟨ret_int HMC.out.symm, rfl⟩
        · rw [if_neg hxn] at HMC
          go_wp2_with fail
          go_roundg (l.length - (i + 1))
          case measure => omega
          case rel => exact ⟨i + 1, by omega, Nat.le_refl _, by go_num, HMC.out, rfl⟩
      · have hlt' : ¬ (i : Int) < (l.length : Int) := by omega
        have he : Hid (missing (l.drop i) n = 0) := by unfold Hid; rw [List.drop_eq_nil_of_le (by omega)]; rfl
        go_wp2_with fail
        go_ret
        exact ⟨ret_int (HM.out.trans he.out).symm, rfl⟩

end Go.Proofs.YtcabaecbmkgclaaGreatDoor

namespace Go.Proofs.YtcabaecbmkgclaaGreatDoor
open Go.RowKit Bz

def IdxOk (l : List Int) (n r : Int) : Prop := decide (0 ≤ r) = l.contains n

set_option maxRecDepth 100000 in
set_option maxHeartbeats 2000000 in
theorem index_any (w : World) (v : Value) (l : List Int) (n : Int) (hv : IntsAt w v l) (hl : l.length ≤ 10) :
    Calls Tryz.prog 158 #[v, .int .i64 n] w fun e w' => ∃ r : Int, e = .returned (.int .i64 r) ∧ IdxOk l n r ∧ w' = w := by
  rcases hv with ⟨rfl, rfl⟩ | ⟨g, cap, rfl, hc⟩
  · go_enter Tryz.func158, Tryz.ntmps158
    go_wp2_with fail
    refine wp_loop_rounds 1 ?_
    rw [rounds_succ]
    go_wp2_with fail
    go_ret
    exact ⟨-1, rfl, by unfold IdxOk; simp, rfl⟩
  · have HC : Hid _ := hc
    clear hc
    go_enter Tryz.func158, Tryz.ntmps158
    go_wp2_with fail
    go_loopg [8] (l.length + 1) (fun k vi wr => ∃ i : Nat, i ≤ l.length ∧ l.length - i ≤ k ∧ vi = .int .i64 i ∧ l.contains n = (l.drop i).contains n ∧ wr = w)
    case atStart => exact ⟨0, by omega, by omega, rfl, by simp, rfl⟩
    case round =>
      obtain ⟨i, hi, hk, rfl, hm, rfl⟩ := hrel
      have HM : Hid _ := hm
      clear hm
      by_cases hlt : i < l.length
      · have gi := List.getElem?_eq_getElem hlt
        have c0 := HC.out i _ gi
        have hd := drop_cons gi
        have hlt' : (i : Int) < (l.length : Int) := by omega
        have HD : Hid _ := hd
        clear hd gi
        generalize l[i] = x at *
        by_cases hxn : n = x
        · have tx : (n == x) = true := by simpa using hxn
          have he : Hid (l.contains n = true) := by unfold Hid; rw [HM.out, HD.out, hxn]; simp
          clear hxn
          go_wp2_with fail
          go_ret
          exact ⟨_, rfl, by unfold IdxOk; rw [he.out]; simp, rfl⟩
        · have tx : (n == x) = false := by simpa using hxn
          have he : Hid (l.contains n = (l.drop (i + 1)).contains n) := by unfold Hid; rw [HM.out, HD.out, List.contains_cons, tx, Bool.false_or]
          clear hxn
          go_wp2_with fail
          go_roundg (l.length - (i + 1))
          case measure => omega
          case rel => exact ⟨i + 1, by omega, Nat.le_refl _, by go_num, he.out, rfl⟩
      · have hlt' : ¬ (i : Int) < (l.length : Int) := by omega
        have he : Hid (l.contains n = false) := by unfold Hid; rw [HM.out, List.drop_eq_nil_of_le (by omega)]; rfl
        go_wp2_with fail
        go_ret
        exact ⟨-1, rfl, by unfold IdxOk; rw [he.out]; rfl, rfl⟩

set_option maxHeartbeats 400000 in
theorem contains_any (w : World) (v : Value) (l : List Int) (n : Int) (hv : IntsAt w v l) (hl : l.length ≤ 10) :
    Calls Tryz.prog 139 #[v, .int .i64 n] w fun e w' => e = .returned (.bool (l.contains n)) ∧ w' = w := by
  have hI := index_any w v l n hv hl
  go_enter Tryz.func139, Tryz.ntmps139
  go_wp2_with fail
  refine hI.mono ?_
  rintro e w' ⟨r, rfl, hr, rfl⟩
  have HR : Hid _ := hr
  clear hr
  go_wp2_with fail
  go_ret
  exact ⟨ret_bool HR.out, rfl⟩

def aV (a : Atm) : Value := .agg #[.string a.el, .bool a.aro, .int .i64 a.ch, .int .i64 a.hy]

theorem valences_len (el : ByteArray) (ch : Int) : (valences el ch).length ≤ 3 ∧ ∀ x ∈ valences el ch, 0 ≤ x ∧ x ≤ 9 := by
  obtain ⟨a, b, c, hl, hc⟩ := valences_pick el ch
  rw [hl]
  rcases hc with ⟨_, rfl, rfl, rfl⟩ | ⟨_, rfl, rfl, rfl⟩ | ⟨_, rfl, rfl, rfl⟩ | ⟨_, rfl, rfl, rfl⟩ | ⟨_, rfl, rfl, rfl⟩ | ⟨_, rfl, rfl, rfl⟩
  all_goals
    split
    · simp
    · split <;> simp

set_option maxHeartbeats 1000000 in
theorem firstValence_any (a : Atm) (x : Int) (r : List Int) (hx : valences a.el a.ch = x :: r) (w : World) :
    Calls Tryz.prog 61 #[aV a] w fun e w' => e = .returned (.int .i64 x) ∧ Below w.heap.size w w' := by
  unfold aV
  go_enter Tryz.func61, Tryz.ntmps61
  go_wp2_with fail
  refine (valencesOf_any _ _ _).mono ?_
  rintro e w1 ⟨v, rfl, hv, hb⟩
  rw [hx] at hv
  rcases hv with ⟨h, _⟩ | ⟨g, cap, rfl, hc⟩
  · cases h
  · have c0 := hc 0 x rfl
    have hl : (x :: r).length = r.length + 1 := rfl
    rw [hl]
    clear hx hc hl
    go_wp2_with fail
    go_ret
    exact ⟨rfl, ((Below.refl _ _).alloc (Nat.le_refl _) _).trans (hb.mono (by simp))⟩

set_option maxHeartbeats 1000000 in
theorem implied_any (a : Atm) (n : Int) (hn : 0 ≤ n ∧ n ≤ 100000) (w : World) :
    Calls Tryz.prog 108 #[aV a, .int .i64 n] w fun e w' => e = .returned (.int .i64 (implied a n)) ∧ Below w.heap.size w w' := by
  unfold aV
  cases ha : a.aro
  · have HI : Hid (implied a n = missing (valences a.el a.ch) n) := by unfold Hid implied; rw [ha]; rfl
    clear ha
    go_enter Tryz.func108, Tryz.ntmps108
    go_wp2_with fail
    refine (valencesOf_any _ _ _).mono ?_
    rintro e w1 ⟨v, rfl, hv, hb⟩
    have hM := missing_any w1 v _ n hv (by have := (valences_len a.el a.ch).1; omega) hn (valences_len a.el a.ch).2
    clear hv
    go_wp2_with fail
    refine hM.mono ?_
    rintro e w2 ⟨rfl, rfl⟩
    go_wp2_with fail
    go_ret
    exact ⟨ret_int HI.out.symm, ((Below.refl _ _).alloc (Nat.le_refl _) _).trans (hb.mono (by simp))⟩
  · obtain ⟨n0, n1⟩ := hn
    by_cases hc : a.el = ⟨#[67]⟩
    · have HI : Hid (implied a n = max (3 - n) 0) := by unfold Hid implied; rw [ha, if_pos rfl, if_pos hc]
      rw [hc]
      clear ha hc
      by_cases h3 : n ≤ 3
      · have e : Hid (max (3 - n) 0 = 3 - n) := by unfold Hid; omega
        go_enter Tryz.func108, Tryz.ntmps108
        go_wp2_with fail
        go_ret
        exact ⟨ret_int (HI.out.trans e.out).symm, (Below.refl _ _).alloc (Nat.le_refl _) _⟩
      · have e : Hid (max (3 - n) 0 = 0) := by unfold Hid; omega
        go_enter Tryz.func108, Tryz.ntmps108
        go_wp2_with fail
        go_ret
        exact ⟨ret_int (HI.out.trans e.out).symm, (Below.refl _ _).alloc (Nat.le_refl _) _⟩
    · have HI : Hid (implied a n = 0) := by unfold Hid implied; rw [ha, if_pos rfl, if_neg hc]
      have tc := str_ne hc
      clear ha hc
      go_enter Tryz.func108, Tryz.ntmps108
      go_wp2_with fail
      go_ret
      exact ⟨ret_int HI.out.symm, (Below.refl _ _).alloc (Nat.le_refl _) _⟩
end Go.Proofs.YtcabaecbmkgclaaGreatDoor

namespace Go.Proofs.YtcabaecbmkgclaaGreatDoor
open Go.RowKit Bz

section
variable {w : World} {B : Nat} {s : ByteArray} {p : St}

/-- Atom i in the list: where its six cells lie. -/
structure AtI (w : World) (B g cap n i : Nat) (a : Atm) : Prop where
  sl : w.cell? ⟨B, 26, none⟩ = some (.slice (some ⟨g, 0, none⟩) n cap)
  c0 : w.cell? ⟨g, i * 6, none⟩ = some (.string a.el)
  c1 : w.cell? ⟨g, i * 6 + 1, none⟩ = some (.bool a.aro)
  c2 : w.cell? ⟨g, i * 6 + 2, none⟩ = some (.int .i64 a.ch)
  c3 : w.cell? ⟨g, i * 6 + 3, none⟩ = some (.int .i64 a.hy)
  c4 : w.cell? ⟨g, i * 6 + 4, none⟩ = some (.int .i64 a.pl)
  c5 : w.cell? ⟨g, i * 6 + 5, none⟩ = some (.bool a.br)

theorem Rd.atI (h : Rd w B s p) {i : Nat} {a : Atm} (hi : p.atoms[i]? = some a) : ∃ g cap, AtI w B g cap p.atoms.length i a ∧ g < w.heap.size := by
  have hl : i < p.atoms.length := (List.getElem?_eq_some_iff.1 hi).1
  obtain ⟨g, cap, hv, hc, _, _, hg⟩ := h.atomsAt (by omega)
  exact ⟨g, cap, ⟨hv, hc i a 0 _ hi rfl, hc i a 1 _ hi rfl, hc i a 2 _ hi rfl, hc i a 3 _ hi rfl, hc i a 4 _ hi rfl, hc i a 5 _ hi rfl⟩, hg⟩

theorem AtI.below {w' : World} {g cap n i : Nat} {a : Atm} (h : AtI w B g cap n i a) (hB : B < w.heap.size) (hg : g < w.heap.size) (hb : Below w.heap.size w w') : AtI w' B g cap n i a :=
  ⟨(hb.cell (p := ⟨B, 26, none⟩) hB).trans h.sl, (hb.cell (p := ⟨g, i * 6, none⟩) hg).trans h.c0, (hb.cell (p := ⟨g, i * 6 + 1, none⟩) hg).trans h.c1, (hb.cell (p := ⟨g, i * 6 + 2, none⟩) hg).trans h.c2,
    (hb.cell (p := ⟨g, i * 6 + 3, none⟩) hg).trans h.c3, (hb.cell (p := ⟨g, i * 6 + 4, none⟩) hg).trans h.c4, (hb.cell (p := ⟨g, i * 6 + 5, none⟩) hg).trans h.c5⟩

theorem sum_bound (o : Ok s p) (hs : s.size ≤ 160) (i : Nat) : 0 ≤ Bz.sum p.bonds i ∧ Bz.sum p.bonds i ≤ 1000 := by
  have h := sum_bd p.bonds i o.ords p.bonds.length (Nat.le_refl _)
  rw [List.take_length] at h
  have := o.bonds
  have := o.pos
  omega

def fill (p : St) (i : Nat) (a : Atm) : Int := Bz.sum p.bonds i + a.hy

set_option maxRecDepth 100000 in
set_option maxHeartbeats 2000000 in
theorem filled_any (h : Rd w B s p) (o : Ok s p) (hs : s.size ≤ 160) (i : Nat) (a : Atm) (hi : p.atoms[i]? = some a) :
    Calls Tryz.prog 60 #[.pointer (some ⟨B, 2, none⟩), .int .i64 i] w fun e w' => e = .returned (.int .i64 (fill p i a)) ∧ Below w.heap.size w w' := by
  obtain ⟨g, cap, hA, hg⟩ := h.atI hi
  have hB := h.lt
  have hl : i < p.atoms.length := (List.getElem?_eq_some_iff.1 hi).1
  have hl' : (i : Int) < (p.atoms.length : Int) := by omega
  have hn := o.atoms
  have hsb := sum_bound o hs i
  have hhy := o.hys a (List.mem_of_getElem? hi)
  have hS : Calls Tryz.prog 84 #[.pointer (some ⟨B, 2, none⟩), .int .i64 i] w.drew fun e w' => e = .returned (.int .i64 (Bz.sum p.bonds i)) ∧ Below w.heap.size w w' ∧ w'.cell? ⟨B, 26, none⟩ = some (.slice (some ⟨g, 0, none⟩) p.atoms.length cap) ∧ w'.cell? ⟨g, i * 6 + 3, none⟩ = some (.int .i64 a.hy) := by
    refine (sum_any h.drew i (by have := o.bonds; have := o.pos; omega) o.ords).mono ?_
    rintro e w' ⟨he, hb⟩
    have hb' : Below w.heap.size w w' := (Below.refl _ _).drew.trans hb
    have hA' := hA.below hB hg hb'
    exact ⟨he, hb', hA'.sl, hA'.c3⟩
  have HF : Hid (fill p i a = Bz.sum p.bonds i + a.hy) := rfl
  have q0 := hA.sl
  have q1 := hA.c3
  clear hA
  generalize Bz.sum p.bonds i = sm at *
  generalize a.hy = hy at *
  go_enter Tryz.func60, Tryz.ntmps60
  go_wp2_with fail
  go_region_held3 (fun w' => w'.cell? ⟨B, 26, none⟩ = some (.slice (some ⟨g, 0, none⟩) p.atoms.length cap) ∧ w'.cell? ⟨g, i * 6 + 3, none⟩ = some (.int .i64 hy)) (go_keep) (first | (go_at_call 84; refine hS.mono ?_; rintro e w' ⟨rfl, hb, i0, i1⟩))
  all_goals
    go_wp2_with fail
    go_ret
    exact ⟨ret_int (by first | exact HF.out.symm | (rw [HF.out, IntKind.wrap_i64]; omega)), hb⟩

/-- The atom in candidate's own box. -/
structure CandAt (w wx : World) (a : Atm) : Prop where
  c0 : wx.cell? ⟨w.heap.size, 0, none⟩ = some (.string a.el)
  c1 : wx.cell? ⟨w.heap.size, 1, none⟩ = some (.bool a.aro)
  c2 : wx.cell? ⟨w.heap.size, 2, none⟩ = some (.int .i64 a.ch)
  c3 : wx.cell? ⟨w.heap.size, 3, none⟩ = some (.int .i64 a.hy)
  below : Below w.heap.size w wx

theorem CandAt.step {wx w' : World} {a : Atm} (h : CandAt w wx a) (hb : Below wx.heap.size wx w') : CandAt w w' a := by
  have hl : w.heap.size < wx.heap.size := World.block_lt_of_cell? wx ⟨w.heap.size, 0, none⟩ h.c0
  exact ⟨(hb.cell (p := ⟨w.heap.size, 0, none⟩) hl).trans h.c0, (hb.cell (p := ⟨w.heap.size, 1, none⟩) hl).trans h.c1, (hb.cell (p := ⟨w.heap.size, 2, none⟩) hl).trans h.c2, (hb.cell (p := ⟨w.heap.size, 3, none⟩) hl).trans h.c3, h.below.trans (hb.mono h.below.size)⟩

set_option maxRecDepth 100000 in
set_option maxHeartbeats 2000000 in
theorem candidate_yes (h : Rd w B s p) (o : Ok s p) (hs : s.size ≤ 160) (i : Nat) (a : Atm) (hi : p.atoms[i]? = some a) (ha : a.aro = true) (x : Int) (r : List Int) (hx : valences a.el a.ch = x :: r) :
    Calls Tryz.prog 32 #[.pointer (some ⟨B, 2, none⟩), .int .i64 i] w fun e w' => e = .returned (.bool (fill p i a == x - 1)) ∧ Below w.heap.size w w' := by
  obtain ⟨g, cap, hA, hg⟩ := h.atI hi
  have hB := h.lt
  have hl : i < p.atoms.length := (List.getElem?_eq_some_iff.1 hi).1
  have hl' : (i : Int) < (p.atoms.length : Int) := by omega
  have hn := o.atoms
  have hx9 := (valences_len a.el a.ch).2 x (by rw [hx]; simp)
  have HW : Hid (∀ wx, CandAt w wx a → Calls Tryz.prog 60 #[.pointer (some ⟨B, 2, none⟩), .int .i64 i] wx fun e w' => e = .returned (.int .i64 (fill p i a)) ∧ CandAt w w' a ∧ w'.cell? ⟨w.heap.size, 0, none⟩ = some (.string a.el) ∧
      w'.cell? ⟨w.heap.size, 1, none⟩ = some (.bool true) ∧ w'.cell? ⟨w.heap.size, 2, none⟩ = some (.int .i64 a.ch) ∧ w'.cell? ⟨w.heap.size, 3, none⟩ = some (.int .i64 a.hy)) := by
    intro wx hwx
    refine (filled_any (h.below hwx.below) o hs i a hi).mono ?_
    rintro e w' ⟨he, hb⟩
    have hc := hwx.step hb
    exact ⟨he, hc, hc.c0, ha ▸ hc.c1, hc.c2, hc.c3⟩
  have HV : Hid (∀ wx, CandAt w wx a → Calls Tryz.prog 61 #[.agg #[.string a.el, .bool true, .int .i64 a.ch, .int .i64 a.hy]] wx fun e w' => e = .returned (.int .i64 x) ∧ CandAt w w' a ∧ w'.cell? ⟨w.heap.size, 0, none⟩ = some (.string a.el) ∧
      w'.cell? ⟨w.heap.size, 1, none⟩ = some (.bool true) ∧ w'.cell? ⟨w.heap.size, 2, none⟩ = some (.int .i64 a.ch) ∧ w'.cell? ⟨w.heap.size, 3, none⟩ = some (.int .i64 a.hy)) := by
    intro wx hwx
    have hfv := firstValence_any a x r hx wx
    unfold aV at hfv
    rw [ha] at hfv
    refine hfv.mono ?_
    rintro e w' ⟨he, hb⟩
    have hc := hwx.step hb
    exact ⟨he, hc, hc.c0, ha ▸ hc.c1, hc.c2, hc.c3⟩
  have q0 := hA.sl
  have q1 := hA.c0
  have q2 := hA.c1
  rw [ha] at q2
  have q3 := hA.c2
  have q4 := hA.c3
  have hb0 : CandAt w ((w.alloc (.cells #[.string a.el, .bool true, .int .i64 a.ch, .int .i64 a.hy] 50)).drew) a := ⟨by simp [go_sem], by rw [ha]; simp [go_sem], by simp [go_sem], by simp [go_sem], ((Below.refl _ _).alloc (Nat.le_refl _) _).drew⟩
  have HX : Hid (0 ≤ x ∧ x ≤ 9) := hx9
  clear hA hx hx9 ha
  generalize fill p i a = fl at *
  go_enter Tryz.func32, Tryz.ntmps32
  go_wp2_with fail
  go_region_held3 (fun w' => w'.cell? ⟨w.heap.size, 0, none⟩ = some (.string a.el) ∧ w'.cell? ⟨w.heap.size, 1, none⟩ = some (.bool true) ∧ w'.cell? ⟨w.heap.size, 2, none⟩ = some (.int .i64 a.ch) ∧ w'.cell? ⟨w.heap.size, 3, none⟩ = some (.int .i64 a.hy)) (go_keep) (first | (go_at_call 60; refine (HW.out _ (by assumption)).mono ?_; rintro e w' ⟨rfl, hb, i0, i1, i2, i3⟩) | (go_at_call 61; refine (HV.out _ (by assumption)).mono ?_; rintro e w' ⟨rfl, hb', j0, j1, j2, j3⟩))
  all_goals
    go_wp2_with fail
    go_ret
    exact ⟨ret_bool (by have := HX.out; first | rfl | (rw [IntKind.wrap_i64, show (x - 1 + 9223372036854775808) % 18446744073709551616 - 9223372036854775808 = x - 1 from by omega])), (show CandAt w _ a by assumption).below⟩

set_option maxRecDepth 100000 in
set_option maxHeartbeats 2000000 in
theorem candidate_no (h : Rd w B s p) (i : Nat) (a : Atm) (hi : p.atoms[i]? = some a) (ha : a.aro = false) :
    Calls Tryz.prog 32 #[.pointer (some ⟨B, 2, none⟩), .int .i64 i] w fun e w' => e = .returned (.bool false) ∧ Below w.heap.size w w' := by
  obtain ⟨g, cap, hA, hg⟩ := h.atI hi
  have hB := h.lt
  have hl : i < p.atoms.length := (List.getElem?_eq_some_iff.1 hi).1
  have hl' : (i : Int) < (p.atoms.length : Int) := by omega
  have q0 := hA.sl
  have q1 := hA.c0
  have q2 := hA.c1
  rw [ha] at q2
  have q3 := hA.c2
  have q4 := hA.c3
  have HB : Hid (∀ n, Below w.heap.size w ((w.alloc (.cells #[.string a.el, .bool false, .int .i64 a.ch, .int .i64 a.hy] 50)).drewN n)) := fun n => below_drewN ((Below.refl _ _).alloc (Nat.le_refl _) _) n
  clear hA ha
  go_enter Tryz.func32, Tryz.ntmps32
  go_wp2_with fail
  go_quiet (fail)
  go_wp2_with fail
  go_ret
  exact ⟨rfl, HB.out _⟩

set_option maxRecDepth 100000 in
set_option maxHeartbeats 2000000 in
theorem finished_any (h : Rd w B s p) (o : Ok s p) (hs : s.size ≤ 160) (i : Nat) (a : Atm) (hi : p.atoms[i]? = some a) (x : Int) (r : List Int) (hx : valences a.el a.ch = x :: r) :
    Calls Tryz.prog 138 #[.pointer (some ⟨B, 2, none⟩), .int .i64 i] w fun e w' => e = .returned (.bool (fill p i a == x)) ∧ Below w.heap.size w w' := by
  obtain ⟨g, cap, hA, hg⟩ := h.atI hi
  have hB := h.lt
  have hl : i < p.atoms.length := (List.getElem?_eq_some_iff.1 hi).1
  have hl' : (i : Int) < (p.atoms.length : Int) := by omega
  have hn := o.atoms
  have hx9 := (valences_len a.el a.ch).2 x (by rw [hx]; simp)
  have HW : Hid (∀ wx, Below w.heap.size w wx → Calls Tryz.prog 60 #[.pointer (some ⟨B, 2, none⟩), .int .i64 i] wx fun e w' => e = .returned (.int .i64 (fill p i a)) ∧ Below w.heap.size w w' ∧ w'.cell? ⟨B, 26, none⟩ = some (.slice (some ⟨g, 0, none⟩) p.atoms.length cap) ∧ w'.cell? ⟨g, i * 6, none⟩ = some (.string a.el) ∧
      w'.cell? ⟨g, i * 6 + 1, none⟩ = some (.bool a.aro) ∧ w'.cell? ⟨g, i * 6 + 2, none⟩ = some (.int .i64 a.ch) ∧ w'.cell? ⟨g, i * 6 + 3, none⟩ = some (.int .i64 a.hy)) := by
    intro wx hwx
    refine (filled_any (h.below hwx) o hs i a hi).mono ?_
    rintro e w' ⟨he, hb⟩
    have hb' : Below w.heap.size w w' := hwx.trans (hb.mono hwx.size)
    have hA' := hA.below hB hg hb'
    exact ⟨he, hb', hA'.sl, hA'.c0, hA'.c1, hA'.c2, hA'.c3⟩
  have HV : Hid (∀ wx, Below w.heap.size w wx → Calls Tryz.prog 61 #[.agg #[.string a.el, .bool a.aro, .int .i64 a.ch, .int .i64 a.hy]] wx fun e w' => e = .returned (.int .i64 x) ∧ Below w.heap.size w w' ∧ w'.cell? ⟨B, 26, none⟩ = some (.slice (some ⟨g, 0, none⟩) p.atoms.length cap) ∧ w'.cell? ⟨g, i * 6, none⟩ = some (.string a.el) ∧
      w'.cell? ⟨g, i * 6 + 1, none⟩ = some (.bool a.aro) ∧ w'.cell? ⟨g, i * 6 + 2, none⟩ = some (.int .i64 a.ch) ∧ w'.cell? ⟨g, i * 6 + 3, none⟩ = some (.int .i64 a.hy)) := by
    intro wx hwx
    refine (firstValence_any a x r hx wx).mono ?_
    rintro e w' ⟨he, hb⟩
    have hb' : Below w.heap.size w w' := hwx.trans (hb.mono hwx.size)
    have hA' := hA.below hB hg hb'
    exact ⟨he, hb', hA'.sl, hA'.c0, hA'.c1, hA'.c2, hA'.c3⟩
  have q0 := hA.sl
  have q1 := hA.c0
  have q2 := hA.c1
  have q3 := hA.c2
  have q4 := hA.c3
  have hb0 : Below w.heap.size w w.drew := (Below.refl _ _).drew
  clear hA hx
  generalize fill p i a = fl at *
  go_enter Tryz.func138, Tryz.ntmps138
  go_wp2_with fail
  go_region_held3 (fun w' => w'.cell? ⟨B, 26, none⟩ = some (.slice (some ⟨g, 0, none⟩) p.atoms.length cap) ∧ w'.cell? ⟨g, i * 6, none⟩ = some (.string a.el) ∧ w'.cell? ⟨g, i * 6 + 1, none⟩ = some (.bool a.aro) ∧ w'.cell? ⟨g, i * 6 + 2, none⟩ = some (.int .i64 a.ch) ∧ w'.cell? ⟨g, i * 6 + 3, none⟩ = some (.int .i64 a.hy)) (go_keep) (first | (go_at_call 60; refine (HW.out _ (by assumption)).mono ?_; rintro e w' ⟨rfl, hb, i0, i1, i2, i3, i4⟩) | (go_at_call 61; refine (HV.out _ (by assumption)).mono ?_; rintro e w' ⟨rfl, hb', j0, j1, j2, j3, j4⟩))
  all_goals
    go_wp2_with fail
    go_ret
    exact ⟨ret_bool (by first | rfl | rfl), by assumption⟩
end
end Go.Proofs.YtcabaecbmkgclaaGreatDoor

namespace Go.Proofs.YtcabaecbmkgclaaGreatDoor.Kd
open Go.RowKit Bz

/-- A molecule lies in block B; its lists lie from base on. -/
structure Kd (w : World) (B base : Nat) (p : St) : Prop where
  atoms : ∃ v, w.cell? ⟨B, 24, none⟩ = some v ∧ w.ownsRow base 124 6 v p.atoms.length (p.atoms.flatMap atmCells)
  bonds : ∃ v, w.cell? ⟨B, 25, none⟩ = some v ∧ w.ownsRow base 102 4 v p.bonds.length (p.bonds.flatMap pbCells)
  lt : B < w.heap.size

section
variable {w : World} {B base : Nat} {s : ByteArray} {p : St}

theorem Kd.below {w' : World} (h : Kd w B base p) (hb : Below w.heap.size w w') : Kd w' B base p := by
  obtain ⟨v, hv, ho⟩ := h.atoms
  obtain ⟨u, hu, hq⟩ := h.bonds
  exact ⟨⟨v, (hb.cell (p := ⟨B, 24, none⟩) h.lt).trans hv, ownsRow_same ho fun k hk => hb.block k (ho.lt k hk).2⟩, ⟨u, (hb.cell (p := ⟨B, 25, none⟩) h.lt).trans hu, ownsRow_same hq fun k hk => hb.block k (hq.lt k hk).2⟩, Nat.lt_of_lt_of_le h.lt hb.size⟩
theorem Kd.drew (h : Kd w B base p) : Kd w.drew B base p := ⟨h.atoms, h.bonds, h.lt⟩

theorem Kd.atomsAt (h : Kd w B base p) (hn : 0 < p.atoms.length) : ∃ g cap, w.cell? ⟨B, 24, none⟩ = some (.slice (some ⟨g, 0, none⟩) p.atoms.length cap) ∧
    (∀ i a j v, p.atoms[i]? = some a → (atmCells a)[j]? = some v → w.cell? ⟨g, i * 6 + j, none⟩ = some v) ∧ (∀ j, w.frozen? ⟨g, j, none⟩ = false) ∧ base ≤ g ∧ g < w.heap.size := by
  obtain ⟨v, hv, ho⟩ := h.atoms
  obtain ⟨g, cap, rfl, h1, h2, h3, h4⟩ := ownsRow_at ho hn
  refine ⟨g, cap, hv, ?_, h4, h1, h2⟩
  intro i a j u hi hj
  have hj6 : j < 6 := by
    have := (List.getElem?_eq_some_iff.1 hj).1
    simpa [atmCells_len] using this
  have hil : i < p.atoms.length := (List.getElem?_eq_some_iff.1 hi).1
  rw [h3 (i * 6 + j) (by omega), flatMap_get atmCells 6 atmCells_len _ i j a hi hj6, hj]

theorem Kd.bondsAt (h : Kd w B base p) (hn : 0 < p.bonds.length) : ∃ g cap, w.cell? ⟨B, 25, none⟩ = some (.slice (some ⟨g, 0, none⟩) p.bonds.length cap) ∧
    (∀ i a j v, p.bonds[i]? = some a → (pbCells a)[j]? = some v → w.cell? ⟨g, i * 4 + j, none⟩ = some v) ∧ (∀ j, w.frozen? ⟨g, j, none⟩ = false) ∧ base ≤ g ∧ g < w.heap.size := by
  obtain ⟨v, hv, ho⟩ := h.bonds
  obtain ⟨g, cap, rfl, h1, h2, h3, h4⟩ := ownsRow_at ho hn
  refine ⟨g, cap, hv, ?_, h4, h1, h2⟩
  intro i a j u hi hj
  have hj6 : j < 4 := by
    have := (List.getElem?_eq_some_iff.1 hj).1
    simpa [pbCells_len] using this
  have hil : i < p.bonds.length := (List.getElem?_eq_some_iff.1 hi).1
  rw [h3 (i * 4 + j) (by omega), flatMap_get pbCells 4 pbCells_len _ i j a hi hj6, hj]

theorem Kd.bondsLen (h : Kd w B base p) : ∃ ao cap, w.cell? ⟨B, 25, none⟩ = some (.slice ao p.bonds.length cap) := by
  obtain ⟨v, hv, ho⟩ := h.bonds
  obtain ⟨ao, cap, rfl⟩ := ownsRow_shape ho
  exact ⟨ao, cap, hv⟩

set_option maxRecDepth 100000 in
set_option maxHeartbeats 2000000 in
theorem sum_any (h : Kd w B base p) (a : Nat) (hb : p.bonds.length ≤ 1000) (ho : ∀ b ∈ p.bonds, 1 ≤ b.o ∧ b.o ≤ 4) :
    Calls Tryz.prog 84 #[.pointer (some ⟨B, 0, none⟩), .int .i64 a] w fun e w' => e = .returned (.int .i64 (Bz.sum p.bonds a)) ∧ Below w.heap.size w w' := by
  have hsb := sum_bd p.bonds a ho
  by_cases hl : p.bonds.length = 0
  · obtain ⟨ao, cap, hc⟩ := h.bondsLen
    rw [hl] at hc
    have he : Hid (Bz.sum p.bonds a = 0) := by unfold Hid; rw [List.eq_nil_of_length_eq_zero hl]; rfl
    clear hsb hl ho
    go_enter Tryz.func84, Tryz.ntmps84
    go_wp2_with fail
    refine wp_loop_rounds 1 ?_
    rw [rounds_succ]
    go_wp2_with fail
    go_ret
    exact ⟨ret_int he.out.symm, Below.refl _ _⟩
  · obtain ⟨g, cap, hv, hc, _, hBg, hgl⟩ := h.bondsAt (by omega)
    have HC : Hid _ := hc
    have HO : Hid _ := ho
    have HS : Hid _ := hsb
    clear hc ho hsb
    go_enter Tryz.func84, Tryz.ntmps84
    go_wp2_with fail
    go_loopg [5, 13] (p.bonds.length + 1) (fun k vs vi wr => SumAt w p.bonds a k vs vi wr)
    case atStart => exact ⟨0, by omega, by omega, rfl, by simp [Bz.sum], Below.refl _ _⟩
    case round =>
      obtain ⟨i, hi, hk, rfl, rfl, hbel⟩ := hrel
      by_cases hlt : i < p.bonds.length
      · have hsi := HS.out i hi
        have hst := sum_take p.bonds a i hlt
        have hbo := HO.out p.bonds[i] (List.getElem_mem _)
        have gi := List.getElem?_eq_getElem hlt
        have c0 := (hbel.cell (p := ⟨g, i * 4, none⟩) hgl).trans (HC.out i _ 0 _ gi rfl)
        have c1 := (hbel.cell (p := ⟨g, i * 4 + 1, none⟩) hgl).trans (HC.out i _ 1 _ gi rfl)
        have c2 := (hbel.cell (p := ⟨g, i * 4 + 2, none⟩) hgl).trans (HC.out i _ 2 _ gi rfl)
        have c3 := (hbel.cell (p := ⟨g, i * 4 + 3, none⟩) hgl).trans (HC.out i _ 3 _ gi rfl)
        have hsz := hbel.size
        have hlt' : (i : Int) < (p.bonds.length : Int) := by omega
        generalize p.bonds[i] = b at *
        obtain ⟨ba, bb, bo, bpl⟩ := b
        simp only at c0 c1 c2 c3 hbo
        have HST : Hid _ := hst
        clear hst gi
        generalize Bz.sum (p.bonds.take i) a = sm at *
        have t4 : (bo == 4) = true ∨ (bo == 4) = false := by cases (bo == 4) <;> simp
        have fin : ∀ wx, Below w.heap.size w wx → ∀ u : Int, u = sm + part a ⟨ba, bb, bo, bpl⟩ → SumAt w p.bonds a (p.bonds.length - (i + 1)) (.int .i64 u) (.int .i64 ((i : Int) + 1)) wx := by
          intro wx hx u hu
          exact ⟨i + 1, by omega, Nat.le_refl _, by go_num, by rw [HST.out, hu], hx⟩
        have FIN : Hid _ := fin
        clear fin
        by_cases hin : ba = a ∨ bb = a
        · have tin : ((ba : Int) != (a : Int)) = false ∨ ((ba : Int) != (a : Int)) = true ∧ ((bb : Int) != (a : Int)) = false := by
            by_cases e : ba = a
            · left; simp [e]
            · right
              have e2 : bb = a := by omega
              exact ⟨by simp; omega, by simp [e2]⟩
          have HP : Hid (part a ⟨ba, bb, bo, bpl⟩ = if bo = 4 then 1 else bo) := by unfold Hid part; rw [if_pos hin]
          clear hin
          rcases t4 with t4 | t4
          · have hp : Hid (part a ⟨ba, bb, bo, bpl⟩ = 1) := by unfold Hid; rw [HP.out, if_pos (by simpa using t4)]
            rcases tin with tin | ⟨tin, tin2⟩
            all_goals
              go_wp2_with fail
              go_roundg (p.bonds.length - (i + 1))
              case measure => omega
              case rel => exact FIN.out _ (hbel.alloc hsz _) _ (by rw [hp.out])
          · have hp : Hid (part a ⟨ba, bb, bo, bpl⟩ = bo) := by unfold Hid; rw [HP.out, if_neg (by simpa using t4)]
            rcases tin with tin | ⟨tin, tin2⟩
            all_goals
              go_wp2_with fail
              go_roundg (p.bonds.length - (i + 1))
              case measure => omega
              case rel => exact FIN.out _ (hbel.alloc hsz _) _ (by rw [hp.out])
        · have hp : Hid (part a ⟨ba, bb, bo, bpl⟩ = 0) := by unfold Hid part; rw [if_neg hin]
          have tin : ((ba : Int) != (a : Int)) = true := by simp; omega
          have tin2 : ((bb : Int) != (a : Int)) = true := by simp; omega
          clear hin t4
          go_wp2_with fail
          go_roundg (p.bonds.length - (i + 1))
          case measure => omega
          case rel => exact FIN.out _ (hbel.alloc hsz _) _ (by rw [hp.out]; omega)
      · have hi' : i = p.bonds.length := by omega
        have he : Hid (Bz.sum (p.bonds.take i) a = Bz.sum p.bonds a) := by unfold Hid; rw [hi', List.take_length]
        have hlt' : ¬ (i : Int) < (p.bonds.length : Int) := by omega
        clear hi'
        go_wp2_with fail
        go_ret
        exact ⟨ret_int he.out, hbel⟩
/-- Atom i in the list: where its six cells lie. -/
structure AtI (w : World) (B g cap n i : Nat) (a : Atm) : Prop where
  sl : w.cell? ⟨B, 24, none⟩ = some (.slice (some ⟨g, 0, none⟩) n cap)
  c0 : w.cell? ⟨g, i * 6, none⟩ = some (.string a.el)
  c1 : w.cell? ⟨g, i * 6 + 1, none⟩ = some (.bool a.aro)
  c2 : w.cell? ⟨g, i * 6 + 2, none⟩ = some (.int .i64 a.ch)
  c3 : w.cell? ⟨g, i * 6 + 3, none⟩ = some (.int .i64 a.hy)
  c4 : w.cell? ⟨g, i * 6 + 4, none⟩ = some (.int .i64 a.pl)
  c5 : w.cell? ⟨g, i * 6 + 5, none⟩ = some (.bool a.br)

theorem Kd.atI (h : Kd w B base p) {i : Nat} {a : Atm} (hi : p.atoms[i]? = some a) : ∃ g cap, AtI w B g cap p.atoms.length i a ∧ g < w.heap.size := by
  have hl : i < p.atoms.length := (List.getElem?_eq_some_iff.1 hi).1
  obtain ⟨g, cap, hv, hc, _, _, hg⟩ := h.atomsAt (by omega)
  exact ⟨g, cap, ⟨hv, hc i a 0 _ hi rfl, hc i a 1 _ hi rfl, hc i a 2 _ hi rfl, hc i a 3 _ hi rfl, hc i a 4 _ hi rfl, hc i a 5 _ hi rfl⟩, hg⟩

theorem AtI.below {w' : World} {g cap n i : Nat} {a : Atm} (h : AtI w B g cap n i a) (hB : B < w.heap.size) (hg : g < w.heap.size) (hb : Below w.heap.size w w') : AtI w' B g cap n i a :=
  ⟨(hb.cell (p := ⟨B, 24, none⟩) hB).trans h.sl, (hb.cell (p := ⟨g, i * 6, none⟩) hg).trans h.c0, (hb.cell (p := ⟨g, i * 6 + 1, none⟩) hg).trans h.c1, (hb.cell (p := ⟨g, i * 6 + 2, none⟩) hg).trans h.c2,
    (hb.cell (p := ⟨g, i * 6 + 3, none⟩) hg).trans h.c3, (hb.cell (p := ⟨g, i * 6 + 4, none⟩) hg).trans h.c4, (hb.cell (p := ⟨g, i * 6 + 5, none⟩) hg).trans h.c5⟩

set_option maxRecDepth 100000 in
set_option maxHeartbeats 2000000 in
theorem filled_any (h : Kd w B base p) (o : Ok s p) (hs : s.size ≤ 160) (i : Nat) (a : Atm) (hi : p.atoms[i]? = some a) :
    Calls Tryz.prog 60 #[.pointer (some ⟨B, 0, none⟩), .int .i64 i] w fun e w' => e = .returned (.int .i64 (fill p i a)) ∧ Below w.heap.size w w' := by
  obtain ⟨g, cap, hA, hg⟩ := h.atI hi
  have hB := h.lt
  have hl : i < p.atoms.length := (List.getElem?_eq_some_iff.1 hi).1
  have hl' : (i : Int) < (p.atoms.length : Int) := by omega
  have hn := o.atoms
  have hsb := sum_bound o hs i
  have hhy := o.hys a (List.mem_of_getElem? hi)
  have hS : Calls Tryz.prog 84 #[.pointer (some ⟨B, 0, none⟩), .int .i64 i] w.drew fun e w' => e = .returned (.int .i64 (Bz.sum p.bonds i)) ∧ Below w.heap.size w w' ∧ w'.cell? ⟨B, 24, none⟩ = some (.slice (some ⟨g, 0, none⟩) p.atoms.length cap) ∧ w'.cell? ⟨g, i * 6 + 3, none⟩ = some (.int .i64 a.hy) := by
    refine (sum_any h.drew i (by have := o.bonds; have := o.pos; omega) o.ords).mono ?_
    rintro e w' ⟨he, hb⟩
    have hb' : Below w.heap.size w w' := (Below.refl _ _).drew.trans hb
    have hA' := hA.below hB hg hb'
    exact ⟨he, hb', hA'.sl, hA'.c3⟩
  have HF : Hid (fill p i a = Bz.sum p.bonds i + a.hy) := rfl
  have q0 := hA.sl
  have q1 := hA.c3
  clear hA
  generalize Bz.sum p.bonds i = sm at *
  generalize a.hy = hy at *
  go_enter Tryz.func60, Tryz.ntmps60
  go_wp2_with fail
  go_region_held3 (fun w' => w'.cell? ⟨B, 24, none⟩ = some (.slice (some ⟨g, 0, none⟩) p.atoms.length cap) ∧ w'.cell? ⟨g, i * 6 + 3, none⟩ = some (.int .i64 hy)) (go_keep) (first | (go_at_call 84; refine hS.mono ?_; rintro e w' ⟨rfl, hb, i0, i1⟩))
  all_goals
    go_wp2_with fail
    go_ret
    exact ⟨ret_int (by first | exact HF.out.symm | (rw [HF.out, IntKind.wrap_i64]; omega)), hb⟩

set_option maxRecDepth 100000 in
set_option maxHeartbeats 2000000 in
theorem candidate_yes (h : Kd w B base p) (o : Ok s p) (hs : s.size ≤ 160) (i : Nat) (a : Atm) (hi : p.atoms[i]? = some a) (ha : a.aro = true) (x : Int) (r : List Int) (hx : valences a.el a.ch = x :: r) :
    Calls Tryz.prog 32 #[.pointer (some ⟨B, 0, none⟩), .int .i64 i] w fun e w' => e = .returned (.bool (fill p i a == x - 1)) ∧ Below w.heap.size w w' := by
  obtain ⟨g, cap, hA, hg⟩ := h.atI hi
  have hB := h.lt
  have hl : i < p.atoms.length := (List.getElem?_eq_some_iff.1 hi).1
  have hl' : (i : Int) < (p.atoms.length : Int) := by omega
  have hn := o.atoms
  have hx9 := (valences_len a.el a.ch).2 x (by rw [hx]; simp)
  have HW : Hid (∀ wx, CandAt w wx a → Calls Tryz.prog 60 #[.pointer (some ⟨B, 0, none⟩), .int .i64 i] wx fun e w' => e = .returned (.int .i64 (fill p i a)) ∧ CandAt w w' a ∧ w'.cell? ⟨w.heap.size, 0, none⟩ = some (.string a.el) ∧
      w'.cell? ⟨w.heap.size, 1, none⟩ = some (.bool true) ∧ w'.cell? ⟨w.heap.size, 2, none⟩ = some (.int .i64 a.ch) ∧ w'.cell? ⟨w.heap.size, 3, none⟩ = some (.int .i64 a.hy)) := by
    intro wx hwx
    refine (filled_any (h.below hwx.below) o hs i a hi).mono ?_
    rintro e w' ⟨he, hb⟩
    have hc := hwx.step hb
    exact ⟨he, hc, hc.c0, ha ▸ hc.c1, hc.c2, hc.c3⟩
  have HV : Hid (∀ wx, CandAt w wx a → Calls Tryz.prog 61 #[.agg #[.string a.el, .bool true, .int .i64 a.ch, .int .i64 a.hy]] wx fun e w' => e = .returned (.int .i64 x) ∧ CandAt w w' a ∧ w'.cell? ⟨w.heap.size, 0, none⟩ = some (.string a.el) ∧
      w'.cell? ⟨w.heap.size, 1, none⟩ = some (.bool true) ∧ w'.cell? ⟨w.heap.size, 2, none⟩ = some (.int .i64 a.ch) ∧ w'.cell? ⟨w.heap.size, 3, none⟩ = some (.int .i64 a.hy)) := by
    intro wx hwx
    have hfv := firstValence_any a x r hx wx
    unfold aV at hfv
    rw [ha] at hfv
    refine hfv.mono ?_
    rintro e w' ⟨he, hb⟩
    have hc := hwx.step hb
    exact ⟨he, hc, hc.c0, ha ▸ hc.c1, hc.c2, hc.c3⟩
  have q0 := hA.sl
  have q1 := hA.c0
  have q2 := hA.c1
  rw [ha] at q2
  have q3 := hA.c2
  have q4 := hA.c3
  have hb0 : CandAt w ((w.alloc (.cells #[.string a.el, .bool true, .int .i64 a.ch, .int .i64 a.hy] 50)).drew) a := ⟨by simp [go_sem], by rw [ha]; simp [go_sem], by simp [go_sem], by simp [go_sem], ((Below.refl _ _).alloc (Nat.le_refl _) _).drew⟩
  have HX : Hid (0 ≤ x ∧ x ≤ 9) := hx9
  clear hA hx hx9 ha
  generalize fill p i a = fl at *
  go_enter Tryz.func32, Tryz.ntmps32
  go_wp2_with fail
  go_region_held3 (fun w' => w'.cell? ⟨w.heap.size, 0, none⟩ = some (.string a.el) ∧ w'.cell? ⟨w.heap.size, 1, none⟩ = some (.bool true) ∧ w'.cell? ⟨w.heap.size, 2, none⟩ = some (.int .i64 a.ch) ∧ w'.cell? ⟨w.heap.size, 3, none⟩ = some (.int .i64 a.hy)) (go_keep) (first | (go_at_call 60; refine (HW.out _ (by assumption)).mono ?_; rintro e w' ⟨rfl, hb, i0, i1, i2, i3⟩) | (go_at_call 61; refine (HV.out _ (by assumption)).mono ?_; rintro e w' ⟨rfl, hb', j0, j1, j2, j3⟩))
  all_goals
    go_wp2_with fail
    go_ret
    exact ⟨ret_bool (by have := HX.out; first | rfl | (rw [IntKind.wrap_i64, show (x - 1 + 9223372036854775808) % 18446744073709551616 - 9223372036854775808 = x - 1 from by omega])), (show CandAt w _ a by assumption).below⟩

set_option maxRecDepth 100000 in
set_option maxHeartbeats 2000000 in
theorem candidate_no (h : Kd w B base p) (i : Nat) (a : Atm) (hi : p.atoms[i]? = some a) (ha : a.aro = false) :
    Calls Tryz.prog 32 #[.pointer (some ⟨B, 0, none⟩), .int .i64 i] w fun e w' => e = .returned (.bool false) ∧ Below w.heap.size w w' := by
  obtain ⟨g, cap, hA, hg⟩ := h.atI hi
  have hB := h.lt
  have hl : i < p.atoms.length := (List.getElem?_eq_some_iff.1 hi).1
  have hl' : (i : Int) < (p.atoms.length : Int) := by omega
  have q0 := hA.sl
  have q1 := hA.c0
  have q2 := hA.c1
  rw [ha] at q2
  have q3 := hA.c2
  have q4 := hA.c3
  have HB : Hid (∀ n, Below w.heap.size w ((w.alloc (.cells #[.string a.el, .bool false, .int .i64 a.ch, .int .i64 a.hy] 50)).drewN n)) := fun n => below_drewN ((Below.refl _ _).alloc (Nat.le_refl _) _) n
  clear hA ha
  go_enter Tryz.func32, Tryz.ntmps32
  go_wp2_with fail
  go_quiet (fail)
  go_wp2_with fail
  go_ret
  exact ⟨rfl, HB.out _⟩

end
end Go.Proofs.YtcabaecbmkgclaaGreatDoor.Kd

namespace Go.Proofs.YtcabaecbmkgclaaGreatDoor.Mg
open Go.RowKit Mt

theorem ret_bool {a b : Bool} (h : a = b) : Ending.returned (.bool a) = .returned (.bool b) := by rw [h]
theorem ret_int {k : IntKind} {a b : Int} (h : a = b) : Ending.returned (.int k a) = .returned (.int k b) := by rw [h]

theorem ownsRow_same {w w' : World} {base : Nat} {e : TypeId} {size : Nat} {v : Value} {n : Nat} {xs : List Value} (h : w.ownsRow base e size v n xs)
    (hs : ∀ k, v.ownBlock = some k → w'.heap[k]? = w.heap[k]?) : w'.ownsRow base e size v n xs := by
  refine ⟨h.1, ?_⟩
  rcases h.2 with hn | ⟨g, cap, cur, rfl, hb, hg, r⟩
  · exact .inl hn
  · exact .inr ⟨g, cap, cur, rfl, hb, by rw [hs g rfl]; exact hg, r⟩

theorem cell_set_ne {w : World} {B i j : Nat} (h : i ≠ j) (u : Value) : (w.setCell ⟨B, i, none⟩ u).cell? ⟨B, j, none⟩ = w.cell? ⟨B, j, none⟩ :=
  World.cell?_setCell_other w _ _ u (fun e => h (by simpa using congrArg Addr.off e))

theorem heap_alloc_lt (w : World) (o : Obj) (k : Nat) (h : k < w.heap.size) : (w.alloc o).heap[k]? = w.heap[k]? := Below.heap_alloc w o k h

theorem ownsRow_shape {w : World} {base : Nat} {e : TypeId} {size : Nat} {v : Value} {n : Nat} {xs : List Value} (h : w.ownsRow base e size v n xs) : ∃ ao cap, v = .slice ao n cap := by
  rcases h.2 with ⟨rfl, rfl⟩ | ⟨g, cap, cur, rfl, _⟩
  · exact ⟨none, 0, rfl⟩
  · exact ⟨_, cap, rfl⟩

theorem ownsRow_at {w : World} {base : Nat} {e : TypeId} {size : Nat} {v : Value} {n : Nat} {xs : List Value} (h : w.ownsRow base e size v n xs) (hn : 0 < n) :
    ∃ g cap, v = .slice (some ⟨g, 0, none⟩) n cap ∧ base ≤ g ∧ g < w.heap.size ∧ (∀ j, j < n * size → w.cell? ⟨g, j, none⟩ = xs[j]?) ∧ ∀ j, w.frozen? ⟨g, j, none⟩ = false := by
  have hl := h.lt
  rcases h.2 with ⟨_, rfl⟩ | ⟨g, cap, cur, rfl, _⟩
  · exact absurd hn (Nat.lt_irrefl _)
  · obtain ⟨h1, h2⟩ := hl g rfl
    exact ⟨g, cap, rfl, h1, h2, h.cellAt, h.frozenAt⟩

theorem ownBlock_ne {w : World} {b1 b2 : Nat} {e1 e2 : TypeId} {s1 s2 : Nat} {v1 v2 : Value} {n1 n2 : Nat} {x1 x2 : List Value} (h1 : w.ownsRow b1 e1 s1 v1 n1 x1) (h2 : w.ownsRow b2 e2 s2 v2 n2 x2) (he : e1 ≠ e2) (k : Nat) (hk : v1.ownBlock = some k) : v2.ownBlock ≠ some k := by
  intro hk2
  rcases h1.2 with ⟨rfl, _⟩ | ⟨g, cap, cur, rfl, _, hg, _⟩
  · simp [Value.ownBlock] at hk
  rcases h2.2 with ⟨rfl, _⟩ | ⟨g', cap', cur', rfl, _, hg', _⟩
  · simp [Value.ownBlock] at hk2
  simp [Value.ownBlock] at hk hk2
  subst hk hk2
  rw [hg] at hg'
  simp at hg'
  exact he hg'.2

theorem ownsRow_mono {w : World} {base base' : Nat} {e : TypeId} {size : Nat} {v : Value} {n : Nat} {xs : List Value} (h : w.ownsRow base e size v n xs) (hb : base' ≤ base) : w.ownsRow base' e size v n xs := by
  refine ⟨h.1, ?_⟩
  rcases h.2 with hn | ⟨g, cap, cur, hv, hg, r⟩
  · exact .inl hn
  · exact .inr ⟨g, cap, cur, hv, Nat.le_trans hb hg, r⟩

theorem grownBy_weaken {w w' : World} {row : Option Nat} (h : w.grownBy w' none) : w.grownBy w' row := ⟨h.os, h.tape, h.output, h.size, fun k hk _ => h.block k hk (by simp)⟩

section
variable {P : Program} (w : World)

theorem run_append_mine (base : Nat) (t ty e : TypeId) (i : TypeInfo) (z : Value) (size bytes : Nat) (ht : P.underlying t = some (.slice e)) (hi : P.info? e = some i) (hz : i.zero = some z)
    (hsize : i.size = size) (hby : i.bytes = bytes) (hzs : z.cells.size = size) (hsz : 0 < size)
    (v : Value) (n : Nat) (xs : List Value) (hown : w.ownsRow base e size v n xs)
    (a : Addr) (m c : Nat) (news : List Value) (hl : news.length = m * size) (hnews : ∀ j u, news[j]? = some u → w.cell? (a.add j) = some u) (h1 : ∀ u ∈ news, u.oneCell' = true)
    (h63 : n + m ≤ maxLen) (hbytes : (n + m) * bytes ≤ 140737488355328) (hbase : base ≤ w.heap.size) :
    ∃ v' w', (Builtin.append_ #[t, t] ty #[v, .slice (some a) m c]).run P w = .ok v' w' ∧ w'.ownsRow base e size v' (n + m) (xs ++ news) ∧ w.grownBy w' v.ownBlock ∧
      ∀ k, v'.ownBlock = some k → v.ownBlock = some k ∨ w.heap.size ≤ k := by
  rcases hown.2 with ⟨rfl, rfl⟩ | ⟨g, cap, cur, rfl, hbg, hg, hnc, hcm, hcs, htake⟩
  · obtain rfl : xs = [] := List.eq_nil_of_length_eq_zero (by simpa using hown.1)
    obtain ⟨v', w', hr, ho, hgr, _⟩ := run_append_own (P := P) w w.heap.size t ty e i z size bytes ht hi hz hsize hby hzs hsz (.slice none 0 0) 0 [] (World.ownsRow_nil w _ e size) a m c news hl hnews h1 h63 hbytes (Nat.le_refl _)
    exact ⟨v', w', hr, ownsRow_mono ho hbase, hgr, fun k hk => .inr (ho.lt k hk).1⟩
  · by_cases hroom : n + m ≤ cap
    · obtain ⟨w', hr, ho, hgr⟩ := run_append_fits (P := P) w base t ty e i size ht hi hsize g n cap xs hown a m c news hl hnews h1 hroom
      exact ⟨_, w', hr, ho, hgr, fun k hk => .inl (by simpa [Value.ownBlock] using hk)⟩
    · obtain ⟨v', w', hr, ho, hgr⟩ := run_append_arg_grows (P := P) w t ty e i z size bytes ht hi hz hsize hby hzs hsz ⟨g, 0, none⟩ n cap xs hown.1 (hown.cells rfl) a m c news hl hnews (by omega) h63 hbytes
      exact ⟨v', w', hr, ownsRow_mono ho hbase, grownBy_weaken hgr, fun k hk => .inr (ho.lt k hk).1⟩
end

theorem step_append_mine {P : Program} {ops : Array Oper} {o : Oper} {a : Act} {w : World} {K : Act → World → Prop} {Q : Exit → Act → World → Prop} {E : Prop}
    (hg : o.guard = none) (s x : Operand) (t : TypeId) (hop : o.op = Op.call { callee := Callee.builtin Builtin.append, args := #[s, x], argTypes := #[t, t] })
    (base : Nat) (e : TypeId) (i : TypeInfo) (z : Value) (size bytes : Nat) (ht : P.underlying t = some (.slice e)) (hi : P.info? e = some i) (hz : i.zero = some z)
    (hsize : i.size = size) (hby : i.bytes = bytes) (hzs : z.cells.size = size) (hsz : 0 < size)
    (v : Value) (n : Nat) (xs : List Value) (hs : a.eval s = v) (hown : w.ownsRow base e size v n xs)
    (ad : Addr) (m c : Nat) (news : List Value) (hx : a.eval x = .slice (some ad) m c) (hl : news.length = m * size) (hnews : ∀ j u, news[j]? = some u → w.cell? (ad.add j) = some u) (h1 : ∀ u ∈ news, u.oneCell' = true)
    (h63 : n + m ≤ maxLen) (hbytes : (n + m) * bytes ≤ 140737488355328) (hbase : base ≤ w.heap.size)
    (hK : ∀ v' w', w'.ownsRow base e size v' (n + m) (xs ++ news) → w.grownBy w' v.ownBlock → (∀ k, v'.ownBlock = some k → v.ownBlock = some k ∨ w.heap.size ≤ k) → K (a.put o.dst v') w') :
    if Region.wanted o (yielded ops a.tmps) = true then Oper.wp P o a w K Q else E := by
  have hw : Region.wanted o (yielded ops a.tmps) = true := by simp [Region.wanted, hg]
  rw [if_pos hw]
  obtain ⟨v', w', hr, h2, h3, h4⟩ := run_append_mine (P := P) w base t o.type e i z size bytes ht hi hz hsize hby hzs hsz v n xs hown ad m c news hl hnews h1 h63 hbytes hbase
  unfold Oper.wp execOp
  simp only [hop, resolve, invoke, builtin, Sem.run_bind, Sem.run_pure, Result.andThen_ok, List.map_toArray, List.map_cons, List.map_nil, hs, hx, hr]
  exact hK v' w' h2 h3 h4

theorem wpList_append_mine {P : Program} {w : World} {ops : Array Oper} {rest : List Oper} {o : Oper} {a : Act} {Q : Exit → Act → World → Prop} (hgd : o.guard = none) (s x : Operand) (t : TypeId)
    (ho : o.op = .call { callee := .builtin .append, args := #[s, x], argTypes := #[t, t] })
    (base : Nat) (e : TypeId) (i : TypeInfo) (z : Value) (size bytes : Nat) (ht : P.underlying t = some (.slice e)) (hi : P.info? e = some i) (hz : i.zero = some z)
    (hsize : i.size = size) (hby : i.bytes = bytes) (hzs : z.cells.size = size) (hsz : 0 < size)
    (v : Value) (n : Nat) (xs : List Value) (hs : a.eval s = v) (hown : w.ownsRow base e size v n xs)
    (ad : Addr) (m c : Nat) (news : List Value) (hx : a.eval x = .slice (some ad) m c) (hl : news.length = m * size) (hnews : ∀ j u, news[j]? = some u → w.cell? (ad.add j) = some u) (h1 : ∀ u ∈ news, u.oneCell' = true)
    (h63 : n + m ≤ maxLen) (hbytes : (n + m) * bytes ≤ 140737488355328) (hbase : base ≤ w.heap.size)
    (h : ∀ v' w', w'.ownsRow base e size v' (n + m) (xs ++ news) → w.grownBy w' v.ownBlock → (∀ k, v'.ownBlock = some k → v.ownBlock = some k ∨ w.heap.size ≤ k) → wpList P ops Q rest (a.put o.dst v') w') : wpList P ops Q (o :: rest) a w := by
  refine wpList_plain hgd fun K hK => ?_
  obtain ⟨v', w', hr, h2, h3, h4⟩ := run_append_mine (P := P) w base t o.type e i z size bytes ht hi hz hsize hby hzs hsz v n xs hown ad m c news hl hnews h1 h63 hbytes hbase
  unfold Oper.wp execOp
  simp only [ho, resolve, invoke, builtin, Sem.run_bind, Sem.run_pure, Result.andThen_ok, List.map_toArray, List.map_cons, List.map_nil, hs, hx, hr]
  exact hK _ _ (h v' w' h2 h3 h4)


theorem Tryz.infoInt : (Tryz.prog.info? 3).map (fun i => (i.zero, i.size, i.bytes)) = some (some (.int .i64 0), 1, 8) := by kernel_rfl

def mi : Option Nat → Int
  | none => -1
  | some m => m

def intCells (l : List Nat) : List Value := l.map fun (x : Nat) => Value.int .i64 x
theorem intCells_len (l : List Nat) : (intCells l).length = l.length := by simp [intCells]
theorem intCells_get {l : List Nat} {i x : Nat} (h : l[i]? = some x) : (intCells l)[i]? = some (.int .i64 x) := by simp [intCells, h]
theorem intCells_append (l r : List Nat) : intCells (l ++ r) = intCells l ++ intCells r := by simp [intCells]

/-- A list of numbers of the call's own. -/
def Ints (w : World) (base : Nat) (v : Value) (l : List Nat) : Prop := w.ownsRow base 3 1 v l.length (intCells l)

theorem Ints.shape {w : World} {base : Nat} {v : Value} {l : List Nat} (h : Ints w base v l) : ∃ ao cap, v = .slice ao l.length cap := ownsRow_shape h

theorem Ints.at {w : World} {base : Nat} {v : Value} {l : List Nat} (h : Ints w base v l) {i x : Nat} (hi : l[i]? = some x) : ∃ g cap, v = .slice (some ⟨g, 0, none⟩) l.length cap ∧ base ≤ g ∧ g < w.heap.size ∧ w.cell? ⟨g, i, none⟩ = some (.int .i64 x) := by
  have hl := (List.getElem?_eq_some_iff.1 hi).1
  obtain ⟨g, cap, rfl, h1, h2, h3, h4⟩ := ownsRow_at h (by omega)
  exact ⟨g, cap, rfl, h1, h2, (h3 i (by omega)).trans (intCells_get hi)⟩

/-- Block k is the forest's own: its block, or its queue's row. -/
def FMine (w : World) (B k : Nat) : Prop := k = B ∨ ∃ v, w.cell? ⟨B, 697, none⟩ = some v ∧ v.ownBlock = some k

structure FAt (w : World) (B : Nat) (g : Gr) (mate : Nat → Option Nat) (f : Fo) : Prop where
  near : ∀ k, k < 24 → ∃ m : Nat, w.cell? ⟨B, k, none⟩ = some (.int .u32 m) ∧ m < 4294967296 ∧ ∀ j, j < 24 → m.testBit j = g.adj k j
  n : w.cell? ⟨B, 24, none⟩ = some (.int .i64 g.n)
  mate : ∀ k, k < 24 → w.cell? ⟨B, 25 + k, none⟩ = some (.int .i64 (mi (mate k)))
  ring : ∀ v x, v < 24 → x < 24 → w.cell? ⟨B, 49 + v * 24 + x, none⟩ = some (.bool (f.ring v x))
  next : ∀ k, k < 24 → w.cell? ⟨B, 625 + k, none⟩ = some (.int .i64 (f.next k))
  outer : ∀ k, k < 24 → w.cell? ⟨B, 649 + k, none⟩ = some (.bool (f.outer k))
  inner : ∀ k, k < 24 → w.cell? ⟨B, 673 + k, none⟩ = some (.bool (f.inner k))
  queue : ∃ v, w.cell? ⟨B, 697, none⟩ = some v ∧ Ints w 0 v f.queue ∧ v.ownBlock ≠ some B
  free : ∀ i, w.frozen? ⟨B, i, none⟩ = false

/-- What a call of the forest's may have turned: the forest's own blocks, and new ones. -/
structure FFr (B : Nat) (w w' : World) : Prop where
  os : w'.os = w.os
  tape : w'.tape = w.tape
  output : w'.output = w.output
  size : w.heap.size ≤ w'.heap.size
  block : ∀ k, k < w.heap.size → ¬ FMine w B k → w'.heap[k]? = w.heap[k]?
  mine : ∀ k, k < w.heap.size → FMine w' B k → FMine w B k

section
variable {w w' : World} {B : Nat} {g : Gr} {mate : Nat → Option Nat} {f : Fo}

theorem FAt.lt (h : FAt w B g mate f) : B < w.heap.size := World.block_lt_of_cell? w ⟨B, 24, none⟩ h.n

theorem FMine.same {k : Nat} (hB : w'.heap[B]? = w.heap[B]?) : FMine w' B k ↔ FMine w B k := by
  have h1 : w'.cell? ⟨B, 697, none⟩ = w.cell? ⟨B, 697, none⟩ := World.cell?_of_block (w := w) hB
  unfold FMine
  rw [h1]

theorem FAt.mine (h : FAt w B g mate f) {k : Nat} (hk : FMine w B k) : 0 ≤ k ∧ k < w.heap.size := by
  rcases hk with rfl | ⟨v, hv, hk⟩
  · exact ⟨Nat.zero_le _, h.lt⟩
  · obtain ⟨v', hv', ho, _⟩ := h.queue
    rw [hv] at hv'; cases hv'
    have := ho.lt k hk
    omega

theorem FAt.same (h : FAt w B g mate f) (hs : ∀ k, FMine w B k → w'.heap[k]? = w.heap[k]?) : FAt w' B g mate f := by
  have hB := hs B (.inl rfl)
  have hc : ∀ i, w'.cell? ⟨B, i, none⟩ = w.cell? ⟨B, i, none⟩ := fun i => World.cell?_of_block (w := w) hB
  have hf : ∀ i, w'.frozen? ⟨B, i, none⟩ = w.frozen? ⟨B, i, none⟩ := fun i => World.frozen?_of_block (w := w) hB
  obtain ⟨v, hv, ho, hne⟩ := h.queue
  exact ⟨fun k hk => by rw [hc]; exact h.near k hk, by rw [hc]; exact h.n, fun k hk => by rw [hc]; exact h.mate k hk, fun v x hv hx => by rw [hc]; exact h.ring v x hv hx, fun k hk => by rw [hc]; exact h.next k hk,
    fun k hk => by rw [hc]; exact h.outer k hk, fun k hk => by rw [hc]; exact h.inner k hk, ⟨v, by rw [hc]; exact hv, ownsRow_same ho fun k hk => hs k (.inr ⟨v, hv, hk⟩), hne⟩, fun i => by rw [hf]; exact h.free i⟩

theorem FAt.drewN (h : FAt w B g mate f) (n : Nat) : FAt (w.drewN n) B g mate f := h.same fun _ _ => rfl
theorem FAt.drew (h : FAt w B g mate f) : FAt w.drew B g mate f := h.same fun _ _ => rfl
theorem FAt.alloc (h : FAt w B g mate f) (o : Obj) : FAt (w.alloc o) B g mate f := h.same fun k hk => heap_alloc_lt w o k (h.mine hk).2
theorem FAt.below (h : FAt w B g mate f) (hb : Below w.heap.size w w') : FAt w' B g mate f := h.same fun k hk => hb.block k (h.mine hk).2

theorem FFr.refl (B : Nat) (w : World) : FFr B w w := ⟨rfl, rfl, rfl, Nat.le_refl _, fun _ _ _ => rfl, fun _ _ h => h⟩
theorem FFr.trans {a b c : World} (h : FFr B a b) (k : FFr B b c) : FFr B a c :=
  ⟨k.os.trans h.os, k.tape.trans h.tape, k.output.trans h.output, Nat.le_trans h.size k.size,
    fun i hi hm => (k.block i (Nat.lt_of_lt_of_le hi h.size) (fun e => hm (h.mine i hi e))).trans (h.block i hi hm),
    fun i hi hm => h.mine i hi (k.mine i (Nat.lt_of_lt_of_le hi h.size) hm)⟩
theorem FFr.of_below (h : Below w.heap.size w w') (hB : B < w.heap.size) : FFr B w w' :=
  ⟨h.os, h.tape, h.output, h.size, fun k hk _ => h.block k hk, fun _ _ hm => (FMine.same (h.block B hB)).1 hm⟩
theorem FFr.drewN {a : World} (h : FFr B a w) (n : Nat) : FFr B a (w.drewN n) := h.trans ⟨rfl, rfl, rfl, Nat.le_refl _, fun _ _ _ => rfl, fun _ _ h => h⟩

/-- One cell of the forest's block, not its queue's. -/
theorem FFr.set {a : World} (h : FFr B a w) {i : Nat} (hi : i ≠ 697) (u : Value) : FFr B a (w.setCell ⟨B, i, none⟩ u) := by
  have hm : ∀ k, FMine (w.setCell ⟨B, i, none⟩ u) B k → FMine w B k := by
    intro k hk
    unfold FMine at hk ⊢
    rw [cell_set_ne hi] at hk
    exact hk
  refine ⟨h.os, h.tape, h.output, by simpa using h.size, fun k hk hn => ?_, fun k hk hk' => h.mine k hk (hm k hk')⟩
  rw [Below.heap_setCell w _ u k (by rintro rfl; exact hn (.inl rfl))]
  exact h.block k hk hn

theorem FFr.ints (h : FFr B w w') {base : Nat} {v : Value} {l : List Nat} (hi : Ints w base v l) (hn : ∀ k, v.ownBlock = some k → ¬ FMine w B k) : Ints w' base v l := ownsRow_same hi fun k hk => h.block k (hi.lt k hk).2 (hn k hk)

theorem FAt.cellSet (h : FAt w B g mate f) {i : Nat} (hi : i ≠ 697) (u : Value) : (∀ j, j ≠ i → (w.setCell ⟨B, i, none⟩ u).cell? ⟨B, j, none⟩ = w.cell? ⟨B, j, none⟩) ∧ (∃ v, (w.setCell ⟨B, i, none⟩ u).cell? ⟨B, 697, none⟩ = some v ∧ Ints (w.setCell ⟨B, i, none⟩ u) 0 v f.queue ∧ v.ownBlock ≠ some B) ∧ ∀ j, (w.setCell ⟨B, i, none⟩ u).frozen? ⟨B, j, none⟩ = false := by
  obtain ⟨v, hv, ho, hne⟩ := h.queue
  refine ⟨fun j hj => cell_set_ne (fun e => hj e.symm) u, ⟨v, by rw [cell_set_ne hi]; exact hv, ownsRow_setCell_other ho hne u, hne⟩, fun j => by rw [World.frozen?_setCell]; exact h.free j⟩

theorem FAt.setOuter (h : FAt w B g mate f) {u : Nat} (hu : u < 24) (b : Bool) : FAt (w.setCell ⟨B, 649 + u, none⟩ (.bool b)) B g mate { f with outer := setAt f.outer u b } := by
  obtain ⟨hc, hq, hf⟩ := h.cellSet (i := 649 + u) (by omega) (.bool b)
  refine ⟨fun k hk => by rw [hc _ (by omega)]; exact h.near k hk, by rw [hc _ (by omega)]; exact h.n, fun k hk => by rw [hc _ (by omega)]; exact h.mate k hk, fun v x hv hx => by rw [hc _ (by omega)]; exact h.ring v x hv hx, fun k hk => by rw [hc _ (by omega)]; exact h.next k hk, ?_, fun k hk => by rw [hc _ (by omega)]; exact h.inner k hk, hq, hf⟩
  intro k hk
  by_cases e : k = u
  · subst e
    rw [World.cell?_setCell_same w _ _ (h.outer k hk)]
    simp [setAt]
  · rw [hc _ (by omega)]
    simp only [setAt, if_neg e]
    exact h.outer k hk

theorem FAt.setInner (h : FAt w B g mate f) {u : Nat} (hu : u < 24) (b : Bool) : FAt (w.setCell ⟨B, 673 + u, none⟩ (.bool b)) B g mate { f with inner := setAt f.inner u b } := by
  obtain ⟨hc, hq, hf⟩ := h.cellSet (i := 673 + u) (by omega) (.bool b)
  refine ⟨fun k hk => by rw [hc _ (by omega)]; exact h.near k hk, by rw [hc _ (by omega)]; exact h.n, fun k hk => by rw [hc _ (by omega)]; exact h.mate k hk, fun v x hv hx => by rw [hc _ (by omega)]; exact h.ring v x hv hx, fun k hk => by rw [hc _ (by omega)]; exact h.next k hk, fun k hk => by rw [hc _ (by omega)]; exact h.outer k hk, ?_, hq, hf⟩
  intro k hk
  by_cases e : k = u
  · subst e
    rw [World.cell?_setCell_same w _ _ (h.inner k hk)]
    simp [setAt]
  · rw [hc _ (by omega)]
    simp only [setAt, if_neg e]
    exact h.inner k hk

theorem FAt.setNext (h : FAt w B g mate f) {u : Nat} (hu : u < 24) (b : Nat) : FAt (w.setCell ⟨B, 625 + u, none⟩ (.int .i64 b)) B g mate { f with next := setAt f.next u b } := by
  obtain ⟨hc, hq, hf⟩ := h.cellSet (i := 625 + u) (by omega) (.int .i64 b)
  refine ⟨fun k hk => by rw [hc _ (by omega)]; exact h.near k hk, by rw [hc _ (by omega)]; exact h.n, fun k hk => by rw [hc _ (by omega)]; exact h.mate k hk, fun v x hv hx => by rw [hc _ (by omega)]; exact h.ring v x hv hx, ?_, fun k hk => by rw [hc _ (by omega)]; exact h.outer k hk, fun k hk => by rw [hc _ (by omega)]; exact h.inner k hk, hq, hf⟩
  intro k hk
  by_cases e : k = u
  · subst e
    rw [World.cell?_setCell_same w _ _ (h.next k hk)]
    simp [setAt]
  · rw [hc _ (by omega)]
    simp only [setAt, if_neg e]
    exact h.next k hk
end
end Go.Proofs.YtcabaecbmkgclaaGreatDoor.Mg
