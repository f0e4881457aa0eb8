/-
  The document's name.
-/
import Derived.Test.YtcabaecbmkgclaaGreatDoorR11
import Derived.Laws.BytesArg
namespace Go.Proofs.YtcabaecbmkgclaaGreatDoor
open Go.RowKit Bz
/-- The element that is written at a place, or nothing. -/
def rname (s : ByteArray) (i : Nat) : ByteArray × Bool × Nat := match element s i with
  | some x => x
  | none => (⟨#[]⟩, false, 0)

def nameV (x : ByteArray × Bool × Nat) : Value := .tuple #[.string x.1, .bool x.2.1, .int .i64 x.2.2]

theorem bytes_ext {a b : ByteArray} (h : a.data.toList = b.data.toList) : a = b := by
  cases a; cases b; simp only at h; rw [Array.toList_inj.1 h]

theorem extract_toList (t : ByteArray) (n : Nat) : (t.extract 0 n).data.toList = t.data.toList.take n := by
  simp [ByteArray.data_extract, Array.toList_extract, List.extract_eq_take_drop]

theorem extract1 {t : ByteArray} (h : 0 < t.size) : t.extract 0 1 = one (byteAt t 0) := by
  apply bytes_ext
  rw [extract_toList]
  have := drop_one t 0 h
  rw [List.drop_zero] at this
  rw [this]
  rfl

theorem extract2 {t : ByteArray} (h : 1 < t.size) : (t.extract 0 2).data.toList = [(byteAt t 0).toNat.toUInt8, (byteAt t 1).toNat.toUInt8] := by
  rw [extract_toList]
  have h0 := drop_one t 0 (by omega)
  rw [List.drop_zero] at h0
  rw [h0, drop_one t 1 h]
  rfl

theorem extract2_eq {t : ByteArray} (h : 1 < t.size) (c d : UInt8) : ((t.extract 0 2).toList == [c, d]) = (byteAt t 0 == (c.toNat : Int) && byteAt t 1 == (d.toNat : Int)) := by
  rw [ByteArray.toList_eq, extract2 h, Bool.eq_iff_iff]
  simp only [List.cons_beq_cons, beq_iff_eq, Bool.and_true, BEq.rfl, u8_eq, Bool.and_eq_true]

theorem extract2_is {t : ByteArray} (h : 1 < t.size) (c d : UInt8) (h0 : byteAt t 0 = (c.toNat : Int)) (h1 : byteAt t 1 = (d.toNat : Int)) : t.extract 0 2 = ⟨#[c, d]⟩ := by
  apply bytes_ext
  rw [extract2 h, (u8_eq t 0 c).2 h0, (u8_eq t 1 d).2 h1]

def bigBytes : ByteArray := ⟨#[66, 67, 78, 79, 80, 83, 70, 73]⟩
def smallBytes : ByteArray := ⟨#[99, 110, 111, 112, 115]⟩

theorem isOne_big (c : Int) : isOne bigBytes c = decide (c = 67 ∨ c = 66 ∨ c = 78 ∨ c = 79 ∨ c = 80 ∨ c = 83 ∨ c = 70 ∨ c = 73) := by
  have r : List.range bigBytes.size = [0, 1, 2, 3, 4, 5, 6, 7] := rfl
  have b0 : byteAt bigBytes 0 = 66 := rfl
  have b1 : byteAt bigBytes 1 = 67 := rfl
  have b2 : byteAt bigBytes 2 = 78 := rfl
  have b3 : byteAt bigBytes 3 = 79 := rfl
  have b4 : byteAt bigBytes 4 = 80 := rfl
  have b5 : byteAt bigBytes 5 = 83 := rfl
  have b6 : byteAt bigBytes 6 = 70 := rfl
  have b7 : byteAt bigBytes 7 = 73 := rfl
  unfold isOne
  rw [r, Bool.eq_iff_iff]
  simp only [List.any_cons, List.any_nil, b0, b1, b2, b3, b4, b5, b6, b7, Bool.or_false, Bool.or_eq_true, beq_iff_eq, decide_eq_true_eq]
  omega

theorem isOne_small (c : Int) : isOne smallBytes c = decide (c = 99 ∨ c = 110 ∨ c = 111 ∨ c = 112 ∨ c = 115) := by
  have r : List.range smallBytes.size = [0, 1, 2, 3, 4] := rfl
  have b0 : byteAt smallBytes 0 = 99 := rfl
  have b1 : byteAt smallBytes 1 = 110 := rfl
  have b2 : byteAt smallBytes 2 = 111 := rfl
  have b3 : byteAt smallBytes 3 = 112 := rfl
  have b4 : byteAt smallBytes 4 = 115 := rfl
  unfold isOne
  rw [r, Bool.eq_iff_iff]
  simp only [List.any_cons, List.any_nil, b0, b1, b2, b3, b4, Bool.or_false, Bool.or_eq_true, beq_iff_eq, decide_eq_true_eq]
  omega

/-- What name answers: five ways. -/
theorem rname_cases (t : ByteArray) : (1 < t.size ∧ byteAt t 0 = 67 ∧ byteAt t 1 = 108 ∧ rname t 0 = (⟨#[67, 108]⟩, false, 2)) ∨ (1 < t.size ∧ byteAt t 0 = 66 ∧ byteAt t 1 = 114 ∧ rname t 0 = (⟨#[66, 114]⟩, false, 2)) ∨
    (¬ (byteAt t 0 = 67 ∧ byteAt t 1 = 108) ∧ ¬ (byteAt t 0 = 66 ∧ byteAt t 1 = 114) ∧
      ((t.size = 0 ∧ rname t 0 = (⟨#[]⟩, false, 0)) ∨
       (0 < t.size ∧ isOne bigBytes (byteAt t 0) = true ∧ rname t 0 = (one (byteAt t 0), false, 1)) ∨
       (0 < t.size ∧ isOne bigBytes (byteAt t 0) = false ∧ isOne smallBytes (byteAt t 0) = true ∧ rname t 0 = (one (byteAt t 0 - 32), true, 1) ∧ 99 ≤ byteAt t 0 ∧ byteAt t 0 ≤ 115) ∨
       (0 < t.size ∧ isOne bigBytes (byteAt t 0) = false ∧ isOne smallBytes (byteAt t 0) = false ∧ rname t 0 = (⟨#[]⟩, false, 0)))) := by
  by_cases ha : byteAt t 0 = 67 ∧ byteAt t 1 = 108
  · exact .inl ⟨byte_lt ha.2 (by decide), ha.1, ha.2, by simp [rname, element, ha]⟩
  by_cases hb : byteAt t 0 = 66 ∧ byteAt t 1 = 114
  · exact .inr (.inl ⟨byte_lt hb.2 (by decide), hb.1, hb.2, by simp [rname, element, hb]⟩)
  refine .inr (.inr ⟨ha, hb, ?_⟩)
  by_cases h0 : t.size = 0
  · refine .inl ⟨h0, ?_⟩
    have : byteAt t 0 = 0 := byteAt_ge t 0 (by omega)
    simp [rname, element, this]
  have h0' : 0 < t.size := by omega
  have he : ∀ x, rname t 0 = x ↔ (match (if byteAt t 0 = 67 ∨ byteAt t 0 = 66 ∨ byteAt t 0 = 78 ∨ byteAt t 0 = 79 ∨ byteAt t 0 = 80 ∨ byteAt t 0 = 83 ∨ byteAt t 0 = 70 ∨ byteAt t 0 = 73 then some (one (byteAt t 0), false, 1)
      else if byteAt t 0 = 99 ∨ byteAt t 0 = 110 ∨ byteAt t 0 = 111 ∨ byteAt t 0 = 112 ∨ byteAt t 0 = 115 then some (one (byteAt t 0 - 32), true, 1) else none : Option (ByteArray × Bool × Nat)) with
      | some x => x
      | none => (⟨#[]⟩, false, 0)) = x := by
    intro x
    unfold rname element
    simp only
    rw [if_neg ha, if_neg hb]
  rw [isOne_big, isOne_small]
  by_cases h1 : byteAt t 0 = 67 ∨ byteAt t 0 = 66 ∨ byteAt t 0 = 78 ∨ byteAt t 0 = 79 ∨ byteAt t 0 = 80 ∨ byteAt t 0 = 83 ∨ byteAt t 0 = 70 ∨ byteAt t 0 = 73
  · exact .inr (.inl ⟨h0', by simpa using h1, (he _).2 (by rw [if_pos h1])⟩)
  by_cases h2 : byteAt t 0 = 99 ∨ byteAt t 0 = 110 ∨ byteAt t 0 = 111 ∨ byteAt t 0 = 112 ∨ byteAt t 0 = 115
  · exact .inr (.inr (.inl ⟨h0', by simpa using h1, by simpa using h2, (he _).2 (by rw [if_neg h1, if_pos h2]), by omega, by omega⟩))
  · exact .inr (.inr (.inr ⟨h0', by simpa using h1, by simpa using h2, (he _).2 (by rw [if_neg h1, if_neg h2])⟩))

theorem one_small {c : Int} : one (c - 97 + 65) = one (c - 32) := by
  rw [show c - 97 + 65 = c - 32 by omega]

theorem conv1 (w : World) (x : Int) (t : TypeId) (c : Nat) : (convert 149 9 (.slice (some ⟨w.heap.size, 0, none⟩) 1 c)).run Tryz.prog (w.alloc (.cells #[.int .u8 x] t)) = .ok (.string (one x)) (w.alloc (.cells #[.int .u8 x] t)) := by
  rw [run_convert_bytes_arg (P := Tryz.prog) (w.alloc (.cells #[.int .u8 x] t)) 149 5 Tryz.underlying149 Tryz.underlying5 w.heap.size 0 1 c [x] rfl ?_ _ Tryz.underlying9]
  · rfl
  · intro i hi
    have : i = 0 := by omega
    subst this
    simp [go_sem]

set_option maxRecDepth 100000 in
set_option maxHeartbeats 2000000 in
theorem rname_any (w : World) (t : ByteArray) (ht : t.size ≤ 160) : Calls Tryz.prog 120 #[.string t] w fun e w' => e = .returned (nameV (rname t 0)) ∧ Below w.heap.size w w' := by
  have HOB := fun w' : World => rone_any w' (byteAt t 0) bigBytes (by decide)
  have HOS := fun w' : World => rone_any w' (byteAt t 0) smallBytes (by decide)
  rcases rname_cases t with ⟨h1, h2, h3, hr⟩ | ⟨h1, h2, h3, hr⟩ | ⟨hn1, hn2, hc⟩
  · have HR : Hid _ := hr
    have e1 : ((t.extract 0 2).toList == [67, 108]) = true := by rw [extract2_eq h1]; simp [h2, h3]
    have HX : Hid (t.extract 0 2 = ⟨#[67, 108]⟩) := extract2_is h1 67 108 h2 h3
    have hi : (1 : Int) < (t.size : Int) := by omega
    have hi2 : (2 : Int) ≤ (t.size : Int) := by omega
    clear hr HOB HOS
    go_enter Tryz.func120, Tryz.ntmps120
    go_wp2_with fail
    go_ret3
    exact ⟨by rw [HR.out, HX.out]; rfl, (by repeat (first | with_reducible exact Below.refl _ _ | with_reducible refine below_drewN ?_ _ | with_reducible refine Below.drew ?_ | with_reducible refine Below.setCell ?_ (by simp) _ | with_reducible refine Below.alloc ?_ (by simp; try omega) _))⟩
  · have HR : Hid _ := hr
    have e1 : ((t.extract 0 2).toList == [67, 108]) = false := by rw [extract2_eq h1]; simp [h2]
    have e2 : ((t.extract 0 2).toList == [66, 114]) = true := by rw [extract2_eq h1]; simp [h2, h3]
    have HX : Hid (t.extract 0 2 = ⟨#[66, 114]⟩) := extract2_is h1 66 114 h2 h3
    have hi : (1 : Int) < (t.size : Int) := by omega
    have hi2 : (2 : Int) ≤ (t.size : Int) := by omega
    clear hr HOB HOS
    go_enter Tryz.func120, Tryz.ntmps120
    go_wp2_with fail
    go_ret3
    exact ⟨by rw [HR.out, HX.out]; rfl, (by repeat (first | with_reducible exact Below.refl _ _ | with_reducible refine below_drewN ?_ _ | with_reducible refine Below.drew ?_ | with_reducible refine Below.setCell ?_ (by simp) _ | with_reducible refine Below.alloc ?_ (by simp; try omega) _))⟩
  · have e1 : 1 < t.size → ((t.extract 0 2).toList == [67, 108]) = false := by
      intro h; rw [extract2_eq h]; simpa using hn1
    have e2 : 1 < t.size → ((t.extract 0 2).toList == [66, 114]) = false := by
      intro h; rw [extract2_eq h]; simpa using hn2
    clear hn1 hn2
    rcases hc with ⟨h0, hr⟩ | ⟨h0, hB, hr⟩ | ⟨h0, hB, hS, hr, hlo, hhi⟩ | ⟨h0, hB, hS, hr⟩
    · have HR : Hid _ := hr
      have hi : ¬ (1 : Int) < (t.size : Int) := by omega
      have hi2 : (t.size : Int) = 0 := by omega
      clear hr HOB HOS e1 e2
      go_enter Tryz.func120, Tryz.ntmps120
      go_wp2_with fail
      go_ret3
      exact ⟨by rw [HR.out]; rfl, (by repeat (first | with_reducible exact Below.refl _ _ | with_reducible refine below_drewN ?_ _ | with_reducible refine Below.drew ?_ | with_reducible refine Below.setCell ?_ (by simp) _ | with_reducible refine Below.alloc ?_ (by simp; try omega) _))⟩
    · have HR : Hid _ := hr
      have HX : Hid _ := extract1 h0
      rw [hB] at HOB
      rw [byteAt_lt _ _ h0] at HOB
      clear hr HOS hB
      have hi1 : (1 : Int) ≤ (t.size : Int) := by omega
      have hi0 : ((t.size : Int) == 0) = false := beq_eq_false_iff_ne.2 (by omega)
      have hip : (0 : Int) < (t.size : Int) := by omega
      by_cases h1 : 1 < t.size
      · have e1 := e1 h1
        have e2 := e2 h1
        have hi : (1 : Int) < (t.size : Int) := by omega
        have hi2 : (2 : Int) ≤ (t.size : Int) := by omega
        go_enter Tryz.func120, Tryz.ntmps120
        go_wp2_with fail
        refine (HOB _).mono ?_
        rintro e w' ⟨rfl, rfl⟩
        go_wp2_with fail
        go_ret3
        exact ⟨by rw [HR.out, HX.out]; rfl, (by repeat (first | with_reducible exact Below.refl _ _ | with_reducible refine below_drewN ?_ _ | with_reducible refine Below.drew ?_ | with_reducible refine Below.setCell ?_ (by simp) _ | with_reducible refine Below.alloc ?_ (by simp; try omega) _))⟩
      · have hi : ¬ (1 : Int) < (t.size : Int) := by omega
        clear e1 e2
        go_enter Tryz.func120, Tryz.ntmps120
        go_wp2_with fail
        refine (HOB _).mono ?_
        rintro e w' ⟨rfl, rfl⟩
        go_wp2_with fail
        go_ret3
        exact ⟨by rw [HR.out, HX.out]; rfl, (by repeat (first | with_reducible exact Below.refl _ _ | with_reducible refine below_drewN ?_ _ | with_reducible refine Below.drew ?_ | with_reducible refine Below.setCell ?_ (by simp) _ | with_reducible refine Below.alloc ?_ (by simp; try omega) _))⟩
    · have HR : Hid _ := hr
      rw [hB] at HOB
      rw [hS] at HOS
      rw [byteAt_lt _ _ h0] at HOB HOS hlo hhi HR
      clear hr hB hS
      have hi1 : (1 : Int) ≤ (t.size : Int) := by omega
      have hi0 : ((t.size : Int) == 0) = false := beq_eq_false_iff_ne.2 (by omega)
      have hip : (0 : Int) < (t.size : Int) := by omega
      by_cases h1 : 1 < t.size
      · have e1 := e1 h1
        have e2 := e2 h1
        have hi : (1 : Int) < (t.size : Int) := by omega
        have hi2 : (2 : Int) ≤ (t.size : Int) := by omega
        have kc := conv1
        go_enter Tryz.func120, Tryz.ntmps120
        go_wp2_with fail
        refine (HOB _).mono ?_
        rintro e w' ⟨rfl, rfl⟩
        go_wp2_with fail
        refine (HOS _).mono ?_
        rintro e w' ⟨rfl, rfl⟩
        go_wp2_with fail
        go_ret3
        exact ⟨by rw [HR.out, ← one_small]; rfl, (by repeat (first | with_reducible exact Below.refl _ _ | with_reducible refine below_drewN ?_ _ | with_reducible refine Below.drew ?_ | with_reducible refine Below.setCell ?_ (by simp) _ | with_reducible refine Below.alloc ?_ (by simp; try omega) _))⟩
      · have hi : ¬ (1 : Int) < (t.size : Int) := by omega
        clear e1 e2
        have kc := conv1
        go_enter Tryz.func120, Tryz.ntmps120
        go_wp2_with fail
        refine (HOB _).mono ?_
        rintro e w' ⟨rfl, rfl⟩
        go_wp2_with fail
        refine (HOS _).mono ?_
        rintro e w' ⟨rfl, rfl⟩
        go_wp2_with fail
        go_ret3
        exact ⟨by rw [HR.out, ← one_small]; rfl, (by repeat (first | with_reducible exact Below.refl _ _ | with_reducible refine below_drewN ?_ _ | with_reducible refine Below.drew ?_ | with_reducible refine Below.setCell ?_ (by simp) _ | with_reducible refine Below.alloc ?_ (by simp; try omega) _))⟩
    · have HR : Hid _ := hr
      rw [hB] at HOB
      rw [hS] at HOS
      rw [byteAt_lt _ _ h0] at HOB HOS
      clear hr hB hS
      have hi1 : (1 : Int) ≤ (t.size : Int) := by omega
      have hi0 : ((t.size : Int) == 0) = false := beq_eq_false_iff_ne.2 (by omega)
      have hip : (0 : Int) < (t.size : Int) := by omega
      by_cases h1 : 1 < t.size
      · have e1 := e1 h1
        have e2 := e2 h1
        have hi : (1 : Int) < (t.size : Int) := by omega
        have hi2 : (2 : Int) ≤ (t.size : Int) := by omega
        go_enter Tryz.func120, Tryz.ntmps120
        go_wp2_with fail
        refine (HOB _).mono ?_
        rintro e w' ⟨rfl, rfl⟩
        go_wp2_with fail
        refine (HOS _).mono ?_
        rintro e w' ⟨rfl, rfl⟩
        go_wp2_with fail
        go_ret3
        exact ⟨by rw [HR.out]; rfl, (by repeat (first | with_reducible exact Below.refl _ _ | with_reducible refine below_drewN ?_ _ | with_reducible refine Below.drew ?_ | with_reducible refine Below.setCell ?_ (by simp) _ | with_reducible refine Below.alloc ?_ (by simp; try omega) _))⟩
      · have hi : ¬ (1 : Int) < (t.size : Int) := by omega
        clear e1 e2
        go_enter Tryz.func120, Tryz.ntmps120
        go_wp2_with fail
        refine (HOB _).mono ?_
        rintro e w' ⟨rfl, rfl⟩
        go_wp2_with fail
        refine (HOS _).mono ?_
        rintro e w' ⟨rfl, rfl⟩
        go_wp2_with fail
        go_ret3
        exact ⟨by rw [HR.out]; rfl, (by repeat (first | with_reducible exact Below.refl _ _ | with_reducible refine below_drewN ?_ _ | with_reducible refine Below.drew ?_ | with_reducible refine Below.setCell ?_ (by simp) _ | with_reducible refine Below.alloc ?_ (by simp; try omega) _))⟩
end Go.Proofs.YtcabaecbmkgclaaGreatDoor
