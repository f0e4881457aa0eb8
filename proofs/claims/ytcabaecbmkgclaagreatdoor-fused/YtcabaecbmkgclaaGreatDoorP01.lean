/-
  What the cursor's methods and the reader's small tests on bytes do: peek, ended, take, digit, fail, isSign, startsRing, clash, given, chargeOf.
  What take, digit and HasPrefix do.
  The lists behind the reader, read element by element; an atom in a box of its own.
  An append onto a list that the call itself made: the row is the one that it had, or a new one.
  What the reader's element does.
  What the reader's full, name, fits and bracket do.
  What the molecule's Add does.
  What the graph's Join and Joined do.
-/
import Derived.Test.YtcabaecbmkgclaaGreatDoorP00
import Derived.Deep.RegionLaw
import Derived.ArgAppend
import Derived.Deep.RegionWith
import Derived.Laws.DeepBits32

namespace Go.Proofs.YtcabaecbmkgclaaGreatDoor
open Go.RowKit Bz

theorem ret_bool {a b : Bool} (h : a = b) : Ending.returned (.bool a) = .returned (.bool b) := by rw [h]
theorem ret_int {k : IntKind} {a b : Int} (h : a = b) : Ending.returned (.int k a) = .returned (.int k b) := by rw [h]

section
variable {w : World} {B : Nat} {s : ByteArray} {p : St}

set_option maxHeartbeats 400000 in
theorem peek_in (h : Rd w B s p) (n : Nat) (hs : s.size ≤ 160) (hlt : p.pos + n < s.size) :
    Calls Tryz.prog 80 #[.pointer (some ⟨B, 0, none⟩), .int .i64 n] w fun e w' => e = .returned (.int .u8 (byteAt s (p.pos + n))) ∧ ∃ k, w' = w.drewN k := by
  have h0 := h.text
  have h1 := h.pos
  rw [byteAt_lt _ _ hlt]
  have hw : IntKind.i64.wrap ((p.pos : Int) + (n : Int)) = (p.pos : Int) + (n : Int) := by rw [IntKind.wrap_i64]; omega
  have hb : (p.pos : Int) + (n : Int) < (s.size : Int) := by omega
  have hb0 : 0 ≤ (p.pos : Int) + (n : Int) := by omega
  have ht : ((p.pos : Int) + (n : Int)).toNat = p.pos + n := by omega
  go_enter Tryz.func80, Tryz.ntmps80
  go_wp2
  go_quiet (fail)
  go_wp2
  go_quiet (fail)
  go_wp2
  go_ret
  exact ⟨rfl, _, World.drewN_drewN _ _ _⟩

set_option maxHeartbeats 400000 in
theorem peek_out (h : Rd w B s p) (n : Nat) (hs : s.size ≤ 160) (hn : n ≤ 10) (hp : p.pos ≤ s.size) (hlt : ¬ p.pos + n < s.size) :
    Calls Tryz.prog 80 #[.pointer (some ⟨B, 0, none⟩), .int .i64 n] w fun e w' => e = .returned (.int .u8 (byteAt s (p.pos + n))) ∧ ∃ k, w' = w.drewN k := by
  have h0 := h.text
  have h1 := h.pos
  rw [byteAt_ge _ _ hlt]
  have hw : IntKind.i64.wrap ((p.pos : Int) + (n : Int)) = (p.pos : Int) + (n : Int) := by rw [IntKind.wrap_i64]; omega
  have hb : ¬ (p.pos : Int) + (n : Int) < (s.size : Int) := by omega
  go_enter Tryz.func80, Tryz.ntmps80
  go_wp2
  go_quiet (fail)
  go_wp2
  go_ret
  exact ⟨rfl, _, rfl⟩

theorem peek_any (h : Rd w B s p) (n : Nat) (hs : s.size ≤ 160) (hn : n ≤ 10) (hp : p.pos ≤ s.size) :
    Calls Tryz.prog 80 #[.pointer (some ⟨B, 0, none⟩), .int .i64 n] w fun e w' => e = .returned (.int .u8 (byteAt s (p.pos + n))) ∧ ∃ k, w' = w.drewN k := by
  by_cases hlt : p.pos + n < s.size
  · exact peek_in h n hs hlt
  · exact peek_out h n hs hn hp hlt

theorem peek0 (h : Rd w B s p) (hs : s.size ≤ 160) (hp : p.pos ≤ s.size) :
    Calls Tryz.prog 80 #[.pointer (some ⟨B, 0, none⟩), .int .i64 0] w fun e w' => e = .returned (.int .u8 (byteAt s p.pos)) ∧ ∃ k, w' = w.drewN k :=
  peek_any h 0 hs (by omega) hp
theorem peek1 (h : Rd w B s p) (hs : s.size ≤ 160) (hp : p.pos ≤ s.size) :
    Calls Tryz.prog 80 #[.pointer (some ⟨B, 0, none⟩), .int .i64 1] w fun e w' => e = .returned (.int .u8 (byteAt s (p.pos + 1))) ∧ ∃ k, w' = w.drewN k :=
  peek_any h 1 hs (by omega) hp

set_option maxHeartbeats 400000 in
theorem ended_any (h : Rd w B s p) (hp : p.pos ≤ s.size) :
    Calls Tryz.prog 56 #[.pointer (some ⟨B, 0, none⟩)] w fun e w' => e = .returned (.bool (!decide (p.pos < s.size))) ∧ ∃ k, w' = w.drewN k := by
  have h0 := h.text
  have h1 := h.pos
  have he : ((p.pos : Int) == (s.size : Int)) = !decide (p.pos < s.size) := by
    rw [Bool.eq_iff_iff]; simp; omega
  go_enter Tryz.func56, Tryz.ntmps56
  go_wp2
  go_quiet (fail)
  go_wp2
  go_ret
  exact ⟨ret_bool (by first | exact he | rfl), _, rfl⟩

set_option maxHeartbeats 400000 in
theorem fail_any (h : Rd w B s p) (e pl : Int) :
    Calls Tryz.prog 57 #[.pointer (some ⟨B, 28, none⟩), .int .i64 e, .int .i64 pl] w fun r w' => r = .returned (.bool false) ∧ Wrong w' B (e, pl) ∧ Fr B w w' := by
  obtain ⟨v28, h28⟩ := h.err
  obtain ⟨v29, h29⟩ := h.plc
  have f28 := h.free 28
  have f29 := h.free 29
  go_enter Tryz.func57, Tryz.ntmps57
  go_wp2
  go_ret
  exact ⟨rfl, ⟨by rw [World.cell?_setCell_other _ _ _ _ (by simp)]; exact World.cell?_setCell_same w _ _ h28, World.cell?_setCell_same _ _ _ (by rw [cell_set_ne (by omega)]; exact h29)⟩,
    ((Fr.refl B w).setCell (.inl rfl) (by simp) _).setCell (.inl rfl) (by simp) _⟩

set_option maxHeartbeats 400000 in
theorem isSign_any (c : Int) (w : World) : Calls Tryz.prog 131 #[.int .u8 c] w fun e w' => e = .returned (.bool (isSign c)) ∧ w' = w := by
  go_enter Tryz.func131, Tryz.ntmps131
  go_wp2
  all_goals (go_ret; exact ⟨ret_bool (by simp_all [isSign]), rfl⟩)

set_option maxHeartbeats 400000 in
theorem startsRing_any (c : Int) (w : World) : Calls Tryz.prog 132 #[.int .u8 c] w fun e w' => e = .returned (.bool (startsRing c)) ∧ w' = w := by
  go_enter Tryz.func132, Tryz.ntmps132
  go_wp2
  all_goals (go_ret; exact ⟨ret_bool (by simp_all [startsRing, isDigit] <;> (intros; omega)), rfl⟩)

set_option maxHeartbeats 400000 in
theorem clash_any (a b : Int) (w : World) : Calls Tryz.prog 155 #[.int .u8 a, .int .u8 b] w fun e w' => e = .returned (.bool (clash a b)) ∧ w' = w := by
  go_enter Tryz.func155, Tryz.ntmps155
  go_wp2
  all_goals (go_ret; exact ⟨ret_bool (by simp_all [clash]), rfl⟩)

set_option maxHeartbeats 400000 in
theorem given_any (a b : Int) (w : World) : Calls Tryz.prog 156 #[.int .u8 a, .int .u8 b] w fun e w' => e = .returned (.int .u8 (given a b)) ∧ w' = w := by
  by_cases h : a = 0
  · have h' : (a != 0) = false := by simp [h]
    go_enter Tryz.func156, Tryz.ntmps156
    go_wp2
    all_goals (go_ret; exact ⟨ret_int (by simp_all [given]), rfl⟩)
  · have h' : (a != 0) = true := by simp [h]
    go_enter Tryz.func156, Tryz.ntmps156
    go_wp2
    all_goals (go_ret; exact ⟨ret_int (by simp_all [given]), rfl⟩)

set_option maxHeartbeats 400000 in
theorem chargeOf_any (a : Int) (w : World) : Calls Tryz.prog 153 #[.int .u8 a] w fun e w' => e = .returned (.int .i64 (if a = 45 then -1 else 1)) ∧ w' = w := by
  by_cases h : a = 45
  · have h' : (a == 45) = true := by simp [h]
    go_enter Tryz.func153, Tryz.ntmps153
    go_wp2
    all_goals (go_ret; exact ⟨ret_int (by simp_all), rfl⟩)
  · have h' : (a == 45) = false := by simp [h]
    go_enter Tryz.func153, Tryz.ntmps153
    go_wp2
    all_goals (go_ret; exact ⟨ret_int (by simp_all), rfl⟩)
end
end Go.Proofs.YtcabaecbmkgclaaGreatDoor

namespace Go.Proofs.YtcabaecbmkgclaaGreatDoor
open Go.RowKit Bz

def hasWord (s : ByteArray) (i : Nat) (wd : ByteArray) : Bool := decide (wd.size ≤ s.size - i) && (((s.extract i s.size).extract 0 wd.size).toList == wd.toList)

theorem getElem?_byteAt (s : ByteArray) (i : Nat) : s.data.toList[i]? = if i < s.size then some (byteAt s i).toNat.toUInt8 else none := by
  by_cases h : i < s.size
  · rw [if_pos h, byteAt_lt s i h]
    have h' : i < s.data.size := h
    simp [ByteArray.getElem_eq_getElem_data]
  · rw [if_neg h]
    have h' : ¬ i < s.data.size := h
    simp; omega

theorem take_extract (s : ByteArray) (i n : Nat) : ((s.extract i s.size).extract 0 n).toList = (s.data.toList.drop i).take n := by
  rw [ByteArray.toList_eq]
  apply List.ext_getElem?
  intro k
  simp only [ByteArray.data_extract, Array.toList_extract, List.getElem?_take, List.getElem?_drop, List.extract_eq_take_drop, Nat.zero_add, Nat.sub_zero]
  by_cases hk : k < n
  · by_cases hi : i + k < s.size
    · simp [hk]
      omega
    · have : s.data.toList[i + k]? = none := by rw [getElem?_byteAt, if_neg hi]
      simp [hk, this]
  · simp [hk]

theorem u8_eq (s : ByteArray) (i : Nat) (c : UInt8) : (byteAt s i).toNat.toUInt8 = c ↔ byteAt s i = (c.toNat : Int) := by
  have h0 := byteAt_nonneg s i
  have h1 := byteAt_le s i
  rw [← UInt8.toNat_inj]
  have : (byteAt s i).toNat.toUInt8.toNat = (byteAt s i).toNat := by
    simp; omega
  omega

theorem drop_one (s : ByteArray) (i : Nat) (h : i < s.size) : s.data.toList.drop i = (byteAt s i).toNat.toUInt8 :: s.data.toList.drop (i + 1) := by
  have h' : i < s.data.toList.length := by simpa using h
  rw [List.drop_eq_getElem_cons h']
  have := getElem?_byteAt s i
  rw [if_pos h, List.getElem?_eq_getElem h'] at this
  simp only [Option.some.injEq] at this
  rw [this]

theorem hasWord1 (s : ByteArray) (i : Nat) (c : UInt8) (hc : c ≠ 0) : hasWord s i ⟨#[c]⟩ = (byteAt s i == (c.toNat : Int)) := by
  unfold hasWord
  have hsz : (ByteArray.mk #[c]).size = 1 := rfl
  have hc' : c.toNat ≠ 0 := fun e => hc (by rw [← UInt8.toNat_inj]; simpa using e)
  rw [hsz, take_extract, ByteArray.toList_eq]
  by_cases h : i < s.size
  · have h1 : decide (1 ≤ s.size - i) = true := by simp; omega
    rw [h1, Bool.true_and, drop_one s i h]
    show ([(byteAt s i).toNat.toUInt8] == [c]) = _
    rw [Bool.eq_iff_iff]
    simp only [List.cons_beq_cons, beq_iff_eq, Bool.and_true, BEq.rfl, u8_eq]
  · have h1 : decide (1 ≤ s.size - i) = false := by simp; omega
    rw [h1, Bool.false_and, byteAt_ge s i h]
    symm
    simp
    omega

theorem hasWord2 (s : ByteArray) (i : Nat) (c d : UInt8) (_hc : c ≠ 0) (hd : d ≠ 0) : hasWord s i ⟨#[c, d]⟩ = (byteAt s i == (c.toNat : Int) && byteAt s (i + 1) == (d.toNat : Int)) := by
  unfold hasWord
  have hsz : (ByteArray.mk #[c, d]).size = 2 := rfl
  have hd' : d.toNat ≠ 0 := fun e => hd (by rw [← UInt8.toNat_inj]; simpa using e)
  rw [hsz, take_extract, ByteArray.toList_eq]
  by_cases h : i + 1 < s.size
  · have h1 : decide (2 ≤ s.size - i) = true := by simp; omega
    rw [h1, Bool.true_and, drop_one s i (by omega), drop_one s (i + 1) h]
    show ([(byteAt s i).toNat.toUInt8, (byteAt s (i + 1)).toNat.toUInt8] == [c, d]) = _
    rw [Bool.eq_iff_iff]
    simp only [List.cons_beq_cons, beq_iff_eq, Bool.and_true, BEq.rfl, u8_eq, Bool.and_eq_true]
  · have h1 : decide (2 ≤ s.size - i) = false := by simp; omega
    rw [h1, Bool.false_and, byteAt_ge s (i + 1) h]
    symm
    simp
    intro _
    omega

set_option maxHeartbeats 400000 in
theorem hasPrefix0 (a wd : ByteArray) (w : World) (_h1 : a.size ≤ 160) (_h2 : wd.size ≤ 10) :
    Calls Tryz.prog 157 #[.string a, .string wd] w fun e w' => e = .returned (.bool (decide (wd.size ≤ a.size) && ((a.extract 0 wd.size).toList == wd.toList))) ∧ w' = w := by
  by_cases h : wd.size ≤ a.size
  · go_enter Tryz.func157, Tryz.ntmps157
    go_wp2
    all_goals (go_ret; exact ⟨ret_bool (by simp [h]), rfl⟩)
  · have h' : decide ((wd.size : Int) ≤ (a.size : Int)) = false := by simp; omega
    go_enter Tryz.func157, Tryz.ntmps157
    go_wp2
    all_goals (go_ret; exact ⟨ret_bool (by simp; omega), rfl⟩)

set_option maxHeartbeats 400000 in
theorem hasPrefix_any (a wd : ByteArray) (w : World) (h1 : a.size ≤ 160) (h2 : wd.size ≤ 10) :
    Calls Tryz.prog 136 #[.string a, .string wd] w fun e w' => e = .returned (.bool (decide (wd.size ≤ a.size) && ((a.extract 0 wd.size).toList == wd.toList))) ∧ w' = w := by
  go_enter Tryz.func136, Tryz.ntmps136
  go_wp2_with (go_at_call 157; refine (hasPrefix0 _ _ _ h1 h2).mono ?_; rintro e w' ⟨rfl, rfl⟩)
  go_ret
  exact ⟨rfl, rfl⟩

theorem size_extract (s : ByteArray) (i : Nat) : (s.extract i s.size).size = s.size - i := by simp

theorem hasPrefix_at (s : ByteArray) (i : Nat) (wd : ByteArray) (w : World) (h1 : s.size ≤ 160) (h2 : wd.size ≤ 10) :
    Calls Tryz.prog 136 #[.string (s.extract i s.size), .string wd] w fun e w' => e = .returned (.bool (hasWord s i wd)) ∧ w' = w := by
  have h := hasPrefix_any (s.extract i s.size) wd w (by rw [size_extract]; omega) h2
  rw [size_extract] at h
  exact h

section
variable {w : World} {B : Nat} {s : ByteArray} {p : St}

set_option maxHeartbeats 400000 in
theorem take_no (h : Rd w B s p) (hs : s.size ≤ 160) (hp : p.pos ≤ s.size) (wd : ByteArray) (h2 : wd.size ≤ 10) (hw : hasWord s p.pos wd = false) :
    Calls Tryz.prog 105 #[.pointer (some ⟨B, 0, none⟩), .string wd] w fun e w' => e = .returned (.bool false) ∧ ∃ k, w' = w.drewN k := by
  have h0 := h.text
  have h1 := h.pos
  have hq : (p.pos : Int) ≤ (s.size : Int) := by omega
  go_enter Tryz.func105, Tryz.ntmps105
  go_wp2_with fail
  go_quiet ((go_at_call 136; exact Calls.quiet_of_same (hasPrefix_at _ _ _ _ hs h2)))
  go_wp2
  go_ret
  exact ⟨rfl, _, rfl⟩

set_option maxHeartbeats 400000 in
theorem take_yes (h : Rd w B s p) (hs : s.size ≤ 160) (hp : p.pos ≤ s.size) (wd : ByteArray) (h2 : wd.size ≤ 10) (hw : hasWord s p.pos wd = true) :
    Calls Tryz.prog 105 #[.pointer (some ⟨B, 0, none⟩), .string wd] w fun e w' => e = .returned (.bool true) ∧ Rd w' B s { p with pos := p.pos + wd.size } ∧ Fr B w w' := by
  have h0 := h.text
  have h1 := h.pos
  have hf := h.free 1
  have hq : (p.pos : Int) ≤ (s.size : Int) := by omega
  go_enter Tryz.func105, Tryz.ntmps105
  go_wp2_with fail
  go_quiet ((go_at_call 136; exact Calls.quiet_of_same (hasPrefix_at _ _ _ _ hs h2)))
  go_wp2
  go_ret
  exact ⟨rfl, (h.drewN _).setPos _ _ (by go_num), ((Fr.refl B w).drewN _).setPos _⟩

/-- One letter. -/
theorem take1 (h : Rd w B s p) (hs : s.size ≤ 160) (hp : p.pos ≤ s.size) (c : UInt8) (n : Int) (hn : (c.toNat : Int) = n) (hc : c ≠ 0) :
    Calls Tryz.prog 105 #[.pointer (some ⟨B, 0, none⟩), .string ⟨#[c]⟩] w fun e w' =>
      e = .returned (.bool (byteAt s p.pos == n)) ∧ Rd w' B s (if byteAt s p.pos = n then { p with pos := p.pos + 1 } else p) ∧ Fr B w w' := by
  subst hn
  by_cases hb : byteAt s p.pos = (c.toNat : Int)
  · refine (take_yes h hs hp ⟨#[c]⟩ (by show 1 ≤ 10; omega) (by rw [hasWord1 s _ c hc]; simpa using hb)).mono ?_
    rintro e w' ⟨rfl, h1, h2⟩
    exact ⟨ret_bool (by simp [hb]), by rw [if_pos hb]; exact h1, h2⟩
  · refine (take_no h hs hp ⟨#[c]⟩ (by show 1 ≤ 10; omega) (by rw [hasWord1 s _ c hc]; simpa using hb)).mono ?_
    rintro e w' ⟨rfl, k, rfl⟩
    exact ⟨ret_bool (by simp [hb]), by rw [if_neg hb]; exact h.drewN k, (Fr.refl B w).drewN k⟩

/-- Two letters. -/
theorem take2 (h : Rd w B s p) (hs : s.size ≤ 160) (hp : p.pos ≤ s.size) (c d : UInt8) (n m : Int) (hn : (c.toNat : Int) = n) (hm : (d.toNat : Int) = m) (hc : c ≠ 0) (hd : d ≠ 0) :
    Calls Tryz.prog 105 #[.pointer (some ⟨B, 0, none⟩), .string ⟨#[c, d]⟩] w fun e w' =>
      e = .returned (.bool (byteAt s p.pos == n && byteAt s (p.pos + 1) == m)) ∧
      Rd w' B s (if byteAt s p.pos = n ∧ byteAt s (p.pos + 1) = m then { p with pos := p.pos + 2 } else p) ∧ Fr B w w' := by
  subst hn hm
  by_cases hb : byteAt s p.pos = (c.toNat : Int) ∧ byteAt s (p.pos + 1) = (d.toNat : Int)
  · refine (take_yes h hs hp ⟨#[c, d]⟩ (by show 2 ≤ 10; omega) (by rw [hasWord2 s _ c d hc hd]; simpa using hb)).mono ?_
    rintro e w' ⟨rfl, h1, h2⟩
    exact ⟨ret_bool (by simp [hb]), by rw [if_pos hb]; exact h1, h2⟩
  · refine (take_no h hs hp ⟨#[c, d]⟩ (by show 2 ≤ 10; omega) (by rw [hasWord2 s _ c d hc hd]; simpa using hb)).mono ?_
    rintro e w' ⟨rfl, k, rfl⟩
    exact ⟨ret_bool (by symm; simpa using hb), by rw [if_neg hb]; exact h.drewN k, (Fr.refl B w).drewN k⟩

set_option maxHeartbeats 400000 in
theorem digit_any (h : Rd w B s p) (hs : s.size ≤ 160) (hp : p.pos ≤ s.size) (lo hi : Int) (hlo : 48 ≤ lo) :
    Calls Tryz.prog 152 #[.pointer (some ⟨B, 0, none⟩), .int .u8 lo, .int .u8 hi] w fun e w' =>
      e = .returned (.tuple (if lo ≤ byteAt s p.pos ∧ byteAt s p.pos ≤ hi then #[.int .i64 (byteAt s p.pos - 48), .bool true] else #[.int .i64 0, .bool false])) ∧
      Rd w' B s (if lo ≤ byteAt s p.pos ∧ byteAt s p.pos ≤ hi then { p with pos := p.pos + 1 } else p) ∧ Fr B w w' := by
  have h0 := h.text
  have h1 := h.pos
  have hf := h.free 1
  have b0 := byteAt_nonneg s p.pos
  have b1 := byteAt_le s p.pos
  by_cases hb : lo ≤ byteAt s p.pos ∧ byteAt s p.pos ≤ hi
  · rw [if_pos hb, if_pos hb]
    obtain ⟨hb1, hb2⟩ := hb
    go_enter Tryz.func152, Tryz.ntmps152
    go_wp2_with (go_at_call 80; refine (peek0 h hs hp).mono ?_; rintro e w' ⟨rfl, k, rfl⟩)
    go_ret2
    exact ⟨rfl, (h.drewN _).setPos _ _ (by go_num), ((Fr.refl B w).drewN _).setPos _⟩
  · rw [if_neg hb, if_neg hb]
    by_cases hb1 : byteAt s p.pos < lo
    · clear hb
      go_enter Tryz.func152, Tryz.ntmps152
      go_wp2_with (go_at_call 80; refine (peek0 h hs hp).mono ?_; rintro e w' ⟨rfl, k, rfl⟩)
      go_ret2
      exact ⟨rfl, h.drewN _, (Fr.refl B w).drewN _⟩
    · have hb2 : hi < byteAt s p.pos := by omega
      clear hb
      go_enter Tryz.func152, Tryz.ntmps152
      go_wp2_with (go_at_call 80; refine (peek0 h hs hp).mono ?_; rintro e w' ⟨rfl, k, rfl⟩)
      go_ret2
      exact ⟨rfl, h.drewN _, (Fr.refl B w).drewN _⟩
end
end Go.Proofs.YtcabaecbmkgclaaGreatDoor

namespace Go.Proofs.YtcabaecbmkgclaaGreatDoor
open Go.RowKit Bz

theorem flatMap_get {α : Type} (f : α → List Value) (m : Nat) (hf : ∀ a, (f a).length = m) : ∀ (l : List α) (i j : Nat) (a : α), l[i]? = some a → j < m → (l.flatMap f)[i * m + j]? = (f a)[j]?
  | [], i, _, _, h, _ => by simp at h
  | x :: r, 0, j, a, h, hj => by
    simp at h; subst h
    rw [List.flatMap_cons, Nat.zero_mul, Nat.zero_add, List.getElem?_append_left (by rw [hf]; exact hj)]
  | x :: r, i + 1, j, a, h, hj => by
    simp at h
    rw [List.flatMap_cons, List.getElem?_append_right (by rw [hf, Nat.succ_mul]; omega), hf]
    have : (i + 1) * m + j - m = i * m + j := by rw [Nat.succ_mul]; omega
    rw [this]
    exact flatMap_get f m hf r i j a h hj

theorem flatMap_len {α : Type} (f : α → List Value) (m : Nat) (hf : ∀ a, (f a).length = m) (l : List α) : (l.flatMap f).length = l.length * m := by
  induction l with
  | nil => simp
  | cons x r ih => rw [List.flatMap_cons, List.length_append, hf, ih, List.length_cons, Nat.succ_mul]; omega

theorem atmCells_len (a : Atm) : (atmCells a).length = 6 := rfl
theorem bndCells_len (a : Bnd) : (bndCells a).length = 3 := rfl
theorem pbCells_len (a : Bnd) : (pbCells a).length = 4 := rfl

theorem ownsRow_shape {w : World} {base : Nat} {e : TypeId} {size : Nat} {v : Value} {n : Nat} {xs : List Value} (h : w.ownsRow base e size v n xs) : ∃ ao cap, v = .slice ao n cap := by
  rcases h.2 with ⟨rfl, rfl⟩ | ⟨g, cap, cur, rfl, _⟩
  · exact ⟨none, 0, rfl⟩
  · exact ⟨_, cap, rfl⟩

theorem ownsRow_at {w : World} {base : Nat} {e : TypeId} {size : Nat} {v : Value} {n : Nat} {xs : List Value} (h : w.ownsRow base e size v n xs) (hn : 0 < n) :
    ∃ g cap, v = .slice (some ⟨g, 0, none⟩) n cap ∧ base ≤ g ∧ g < w.heap.size ∧ (∀ j, j < n * size → w.cell? ⟨g, j, none⟩ = xs[j]?) ∧ ∀ j, w.frozen? ⟨g, j, none⟩ = false := by
  have hl := h.lt
  rcases h.2 with ⟨_, rfl⟩ | ⟨g, cap, cur, rfl, _⟩
  · exact absurd hn (Nat.lt_irrefl _)
  · obtain ⟨h1, h2⟩ := hl g rfl
    exact ⟨g, cap, rfl, h1, h2, h.cellAt, h.frozenAt⟩

section
variable {w : World} {B : Nat} {s : ByteArray} {p : St}

theorem Rd.atomsLen (h : Rd w B s p) : ∃ ao cap, w.cell? ⟨B, 26, none⟩ = some (.slice ao p.atoms.length cap) := by
  obtain ⟨v, hv, ho⟩ := h.atoms
  obtain ⟨ao, cap, rfl⟩ := ownsRow_shape ho
  exact ⟨ao, cap, hv⟩

/-- The atoms' list, when there is one: where each cell lies. -/
theorem Rd.atomsAt (h : Rd w B s p) (hn : 0 < p.atoms.length) : ∃ g cap, w.cell? ⟨B, 26, none⟩ = some (.slice (some ⟨g, 0, none⟩) p.atoms.length cap) ∧
    (∀ i a j v, p.atoms[i]? = some a → (atmCells a)[j]? = some v → w.cell? ⟨g, i * 6 + j, none⟩ = some v) ∧ (∀ j, w.frozen? ⟨g, j, none⟩ = false) ∧ B < g ∧ g < w.heap.size := by
  obtain ⟨v, hv, ho⟩ := h.atoms
  obtain ⟨g, cap, rfl, h1, h2, h3, h4⟩ := ownsRow_at ho hn
  refine ⟨g, cap, hv, ?_, h4, h1, h2⟩
  intro i a j u hi hj
  have hj6 : j < 6 := by
    have := (List.getElem?_eq_some_iff.1 hj).1
    simpa [atmCells_len] using this
  have hil : i < p.atoms.length := (List.getElem?_eq_some_iff.1 hi).1
  rw [h3 (i * 6 + j) (by omega), flatMap_get atmCells 6 atmCells_len _ i j a hi hj6, hj]

theorem Rd.bondsAt (h : Rd w B s p) (hn : 0 < p.bonds.length) : ∃ g cap, w.cell? ⟨B, 27, none⟩ = some (.slice (some ⟨g, 0, none⟩) p.bonds.length cap) ∧
    (∀ i a j v, p.bonds[i]? = some a → (pbCells a)[j]? = some v → w.cell? ⟨g, i * 4 + j, none⟩ = some v) ∧ (∀ j, w.frozen? ⟨g, j, none⟩ = false) ∧ B < g ∧ g < w.heap.size := by
  obtain ⟨v, hv, ho⟩ := h.bonds
  obtain ⟨g, cap, rfl, h1, h2, h3, h4⟩ := ownsRow_at ho hn
  refine ⟨g, cap, hv, ?_, h4, h1, h2⟩
  intro i a j u hi hj
  have hj6 : j < 4 := by
    have := (List.getElem?_eq_some_iff.1 hj).1
    simpa [pbCells_len] using this
  have hil : i < p.bonds.length := (List.getElem?_eq_some_iff.1 hi).1
  rw [h3 (i * 4 + j) (by omega), flatMap_get pbCells 4 pbCells_len _ i j a hi hj6, hj]
end

/-- An atom in a box of its own. -/
structure Bx (w : World) (L : Nat) (a : Atm) : Prop where
  c0 : w.cell? ⟨L, 0, none⟩ = some (.string a.el)
  c1 : w.cell? ⟨L, 1, none⟩ = some (.bool a.aro)
  c2 : w.cell? ⟨L, 2, none⟩ = some (.int .i64 a.ch)
  c3 : w.cell? ⟨L, 3, none⟩ = some (.int .i64 a.hy)
  c4 : w.cell? ⟨L, 4, none⟩ = some (.int .i64 a.pl)
  c5 : w.cell? ⟨L, 5, none⟩ = some (.bool a.br)
  fz : ∀ i, w.frozen? ⟨L, i, none⟩ = false

theorem Bx.same {w w' : World} {L : Nat} {a : Atm} (h : Bx w L a) (hs : w'.heap[L]? = w.heap[L]?) : Bx w' L a := by
  have hc : ∀ i, w'.cell? ⟨L, i, none⟩ = w.cell? ⟨L, i, none⟩ := fun i => World.cell?_of_block (w := w) hs
  have hf : ∀ i, w'.frozen? ⟨L, i, none⟩ = w.frozen? ⟨L, i, none⟩ := fun i => World.frozen?_of_block (w := w) hs
  exact ⟨by rw [hc]; exact h.c0, by rw [hc]; exact h.c1, by rw [hc]; exact h.c2, by rw [hc]; exact h.c3, by rw [hc]; exact h.c4, by rw [hc]; exact h.c5, fun i => by rw [hf]; exact h.fz i⟩

theorem Bx.lt {w : World} {L : Nat} {a : Atm} (h : Bx w L a) : L < w.heap.size := World.block_lt_of_cell? w ⟨L, 0, none⟩ h.c0

/-- As Fr, but block L may have turned too. -/
structure FrX (B L : Nat) (w w' : World) : Prop where
  os : w'.os = w.os
  tape : w'.tape = w.tape
  output : w'.output = w.output
  size : w.heap.size ≤ w'.heap.size
  block : ∀ k, k < w.heap.size → ¬ Mine w B k → k ≠ L → w'.heap[k]? = w.heap[k]?
  mine : ∀ k, k < w.heap.size → Mine w' B k → Mine w B k

theorem Fr.x {B : Nat} {w w' : World} (h : Fr B w w') (L : Nat) : FrX B L w w' := ⟨h.os, h.tape, h.output, h.size, fun k hk hm _ => h.block k hk hm, h.mine⟩

theorem FrX.trans {B L : Nat} {a b c : World} (h : FrX B L a b) (k : FrX B L b c) : FrX B L a c :=
  ⟨k.os.trans h.os, k.tape.trans h.tape, k.output.trans h.output, Nat.le_trans h.size k.size,
    fun i hi hm hl => (k.block i (Nat.lt_of_lt_of_le hi h.size) (fun e => hm (h.mine i hi e)) hl).trans (h.block i hi hm hl),
    fun i hi hm => h.mine i hi (k.mine i (Nat.lt_of_lt_of_le hi h.size) hm)⟩

/-- Block L was laid behind the first world. -/
theorem Fr.transX {B L : Nat} {a b c : World} (h : Fr B a b) (hL : a.heap.size ≤ L) (k : FrX B L b c) : Fr B a c :=
  ⟨k.os.trans h.os, k.tape.trans h.tape, k.output.trans h.output, Nat.le_trans h.size k.size,
    fun i hi hm => (k.block i (Nat.lt_of_lt_of_le hi h.size) (fun e => hm (h.mine i hi e)) (by omega)).trans (h.block i hi hm),
    fun i hi hm => h.mine i hi (k.mine i (Nat.lt_of_lt_of_le hi h.size) hm)⟩

theorem FrX.set {B L : Nat} {a w : World} (h : FrX B L a w) (hL : L ≠ B) (i : Nat) (u : Value) : FrX B L a (w.setCell ⟨L, i, none⟩ u) := by
  have hB : (w.setCell ⟨L, i, none⟩ u).heap[B]? = w.heap[B]? := Below.heap_setCell w _ u B (by simpa using fun e => hL e.symm)
  refine ⟨h.os, h.tape, h.output, by simpa using h.size, fun k hk hm hl => ?_, fun k hk hm => h.mine k hk ((Mine.same hB).1 hm)⟩
  rw [Below.heap_setCell w _ u k (by simpa using hl)]
  exact h.block k hk hm hl

theorem FrX.notMine {B L k : Nat} {a w : World} (h : FrX B L a w) (hk : k < a.heap.size) (hm : ¬ Mine a B k) : ¬ Mine w B k := fun e => hm (h.mine k hk e)
theorem Fr.notMine {B k : Nat} {a w : World} (h : Fr B a w) (hk : k < a.heap.size) (hm : ¬ Mine a B k) : ¬ Mine w B k := fun e => hm (h.mine k hk e)

theorem Bx.fr {B : Nat} {w w' : World} {L : Nat} {a : Atm} (h : Bx w L a) (hf : Fr B w w') (hm : ¬ Mine w B L) : Bx w' L a := h.same (hf.block L h.lt hm)

theorem Bx.setHy {w : World} {L : Nat} {a : Atm} (h : Bx w L a) (n : Int) : Bx (w.setCell ⟨L, 3, none⟩ (.int .i64 n)) L { a with hy := n } :=
  ⟨by rw [cell_set_ne (by omega)]; exact h.c0, by rw [cell_set_ne (by omega)]; exact h.c1, by rw [cell_set_ne (by omega)]; exact h.c2, World.cell?_setCell_same w _ _ h.c3,
    by rw [cell_set_ne (by omega)]; exact h.c4, by rw [cell_set_ne (by omega)]; exact h.c5, fun i => by rw [World.frozen?_setCell]; exact h.fz i⟩
theorem Bx.setCh {w : World} {L : Nat} {a : Atm} (h : Bx w L a) (n : Int) : Bx (w.setCell ⟨L, 2, none⟩ (.int .i64 n)) L { a with ch := n } :=
  ⟨by rw [cell_set_ne (by omega)]; exact h.c0, by rw [cell_set_ne (by omega)]; exact h.c1, World.cell?_setCell_same w _ _ h.c2, by rw [cell_set_ne (by omega)]; exact h.c3,
    by rw [cell_set_ne (by omega)]; exact h.c4, by rw [cell_set_ne (by omega)]; exact h.c5, fun i => by rw [World.frozen?_setCell]; exact h.fz i⟩
theorem Bx.setEl {w : World} {L : Nat} {a : Atm} (h : Bx w L a) (x : ByteArray) : Bx (w.setCell ⟨L, 0, none⟩ (.string x)) L { a with el := x } :=
  ⟨World.cell?_setCell_same w _ _ h.c0, by rw [cell_set_ne (by omega)]; exact h.c1, by rw [cell_set_ne (by omega)]; exact h.c2, by rw [cell_set_ne (by omega)]; exact h.c3,
    by rw [cell_set_ne (by omega)]; exact h.c4, by rw [cell_set_ne (by omega)]; exact h.c5, fun i => by rw [World.frozen?_setCell]; exact h.fz i⟩
theorem Bx.setAro {w : World} {L : Nat} {a : Atm} (h : Bx w L a) (x : Bool) : Bx (w.setCell ⟨L, 1, none⟩ (.bool x)) L { a with aro := x } :=
  ⟨by rw [cell_set_ne (by omega)]; exact h.c0, World.cell?_setCell_same w _ _ h.c1, by rw [cell_set_ne (by omega)]; exact h.c2, by rw [cell_set_ne (by omega)]; exact h.c3,
    by rw [cell_set_ne (by omega)]; exact h.c4, by rw [cell_set_ne (by omega)]; exact h.c5, fun i => by rw [World.frozen?_setCell]; exact h.fz i⟩
theorem Bx.setBr {w : World} {L : Nat} {a : Atm} (h : Bx w L a) (x : Bool) : Bx (w.setCell ⟨L, 5, none⟩ (.bool x)) L { a with br := x } :=
  ⟨by rw [cell_set_ne (by omega)]; exact h.c0, by rw [cell_set_ne (by omega)]; exact h.c1, by rw [cell_set_ne (by omega)]; exact h.c2, by rw [cell_set_ne (by omega)]; exact h.c3,
    by rw [cell_set_ne (by omega)]; exact h.c4, World.cell?_setCell_same w _ _ h.c5, fun i => by rw [World.frozen?_setCell]; exact h.fz i⟩

theorem Rd.ne_of_notMine {w : World} {B L : Nat} (hm : ¬ Mine w B L) : L ≠ B := fun e => hm (.inl e)

end Go.Proofs.YtcabaecbmkgclaaGreatDoor

namespace Go.Proofs.YtcabaecbmkgclaaGreatDoor
open Go.RowKit

theorem ownsRow_mono {w : World} {base base' : Nat} {e : TypeId} {size : Nat} {v : Value} {n : Nat} {xs : List Value} (h : w.ownsRow base e size v n xs) (hb : base' ≤ base) : w.ownsRow base' e size v n xs := by
  refine ⟨h.1, ?_⟩
  rcases h.2 with hn | ⟨g, cap, cur, hv, hg, r⟩
  · exact .inl hn
  · exact .inr ⟨g, cap, cur, hv, Nat.le_trans hb hg, r⟩

theorem grownBy_weaken {w w' : World} {row : Option Nat} (h : w.grownBy w' none) : w.grownBy w' row := ⟨h.os, h.tape, h.output, h.size, fun k hk _ => h.block k hk (by simp)⟩

section
variable {P : Program} (w : World)

theorem run_append_mine (base : Nat) (t ty e : TypeId) (i : TypeInfo) (z : Value) (size bytes : Nat) (ht : P.underlying t = some (.slice e)) (hi : P.info? e = some i) (hz : i.zero = some z)
    (hsize : i.size = size) (hby : i.bytes = bytes) (hzs : z.cells.size = size) (hsz : 0 < size)
    (v : Value) (n : Nat) (xs : List Value) (hown : w.ownsRow base e size v n xs)
    (a : Addr) (m c : Nat) (news : List Value) (hl : news.length = m * size) (hnews : ∀ j u, news[j]? = some u → w.cell? (a.add j) = some u) (h1 : ∀ u ∈ news, u.oneCell' = true)
    (h63 : n + m ≤ maxLen) (hbytes : (n + m) * bytes ≤ 140737488355328) (hbase : base ≤ w.heap.size) :
    ∃ v' w', (Builtin.append_ #[t, t] ty #[v, .slice (some a) m c]).run P w = .ok v' w' ∧ w'.ownsRow base e size v' (n + m) (xs ++ news) ∧ w.grownBy w' v.ownBlock ∧
      ∀ k, v'.ownBlock = some k → v.ownBlock = some k ∨ w.heap.size ≤ k := by
  rcases hown.2 with ⟨rfl, rfl⟩ | ⟨g, cap, cur, rfl, hbg, hg, hnc, hcm, hcs, htake⟩
  · obtain rfl : xs = [] := List.eq_nil_of_length_eq_zero (by simpa using hown.1)
    obtain ⟨v', w', hr, ho, hgr, _⟩ := run_append_own (P := P) w w.heap.size t ty e i z size bytes ht hi hz hsize hby hzs hsz (.slice none 0 0) 0 [] (World.ownsRow_nil w _ e size) a m c news hl hnews h1 h63 hbytes (Nat.le_refl _)
    exact ⟨v', w', hr, ownsRow_mono ho hbase, hgr, fun k hk => .inr (ho.lt k hk).1⟩
  · by_cases hroom : n + m ≤ cap
    · obtain ⟨w', hr, ho, hgr⟩ := run_append_fits (P := P) w base t ty e i size ht hi hsize g n cap xs hown a m c news hl hnews h1 hroom
      exact ⟨_, w', hr, ho, hgr, fun k hk => .inl (by simpa [Value.ownBlock] using hk)⟩
    · obtain ⟨v', w', hr, ho, hgr⟩ := run_append_arg_grows (P := P) w t ty e i z size bytes ht hi hz hsize hby hzs hsz ⟨g, 0, none⟩ n cap xs hown.1 (hown.cells rfl) a m c news hl hnews (by omega) h63 hbytes
      exact ⟨v', w', hr, ownsRow_mono ho hbase, grownBy_weaken hgr, fun k hk => .inr (ho.lt k hk).1⟩
end

theorem step_append_mine {P : Program} {ops : Array Oper} {o : Oper} {a : Act} {w : World} {K : Act → World → Prop} {Q : Exit → Act → World → Prop} {E : Prop}
    (hg : o.guard = none) (s x : Operand) (t : TypeId) (hop : o.op = Op.call { callee := Callee.builtin Builtin.append, args := #[s, x], argTypes := #[t, t] })
    (base : Nat) (e : TypeId) (i : TypeInfo) (z : Value) (size bytes : Nat) (ht : P.underlying t = some (.slice e)) (hi : P.info? e = some i) (hz : i.zero = some z)
    (hsize : i.size = size) (hby : i.bytes = bytes) (hzs : z.cells.size = size) (hsz : 0 < size)
    (v : Value) (n : Nat) (xs : List Value) (hs : a.eval s = v) (hown : w.ownsRow base e size v n xs)
    (ad : Addr) (m c : Nat) (news : List Value) (hx : a.eval x = .slice (some ad) m c) (hl : news.length = m * size) (hnews : ∀ j u, news[j]? = some u → w.cell? (ad.add j) = some u) (h1 : ∀ u ∈ news, u.oneCell' = true)
    (h63 : n + m ≤ maxLen) (hbytes : (n + m) * bytes ≤ 140737488355328) (hbase : base ≤ w.heap.size)
    (hK : ∀ v' w', w'.ownsRow base e size v' (n + m) (xs ++ news) → w.grownBy w' v.ownBlock → (∀ k, v'.ownBlock = some k → v.ownBlock = some k ∨ w.heap.size ≤ k) → K (a.put o.dst v') w') :
    if Region.wanted o (yielded ops a.tmps) = true then Oper.wp P o a w K Q else E := by
  have hw : Region.wanted o (yielded ops a.tmps) = true := by simp [Region.wanted, hg]
  rw [if_pos hw]
  obtain ⟨v', w', hr, h2, h3, h4⟩ := run_append_mine (P := P) w base t o.type e i z size bytes ht hi hz hsize hby hzs hsz v n xs hown ad m c news hl hnews h1 h63 hbytes hbase
  unfold Oper.wp execOp
  simp only [hop, resolve, invoke, builtin, Sem.run_bind, Sem.run_pure, Result.andThen_ok, List.map_toArray, List.map_cons, List.map_nil, hs, hx, hr]
  exact hK v' w' h2 h3 h4

theorem wpList_append_mine {P : Program} {w : World} {ops : Array Oper} {rest : List Oper} {o : Oper} {a : Act} {Q : Exit → Act → World → Prop} (hgd : o.guard = none) (s x : Operand) (t : TypeId)
    (ho : o.op = .call { callee := .builtin .append, args := #[s, x], argTypes := #[t, t] })
    (base : Nat) (e : TypeId) (i : TypeInfo) (z : Value) (size bytes : Nat) (ht : P.underlying t = some (.slice e)) (hi : P.info? e = some i) (hz : i.zero = some z)
    (hsize : i.size = size) (hby : i.bytes = bytes) (hzs : z.cells.size = size) (hsz : 0 < size)
    (v : Value) (n : Nat) (xs : List Value) (hs : a.eval s = v) (hown : w.ownsRow base e size v n xs)
    (ad : Addr) (m c : Nat) (news : List Value) (hx : a.eval x = .slice (some ad) m c) (hl : news.length = m * size) (hnews : ∀ j u, news[j]? = some u → w.cell? (ad.add j) = some u) (h1 : ∀ u ∈ news, u.oneCell' = true)
    (h63 : n + m ≤ maxLen) (hbytes : (n + m) * bytes ≤ 140737488355328) (hbase : base ≤ w.heap.size)
    (h : ∀ v' w', w'.ownsRow base e size v' (n + m) (xs ++ news) → w.grownBy w' v.ownBlock → (∀ k, v'.ownBlock = some k → v.ownBlock = some k ∨ w.heap.size ≤ k) → wpList P ops Q rest (a.put o.dst v') w') : wpList P ops Q (o :: rest) a w := by
  refine wpList_plain hgd fun K hK => ?_
  obtain ⟨v', w', hr, h2, h3, h4⟩ := run_append_mine (P := P) w base t o.type e i z size bytes ht hi hz hsize hby hzs hsz v n xs hown ad m c news hl hnews h1 h63 hbytes hbase
  unfold Oper.wp execOp
  simp only [ho, resolve, invoke, builtin, Sem.run_bind, Sem.run_pure, Result.andThen_ok, List.map_toArray, List.map_cons, List.map_nil, hs, hx, hr]
  exact hK _ _ (h v' w' h2 h3 h4)

end Go.Proofs.YtcabaecbmkgclaaGreatDoor

namespace Go.Proofs.YtcabaecbmkgclaaGreatDoor
open Go.RowKit Bz

section
variable {w : World} {B : Nat} {s : ByteArray} {p : St}

def ElemPost (w : World) (B : Nat) (s : ByteArray) (p : St) (e : Ending) (w' : World) : Prop :=
  (match element s p.pos with
  | some x => e = .returned (.tuple #[.string x.1, .bool x.2.1, .bool true]) ∧ Rd w' B s { p with pos := p.pos + x.2.2 }
  | none => e = .returned (.tuple #[.string ⟨#[]⟩, .bool false, .bool false]) ∧ Rd w' B s p) ∧ Fr B w w'

theorem ElemPost.some {w : World} {e : Ending} {w' : World} {x : ByteArray × Bool × Nat} (hx : element s p.pos = .some x) (he : e = .returned (.tuple #[.string x.1, .bool x.2.1, .bool true]))
    (hr : Rd w' B s { p with pos := p.pos + x.2.2 }) (hf : Fr B w w') : ElemPost w B s p e w' := by
  unfold ElemPost; rw [hx]; exact ⟨⟨he, hr⟩, hf⟩
theorem ElemPost.none {w : World} {e : Ending} {w' : World} (hx : element s p.pos = .none) (he : e = .returned (.tuple #[.string ⟨#[]⟩, .bool false, .bool false]))
    (hr : Rd w' B s p) (hf : Fr B w w') : ElemPost w B s p e w' := by
  unfold ElemPost; rw [hx]; exact ⟨⟨he, hr⟩, hf⟩

set_option maxHeartbeats 1000000 in
theorem elem_big (h : Rd w B s p) (hs : s.size ≤ 160) (hp : p.pos ≤ s.size)
    (hc : byteAt s p.pos = 78 ∨ byteAt s p.pos = 79 ∨ byteAt s p.pos = 80 ∨ byteAt s p.pos = 83 ∨ byteAt s p.pos = 70 ∨ byteAt s p.pos = 73) :
    Calls Tryz.prog 150 #[.pointer (some ⟨B, 0, none⟩)] w (ElemPost w B s p) := by
  have h1 := h.pos
  have hf := h.free 1
  rcases hc with hc | hc | hc | hc | hc | hc
  all_goals
    have HX : Hid (element s p.pos = .some (one (byteAt s p.pos), false, 1)) := by unfold Hid; simp [element, hc]
    have HP := peek0 h hs hp
    rw [hc] at HP
    rw [hc] at HX
    clear hc
    go_enter Tryz.func150, Tryz.ntmps150
    go_wp2_with (go_at_call 80; refine HP.mono ?_; rintro e w' ⟨rfl, k, rfl⟩)
    go_ret3
    exact ElemPost.some HX.out (by rfl) ((h.drewN _).setPos _ _ (by go_num)) (((Fr.refl B w).drewN _).setPos _)

set_option maxHeartbeats 1000000 in
theorem elem_small (h : Rd w B s p) (hs : s.size ≤ 160) (hp : p.pos ≤ s.size)
    (hc : byteAt s p.pos = 99 ∨ byteAt s p.pos = 110 ∨ byteAt s p.pos = 111 ∨ byteAt s p.pos = 112 ∨ byteAt s p.pos = 115) :
    Calls Tryz.prog 150 #[.pointer (some ⟨B, 0, none⟩)] w (ElemPost w B s p) := by
  have h1 := h.pos
  have hf := h.free 1
  rcases hc with hc | hc | hc | hc | hc
  all_goals
    have HX : Hid (element s p.pos = .some (one (byteAt s p.pos - 32), true, 1)) := by unfold Hid; simp [element, hc]
    have HP := peek0 h hs hp
    rw [hc] at HP
    rw [hc] at HX
    clear hc
    go_enter Tryz.func150, Tryz.ntmps150
    go_wp2_with (go_at_call 80; refine HP.mono ?_; rintro e w' ⟨rfl, k, rfl⟩)
    go_ret3
    exact ElemPost.some HX.out (by rfl) ((h.drewN _).setPos _ _ (by go_num)) (((Fr.refl B w).drewN _).setPos _)

set_option maxHeartbeats 1000000 in
theorem elem_none (h : Rd w B s p) (hs : s.size ≤ 160) (hp : p.pos ≤ s.size)
    (hc : ¬ (byteAt s p.pos = 78 ∨ byteAt s p.pos = 79 ∨ byteAt s p.pos = 80 ∨ byteAt s p.pos = 83 ∨ byteAt s p.pos = 70 ∨ byteAt s p.pos = 73))
    (hc' : ¬ (byteAt s p.pos = 99 ∨ byteAt s p.pos = 110 ∨ byteAt s p.pos = 111 ∨ byteAt s p.pos = 112 ∨ byteAt s p.pos = 115))
    (h67 : byteAt s p.pos ≠ 67) (h66 : byteAt s p.pos ≠ 66) :
    Calls Tryz.prog 150 #[.pointer (some ⟨B, 0, none⟩)] w (ElemPost w B s p) := by
  simp only [not_or] at hc hc'
  obtain ⟨a1, a2, a3, a4, a5, a6⟩ := hc
  obtain ⟨b1, b2, b3, b4, b5⟩ := hc'
  have HX : Hid (element s p.pos = .none) := by unfold Hid; simp [element, *]
  have HP := peek0 h hs hp
  generalize byteAt s p.pos = c at *
  have t1 : (c == 67) = false := by simpa using h67
  have t2 : (c == 66) = false := by simpa using h66
  have t3 : (c == 78) = false := by simpa using a1
  have t4 : (c == 79) = false := by simpa using a2
  have t5 : (c == 80) = false := by simpa using a3
  have t6 : (c == 83) = false := by simpa using a4
  have t7 : (c == 70) = false := by simpa using a5
  have t8 : (c == 73) = false := by simpa using a6
  have t9 : (c == 99) = false := by simpa using b1
  have t10 : (c == 110) = false := by simpa using b2
  have t11 : (c == 111) = false := by simpa using b3
  have t12 : (c == 112) = false := by simpa using b4
  have t13 : (c == 115) = false := by simpa using b5
  clear a1 a2 a3 a4 a5 a6 b1 b2 b3 b4 b5 h67 h66
  go_enter Tryz.func150, Tryz.ntmps150
  go_wp2_with (go_at_call 80; refine HP.mono ?_; rintro e w' ⟨rfl, k, rfl⟩)
  go_ret3
  exact ElemPost.none HX.out (by rfl) (h.drewN _) ((Fr.refl B w).drewN _)

set_option maxHeartbeats 1000000 in
theorem elem_C (h : Rd w B s p) (hs : s.size ≤ 160) (hp : p.pos ≤ s.size) (hc : byteAt s p.pos = 67) :
    Calls Tryz.prog 150 #[.pointer (some ⟨B, 0, none⟩)] w (ElemPost w B s p) := by
  have HP := peek0 h hs hp
  rw [hc] at HP
  by_cases hn : byteAt s (p.pos + 1) = 108
  · have HX : Hid (element s p.pos = .some (⟨#[67, 108]⟩, false, 2)) := by unfold Hid; simp [element, hc, hn]
    have HT : Hid (∀ w, Rd w B s p → Calls Tryz.prog 105 #[.pointer (some ⟨B, 0, none⟩), .string ⟨#[67, 108]⟩] w fun e w' => e = .returned (.bool true) ∧ Rd w' B s { p with pos := p.pos + 2 } ∧ Fr B w w') := by
      intro w h
      have := take2 h hs hp 67 108 67 108 rfl rfl (by decide) (by decide)
      simpa [hc, hn] using this
    clear hc hn
    go_enter Tryz.func150, Tryz.ntmps150
    go_wp2_with fail
    refine HP.mono ?_
    rintro e w' ⟨rfl, k, rfl⟩
    go_wp2_with fail
    refine (HT.out _ (h.drewN k)).mono ?_
    rintro e w' ⟨rfl, hr, hf⟩
    go_wp2_with fail
    go_ret3
    exact ElemPost.some HX.out rfl hr (((Fr.refl B w).drewN _).trans hf)
  · have HX : Hid (element s p.pos = .some (one 67, false, 1)) := by unfold Hid; simp [element, hc, hn]
    have HT : Hid (∀ w, Rd w B s p → Calls Tryz.prog 105 #[.pointer (some ⟨B, 0, none⟩), .string ⟨#[67, 108]⟩] w fun e w' => e = .returned (.bool false) ∧ Rd w' B s p ∧ Fr B w w') := by
      intro w h
      have := take2 h hs hp 67 108 67 108 rfl rfl (by decide) (by decide)
      have hn' : (byteAt s (p.pos + 1) == 108) = false := by simpa using hn
      simpa [hc, hn, hn'] using this
    have HU : Hid (∀ w, Rd w B s p → Calls Tryz.prog 105 #[.pointer (some ⟨B, 0, none⟩), .string ⟨#[66, 114]⟩] w fun e w' => e = .returned (.bool false) ∧ Rd w' B s p ∧ Fr B w w') := by
      intro w h
      have := take2 h hs hp 66 114 66 114 rfl rfl (by decide) (by decide)
      simpa [hc] using this
    clear hc hn
    go_enter Tryz.func150, Tryz.ntmps150
    go_wp2_with fail
    refine HP.mono ?_
    rintro e w' ⟨rfl, k, rfl⟩
    go_wp2_with fail
    refine (HT.out _ (h.drewN k)).mono ?_
    rintro e w1 ⟨rfl, hr1, hf1⟩
    go_wp2_with fail
    refine (HU.out _ hr1).mono ?_
    rintro e w2 ⟨rfl, hr2, hf2⟩
    have hq := hr2.pos
    have hz := hr2.free 1
    go_wp2_with fail
    go_ret3
    exact ElemPost.some HX.out (by rfl) (hr2.setPos _ _ (by go_num)) (((((Fr.refl B w).drewN _).trans hf1).trans hf2).setPos _)

set_option maxHeartbeats 1000000 in
theorem elem_B (h : Rd w B s p) (hs : s.size ≤ 160) (hp : p.pos ≤ s.size) (hc : byteAt s p.pos = 66) :
    Calls Tryz.prog 150 #[.pointer (some ⟨B, 0, none⟩)] w (ElemPost w B s p) := by
  have HP := peek0 h hs hp
  rw [hc] at HP
  by_cases hn : byteAt s (p.pos + 1) = 114
  · have HX : Hid (element s p.pos = .some (⟨#[66, 114]⟩, false, 2)) := by unfold Hid; simp [element, hc, hn]
    have HT : Hid (∀ w, Rd w B s p → Calls Tryz.prog 105 #[.pointer (some ⟨B, 0, none⟩), .string ⟨#[66, 114]⟩] w fun e w' => e = .returned (.bool true) ∧ Rd w' B s { p with pos := p.pos + 2 } ∧ Fr B w w') := by
      intro w h
      have := take2 h hs hp 66 114 66 114 rfl rfl (by decide) (by decide)
      simpa [hc, hn] using this
    clear hc hn
    go_enter Tryz.func150, Tryz.ntmps150
    go_wp2_with fail
    refine HP.mono ?_
    rintro e w' ⟨rfl, k, rfl⟩
    go_wp2_with fail
    refine (HT.out _ (h.drewN k)).mono ?_
    rintro e w' ⟨rfl, hr, hf⟩
    go_wp2_with fail
    go_ret3
    exact ElemPost.some HX.out rfl hr (((Fr.refl B w).drewN _).trans hf)
  · have HX : Hid (element s p.pos = .some (one 66, false, 1)) := by unfold Hid; simp [element, hc, hn]
    have HU : Hid (∀ w, Rd w B s p → Calls Tryz.prog 105 #[.pointer (some ⟨B, 0, none⟩), .string ⟨#[66, 114]⟩] w fun e w' => e = .returned (.bool false) ∧ Rd w' B s p ∧ Fr B w w') := by
      intro w h
      have := take2 h hs hp 66 114 66 114 rfl rfl (by decide) (by decide)
      have hn' : (byteAt s (p.pos + 1) == 114) = false := by simpa using hn
      simpa [hc, hn, hn'] using this
    clear hc hn
    go_enter Tryz.func150, Tryz.ntmps150
    go_wp2_with fail
    refine HP.mono ?_
    rintro e w' ⟨rfl, k, rfl⟩
    go_wp2_with fail
    refine (HU.out _ (h.drewN k)).mono ?_
    rintro e w2 ⟨rfl, hr2, hf2⟩
    have hq := hr2.pos
    have hz := hr2.free 1
    go_wp2_with fail
    go_ret3
    exact ElemPost.some HX.out (by rfl) (hr2.setPos _ _ (by go_num)) ((((Fr.refl B w).drewN _).trans hf2).setPos _)

theorem elem_any (h : Rd w B s p) (hs : s.size ≤ 160) (hp : p.pos ≤ s.size) :
    Calls Tryz.prog 150 #[.pointer (some ⟨B, 0, none⟩)] w (ElemPost w B s p) := by
  by_cases h67 : byteAt s p.pos = 67
  · exact elem_C h hs hp h67
  by_cases h66 : byteAt s p.pos = 66
  · exact elem_B h hs hp h66
  by_cases hb : byteAt s p.pos = 78 ∨ byteAt s p.pos = 79 ∨ byteAt s p.pos = 80 ∨ byteAt s p.pos = 83 ∨ byteAt s p.pos = 70 ∨ byteAt s p.pos = 73
  · exact elem_big h hs hp hb
  by_cases hb' : byteAt s p.pos = 99 ∨ byteAt s p.pos = 110 ∨ byteAt s p.pos = 111 ∨ byteAt s p.pos = 112 ∨ byteAt s p.pos = 115
  · exact elem_small h hs hp hb'
  exact elem_none h hs hp hb hb' h67 h66
end
end Go.Proofs.YtcabaecbmkgclaaGreatDoor

namespace Go.Proofs.YtcabaecbmkgclaaGreatDoor
open Go.RowKit Bz

section
variable {w : World} {B : Nat} {s : ByteArray} {p : St}

set_option maxHeartbeats 400000 in
theorem full_any (h : Rd w B s p) (_hn : p.atoms.length ≤ 24) :
    Calls Tryz.prog 151 #[.pointer (some ⟨B, 0, none⟩)] w fun e w' => e = .returned (.bool (full p)) ∧ w' = w := by
  obtain ⟨ao, cap, hc⟩ := h.atomsLen
  have he : ((p.atoms.length : Int) == 24) = full p := by rw [Bool.eq_iff_iff]; simp [full]; omega
  go_enter Tryz.func151, Tryz.ntmps151
  go_wp2
  go_ret
  exact ⟨ret_bool (by first | exact he | rfl), rfl⟩

def hungV (h : Hung) : Value := .agg #[.int .u8 h.mark, .int .i64 h.spot, .int .i64 h.atom]
def atmV (a : Atm) : Value := .agg #[.string a.el, .bool a.aro, .int .i64 a.ch, .int .i64 a.hy, .int .i64 a.pl, .bool a.br]

theorem Fr.two {B : Nat} {w : World} (hB : B < w.heap.size) (o o' : Obj) : Fr B w (((w.alloc o).alloc o').drew) :=
  (((Fr.refl B w).alloc hB o).alloc (by simp; omega) o').drew

set_option maxHeartbeats 1000000 in
theorem fits_bond (h : Rd w B s p) (g : Hung) (a : Atm) (hm : g.mark = 58) (ha : a.aro = false) :
    Calls Tryz.prog 126 #[.pointer (some ⟨B, 0, none⟩), hungV g, atmV a] w fun e w' => e = .returned (.bool false) ∧ Wrong w' B (3, g.spot) ∧ Fr B w w' := by
  have hB := h.lt
  unfold hungV atmV
  rw [hm, ha]
  go_enter Tryz.func126, Tryz.ntmps126
  go_wp2_with fail
  go_region_with (go_at_call 57; refine (fail_any ((h.alloc _).alloc _).drew _ _).mono ?_; rintro e w' ⟨rfl, hw, hf⟩)
  go_wp2
  go_ret
  exact ⟨rfl, hw, (Fr.two hB _ _).trans hf⟩

set_option maxHeartbeats 1000000 in
theorem fits_full (h : Rd w B s p) (hn : p.atoms.length ≤ 24) (g : Hung) (a : Atm) (hm : ¬ (g.mark = 58 ∧ a.aro = false)) (hu : full p = true) :
    Calls Tryz.prog 126 #[.pointer (some ⟨B, 0, none⟩), hungV g, atmV a] w fun e w' => e = .returned (.bool false) ∧ Wrong w' B (5, a.pl) ∧ Fr B w w' := by
  have hB := h.lt
  have hc : (g.mark == 58) = false ∨ (g.mark = 58 ∧ a.aro = true) := by
    by_cases e : g.mark = 58
    · exact .inr ⟨e, by cases ha : a.aro <;> simp_all⟩
    · exact .inl (by simpa using e)
  clear hm
  unfold hungV atmV
  rcases hc with hc | ⟨hc, ha⟩
  · go_enter Tryz.func126, Tryz.ntmps126
    go_wp2_with (go_at_call 151; refine (full_any ((h.alloc _).alloc _) hn).mono ?_; rintro e w' ⟨rfl, rfl⟩)
    go_region_with (go_at_call 57; refine (fail_any ((h.alloc _).alloc _).drew _ _).mono ?_; rintro e w' ⟨rfl, hw, hf⟩)
    go_wp2
    go_ret
    exact ⟨rfl, hw, (Fr.two hB _ _).trans hf⟩
  · rw [hc, ha]
    clear hc ha
    go_enter Tryz.func126, Tryz.ntmps126
    go_wp2_with (go_at_call 151; refine (full_any ((h.alloc _).alloc _) hn).mono ?_; rintro e w' ⟨rfl, rfl⟩)
    go_region_with (go_at_call 57; refine (fail_any ((h.alloc _).alloc _).drew _ _).mono ?_; rintro e w' ⟨rfl, hw, hf⟩)
    go_wp2
    go_ret
    exact ⟨rfl, hw, (Fr.two hB _ _).trans hf⟩

set_option maxHeartbeats 1000000 in
theorem fits_ok (h : Rd w B s p) (hn : p.atoms.length ≤ 24) (g : Hung) (a : Atm) (hm : ¬ (g.mark = 58 ∧ a.aro = false)) (hu : full p = false) :
    Calls Tryz.prog 126 #[.pointer (some ⟨B, 0, none⟩), hungV g, atmV a] w fun e w' => e = .returned (.bool true) ∧ Rd w' B s p ∧ Fr B w w' := by
  have hB := h.lt
  have hc : (g.mark == 58) = false ∨ (g.mark = 58 ∧ a.aro = true) := by
    by_cases e : g.mark = 58
    · exact .inr ⟨e, by cases ha : a.aro <;> simp_all⟩
    · exact .inl (by simpa using e)
  clear hm
  unfold hungV atmV
  rcases hc with hc | ⟨hc, ha⟩
  · go_enter Tryz.func126, Tryz.ntmps126
    go_wp2_with (go_at_call 151; refine (full_any ((h.alloc _).alloc _) hn).mono ?_; rintro e w' ⟨rfl, rfl⟩)
    go_ret
    exact ⟨rfl, (h.alloc _).alloc _, ((Fr.refl B w).alloc hB _).alloc (by simp; omega) _⟩
  · rw [hc, ha]
    clear hc ha
    go_enter Tryz.func126, Tryz.ntmps126
    go_wp2_with (go_at_call 151; refine (full_any ((h.alloc _).alloc _) hn).mono ?_; rintro e w' ⟨rfl, rfl⟩)
    go_ret
    exact ⟨rfl, (h.alloc _).alloc _, ((Fr.refl B w).alloc hB _).alloc (by simp; omega) _⟩

set_option maxHeartbeats 1000000 in
theorem name_ok (h : Rd w B s p) (hs : s.size ≤ 160) (hp : p.pos ≤ s.size) (L : Nat) (a : Atm) (hb : Bx w L a) (hm : ¬ Mine w B L) (x : ByteArray × Bool × Nat) (hx : element s p.pos = some x) :
    Calls Tryz.prog 125 #[.pointer (some ⟨B, 0, none⟩), .pointer (some ⟨L, 0, none⟩)] w fun e w' =>
      e = .returned (.bool true) ∧ Rd w' B s { p with pos := p.pos + x.2.2 } ∧ Bx w' L { a with el := x.1, aro := x.2.1 } ∧ ¬ Mine w' B L ∧ FrX B L w w' := by
  have HE := elem_any h hs hp
  unfold ElemPost at HE
  rw [hx] at HE
  simp only at HE
  have hLB := Rd.ne_of_notMine hm
  go_enter Tryz.func125, Tryz.ntmps125
  go_wp2_with fail
  refine HE.mono ?_
  rintro e w1 ⟨⟨rfl, hr⟩, hf⟩
  have hb1 := hb.fr hf hm
  have hm1 := hf.notMine hb.lt hm
  have c0 := hb1.c0
  have c1 := hb1.c1
  have f0 := hb1.fz 0
  have f1 := hb1.fz 1
  have hx1 := (hb1.setEl x.1).setAro x.2.1
  go_wp2_with fail
  go_ret
  refine ⟨rfl, (hr.setOther hm1 _).setOther ?_ _, hx1, ?_, ((hf.x L).set hLB _ _).set hLB _ _⟩
  · exact fun e => hm1 ((Mine.same (Below.heap_setCell _ _ _ _ (by simpa using fun e => hLB e.symm))).1 e)
  · exact (((hf.x L).set hLB _ _).set hLB _ _).notMine hb.lt hm

def noName (a : Atm) (p : St) : Int × Int := if a.br && full p then (5, a.pl) else (2, p.pos)

set_option maxHeartbeats 1000000 in
theorem name_no (h : Rd w B s p) (hs : s.size ≤ 160) (hp : p.pos ≤ s.size) (hn : p.atoms.length ≤ 24) (L : Nat) (a : Atm) (hb : Bx w L a) (hm : ¬ Mine w B L) (hx : element s p.pos = none) :
    Calls Tryz.prog 125 #[.pointer (some ⟨B, 0, none⟩), .pointer (some ⟨L, 0, none⟩)] w fun e w' =>
      e = .returned (.bool false) ∧ Wrong w' B (noName a p) ∧ FrX B L w w' := by
  have HE := elem_any h hs hp
  unfold ElemPost at HE
  rw [hx] at HE
  simp only at HE
  have hLB := Rd.ne_of_notMine hm
  go_enter Tryz.func125, Tryz.ntmps125
  go_wp2_with fail
  refine HE.mono ?_
  rintro e w1 ⟨⟨rfl, hr⟩, hf⟩
  have hb1 := hb.fr hf hm
  have hm1 := hf.notMine hb.lt hm
  have hx1 := (hb1.setEl ⟨#[]⟩).setAro false
  have hr1 := (hr.setOther hm1 (q := ⟨L, 0, none⟩) (.string ⟨#[]⟩)).setOther (q := ⟨L, 1, none⟩) (fun e => hm1 ((Mine.same (Below.heap_setCell _ _ _ _ (by simpa using fun e => hLB e.symm))).1 e)) (.bool false)
  have hfx := ((hf.x L).set hLB 0 (.string ⟨#[]⟩)).set hLB 1 (.bool false)
  have c0 := hb1.c0
  have c1 := hb1.c1
  have f0 := hb1.fz 0
  have f1 := hb1.fz 1
  have c4 := hx1.c4
  have c5 := hx1.c5
  have hps := hr1.pos
  simp only at c5 c4
  cases hbr : a.br
  · rw [hbr] at c5
    have hno : Hid (noName a p = ((2 : Int), (p.pos : Int))) := by unfold Hid; simp [noName, hbr]
    clear hbr
    go_wp2_with fail
    go_region_with (go_at_call 57; refine (fail_any hr1.drew _ _).mono ?_; rintro e w' ⟨rfl, hw, hf2⟩)
    go_wp2
    go_ret
    exact ⟨rfl, by rw [hno.out]; exact hw, (hfx.trans ((Fr.refl B _).drew.x L)).trans (hf2.x L)⟩
  · rw [hbr] at c5
    have hfull := full_any hr1 hn
    cases hfu : full p
    · rw [hfu] at hfull
      have hno : Hid (noName a p = ((2 : Int), (p.pos : Int))) := by unfold Hid; simp [noName, hfu]
      clear hbr hfu
      go_wp2_with (go_at_call 151; refine hfull.mono ?_; rintro e w' ⟨rfl, rfl⟩)
      go_region_with (go_at_call 57; refine (fail_any hr1.drew _ _).mono ?_; rintro e w' ⟨rfl, hw, hf2⟩)
      go_wp2
      go_ret
      exact ⟨rfl, by rw [hno.out]; exact hw, (hfx.trans ((Fr.refl B _).drew.x L)).trans (hf2.x L)⟩
    · rw [hfu] at hfull
      have hno : Hid (noName a p = ((5 : Int), (a.pl : Int))) := by unfold Hid; simp [noName, hbr, hfu]
      clear hbr hfu
      go_wp2_with (go_at_call 151; refine hfull.mono ?_; rintro e w' ⟨rfl, rfl⟩)
      go_region_with (go_at_call 57; refine (fail_any hr1.drew _ _).mono ?_; rintro e w' ⟨rfl, hw, hf2⟩)
      go_wp2
      go_ret
      exact ⟨rfl, by rw [hno.out]; exact hw, (hfx.trans ((Fr.refl B _).drew.x L)).trans (hf2.x L)⟩
end
end Go.Proofs.YtcabaecbmkgclaaGreatDoor

namespace Go.Proofs.YtcabaecbmkgclaaGreatDoor
open Go.RowKit Bz

theorem Tryz.infoMAtom : (Tryz.prog.info? 124).map (fun i => (i.zero, i.size, i.bytes)) = some (some (.agg #[.string ⟨#[]⟩, .bool false, .int .i64 0, .int .i64 0, .int .i64 0, .bool false]), 6, 56) := by kernel_rfl
theorem Tryz.infoMBond : (Tryz.prog.info? 102).map (fun i => (i.zero, i.size, i.bytes)) = some (some (.agg #[.int .i64 0, .int .i64 0, .int .i64 0, .int .i64 0]), 4, 32) := by kernel_rfl
theorem Tryz.infoBond : (Tryz.prog.info? 46).map (fun i => (i.zero, i.size, i.bytes)) = some (some (.agg #[.int .i64 0, .int .i64 0, .int .i64 0]), 3, 24) := by kernel_rfl

section
variable {w : World} {B : Nat} {s : ByteArray} {p : St}

theorem ownBlock_ne {w : World} {b1 b2 : Nat} {e1 e2 : TypeId} {s1 s2 : Nat} {v1 v2 : Value} {n1 n2 : Nat} {x1 x2 : List Value} (h1 : w.ownsRow b1 e1 s1 v1 n1 x1) (h2 : w.ownsRow b2 e2 s2 v2 n2 x2) (he : e1 ≠ e2) (k : Nat) (hk : v1.ownBlock = some k) : v2.ownBlock ≠ some k := by
  intro hk2
  rcases h1.2 with ⟨rfl, _⟩ | ⟨g, cap, cur, rfl, _, hg, _⟩
  · simp [Value.ownBlock] at hk
  rcases h2.2 with ⟨rfl, _⟩ | ⟨g', cap', cur', rfl, _, hg', _⟩
  · simp [Value.ownBlock] at hk2
  simp [Value.ownBlock] at hk hk2
  subst hk hk2
  rw [hg] at hg'
  simp at hg'
  exact he hg'.2

theorem Rd.atomAdded {w2 : World} (h : Rd w B s p) {av : Value} (hav : w.cell? ⟨B, 26, none⟩ = some av) (a : Atm) (v' : Value)
    (hown : w2.ownsRow (B + 1) 124 6 v' (p.atoms.length + 1) (p.atoms.flatMap atmCells ++ atmCells a)) (hg : w.grownBy w2 av.ownBlock)
    (hv : ∀ k, v'.ownBlock = some k → av.ownBlock = some k ∨ w.heap.size ≤ k) :
    Rd (w2.setCell ⟨B, 26, none⟩ v') B s { p with atoms := p.atoms ++ [a] } ∧ Fr B w (w2.setCell ⟨B, 26, none⟩ v') := by
  obtain ⟨va, ha, oa⟩ := h.atoms
  obtain ⟨vb, hb, ob⟩ := h.bonds
  rw [hav] at ha
  cases ha
  have hB : w2.heap[B]? = w.heap[B]? := hg.block B h.lt (fun e => by have := (oa.lt B e.symm).1; omega)
  have hc : ∀ i, w2.cell? ⟨B, i, none⟩ = w.cell? ⟨B, i, none⟩ := fun i => World.cell?_of_block (w := w) hB
  have hf : ∀ i, w2.frozen? ⟨B, i, none⟩ = w.frozen? ⟨B, i, none⟩ := fun i => World.frozen?_of_block (w := w) hB
  have ob2 : w2.ownsRow (B + 1) 102 4 vb p.bonds.length (p.bonds.flatMap pbCells) :=
    ownsRow_same ob fun k hk => hg.block k (ob.lt k hk).2 (fun e => ownBlock_ne ob oa (by decide) k hk e.symm)
  have h26 : (w2.setCell ⟨B, 26, none⟩ v').cell? ⟨B, 26, none⟩ = some v' := World.cell?_setCell_same w2 _ _ (by rw [hc]; exact hav)
  refine ⟨⟨by rw [cell_set_ne (by omega), hc]; exact h.text, by rw [cell_set_ne (by omega), hc]; exact h.pos, fun k hk => by rw [cell_set_ne (by omega), hc]; exact h.near k hk,
    ⟨v', h26, ?_⟩, ⟨vb, by rw [cell_set_ne (by omega), hc]; exact hb, ownsRow_setB ob2 _ _⟩,
    by rw [cell_set_ne (by omega), hc]; exact h.err, by rw [cell_set_ne (by omega), hc]; exact h.plc, fun n j v hn hv => by rw [cell_set_ne (by omega), hc]; exact h.rings n j v hn hv,
    fun i => by rw [World.frozen?_setCell, hf]; exact h.free i⟩, ⟨hg.os, hg.tape, hg.output, by simpa using hg.size, ?_, ?_⟩⟩
  · have := ownsRow_setB hown 26 v'
    simpa using this
  · intro k hk hm
    rw [Below.heap_setCell w2 _ _ k (by rintro rfl; exact hm (.inl rfl))]
    exact hg.block k hk (fun e => hm (.inr (.inl ⟨av, hav, e.symm⟩)))
  · intro k hk hm
    rcases hm with rfl | ⟨v, hv1, hv2⟩ | ⟨v, hv1, hv2⟩
    · exact .inl rfl
    · rw [h26] at hv1
      cases hv1
      rcases hv k hv2 with e | e
      · exact .inr (.inl ⟨av, hav, e⟩)
      · omega
    · rw [cell_set_ne (by omega), hc] at hv1
      exact .inr (.inr ⟨v, hv1, hv2⟩)

theorem Rd.atomCell {w2 : World} (h : Rd w B s p) {av : Value} (hav : w.cell? ⟨B, 26, none⟩ = some av) (hg : w.grownBy w2 av.ownBlock) : w2.cell? ⟨B, 26, none⟩ = some av ∧ w2.frozen? ⟨B, 26, none⟩ = false := by
  obtain ⟨va, ha, oa⟩ := h.atoms
  rw [hav] at ha
  cases ha
  have hB : w2.heap[B]? = w.heap[B]? := hg.block B h.lt (fun e => by have := (oa.lt B e.symm).1; omega)
  exact ⟨by rw [World.cell?_of_block (w := w) hB]; exact hav, by rw [World.frozen?_of_block (w := w) hB]; exact h.free 26⟩

theorem cells6 (w : World) (a : Atm) (t : TypeId) : ∀ j u, (atmCells a)[j]? = some u → (w.alloc (.cells #[.string a.el, .bool a.aro, .int .i64 a.ch, .int .i64 a.hy, .int .i64 a.pl, .bool a.br] t)).cell? ((⟨w.heap.size, 0, none⟩ : Addr).add j) = some u := by
  intro j u hj
  have hadd : (⟨w.heap.size, 0, none⟩ : Addr).add j = ⟨w.heap.size, j, none⟩ := by unfold Addr.add; split <;> simp_all
  rw [hadd, World.cell?_alloc_new]
  simpa [atmCells] using hj

set_option maxHeartbeats 1000000 in
theorem add_any (h : Rd w B s p) (a : Atm) (hn : p.atoms.length < 24) :
    Calls Tryz.prog 128 #[.pointer (some ⟨B, 2, none⟩), atmV a] w fun e w' => e = .returned (.int .i64 p.atoms.length) ∧ Rd w' B s { p with atoms := p.atoms ++ [a] } ∧ Fr B w w' := by
  have hB := h.lt
  obtain ⟨av, hav, oa⟩ := h.atoms
  obtain ⟨i0, hi, hz0, hz1, hz2⟩ := info_parts Tryz.infoMAtom
  have hnews : ∀ (o : Obj) (t : TypeId), ∀ j u, (atmCells a)[j]? = some u → (((w.alloc o).alloc (.cells #[.string a.el, .bool a.aro, .int .i64 a.ch, .int .i64 a.hy, .int .i64 a.pl, .bool a.br] t)).drew).cell? ((⟨w.heap.size + 1, 0, none⟩ : Addr).add j) = some u := by
    intro o t j u hj
    have := cells6 (w.alloc o) a t j u hj
    simpa using this
  have hav2 : Hid (∀ o o' : Obj, (((w.alloc o).alloc o').drew).cell? ⟨B, 26, none⟩ = some av) := by
    intro o o'
    rw [World.cell?_drew, World.cell?_alloc_lt _ _ _ (by simp; omega), World.cell?_alloc_lt _ _ _ (by simpa using hB)]
    exact hav
  have h1c : ∀ u ∈ atmCells a, u.oneCell' = true := by
    intro u hu
    simp [atmCells] at hu
    rcases hu with rfl | rfl | rfl | rfl | rfl | rfl <;> rfl
  unfold atmV
  go_enter Tryz.func128, Tryz.ntmps128
  go_wp2_with fail
  go_region_law (refine step_append_mine rfl (.tmp 9) (.tmp 11) 66 rfl (B + 1) 124 i0 (.agg #[.string ⟨#[]⟩, .bool false, .int .i64 0, .int .i64 0, .int .i64 0, .bool false]) 6 56 Tryz.underlying66 hi hz0 hz1 hz2 rfl (by decide) av p.atoms.length (p.atoms.flatMap atmCells) rfl (by exact ((oa.alloc _).alloc _).drew) ⟨w.heap.size + 1, 0, none⟩ 1 1 (atmCells a) rfl rfl (by exact hnews _ _) h1c (by unfold maxLen; omega) (by omega) (by simp; omega) ?_; intro v' w2 ho hg hk; obtain ⟨ao, cap, hv'⟩ := ownsRow_shape ho; subst hv'; have X := (((h.alloc _).alloc _).drew).atomAdded (hav2.out _ _) a _ ho hg hk; obtain ⟨c26, f26⟩ := (((h.alloc _).alloc _).drew).atomCell (hav2.out _ _) hg)
  all_goals
    go_wp2_with fail
    go_ret
    exact ⟨ret_int (by omega), X.1, (Fr.two hB _ _).trans X.2⟩
end
end Go.Proofs.YtcabaecbmkgclaaGreatDoor

namespace Go.Proofs.YtcabaecbmkgclaaGreatDoor
open Go.RowKit Bz

theorem or_bit_u32 (m b : Nat) (hm : m < 4294967296) (hb : b < 24) : bits .or .u32 (m : Int) ((2 : Int) ^ b % 4294967296) = ((m ||| 1 <<< b : Nat) : Int) := by
  have h1 : (2 : Nat) ^ b < 2 ^ 24 := Nat.pow_lt_pow_right (by decide) hb
  have h2 : (2 : Int) ^ b % (4294967296 : Int) = ((1 <<< b : Nat) : Int) := by
    rw [Nat.shiftLeft_eq, Nat.one_mul]
    have : (2 : Int) ^ b = ((2 ^ b : Nat) : Int) := by simp
    rw [this]
    generalize (2 : Nat) ^ b = q at *
    omega
  rw [h2, u32_or_nat m (1 <<< b) hm (by rw [Nat.shiftLeft_eq, Nat.one_mul]; omega)]

set_option maxHeartbeats 1000000 in
theorem join_cells (w : World) (B a b : Nat) (ha : a < 24) (hb : b < 24) (hab : a ≠ b) (m n : Nat) (hm : m < 4294967296) (hn : n < 4294967296)
    (ca : w.cell? ⟨B, 2 + a, none⟩ = some (.int .u32 m)) (cb : w.cell? ⟨B, 2 + b, none⟩ = some (.int .u32 n)) (fa : w.frozen? ⟨B, 2 + a, none⟩ = false) (fb : w.frozen? ⟨B, 2 + b, none⟩ = false) :
    Calls Tryz.prog 33 #[.pointer (some ⟨B, 2, none⟩), .int .i64 a, .int .i64 b] w fun e w' => e = .returned (.tuple #[]) ∧
      ∃ k, w' = ((w.setCell ⟨B, 2 + a, none⟩ (.int .u32 ((m ||| 1 <<< b : Nat) : Int))).setCell ⟨B, 2 + b, none⟩ (.int .u32 ((n ||| 1 <<< a : Nat) : Int))).drewN k := by
  have a24 : (a : Int) < 24 := by omega
  have b24 : (b : Int) < 24 := by omega
  go_enter Tryz.func33, Tryz.ntmps33
  go_wp2
  go_region
  go_wp2
  go_region
  go_wp2
  go_end0
  refine ⟨rfl, 2, ?_⟩
  rw [or_bit_u32 m b hm hb, or_bit_u32 n a hn ha]
  rfl

theorem bonded_bind (l : List Bnd) (a b : Nat) (o : Int) (pl k j : Nat) : bonded (l ++ [⟨min a b, max a b, o, pl⟩]) k j = (bonded l k j || ((k == a && j == b) || (k == b && j == a))) := by
  unfold bonded
  rw [List.any_append]
  congr 1
  simp only [List.any_cons, List.any_nil, Bool.or_false]
  rw [Bool.eq_iff_iff]
  simp
  omega

theorem testBit_or_bit (m b j : Nat) : (m ||| 1 <<< b).testBit j = (m.testBit j || decide (j = b)) := by
  rw [Nat.testBit_or, Nat.shiftLeft_eq, Nat.one_mul, Nat.testBit_two_pow]
  congr 1
  rw [Bool.eq_iff_iff]
  simp
  exact eq_comm

theorem or_bit_lt (m b : Nat) (hm : m < 4294967296) (hb : b < 24) : m ||| 1 <<< b < 4294967296 := by
  have : (1 <<< b : Nat) < 2 ^ 32 := by
    rw [Nat.shiftLeft_eq, Nat.one_mul]
    exact Nat.pow_lt_pow_right (by decide) (by omega)
  exact Nat.or_lt_two_pow (n := 32) hm this

section
variable {w : World} {B : Nat} {s : ByteArray} {p : St}

/-- The graph alone has turned: the bit of an edge, at both ends. (The list of bonds has yet to grow.) -/
structure RdJ (w : World) (B : Nat) (s : ByteArray) (p : St) (l : List Bnd) : Prop where
  text : w.cell? ⟨B, 0, none⟩ = some (.string s)
  pos : w.cell? ⟨B, 1, none⟩ = some (.int .i64 p.pos)
  near : ∀ k, k < 24 → ∃ m : Nat, w.cell? ⟨B, 2 + k, none⟩ = some (.int .u32 m) ∧ m < 4294967296 ∧ ∀ j, j < 24 → m.testBit j = bonded l k j
  atoms : ∃ v, w.cell? ⟨B, 26, none⟩ = some v ∧ w.ownsRow (B + 1) 124 6 v p.atoms.length (p.atoms.flatMap atmCells)
  bonds : ∃ v, w.cell? ⟨B, 27, none⟩ = some v ∧ w.ownsRow (B + 1) 102 4 v p.bonds.length (p.bonds.flatMap pbCells)
  err : ∃ v, w.cell? ⟨B, 28, none⟩ = some v
  plc : ∃ v, w.cell? ⟨B, 29, none⟩ = some v
  rings : ∀ n j v, n < 100 → (opnCells (p.rings n))[j]? = some v → w.cell? ⟨B, 30 + n * 5 + j, none⟩ = some v
  free : ∀ i, w.frozen? ⟨B, i, none⟩ = false

theorem join_any (h : Rd w B s p) (a b : Nat) (o : Int) (pl : Nat) (ha : a < 24) (hb : b < 24) (hab : a ≠ b) :
    Calls Tryz.prog 33 #[.pointer (some ⟨B, 2, none⟩), .int .i64 a, .int .i64 b] w fun e w' => e = .returned (.tuple #[]) ∧ RdJ w' B s p (p.bonds ++ [⟨min a b, max a b, o, pl⟩]) ∧ Fr B w w' := by
  obtain ⟨m, ca, hm, ta⟩ := h.near a ha
  obtain ⟨n, cb, hn, tb⟩ := h.near b hb
  refine (join_cells w B a b ha hb hab m n hm hn ca cb (h.free _) (h.free _)).mono ?_
  rintro e w' ⟨rfl, k, rfl⟩
  obtain ⟨va, hva, oa⟩ := h.atoms
  obtain ⟨vb, hvb, ob⟩ := h.bonds
  have hc : ∀ i, i ≠ 2 + a → i ≠ 2 + b → (((w.setCell ⟨B, 2 + a, none⟩ (.int .u32 ((m ||| 1 <<< b : Nat) : Int))).setCell ⟨B, 2 + b, none⟩ (.int .u32 ((n ||| 1 <<< a : Nat) : Int))).drewN k).cell? ⟨B, i, none⟩ = w.cell? ⟨B, i, none⟩ := by
    intro i h1 h2
    rw [World.cell?_drewN, cell_set_ne (by omega), cell_set_ne (by omega)]
  refine ⟨rfl, ⟨by rw [hc _ (by omega) (by omega)]; exact h.text, by rw [hc _ (by omega) (by omega)]; exact h.pos, ?_,
    ⟨va, by rw [hc _ (by omega) (by omega)]; exact hva, ownsRow_setB (ownsRow_setB oa _ _) _ _⟩, ⟨vb, by rw [hc _ (by omega) (by omega)]; exact hvb, ownsRow_setB (ownsRow_setB ob _ _) _ _⟩,
    by rw [hc _ (by omega) (by omega)]; exact h.err, by rw [hc _ (by omega) (by omega)]; exact h.plc, fun n j v hn hv => by rw [hc _ (by omega) (by omega)]; exact h.rings n j v hn hv,
    fun i => by rw [World.frozen?_drewN, World.frozen?_setCell, World.frozen?_setCell]; exact h.free i⟩,
    (((Fr.refl B w).setCell (.inl rfl) (fun _ => ⟨by simp; omega, by simp; omega⟩) _).setCell (.inl rfl) (fun _ => ⟨by simp; omega, by simp; omega⟩) _).drewN k⟩
  intro i hi
  by_cases e1 : i = a
  · subst e1
    refine ⟨_, by rw [World.cell?_drewN, cell_set_ne (by omega)]; exact World.cell?_setCell_same w _ _ ca, or_bit_lt m b hm hb, fun j hj => ?_⟩
    rw [testBit_or_bit, ta j hj, bonded_bind]
    congr 1
    rw [Bool.eq_iff_iff]
    simp
    omega
  · by_cases e2 : i = b
    · subst e2
      refine ⟨_, by rw [World.cell?_drewN]; exact World.cell?_setCell_same _ _ _ (by rw [cell_set_ne (by omega)]; exact cb), or_bit_lt n a hn ha, fun j hj => ?_⟩
      rw [testBit_or_bit, tb j hj, bonded_bind]
      congr 1
      rw [Bool.eq_iff_iff]
      simp
      omega
    · obtain ⟨q, cq, hq, tq⟩ := h.near i hi
      refine ⟨q, by rw [hc _ (by omega) (by omega)]; exact cq, hq, fun j hj => ?_⟩
      rw [tq j hj, bonded_bind]
      simp [e1, e2]
end
end Go.Proofs.YtcabaecbmkgclaaGreatDoor
