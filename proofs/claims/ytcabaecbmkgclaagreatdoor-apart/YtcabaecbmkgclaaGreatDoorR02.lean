/-
  What the reader's element does.
  What the reader's full, name, fits and bracket do.
  What the molecule's Add does.
  Lists that are full of one mark, made longer by the same mark: whatever shared their row still reads as it did.
  What the graph's Join and Joined do.
  What the reader's bracket does.
-/
import Derived.Test.YtcabaecbmkgclaaGreatDoorR01
import Derived.Deep.DeepCutAuto
import Derived.Deep.RegionLaw
import Derived.Deep.RegionWith
import Derived.Laws.DeepBits32
namespace Go.Proofs.YtcabaecbmkgclaaGreatDoor
open Go.RowKit Bz
section
variable {w : World} {B : Nat} {s : ByteArray} {p : St}
def ElemPost (w : World) (B : Nat) (s : ByteArray) (p : St) (e : Ending) (w' : World) : Prop :=
  (match element s p.pos with
  | some x => e = .returned (.tuple #[.string x.1, .bool x.2.1, .bool true]) ∧ Rd w' B s { p with pos := p.pos + x.2.2 }
  | none => e = .returned (.tuple #[.string ⟨#[]⟩, .bool false, .bool false]) ∧ Rd w' B s p) ∧ Fr B w w'

theorem ElemPost.some {w : World} {e : Ending} {w' : World} {x : ByteArray × Bool × Nat} (hx : element s p.pos = .some x) (he : e = .returned (.tuple #[.string x.1, .bool x.2.1, .bool true]))
    (hr : Rd w' B s { p with pos := p.pos + x.2.2 }) (hf : Fr B w w') : ElemPost w B s p e w' := by
  unfold ElemPost; rw [hx]; exact ⟨⟨he, hr⟩, hf⟩
theorem ElemPost.none {w : World} {e : Ending} {w' : World} (hx : element s p.pos = .none) (he : e = .returned (.tuple #[.string ⟨#[]⟩, .bool false, .bool false]))
    (hr : Rd w' B s p) (hf : Fr B w w') : ElemPost w B s p e w' := by
  unfold ElemPost; rw [hx]; exact ⟨⟨he, hr⟩, hf⟩

set_option maxHeartbeats 1000000 in
theorem elem_big (h : Rd w B s p) (hs : s.size ≤ 160) (hp : p.pos ≤ s.size)
    (hc : byteAt s p.pos = 78 ∨ byteAt s p.pos = 79 ∨ byteAt s p.pos = 80 ∨ byteAt s p.pos = 83 ∨ byteAt s p.pos = 70 ∨ byteAt s p.pos = 73) :
    Calls Tryz.prog 150 #[.pointer (some ⟨B, 0, none⟩)] w (ElemPost w B s p) := by
  have h1 := h.pos
  have hf := h.free 1
  rcases hc with hc | hc | hc | hc | hc | hc
  all_goals
    have HX : Hid (element s p.pos = .some (one (byteAt s p.pos), false, 1)) := by unfold Hid; simp [element, hc]
    have HP := peek0 h hs hp
    rw [hc] at HP
    rw [hc] at HX
    clear hc
    go_enter Tryz.func150, Tryz.ntmps150
    go_wp2_with (go_at_call 80; refine HP.mono ?_; rintro e w' ⟨rfl, k, rfl⟩)
    go_ret3
    exact ElemPost.some HX.out (by rfl) ((h.drewN _).setPos _ _ (by go_num)) (((Fr.refl B w).drewN _).setPos _)

set_option maxHeartbeats 1000000 in
theorem elem_small (h : Rd w B s p) (hs : s.size ≤ 160) (hp : p.pos ≤ s.size)
    (hc : byteAt s p.pos = 99 ∨ byteAt s p.pos = 110 ∨ byteAt s p.pos = 111 ∨ byteAt s p.pos = 112 ∨ byteAt s p.pos = 115) :
    Calls Tryz.prog 150 #[.pointer (some ⟨B, 0, none⟩)] w (ElemPost w B s p) := by
  have h1 := h.pos
  have hf := h.free 1
  rcases hc with hc | hc | hc | hc | hc
  all_goals
    have HX : Hid (element s p.pos = .some (one (byteAt s p.pos - 32), true, 1)) := by unfold Hid; simp [element, hc]
    have HP := peek0 h hs hp
    rw [hc] at HP
    rw [hc] at HX
    clear hc
    go_enter Tryz.func150, Tryz.ntmps150
    go_wp2_with (go_at_call 80; refine HP.mono ?_; rintro e w' ⟨rfl, k, rfl⟩)
    go_ret3
    exact ElemPost.some HX.out (by rfl) ((h.drewN _).setPos _ _ (by go_num)) (((Fr.refl B w).drewN _).setPos _)

set_option maxHeartbeats 1000000 in
theorem elem_none (h : Rd w B s p) (hs : s.size ≤ 160) (hp : p.pos ≤ s.size)
    (hc : ¬ (byteAt s p.pos = 78 ∨ byteAt s p.pos = 79 ∨ byteAt s p.pos = 80 ∨ byteAt s p.pos = 83 ∨ byteAt s p.pos = 70 ∨ byteAt s p.pos = 73))
    (hc' : ¬ (byteAt s p.pos = 99 ∨ byteAt s p.pos = 110 ∨ byteAt s p.pos = 111 ∨ byteAt s p.pos = 112 ∨ byteAt s p.pos = 115))
    (h67 : byteAt s p.pos ≠ 67) (h66 : byteAt s p.pos ≠ 66) :
    Calls Tryz.prog 150 #[.pointer (some ⟨B, 0, none⟩)] w (ElemPost w B s p) := by
  simp only [not_or] at hc hc'
  obtain ⟨a1, a2, a3, a4, a5, a6⟩ := hc
  obtain ⟨b1, b2, b3, b4, b5⟩ := hc'
  have HX : Hid (element s p.pos = .none) := by unfold Hid; simp [element, *]
  have HP := peek0 h hs hp
  generalize byteAt s p.pos = c at *
  have t1 : (c == 67) = false := by simpa using h67
  have t2 : (c == 66) = false := by simpa using h66
  have t3 : (c == 78) = false := by simpa using a1
  have t4 : (c == 79) = false := by simpa using a2
  have t5 : (c == 80) = false := by simpa using a3
  have t6 : (c == 83) = false := by simpa using a4
  have t7 : (c == 70) = false := by simpa using a5
  have t8 : (c == 73) = false := by simpa using a6
  have t9 : (c == 99) = false := by simpa using b1
  have t10 : (c == 110) = false := by simpa using b2
  have t11 : (c == 111) = false := by simpa using b3
  have t12 : (c == 112) = false := by simpa using b4
  have t13 : (c == 115) = false := by simpa using b5
  clear a1 a2 a3 a4 a5 a6 b1 b2 b3 b4 b5 h67 h66
  go_enter Tryz.func150, Tryz.ntmps150
  go_wp2_with (go_at_call 80; refine HP.mono ?_; rintro e w' ⟨rfl, k, rfl⟩)
  go_ret3
  exact ElemPost.none HX.out (by rfl) (h.drewN _) ((Fr.refl B w).drewN _)

set_option maxHeartbeats 1000000 in
theorem elem_C (h : Rd w B s p) (hs : s.size ≤ 160) (hp : p.pos ≤ s.size) (hc : byteAt s p.pos = 67) :
    Calls Tryz.prog 150 #[.pointer (some ⟨B, 0, none⟩)] w (ElemPost w B s p) := by
  have HP := peek0 h hs hp
  rw [hc] at HP
  by_cases hn : byteAt s (p.pos + 1) = 108
  · have HX : Hid (element s p.pos = .some (⟨#[67, 108]⟩, false, 2)) := by unfold Hid; simp [element, hc, hn]
    have HT : Hid (∀ w, Rd w B s p → Calls Tryz.prog 105 #[.pointer (some ⟨B, 0, none⟩), .string ⟨#[67, 108]⟩] w fun e w' => e = .returned (.bool true) ∧ Rd w' B s { p with pos := p.pos + 2 } ∧ Fr B w w') := by
      intro w h
      have := take2 h hs hp 67 108 67 108 rfl rfl (by decide) (by decide)
      simpa [hc, hn] using this
    clear hc hn
    go_enter Tryz.func150, Tryz.ntmps150
    go_wp2_with fail
    refine HP.mono ?_
    rintro e w' ⟨rfl, k, rfl⟩
    go_wp2_with fail
    refine (HT.out _ (h.drewN k)).mono ?_
    rintro e w' ⟨rfl, hr, hf⟩
    go_wp2_with fail
    go_ret3
    exact ElemPost.some HX.out rfl hr (((Fr.refl B w).drewN _).trans hf)
  · have HX : Hid (element s p.pos = .some (one 67, false, 1)) := by unfold Hid; simp [element, hc, hn]
    have HT : Hid (∀ w, Rd w B s p → Calls Tryz.prog 105 #[.pointer (some ⟨B, 0, none⟩), .string ⟨#[67, 108]⟩] w fun e w' => e = .returned (.bool false) ∧ Rd w' B s p ∧ Fr B w w') := by
      intro w h
      have := take2 h hs hp 67 108 67 108 rfl rfl (by decide) (by decide)
      have hn' : (byteAt s (p.pos + 1) == 108) = false := by simpa using hn
      simpa [hc, hn, hn'] using this
    have HU : Hid (∀ w, Rd w B s p → Calls Tryz.prog 105 #[.pointer (some ⟨B, 0, none⟩), .string ⟨#[66, 114]⟩] w fun e w' => e = .returned (.bool false) ∧ Rd w' B s p ∧ Fr B w w') := by
      intro w h
      have := take2 h hs hp 66 114 66 114 rfl rfl (by decide) (by decide)
      simpa [hc] using this
    clear hc hn
    go_enter Tryz.func150, Tryz.ntmps150
    go_wp2_with fail
    refine HP.mono ?_
    rintro e w' ⟨rfl, k, rfl⟩
    go_wp2_with fail
    refine (HT.out _ (h.drewN k)).mono ?_
    rintro e w1 ⟨rfl, hr1, hf1⟩
    go_wp2_with fail
    refine (HU.out _ hr1).mono ?_
    rintro e w2 ⟨rfl, hr2, hf2⟩
    have hq := hr2.pos
    have hz := hr2.free 1
    go_wp2_with fail
    go_ret3
    exact ElemPost.some HX.out (by rfl) (hr2.setPos _ _ (by go_num)) (((((Fr.refl B w).drewN _).trans hf1).trans hf2).setPos _)

set_option maxHeartbeats 1000000 in
theorem elem_B (h : Rd w B s p) (hs : s.size ≤ 160) (hp : p.pos ≤ s.size) (hc : byteAt s p.pos = 66) :
    Calls Tryz.prog 150 #[.pointer (some ⟨B, 0, none⟩)] w (ElemPost w B s p) := by
  have HP := peek0 h hs hp
  rw [hc] at HP
  by_cases hn : byteAt s (p.pos + 1) = 114
  · have HX : Hid (element s p.pos = .some (⟨#[66, 114]⟩, false, 2)) := by unfold Hid; simp [element, hc, hn]
    have HT : Hid (∀ w, Rd w B s p → Calls Tryz.prog 105 #[.pointer (some ⟨B, 0, none⟩), .string ⟨#[66, 114]⟩] w fun e w' => e = .returned (.bool true) ∧ Rd w' B s { p with pos := p.pos + 2 } ∧ Fr B w w') := by
      intro w h
      have := take2 h hs hp 66 114 66 114 rfl rfl (by decide) (by decide)
      simpa [hc, hn] using this
    clear hc hn
    go_enter Tryz.func150, Tryz.ntmps150
    go_wp2_with fail
    refine HP.mono ?_
    rintro e w' ⟨rfl, k, rfl⟩
    go_wp2_with fail
    refine (HT.out _ (h.drewN k)).mono ?_
    rintro e w' ⟨rfl, hr, hf⟩
    go_wp2_with fail
    go_ret3
    exact ElemPost.some HX.out rfl hr (((Fr.refl B w).drewN _).trans hf)
  · have HX : Hid (element s p.pos = .some (one 66, false, 1)) := by unfold Hid; simp [element, hc, hn]
    have HU : Hid (∀ w, Rd w B s p → Calls Tryz.prog 105 #[.pointer (some ⟨B, 0, none⟩), .string ⟨#[66, 114]⟩] w fun e w' => e = .returned (.bool false) ∧ Rd w' B s p ∧ Fr B w w') := by
      intro w h
      have := take2 h hs hp 66 114 66 114 rfl rfl (by decide) (by decide)
      have hn' : (byteAt s (p.pos + 1) == 114) = false := by simpa using hn
      simpa [hc, hn, hn'] using this
    clear hc hn
    go_enter Tryz.func150, Tryz.ntmps150
    go_wp2_with fail
    refine HP.mono ?_
    rintro e w' ⟨rfl, k, rfl⟩
    go_wp2_with fail
    refine (HU.out _ (h.drewN k)).mono ?_
    rintro e w2 ⟨rfl, hr2, hf2⟩
    have hq := hr2.pos
    have hz := hr2.free 1
    go_wp2_with fail
    go_ret3
    exact ElemPost.some HX.out (by rfl) (hr2.setPos _ _ (by go_num)) ((((Fr.refl B w).drewN _).trans hf2).setPos _)

theorem elem_any (h : Rd w B s p) (hs : s.size ≤ 160) (hp : p.pos ≤ s.size) :
    Calls Tryz.prog 150 #[.pointer (some ⟨B, 0, none⟩)] w (ElemPost w B s p) := by
  by_cases h67 : byteAt s p.pos = 67
  · exact elem_C h hs hp h67
  by_cases h66 : byteAt s p.pos = 66
  · exact elem_B h hs hp h66
  by_cases hb : byteAt s p.pos = 78 ∨ byteAt s p.pos = 79 ∨ byteAt s p.pos = 80 ∨ byteAt s p.pos = 83 ∨ byteAt s p.pos = 70 ∨ byteAt s p.pos = 73
  · exact elem_big h hs hp hb
  by_cases hb' : byteAt s p.pos = 99 ∨ byteAt s p.pos = 110 ∨ byteAt s p.pos = 111 ∨ byteAt s p.pos = 112 ∨ byteAt s p.pos = 115
  · exact elem_small h hs hp hb'
  exact elem_none h hs hp hb hb' h67 h66
end
section
variable {w : World} {B : Nat} {s : ByteArray} {p : St}
set_option maxHeartbeats 400000 in
theorem full_any (h : Rd w B s p) (_hn : p.atoms.length ≤ 24) :
    Calls Tryz.prog 151 #[.pointer (some ⟨B, 0, none⟩)] w fun e w' => e = .returned (.bool (full p)) ∧ w' = w := by
  obtain ⟨ao, cap, hc⟩ := h.atomsLen
  have he : ((p.atoms.length : Int) == 24) = full p := by rw [Bool.eq_iff_iff]; simp [full]; omega
  go_enter Tryz.func151, Tryz.ntmps151
  go_wp2
  go_ret
  exact ⟨ret_bool (by first | exact he | rfl), rfl⟩

def hungV (h : Hung) : Value := .agg #[.int .u8 h.mark, .int .i64 h.spot, .int .i64 h.atom]
def atmV (a : Atm) : Value := .agg #[.string a.el, .bool a.aro, .int .i64 a.ch, .int .i64 a.hy, .int .i64 a.pl, .bool a.br]

theorem Fr.two {B : Nat} {w : World} (hB : B < w.heap.size) (o o' : Obj) : Fr B w (((w.alloc o).alloc o').drew) :=
  (((Fr.refl B w).alloc hB o).alloc (by simp; omega) o').drew

set_option maxHeartbeats 1000000 in
theorem fits_bond (h : Rd w B s p) (g : Hung) (a : Atm) (hm : g.mark = 58) (ha : a.aro = false) :
    Calls Tryz.prog 126 #[.pointer (some ⟨B, 0, none⟩), hungV g, atmV a] w fun e w' => e = .returned (.bool false) ∧ Wrong w' B (3, g.spot) ∧ Fr B w w' := by
  have hB := h.lt
  unfold hungV atmV
  rw [hm, ha]
  go_enter Tryz.func126, Tryz.ntmps126
  go_wp2_with fail
  go_region_with (go_at_call 57; refine (fail_any ((h.alloc _).alloc _).drew _ _).mono ?_; rintro e w' ⟨rfl, hw, hf⟩)
  go_wp2
  go_ret
  exact ⟨rfl, hw, (Fr.two hB _ _).trans hf⟩

set_option maxHeartbeats 1000000 in
theorem fits_full (h : Rd w B s p) (hn : p.atoms.length ≤ 24) (g : Hung) (a : Atm) (hm : ¬ (g.mark = 58 ∧ a.aro = false)) (hu : full p = true) :
    Calls Tryz.prog 126 #[.pointer (some ⟨B, 0, none⟩), hungV g, atmV a] w fun e w' => e = .returned (.bool false) ∧ Wrong w' B (5, a.pl) ∧ Fr B w w' := by
  have hB := h.lt
  have hc : (g.mark == 58) = false ∨ (g.mark = 58 ∧ a.aro = true) := by
    by_cases e : g.mark = 58
    · exact .inr ⟨e, by cases ha : a.aro <;> simp_all⟩
    · exact .inl (by simpa using e)
  clear hm
  unfold hungV atmV
  rcases hc with hc | ⟨hc, ha⟩
  · go_enter Tryz.func126, Tryz.ntmps126
    go_wp2_with (go_at_call 151; refine (full_any ((h.alloc _).alloc _) hn).mono ?_; rintro e w' ⟨rfl, rfl⟩)
    go_region_with (go_at_call 57; refine (fail_any ((h.alloc _).alloc _).drew _ _).mono ?_; rintro e w' ⟨rfl, hw, hf⟩)
    go_wp2
    go_ret
    exact ⟨rfl, hw, (Fr.two hB _ _).trans hf⟩
  · rw [hc, ha]
    clear hc ha
    go_enter Tryz.func126, Tryz.ntmps126
    go_wp2_with (go_at_call 151; refine (full_any ((h.alloc _).alloc _) hn).mono ?_; rintro e w' ⟨rfl, rfl⟩)
    go_region_with (go_at_call 57; refine (fail_any ((h.alloc _).alloc _).drew _ _).mono ?_; rintro e w' ⟨rfl, hw, hf⟩)
    go_wp2
    go_ret
    exact ⟨rfl, hw, (Fr.two hB _ _).trans hf⟩

set_option maxHeartbeats 1000000 in
theorem fits_ok (h : Rd w B s p) (hn : p.atoms.length ≤ 24) (g : Hung) (a : Atm) (hm : ¬ (g.mark = 58 ∧ a.aro = false)) (hu : full p = false) :
    Calls Tryz.prog 126 #[.pointer (some ⟨B, 0, none⟩), hungV g, atmV a] w fun e w' => e = .returned (.bool true) ∧ Rd w' B s p ∧ Fr B w w' := by
  have hB := h.lt
  have hc : (g.mark == 58) = false ∨ (g.mark = 58 ∧ a.aro = true) := by
    by_cases e : g.mark = 58
    · exact .inr ⟨e, by cases ha : a.aro <;> simp_all⟩
    · exact .inl (by simpa using e)
  clear hm
  unfold hungV atmV
  rcases hc with hc | ⟨hc, ha⟩
  · go_enter Tryz.func126, Tryz.ntmps126
    go_wp2_with (go_at_call 151; refine (full_any ((h.alloc _).alloc _) hn).mono ?_; rintro e w' ⟨rfl, rfl⟩)
    go_ret
    exact ⟨rfl, (h.alloc _).alloc _, ((Fr.refl B w).alloc hB _).alloc (by simp; omega) _⟩
  · rw [hc, ha]
    clear hc ha
    go_enter Tryz.func126, Tryz.ntmps126
    go_wp2_with (go_at_call 151; refine (full_any ((h.alloc _).alloc _) hn).mono ?_; rintro e w' ⟨rfl, rfl⟩)
    go_ret
    exact ⟨rfl, (h.alloc _).alloc _, ((Fr.refl B w).alloc hB _).alloc (by simp; omega) _⟩

set_option maxHeartbeats 1000000 in
theorem name_ok (h : Rd w B s p) (hs : s.size ≤ 160) (hp : p.pos ≤ s.size) (L : Nat) (a : Atm) (hb : Bx w L a) (hm : ¬ Mine w B L) (x : ByteArray × Bool × Nat) (hx : element s p.pos = some x) :
    Calls Tryz.prog 125 #[.pointer (some ⟨B, 0, none⟩), .pointer (some ⟨L, 0, none⟩)] w fun e w' =>
      e = .returned (.bool true) ∧ Rd w' B s { p with pos := p.pos + x.2.2 } ∧ Bx w' L { a with el := x.1, aro := x.2.1 } ∧ ¬ Mine w' B L ∧ FrX B L w w' := by
  have HE := elem_any h hs hp
  unfold ElemPost at HE
  rw [hx] at HE
  simp only at HE
  have hLB := Rd.ne_of_notMine hm
  go_enter Tryz.func125, Tryz.ntmps125
  go_wp2_with fail
  refine HE.mono ?_
  rintro e w1 ⟨⟨rfl, hr⟩, hf⟩
  have hb1 := hb.fr hf hm
  have hm1 := hf.notMine hb.lt hm
  have c0 := hb1.c0
  have c1 := hb1.c1
  have f0 := hb1.fz 0
  have f1 := hb1.fz 1
  have hx1 := (hb1.setEl x.1).setAro x.2.1
  go_wp2_with fail
  go_ret
  refine ⟨rfl, (hr.setOther hm1 _).setOther ?_ _, hx1, ?_, ((hf.x L).set hLB _ _).set hLB _ _⟩
  · exact fun e => hm1 ((Mine.same (Below.heap_setCell _ _ _ _ (by simpa using fun e => hLB e.symm))).1 e)
  · exact (((hf.x L).set hLB _ _).set hLB _ _).notMine hb.lt hm

def noName (a : Atm) (p : St) : Int × Int := if a.br && full p then (5, a.pl) else (2, p.pos)

set_option maxHeartbeats 1000000 in
theorem name_no (h : Rd w B s p) (hs : s.size ≤ 160) (hp : p.pos ≤ s.size) (hn : p.atoms.length ≤ 24) (L : Nat) (a : Atm) (hb : Bx w L a) (hm : ¬ Mine w B L) (hx : element s p.pos = none) :
    Calls Tryz.prog 125 #[.pointer (some ⟨B, 0, none⟩), .pointer (some ⟨L, 0, none⟩)] w fun e w' =>
      e = .returned (.bool false) ∧ Wrong w' B (noName a p) ∧ FrX B L w w' := by
  have HE := elem_any h hs hp
  unfold ElemPost at HE
  rw [hx] at HE
  simp only at HE
  have hLB := Rd.ne_of_notMine hm
  go_enter Tryz.func125, Tryz.ntmps125
  go_wp2_with fail
  refine HE.mono ?_
  rintro e w1 ⟨⟨rfl, hr⟩, hf⟩
  have hb1 := hb.fr hf hm
  have hm1 := hf.notMine hb.lt hm
  have hx1 := (hb1.setEl ⟨#[]⟩).setAro false
  have hr1 := (hr.setOther hm1 (q := ⟨L, 0, none⟩) (.string ⟨#[]⟩)).setOther (q := ⟨L, 1, none⟩) (fun e => hm1 ((Mine.same (Below.heap_setCell _ _ _ _ (by simpa using fun e => hLB e.symm))).1 e)) (.bool false)
  have hfx := ((hf.x L).set hLB 0 (.string ⟨#[]⟩)).set hLB 1 (.bool false)
  have c0 := hb1.c0
  have c1 := hb1.c1
  have f0 := hb1.fz 0
  have f1 := hb1.fz 1
  have c4 := hx1.c4
  have c5 := hx1.c5
  have hps := hr1.pos
  simp only at c5 c4
  cases hbr : a.br
  · rw [hbr] at c5
    have hno : Hid (noName a p = ((2 : Int), (p.pos : Int))) := by unfold Hid; simp [noName, hbr]
    clear hbr
    go_wp2_with fail
    go_region_with (go_at_call 57; refine (fail_any hr1.drew _ _).mono ?_; rintro e w' ⟨rfl, hw, hf2⟩)
    go_wp2
    go_ret
    exact ⟨rfl, by rw [hno.out]; exact hw, (hfx.trans ((Fr.refl B _).drew.x L)).trans (hf2.x L)⟩
  · rw [hbr] at c5
    have hfull := full_any hr1 hn
    cases hfu : full p
    · rw [hfu] at hfull
      have hno : Hid (noName a p = ((2 : Int), (p.pos : Int))) := by unfold Hid; simp [noName, hfu]
      clear hbr hfu
      go_wp2_with (go_at_call 151; refine hfull.mono ?_; rintro e w' ⟨rfl, rfl⟩)
      go_region_with (go_at_call 57; refine (fail_any hr1.drew _ _).mono ?_; rintro e w' ⟨rfl, hw, hf2⟩)
      go_wp2
      go_ret
      exact ⟨rfl, by rw [hno.out]; exact hw, (hfx.trans ((Fr.refl B _).drew.x L)).trans (hf2.x L)⟩
    · rw [hfu] at hfull
      have hno : Hid (noName a p = ((5 : Int), (a.pl : Int))) := by unfold Hid; simp [noName, hbr, hfu]
      clear hbr hfu
      go_wp2_with (go_at_call 151; refine hfull.mono ?_; rintro e w' ⟨rfl, rfl⟩)
      go_region_with (go_at_call 57; refine (fail_any hr1.drew _ _).mono ?_; rintro e w' ⟨rfl, hw, hf2⟩)
      go_wp2
      go_ret
      exact ⟨rfl, by rw [hno.out]; exact hw, (hfx.trans ((Fr.refl B _).drew.x L)).trans (hf2.x L)⟩
end
theorem Tryz.infoMAtom : (Tryz.prog.info? 124).map (fun i => (i.zero, i.size, i.bytes)) = some (some (.agg #[.string ⟨#[]⟩, .bool false, .int .i64 0, .int .i64 0, .int .i64 0, .bool false]), 6, 56) := by kernel_rfl
theorem Tryz.infoMBond : (Tryz.prog.info? 102).map (fun i => (i.zero, i.size, i.bytes)) = some (some (.agg #[.int .i64 0, .int .i64 0, .int .i64 0, .int .i64 0]), 4, 32) := by kernel_rfl
theorem Tryz.infoBond : (Tryz.prog.info? 46).map (fun i => (i.zero, i.size, i.bytes)) = some (some (.agg #[.int .i64 0, .int .i64 0, .int .i64 0]), 3, 24) := by kernel_rfl

section
variable {w : World} {B : Nat} {s : ByteArray} {p : St}
theorem ownBlock_ne {w : World} {b1 b2 : Nat} {e1 e2 : TypeId} {s1 s2 : Nat} {v1 v2 : Value} {n1 n2 : Nat} {x1 x2 : List Value} (h1 : w.ownsRow b1 e1 s1 v1 n1 x1) (h2 : w.ownsRow b2 e2 s2 v2 n2 x2) (he : e1 ≠ e2) (k : Nat) (hk : v1.ownBlock = some k) : v2.ownBlock ≠ some k := by
  intro hk2
  rcases h1.2 with ⟨rfl, _⟩ | ⟨g, cap, cur, rfl, _, hg, _⟩
  · simp [Value.ownBlock] at hk
  rcases h2.2 with ⟨rfl, _⟩ | ⟨g', cap', cur', rfl, _, hg', _⟩
  · simp [Value.ownBlock] at hk2
  simp [Value.ownBlock] at hk hk2
  subst hk hk2
  rw [hg] at hg'
  simp at hg'
  exact he hg'.2

theorem Rd.atomAdded {w2 : World} (h : Rd w B s p) {av : Value} (hav : w.cell? ⟨B, 26, none⟩ = some av) (a : Atm) (v' : Value)
    (hown : w2.ownsRow (B + 1) 124 6 v' (p.atoms.length + 1) (p.atoms.flatMap atmCells ++ atmCells a)) (hg : w.grownBy w2 av.ownBlock)
    (hv : ∀ k, v'.ownBlock = some k → av.ownBlock = some k ∨ w.heap.size ≤ k) :
    Rd (w2.setCell ⟨B, 26, none⟩ v') B s { p with atoms := p.atoms ++ [a] } ∧ Fr B w (w2.setCell ⟨B, 26, none⟩ v') := by
  obtain ⟨va, ha, oa⟩ := h.atoms
  obtain ⟨vb, hb, ob⟩ := h.bonds
  rw [hav] at ha
  cases ha
  have hB : w2.heap[B]? = w.heap[B]? := hg.block B h.lt (fun e => by have := (oa.lt B e.symm).1; omega)
  have hc : ∀ i, w2.cell? ⟨B, i, none⟩ = w.cell? ⟨B, i, none⟩ := fun i => World.cell?_of_block (w := w) hB
  have hf : ∀ i, w2.frozen? ⟨B, i, none⟩ = w.frozen? ⟨B, i, none⟩ := fun i => World.frozen?_of_block (w := w) hB
  have ob2 : w2.ownsRow (B + 1) 102 4 vb p.bonds.length (p.bonds.flatMap pbCells) :=
    ownsRow_same ob fun k hk => hg.block k (ob.lt k hk).2 (fun e => ownBlock_ne ob oa (by decide) k hk e.symm)
  have h26 : (w2.setCell ⟨B, 26, none⟩ v').cell? ⟨B, 26, none⟩ = some v' := World.cell?_setCell_same w2 _ _ (by rw [hc]; exact hav)
  refine ⟨⟨by rw [cell_set_ne (by omega), hc]; exact h.text, by rw [cell_set_ne (by omega), hc]; exact h.pos, fun k hk => by rw [cell_set_ne (by omega), hc]; exact h.near k hk,
    ⟨v', h26, ?_⟩, ⟨vb, by rw [cell_set_ne (by omega), hc]; exact hb, ownsRow_setB ob2 _ _⟩,
    by rw [cell_set_ne (by omega), hc]; exact h.err, by rw [cell_set_ne (by omega), hc]; exact h.plc, fun n j v hn hv => by rw [cell_set_ne (by omega), hc]; exact h.rings n j v hn hv,
    fun i => by rw [World.frozen?_setCell, hf]; exact h.free i⟩, ⟨hg.os, hg.tape, hg.output, by simpa using hg.size, ?_, ?_⟩⟩
  · have := ownsRow_setB hown 26 v'
    simpa using this
  · intro k hk hm
    rw [Below.heap_setCell w2 _ _ k (by rintro rfl; exact hm (.inl rfl))]
    exact hg.block k hk (fun e => hm (.inr (.inl ⟨av, hav, e.symm⟩)))
  · intro k hk hm
    rcases hm with rfl | ⟨v, hv1, hv2⟩ | ⟨v, hv1, hv2⟩
    · exact .inl rfl
    · rw [h26] at hv1
      cases hv1
      rcases hv k hv2 with e | e
      · exact .inr (.inl ⟨av, hav, e⟩)
      · omega
    · rw [cell_set_ne (by omega), hc] at hv1
      exact .inr (.inr ⟨v, hv1, hv2⟩)

theorem Rd.atomCell {w2 : World} (h : Rd w B s p) {av : Value} (hav : w.cell? ⟨B, 26, none⟩ = some av) (hg : w.grownBy w2 av.ownBlock) : w2.cell? ⟨B, 26, none⟩ = some av ∧ w2.frozen? ⟨B, 26, none⟩ = false := by
  obtain ⟨va, ha, oa⟩ := h.atoms
  rw [hav] at ha
  cases ha
  have hB : w2.heap[B]? = w.heap[B]? := hg.block B h.lt (fun e => by have := (oa.lt B e.symm).1; omega)
  exact ⟨by rw [World.cell?_of_block (w := w) hB]; exact hav, by rw [World.frozen?_of_block (w := w) hB]; exact h.free 26⟩

theorem cells6 (w : World) (a : Atm) (t : TypeId) : ∀ j u, (atmCells a)[j]? = some u → (w.alloc (.cells #[.string a.el, .bool a.aro, .int .i64 a.ch, .int .i64 a.hy, .int .i64 a.pl, .bool a.br] t)).cell? ((⟨w.heap.size, 0, none⟩ : Addr).add j) = some u := by
  intro j u hj
  have hadd : (⟨w.heap.size, 0, none⟩ : Addr).add j = ⟨w.heap.size, j, none⟩ := by unfold Addr.add; split <;> simp_all
  rw [hadd, World.cell?_alloc_new]
  simpa [atmCells] using hj

set_option maxHeartbeats 1000000 in
theorem add_any (h : Rd w B s p) (a : Atm) (hn : p.atoms.length < 24) :
    Calls Tryz.prog 128 #[.pointer (some ⟨B, 2, none⟩), atmV a] w fun e w' => e = .returned (.int .i64 p.atoms.length) ∧ Rd w' B s { p with atoms := p.atoms ++ [a] } ∧ Fr B w w' := by
  have hB := h.lt
  obtain ⟨av, hav, oa⟩ := h.atoms
  obtain ⟨i0, hi, hz0, hz1, hz2⟩ := info_parts Tryz.infoMAtom
  have hnews : ∀ (o : Obj) (t : TypeId), ∀ j u, (atmCells a)[j]? = some u → (((w.alloc o).alloc (.cells #[.string a.el, .bool a.aro, .int .i64 a.ch, .int .i64 a.hy, .int .i64 a.pl, .bool a.br] t)).drew).cell? ((⟨w.heap.size + 1, 0, none⟩ : Addr).add j) = some u := by
    intro o t j u hj
    have := cells6 (w.alloc o) a t j u hj
    simpa using this
  have hav2 : Hid (∀ o o' : Obj, (((w.alloc o).alloc o').drew).cell? ⟨B, 26, none⟩ = some av) := by
    intro o o'
    rw [World.cell?_drew, World.cell?_alloc_lt _ _ _ (by simp; omega), World.cell?_alloc_lt _ _ _ (by simpa using hB)]
    exact hav
  have h1c : ∀ u ∈ atmCells a, u.oneCell' = true := by
    intro u hu
    simp [atmCells] at hu
    rcases hu with rfl | rfl | rfl | rfl | rfl | rfl <;> rfl
  unfold atmV
  go_enter Tryz.func128, Tryz.ntmps128
  go_wp2_with fail
  go_region_law (refine step_append_mine rfl (.tmp 9) (.tmp 11) 66 rfl (B + 1) 124 i0 (.agg #[.string ⟨#[]⟩, .bool false, .int .i64 0, .int .i64 0, .int .i64 0, .bool false]) 6 56 Tryz.underlying66 hi hz0 hz1 hz2 rfl (by decide) av p.atoms.length (p.atoms.flatMap atmCells) rfl (by exact ((oa.alloc _).alloc _).drew) ⟨w.heap.size + 1, 0, none⟩ 1 1 (atmCells a) rfl rfl (by exact hnews _ _) h1c (by unfold maxLen; omega) (by omega) (by simp; omega) ?_; intro v' w2 ho hg hk; obtain ⟨ao, cap, hv'⟩ := ownsRow_shape ho; subst hv'; have X := (((h.alloc _).alloc _).drew).atomAdded (hav2.out _ _) a _ ho hg hk; obtain ⟨c26, f26⟩ := (((h.alloc _).alloc _).drew).atomCell (hav2.out _ _) hg)
  all_goals
    go_wp2_with fail
    go_ret
    exact ⟨ret_int (by omega), X.1, (Fr.two hB _ _).trans X.2⟩
end
end Go.Proofs.YtcabaecbmkgclaaGreatDoor
namespace Go.Proofs.YtcabaecbmkgclaaGreatDoor
open Go.RowKit
def marks (c : List Value) (n : Nat) : List Value := (List.replicate n c).flatten

theorem marks_len (c : List Value) (n : Nat) : (marks c n).length = n * c.length := by
  unfold marks; rw [List.length_flatten, List.map_replicate, List.sum_replicate_nat]

theorem marks_add (c : List Value) (n m : Nat) : marks c n ++ marks c m = marks c (n + m) := by
  unfold marks; rw [← List.flatten_append, List.replicate_append_replicate]

theorem marks_take (c : List Value) (n m : Nat) (h : n ≤ m) : (marks c m).take (n * c.length) = marks c n := by
  obtain ⟨d, rfl⟩ : ∃ d, m = n + d := ⟨m - n, by omega⟩
  rw [← marks_add, ← marks_len, List.take_left]

theorem marks_get (c : List Value) : ∀ (n i j : Nat), i < n → j < c.length → (marks c n)[i * c.length + j]? = c[j]?
  | 0, _, _, h, _ => absurd h (Nat.not_lt_zero _)
  | n + 1, i, j, hi, hj => by
    have e : marks c (n + 1) = c ++ marks c n := by rw [Nat.add_comm, ← marks_add]; simp [marks]
    rw [e]
    cases i with
    | zero => rw [Nat.zero_mul, Nat.zero_add, List.getElem?_append_left hj]
    | succ i =>
      rw [List.getElem?_append_right (by rw [Nat.succ_mul]; omega), show (i + 1) * c.length + j - c.length = i * c.length + j by rw [Nat.succ_mul]; omega]
      exact marks_get c n i j (by omega) hj

theorem marks_one {c : List Value} (h : ∀ u ∈ c, u.oneCell' = true) (n : Nat) : ∀ u ∈ marks c n, u.oneCell' = true := by
  intro u hu
  unfold marks at hu
  obtain ⟨l, hl, hu⟩ := List.mem_flatten.1 hu
  rw [(List.mem_replicate.1 hl).2] at hu
  exact h u hu

theorem ownsRow_pre {w : World} {base : Nat} {e : TypeId} {size g n n' cap : Nat} {xs' : List Value} (h : w.ownsRow base e size (.slice (some ⟨g, 0, none⟩) n' cap) n' xs') (hn : n ≤ n') : w.ownsRow base e size (.slice (some ⟨g, 0, none⟩) n cap) n (xs'.take (n * size)) := by
  have hm : n * size ≤ n' * size := Nat.mul_le_mul_right _ hn
  rcases h.2 with ⟨h0, _⟩ | ⟨g', cap', cur, hv, hb, hg, hnc, hcm, hcs, ht⟩
  · cases h0
  · cases hv
    refine ⟨by rw [List.length_take, h.1]; omega, .inr ⟨g, cap, cur, rfl, hb, hg, by omega, hcm, hcs, ?_⟩⟩
    rw [← ht, List.take_take, Nat.min_eq_left hm]

/-- What an append of marks leaves: the longer list, all that shared its row, all else. -/
structure Marked (w w' : World) (base : Nat) (e : TypeId) (size : Nat) (c : List Value) (v v' : Value) (n : Nat) : Prop where
  own : w'.ownsRow base e size v' n (marks c n)
  old : ∀ b v2 n2, n2 ≤ n → w.ownsRow b e size v2 n2 (marks c n2) → w'.ownsRow b e size v2 n2 (marks c n2)
  grown : w.grownBy w' v.ownBlock
  loc : ∀ k, v'.ownBlock = some k → v.ownBlock = some k ∨ w.heap.size ≤ k

section
variable {P : Program} (w : World)
theorem run_append_marks (base : Nat) (t ty e : TypeId) (i : TypeInfo) (z : Value) (size bytes : Nat) (ht : P.underlying t = some (.slice e)) (hi : P.info? e = some i) (hz : i.zero = some z)
    (hsize : i.size = size) (hby : i.bytes = bytes) (hzs : z.cells.size = size) (hsz : 0 < size)
    (c : List Value) (hc : c.length = size) (hc1 : ∀ u ∈ c, u.oneCell' = true)
    (v : Value) (n : Nat) (hown : w.ownsRow base e size v n (marks c n))
    (a : Addr) (m cp : Nat) (hnews : ∀ j u, (marks c m)[j]? = some u → w.cell? (a.add j) = some u)
    (h63 : n + m ≤ maxLen) (hbytes : (n + m) * bytes ≤ 140737488355328) (hbase : base ≤ w.heap.size) :
    ∃ v' w', (Builtin.append_ #[t, t] ty #[v, .slice (some a) m cp]).run P w = .ok v' w' ∧ Marked w w' base e size c v v' (n + m) := by
  have hl : (marks c m).length = m * size := by rw [marks_len, hc]
  have h1 := marks_one hc1 m
  have keeps : ∀ w', w.grownBy w' none → ∀ b v2 n2, w.ownsRow b e size v2 n2 (marks c n2) → w'.ownsRow b e size v2 n2 (marks c n2) := fun w' hg b v2 n2 h => h.kept hg (by cases hv : v2.ownBlock <;> simp)
  rcases hown.2 with ⟨rfl, rfl⟩ | ⟨g, cap, cur, rfl, hbg, hg, hnc, hcm, hcs, htake⟩
  · obtain ⟨v', w', hr, ho, hgr, _⟩ := run_append_own (P := P) w w.heap.size t ty e i z size bytes ht hi hz hsize hby hzs hsz (.slice none 0 0) 0 [] (World.ownsRow_nil w _ e size) a m cp _ hl hnews h1 h63 hbytes (Nat.le_refl _)
    rw [List.nil_append] at ho
    exact ⟨v', w', hr, by rw [show 0 + m = m by omega] at ho ⊢; exact ownsRow_mono ho hbase, fun b v2 n2 _ h => keeps w' hgr b v2 n2 h, hgr, fun k hk => .inr (ho.lt k hk).1⟩
  · by_cases hroom : n + m ≤ cap
    · obtain ⟨w', hr, ho, hgr⟩ := run_append_fits (P := P) w base t ty e i size ht hi hsize g n cap _ hown a m cp _ hl hnews h1 hroom
      rw [marks_add] at ho
      refine ⟨_, w', hr, ho, ?_, hgr, fun k hk => .inl (by simpa [Value.ownBlock] using hk)⟩
      intro b v2 n2 hn2 h2
      by_cases hb : v2.ownBlock = some g
      · rcases h2.2 with ⟨rfl, _⟩ | ⟨g2, cap2, cur2, rfl, hbg2, hg2, hnc2, hcm2, hcs2, _⟩
        · cases hb
        · simp only [Value.ownBlock, Option.some.injEq] at hb
          subst hb
          rw [hg] at hg2
          simp only [Option.some.injEq, Obj.cells.injEq, and_true] at hg2
          subst hg2
          have ec : cap2 = cap := Nat.eq_of_mul_eq_mul_right hsz (hcs2.symm.trans hcs)
          subst ec
          have hp := ownsRow_pre ho hn2
          rw [← hc, marks_take c n2 _ hn2, hc] at hp
          rcases hp.2 with ⟨h0, _⟩ | ⟨g', cap', cur', hv', _, r⟩
          · cases h0
          · cases hv'
            exact ⟨hp.1, .inr ⟨g2, cap2, cur', rfl, hbg2, r⟩⟩
      · exact h2.kept hgr (.inr hb)
    · obtain ⟨v', w', hr, ho, hgr⟩ := run_append_arg_grows (P := P) w t ty e i z size bytes ht hi hz hsize hby hzs hsz ⟨g, 0, none⟩ n cap _ hown.1 (hown.cells rfl) a m cp _ hl hnews (by omega) h63 hbytes
      rw [marks_add] at ho
      exact ⟨v', w', hr, ownsRow_mono ho hbase, fun b v2 n2 _ h => keeps w' hgr b v2 n2 h, grownBy_weaken hgr, fun k hk => .inr (ho.lt k hk).1⟩
end
theorem wpList_append_marks {P : Program} {w : World} {ops : Array Oper} {rest : List Oper} {o : Oper} {a : Act} {Q : Exit → Act → World → Prop} (hgd : o.guard = none) (s x : Operand) (t : TypeId)
    (ho : o.op = .call { callee := .builtin .append, args := #[s, x], argTypes := #[t, t] })
    (base : Nat) (e : TypeId) (i : TypeInfo) (z : Value) (size bytes : Nat) (ht : P.underlying t = some (.slice e)) (hi : P.info? e = some i) (hz : i.zero = some z)
    (hsize : i.size = size) (hby : i.bytes = bytes) (hzs : z.cells.size = size) (hsz : 0 < size)
    (c : List Value) (hc : c.length = size) (hc1 : ∀ u ∈ c, u.oneCell' = true)
    (v : Value) (n : Nat) (hs : a.eval s = v) (hown : w.ownsRow base e size v n (marks c n))
    (ad : Addr) (m cp : Nat) (hx : a.eval x = .slice (some ad) m cp) (hnews : ∀ j u, (marks c m)[j]? = some u → w.cell? (ad.add j) = some u)
    (h63 : n + m ≤ maxLen) (hbytes : (n + m) * bytes ≤ 140737488355328) (hbase : base ≤ w.heap.size)
    (h : ∀ v' w', Marked w w' base e size c v v' (n + m) → wpList P ops Q rest (a.put o.dst v') w') : wpList P ops Q (o :: rest) a w := by
  refine wpList_plain hgd fun K hK => ?_
  obtain ⟨v', w', hr, h2⟩ := run_append_marks (P := P) w base t o.type e i z size bytes ht hi hz hsize hby hzs hsz c hc hc1 v n hown ad m cp hnews h63 hbytes hbase
  unfold Oper.wp execOp
  simp only [ho, resolve, invoke, builtin, Sem.run_bind, Sem.run_pure, Result.andThen_ok, List.map_toArray, List.map_cons, List.map_nil, hs, hx, hr]
  exact hK _ _ (h v' w' h2)

end Go.Proofs.YtcabaecbmkgclaaGreatDoor
namespace Go.Proofs.YtcabaecbmkgclaaGreatDoor
open Go.RowKit Bz
theorem or_bit_u32 (m b : Nat) (hm : m < 4294967296) (hb : b < 24) : bits .or .u32 (m : Int) ((2 : Int) ^ b % 4294967296) = ((m ||| 1 <<< b : Nat) : Int) := by
  have h1 : (2 : Nat) ^ b < 2 ^ 24 := Nat.pow_lt_pow_right (by decide) hb
  have h2 : (2 : Int) ^ b % (4294967296 : Int) = ((1 <<< b : Nat) : Int) := by
    rw [Nat.shiftLeft_eq, Nat.one_mul]
    have : (2 : Int) ^ b = ((2 ^ b : Nat) : Int) := by simp
    rw [this]
    generalize (2 : Nat) ^ b = q at *
    omega
  rw [h2, u32_or_nat m (1 <<< b) hm (by rw [Nat.shiftLeft_eq, Nat.one_mul]; omega)]

set_option maxHeartbeats 1000000 in
theorem join_cells (w : World) (B a b : Nat) (ha : a < 24) (hb : b < 24) (hab : a ≠ b) (m n : Nat) (hm : m < 4294967296) (hn : n < 4294967296)
    (ca : w.cell? ⟨B, 2 + a, none⟩ = some (.int .u32 m)) (cb : w.cell? ⟨B, 2 + b, none⟩ = some (.int .u32 n)) (fa : w.frozen? ⟨B, 2 + a, none⟩ = false) (fb : w.frozen? ⟨B, 2 + b, none⟩ = false) :
    Calls Tryz.prog 33 #[.pointer (some ⟨B, 2, none⟩), .int .i64 a, .int .i64 b] w fun e w' => e = .returned (.tuple #[]) ∧
      ∃ k, w' = ((w.setCell ⟨B, 2 + a, none⟩ (.int .u32 ((m ||| 1 <<< b : Nat) : Int))).setCell ⟨B, 2 + b, none⟩ (.int .u32 ((n ||| 1 <<< a : Nat) : Int))).drewN k := by
  have a24 : (a : Int) < 24 := by omega
  have b24 : (b : Int) < 24 := by omega
  go_enter Tryz.func33, Tryz.ntmps33
  go_wp2
  go_region
  go_wp2
  go_region
  go_wp2
  go_end0
  refine ⟨rfl, 2, ?_⟩
  rw [or_bit_u32 m b hm hb, or_bit_u32 n a hn ha]
  rfl

theorem bonded_bind (l : List Bnd) (a b : Nat) (o : Int) (pl k j : Nat) : bonded (l ++ [⟨min a b, max a b, o, pl⟩]) k j = (bonded l k j || ((k == a && j == b) || (k == b && j == a))) := by
  unfold bonded
  rw [List.any_append]
  congr 1
  simp only [List.any_cons, List.any_nil, Bool.or_false]
  rw [Bool.eq_iff_iff]
  simp
  omega

theorem testBit_or_bit (m b j : Nat) : (m ||| 1 <<< b).testBit j = (m.testBit j || decide (j = b)) := by
  rw [Nat.testBit_or, Nat.shiftLeft_eq, Nat.one_mul, Nat.testBit_two_pow]
  congr 1
  rw [Bool.eq_iff_iff]
  simp
  exact eq_comm

theorem or_bit_lt (m b : Nat) (hm : m < 4294967296) (hb : b < 24) : m ||| 1 <<< b < 4294967296 := by
  have : (1 <<< b : Nat) < 2 ^ 32 := by
    rw [Nat.shiftLeft_eq, Nat.one_mul]
    exact Nat.pow_lt_pow_right (by decide) (by omega)
  exact Nat.or_lt_two_pow (n := 32) hm this

section
variable {w : World} {B : Nat} {s : ByteArray} {p : St}
/-- The graph alone has turned: the bit of an edge, at both ends. (The list of bonds has yet to grow.) -/
structure RdJ (w : World) (B : Nat) (s : ByteArray) (p : St) (l : List Bnd) : Prop where
  text : w.cell? ⟨B, 0, none⟩ = some (.string s)
  pos : w.cell? ⟨B, 1, none⟩ = some (.int .i64 p.pos)
  near : ∀ k, k < 24 → ∃ m : Nat, w.cell? ⟨B, 2 + k, none⟩ = some (.int .u32 m) ∧ m < 4294967296 ∧ ∀ j, j < 24 → m.testBit j = bonded l k j
  atoms : ∃ v, w.cell? ⟨B, 26, none⟩ = some v ∧ w.ownsRow (B + 1) 124 6 v p.atoms.length (p.atoms.flatMap atmCells)
  bonds : ∃ v, w.cell? ⟨B, 27, none⟩ = some v ∧ w.ownsRow (B + 1) 102 4 v p.bonds.length (p.bonds.flatMap pbCells)
  err : ∃ v, w.cell? ⟨B, 28, none⟩ = some v
  plc : ∃ v, w.cell? ⟨B, 29, none⟩ = some v
  rings : ∀ n j v, n < 100 → (opnCells (p.rings n))[j]? = some v → w.cell? ⟨B, 30 + n * 5 + j, none⟩ = some v
  free : ∀ i, w.frozen? ⟨B, i, none⟩ = false

theorem join_any (h : Rd w B s p) (a b : Nat) (o : Int) (pl : Nat) (ha : a < 24) (hb : b < 24) (hab : a ≠ b) :
    Calls Tryz.prog 33 #[.pointer (some ⟨B, 2, none⟩), .int .i64 a, .int .i64 b] w fun e w' => e = .returned (.tuple #[]) ∧ RdJ w' B s p (p.bonds ++ [⟨min a b, max a b, o, pl⟩]) ∧ Fr B w w' := by
  obtain ⟨m, ca, hm, ta⟩ := h.near a ha
  obtain ⟨n, cb, hn, tb⟩ := h.near b hb
  refine (join_cells w B a b ha hb hab m n hm hn ca cb (h.free _) (h.free _)).mono ?_
  rintro e w' ⟨rfl, k, rfl⟩
  obtain ⟨va, hva, oa⟩ := h.atoms
  obtain ⟨vb, hvb, ob⟩ := h.bonds
  have hc : ∀ i, i ≠ 2 + a → i ≠ 2 + b → (((w.setCell ⟨B, 2 + a, none⟩ (.int .u32 ((m ||| 1 <<< b : Nat) : Int))).setCell ⟨B, 2 + b, none⟩ (.int .u32 ((n ||| 1 <<< a : Nat) : Int))).drewN k).cell? ⟨B, i, none⟩ = w.cell? ⟨B, i, none⟩ := by
    intro i h1 h2
    rw [World.cell?_drewN, cell_set_ne (by omega), cell_set_ne (by omega)]
  refine ⟨rfl, ⟨by rw [hc _ (by omega) (by omega)]; exact h.text, by rw [hc _ (by omega) (by omega)]; exact h.pos, ?_,
    ⟨va, by rw [hc _ (by omega) (by omega)]; exact hva, ownsRow_setB (ownsRow_setB oa _ _) _ _⟩, ⟨vb, by rw [hc _ (by omega) (by omega)]; exact hvb, ownsRow_setB (ownsRow_setB ob _ _) _ _⟩,
    by rw [hc _ (by omega) (by omega)]; exact h.err, by rw [hc _ (by omega) (by omega)]; exact h.plc, fun n j v hn hv => by rw [hc _ (by omega) (by omega)]; exact h.rings n j v hn hv,
    fun i => by rw [World.frozen?_drewN, World.frozen?_setCell, World.frozen?_setCell]; exact h.free i⟩,
    (((Fr.refl B w).setCell (.inl rfl) (fun _ => ⟨by simp; omega, by simp; omega⟩) _).setCell (.inl rfl) (fun _ => ⟨by simp; omega, by simp; omega⟩) _).drewN k⟩
  intro i hi
  by_cases e1 : i = a
  · subst e1
    refine ⟨_, by rw [World.cell?_drewN, cell_set_ne (by omega)]; exact World.cell?_setCell_same w _ _ ca, or_bit_lt m b hm hb, fun j hj => ?_⟩
    rw [testBit_or_bit, ta j hj, bonded_bind]
    congr 1
    rw [Bool.eq_iff_iff]
    simp
    omega
  · by_cases e2 : i = b
    · subst e2
      refine ⟨_, by rw [World.cell?_drewN]; exact World.cell?_setCell_same _ _ _ (by rw [cell_set_ne (by omega)]; exact cb), or_bit_lt n a hn ha, fun j hj => ?_⟩
      rw [testBit_or_bit, tb j hj, bonded_bind]
      congr 1
      rw [Bool.eq_iff_iff]
      simp
      omega
    · obtain ⟨q, cq, hq, tq⟩ := h.near i hi
      refine ⟨q, by rw [hc _ (by omega) (by omega)]; exact cq, hq, fun j hj => ?_⟩
      rw [tq j hj, bonded_bind]
      simp [e1, e2]
end
theorem byte_lt {s : ByteArray} {i : Nat} {c : Int} (h : byteAt s i = c) (hc : c ≠ 0) : i < s.size := lt_of_byteAt (by omega)

theorem hydro_le (s : ByteArray) (i : Nat) (h : i ≤ s.size) : (hydro s i).2 ≤ s.size := by
  unfold hydro
  split
  · split
    · rename_i h1 h2; have := byte_lt h1 (by omega); have := lt_of_byteAt (s := s) (i := i + 1) (by omega); simp; omega
    · rename_i h1 h2; have := byte_lt h1 (by omega); simp; omega
  · simpa using h
section
variable {w : World} {B : Nat} {s : ByteArray} {p : St}
def BrPost (w : World) (B : Nat) (s : ByteArray) (p : St) (L : Nat) (a : Atm) (e : Ending) (w' : World) : Prop :=
  match bracket s p.pos with
  | .ok x => e = .returned (.bool true) ∧ Rd w' B s { p with pos := x.2.2 } ∧ Bx w' L { a with ch := x.1, hy := x.2.1 } ∧ ¬ Mine w' B L ∧ FrX B L w w'
  | .error er => e = .returned (.bool false) ∧ Wrong w' B er ∧ FrX B L w w'

/-- Where the reader and the box stand behind the hydrogens. -/
structure AtH (w0 w : World) (B : Nat) (s : ByteArray) (p : St) (L : Nat) (a : Atm) : Prop where
  rd : Rd w B s p
  bx : Bx w L a
  nm : ¬ Mine w B L
  fr : FrX B L w0 w

theorem AtH.setBox {w0 w : World} {L : Nat} {a a' : Atm} (h : AtH w0 w B s p L a) (i : Nat) (u : Value) (hb : Bx (w.setCell ⟨L, i, none⟩ u) L a') : AtH w0 (w.setCell ⟨L, i, none⟩ u) B s p L a' := by
  have hLB := Rd.ne_of_notMine h.nm
  exact ⟨h.rd.setOther h.nm u, hb, fun e => h.nm ((Mine.same (Below.heap_setCell _ _ _ _ (by simpa using fun e => hLB e.symm))).1 e), h.fr.set hLB i u⟩

theorem AtH.step {w0 w w1 : World} {L : Nat} {a : Atm} {q : St} (h : AtH w0 w B s p L a) (hr : Rd w1 B s q) (hf : Fr B w w1) : AtH w0 w1 B s q L a :=
  ⟨hr, h.bx.fr hf h.nm, hf.notMine h.bx.lt h.nm, h.fr.trans (hf.x L)⟩

set_option maxHeartbeats 2000000 in
theorem bracket_any (h : Rd w B s p) (hs : s.size ≤ 160) (hp : p.pos ≤ s.size) (L : Nat) (a : Atm) (hb : Bx w L a) (hm : ¬ Mine w B L) (hch : a.ch = 0) (hhy : a.hy = 0) :
    Calls Tryz.prog 127 #[.pointer (some ⟨B, 0, none⟩), .pointer (some ⟨L, 0, none⟩)] w (BrPost w B s p L a) := by
  have H0 : AtH w w B s p L a := ⟨h, hb, hm, (Fr.refl B w).x L⟩
  go_enter Tryz.func127, Tryz.ntmps127
  go_wp2_with fail
  refine (take1 h hs hp 72 72 rfl (by decide)).mono ?_
  rintro e w1 ⟨rfl, hr1, hf1⟩
  go_upto_if 10 with fail
  go_cut [] (fun wc => AtH w wc B s { p with pos := (hydro s p.pos).2 } L { a with hy := (hydro s p.pos).1 })
  case first =>
    by_cases h72 : byteAt s p.pos = 72
    · have hlt := byte_lt h72 (by decide)
      rw [if_pos h72] at hr1
      have H1 := H0.step hr1 hf1
      have t72 : (byteAt s p.pos == 72) = true := by simpa using h72
      have H2 := H1.setBox 3 (.int .i64 1) (H1.bx.setHy 1)
      have c3 := H1.bx.c3
      have f3 := H1.bx.fz 3
      have HD := digit_any H2.rd hs (by show p.pos + 1 ≤ s.size; omega) 49 52 (by decide)
      by_cases hd : 49 ≤ byteAt s (p.pos + 1) ∧ byteAt s (p.pos + 1) ≤ 52
      · rw [if_pos hd, if_pos hd] at HD
        have hy : Hid (hydro s p.pos = (byteAt s (p.pos + 1) - 48, p.pos + 2)) := by unfold Hid hydro; rw [if_pos h72, if_pos hd]
        clear h72 hd
        go_wp2_with fail
        refine HD.mono ?_
        rintro e w2 ⟨rfl, hr2, hf2⟩
        have H3 := H2.step hr2 hf2
        have c3' := H3.bx.c3
        have f3' := H3.bx.fz 3
        have H4 := H3.setBox 3 (.int .i64 (byteAt s (p.pos + 1) - 48)) (H3.bx.setHy _)
        go_wp2_with fail
        go_meet
        case rel => rw [hy.out]; exact H4
      · rw [if_neg hd, if_neg hd] at HD
        have hy : Hid (hydro s p.pos = (1, p.pos + 1)) := by unfold Hid hydro; rw [if_pos h72, if_neg hd]
        clear h72 hd
        go_wp2_with fail
        refine HD.mono ?_
        rintro e w2 ⟨rfl, hr2, hf2⟩
        have H3 := H2.step hr2 hf2
        go_wp2_with fail
        go_meet
        case rel => rw [hy.out]; exact H3
    · rw [if_neg h72] at hr1
      have H1 := H0.step hr1 hf1
      have t72 : (byteAt s p.pos == 72) = false := by simpa using h72
      have hy : Hid (hydro s p.pos = (0, p.pos)) := by unfold Hid hydro; rw [if_neg h72]
      have HA : Hid (a = { a with hy := 0 }) := by unfold Hid; rw [← hhy]
      clear h72
      go_wp2_with fail
      go_meet
      case rel => rw [hy.out]; rw [HA.out] at H1; exact H1
  case rest =>
    have hle := hydro_le s p.pos hp
    have HB : Hid (bracket s p.pos = (if byteAt s (charge s (hydro s p.pos).2).2 = 93 then .ok ((charge s (hydro s p.pos).2).1, (hydro s p.pos).1, (charge s (hydro s p.pos).2).2 + 1) else .error (2, ((charge s (hydro s p.pos).2).2 : Int)))) := rfl
    generalize (hydro s p.pos).1 = hy at *
    generalize (hydro s p.pos).2 = i at *
    clear hr1 hf1
    have hpk := peek0 hcut.rd hs hle
    by_cases hc : byteAt s i = 45
    · have hlt := byte_lt hc (by decide)
      have hch1 : charge s i = (-1, i + 1) := by simp [charge, hc]
      rw [hch1] at HB
      clear hch1
      rw [hc] at hpk
      have hpk2 : Hid (∀ k, Calls Tryz.prog 80 #[.pointer (some ⟨B, 0, none⟩), .int .i64 0] (wc.drewN k) fun e w' => e = .returned (.int .u8 45) ∧ ∃ m, w' = (wc.drewN k).drewN m) := by
        intro k
        have := peek0 (hcut.rd.drewN k) hs hle
        rw [hc] at this
        exact this
      have hco : Hid (∀ w, Calls Tryz.prog 153 #[.int .u8 45] w fun e w' => e = .returned (.int .i64 (-1)) ∧ w' = w) := fun w => chargeOf_any 45 w
      clear hc
      go_wp2_with fail
      refine hpk.mono ?_
      rintro e w2 ⟨rfl, k, rfl⟩
      go_wp2_with fail
      refine (hpk2.out k).mono ?_
      rintro e w3 ⟨rfl, m, rfl⟩
      rw [World.drewN_drewN]
      have H2 := hcut.step (hcut.rd.drewN (k + m)) ((Fr.refl B wc).drewN (k + m))
      have c2 := H2.bx.c2
      have f2 := H2.bx.fz 2
      have H3 := H2.setBox 2 (.int .i64 (-1)) (H2.bx.setCh (-1))
      have q3 := H3.rd.pos
      have z3 := H3.rd.free 1
      have H4 : AtH w _ B s _ L _ := H3.step (H3.rd.setPos (i + 1) (.int .i64 ((i : Int) + 1)) (by go_num)) ((Fr.refl B _).setPos _)
      simp only at H4
      have hT := take1 H4.rd hs (by show i + 1 ≤ s.size; omega) 93 93 rfl (by decide)
      go_wp2_with fail
      refine (hco.out _).mono ?_
      rintro e w4 ⟨rfl, rfl⟩
      by_cases h93 : byteAt s (i + 1) = 93
      · simp only [h93, if_true, BEq.rfl] at hT
        rw [if_pos h93] at HB
        clear h93
        go_wp2_with fail
        refine hT.mono ?_
        rintro e w5 ⟨rfl, hr5, hf5⟩
        have H5 := H4.step hr5 hf5
        go_wp2_with fail
        go_ret
        unfold BrPost
        rw [HB.out]
        exact ⟨rfl, H5.rd, H5.bx, H5.nm, H5.fr⟩
      · have t93 : (byteAt s (i + 1) == 93) = false := by simpa using h93
        simp only [h93, t93, if_false] at hT
        rw [if_neg h93] at HB
        clear h93 t93
        go_wp2_with fail
        refine hT.mono ?_
        rintro e w5 ⟨rfl, hr5, hf5⟩
        have H5 := H4.step hr5 hf5
        have q5 := H5.rd.pos
        simp only at q5
        go_wp2_with fail
        go_region_with (go_at_call 57; refine (fail_any H5.rd.drew _ _).mono ?_; rintro e w' ⟨rfl, hw, hf6⟩)
        go_wp2
        go_ret
        unfold BrPost
        rw [HB.out]
        exact ⟨rfl, hw, (H5.fr.trans ((Fr.refl B _).drew.x L)).trans (hf6.x L)⟩
    have hn45 := hc
    clear hc
    by_cases hc : byteAt s i = 43
    · have hlt := byte_lt hc (by decide)
      have hch1 : charge s i = (1, i + 1) := by simp [charge, hc]
      rw [hch1] at HB
      clear hch1
      rw [hc] at hpk
      have hpk2 : Hid (∀ k, Calls Tryz.prog 80 #[.pointer (some ⟨B, 0, none⟩), .int .i64 0] (wc.drewN k) fun e w' => e = .returned (.int .u8 43) ∧ ∃ m, w' = (wc.drewN k).drewN m) := by
        intro k
        have := peek0 (hcut.rd.drewN k) hs hle
        rw [hc] at this
        exact this
      have hco : Hid (∀ w, Calls Tryz.prog 153 #[.int .u8 43] w fun e w' => e = .returned (.int .i64 (1)) ∧ w' = w) := fun w => chargeOf_any 43 w
      clear hc
      go_wp2_with fail
      refine hpk.mono ?_
      rintro e w2 ⟨rfl, k, rfl⟩
      go_wp2_with fail
      refine (hpk2.out k).mono ?_
      rintro e w3 ⟨rfl, m, rfl⟩
      rw [World.drewN_drewN]
      have H2 := hcut.step (hcut.rd.drewN (k + m)) ((Fr.refl B wc).drewN (k + m))
      have c2 := H2.bx.c2
      have f2 := H2.bx.fz 2
      have H3 := H2.setBox 2 (.int .i64 (1)) (H2.bx.setCh (1))
      have q3 := H3.rd.pos
      have z3 := H3.rd.free 1
      have H4 : AtH w _ B s _ L _ := H3.step (H3.rd.setPos (i + 1) (.int .i64 ((i : Int) + 1)) (by go_num)) ((Fr.refl B _).setPos _)
      simp only at H4
      have hT := take1 H4.rd hs (by show i + 1 ≤ s.size; omega) 93 93 rfl (by decide)
      go_wp2_with fail
      refine (hco.out _).mono ?_
      rintro e w4 ⟨rfl, rfl⟩
      by_cases h93 : byteAt s (i + 1) = 93
      · simp only [h93, if_true, BEq.rfl] at hT
        rw [if_pos h93] at HB
        clear h93
        go_wp2_with fail
        refine hT.mono ?_
        rintro e w5 ⟨rfl, hr5, hf5⟩
        have H5 := H4.step hr5 hf5
        go_wp2_with fail
        go_ret
        unfold BrPost
        rw [HB.out]
        exact ⟨rfl, H5.rd, H5.bx, H5.nm, H5.fr⟩
      · have t93 : (byteAt s (i + 1) == 93) = false := by simpa using h93
        simp only [h93, t93, if_false] at hT
        rw [if_neg h93] at HB
        clear h93 t93
        go_wp2_with fail
        refine hT.mono ?_
        rintro e w5 ⟨rfl, hr5, hf5⟩
        have H5 := H4.step hr5 hf5
        have q5 := H5.rd.pos
        simp only at q5
        go_wp2_with fail
        go_region_with (go_at_call 57; refine (fail_any H5.rd.drew _ _).mono ?_; rintro e w' ⟨rfl, hw, hf6⟩)
        go_wp2
        go_ret
        unfold BrPost
        rw [HB.out]
        exact ⟨rfl, hw, (H5.fr.trans ((Fr.refl B _).drew.x L)).trans (hf6.x L)⟩
    have hch0 : charge s i = (0, i) := by simp [charge, hc, hn45]
    rw [hch0] at HB
    clear hch0
    have HA : Hid ({ a with hy := hy } = { a with hy := hy, ch := 0 }) := by unfold Hid; rw [← hch]
    have t43 : (byteAt s i == 43) = false := by simpa using hc
    have t45 : (byteAt s i == 45) = false := by simpa using hn45
    have hT : ∀ k, _ := fun k => take1 (hcut.rd.drewN k) hs hle 93 93 rfl (by decide)
    by_cases h93 : byteAt s i = 93
    · simp only [h93, if_true, BEq.rfl] at hT
      have HT := (show Hid _ from hT)
      rw [if_pos h93] at HB
      rw [h93] at hpk
      clear h93 hc hn45 t43 t45 hT
      go_wp2_with fail
      refine hpk.mono ?_
      rintro e w2 ⟨rfl, k, rfl⟩
      have H2 := hcut.step (hcut.rd.drewN k) ((Fr.refl B wc).drewN k)
      go_wp2_with fail
      refine (HT.out k).mono ?_
      rintro e w5 ⟨rfl, hr5, hf5⟩
      have H5 := H2.step hr5 hf5
      go_wp2_with fail
      go_ret
      unfold BrPost
      rw [HB.out]
      refine ⟨rfl, H5.rd, ?_, H5.nm, H5.fr⟩
      have := H5.bx
      rw [HA.out] at this
      exact this
    · have t93 : (byteAt s i == 93) = false := by simpa using h93
      rw [if_neg h93] at HB
      clear h93 hc hn45 hT
      generalize byteAt s i = c at *
      go_wp2_with fail
      refine hpk.mono ?_
      rintro e w2 ⟨rfl, k, rfl⟩
      have q5 := hcut.rd.pos
      simp only at q5
      go_wp2_with fail
      go_region_with (go_at_call 57; refine (fail_any (hcut.rd.drewN (k + 1)) _ _).mono ?_; rintro e w' ⟨rfl, hw, hf6⟩)
      go_wp2
      go_ret
      unfold BrPost
      rw [HB.out]
      exact ⟨rfl, hw, (hcut.fr.trans (((Fr.refl B _).drewN (k + 1)).x L)).trans (hf6.x L)⟩
end
end Go.Proofs.YtcabaecbmkgclaaGreatDoor
