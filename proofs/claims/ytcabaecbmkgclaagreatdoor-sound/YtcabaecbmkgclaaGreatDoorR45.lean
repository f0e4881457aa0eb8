/-
  What the signs of a text that can be read are like (no program).
  A text that is written again in capitals, with its double bonds: sign by sign (no program).
  A text that is written again in capitals is read step by step as the one that it was (no program).
-/
import Derived.Test.YtcabaecbmkgclaaGreatDoorR43
namespace Go.Proofs.YtcabaecbmkgclaaGreatDoor
open Bz
/-- What a bond's place may hold. -/
def Bp (c : Int) : Prop := c = 91 ∨ c = 37 ∨ (48 ≤ c ∧ c ≤ 57) ∨ c = 67 ∨ c = 66 ∨ c = 78 ∨ c = 79 ∨ c = 80 ∨ c = 83 ∨ c = 70 ∨ c = 73 ∨ c = 99 ∨ c = 110 ∨ c = 111 ∨ c = 112 ∨ c = 115

theorem Bp.sign {c : Int} (h : Bp c) : isSign c = false := by
  unfold isSign
  unfold Bp at h
  simp only [Bool.or_eq_false_iff, beq_eq_false_iff_ne, ne_eq]
  omega

/-- The signs ahead of k: an l only behind a C; next to a colon there is no other sign. -/
structure Lx (s : ByteArray) (k : Nat) : Prop where
  el : ∀ y, y < k → byteAt s y = 108 → 1 ≤ y ∧ byteAt s (y - 1) = 67
  sg : ∀ y, y + 1 < k → (byteAt s y = 58 → Bp (byteAt s (y + 1))) ∧ (byteAt s (y + 1) = 58 → isSign (byteAt s y) = false)
structure LxE (s : ByteArray) (k : Nat) : Prop where
  lx : Lx s k
  no : k = 0 ∨ isSign (byteAt s (k - 1)) = false

theorem sign58 {c : Int} (h : isSign c = false) : c ≠ 58 := by
  rintro rfl
  cases h

theorem Lx.plain {s : ByteArray} {k : Nat} (h : Lx s k) (h1 : isSign (byteAt s k) = false) (h2 : byteAt s k ≠ 108) (h3 : k = 0 ∨ byteAt s (k - 1) ≠ 58 ∨ Bp (byteAt s k)) : LxE s (k + 1) := by
  refine ⟨⟨fun y hy he => ?_, fun y hy => ?_⟩, .inr h1⟩
  · rcases Nat.lt_or_ge y k with hl | hl
    · exact h.el y hl he
    · have : y = k := by omega
      subst this
      exact absurd he h2
  · rcases Nat.lt_or_ge (y + 1) k with hl | hl
    · exact h.sg y hl
    · have : y + 1 = k := by omega
      subst this
      rw [Nat.add_sub_cancel] at h3
      exact ⟨fun h => by
        rcases h3 with k | k | k
        · omega
        · exact absurd h k
        · exact k, fun h => absurd h (sign58 h1)⟩
theorem LxE.plain {s : ByteArray} {k : Nat} (h : LxE s k) (h1 : isSign (byteAt s k) = false) (h2 : byteAt s k ≠ 108) : LxE s (k + 1) :=
  h.lx.plain h1 h2 (by
    rcases h.no with k | k
    · exact .inl k
    · exact .inr (.inl (sign58 k)))
theorem Lx.ell {s : ByteArray} {k : Nat} (h : Lx s k) (h1 : byteAt s k = 108) (hk : 1 ≤ k) (h2 : byteAt s (k - 1) = 67) : LxE s (k + 1) := by
  refine ⟨⟨fun y hy he => ?_, fun y hy => ?_⟩, .inr (by rw [Nat.add_sub_cancel, h1]; rfl)⟩
  · rcases Nat.lt_or_ge y k with hl | hl
    · exact h.el y hl he
    · have : y = k := by omega
      subst this
      exact ⟨hk, h2⟩
  · rcases Nat.lt_or_ge (y + 1) k with hl | hl
    · exact h.sg y hl
    · have : y + 1 = k := by omega
      subst this
      rw [Nat.add_sub_cancel] at h2
      rw [h1]
      exact ⟨fun h => by omega, fun h => by omega⟩
theorem LxE.sign {s : ByteArray} {k : Nat} (h : LxE s k) (h1 : isSign (byteAt s k) = true) : Lx s (k + 1) := by
  refine ⟨fun y hy he => ?_, fun y hy => ?_⟩
  · rcases Nat.lt_or_ge y k with hl | hl
    · exact h.lx.el y hl he
    · have : y = k := by omega
      subst this
      rw [he] at h1
      cases h1
  · rcases Nat.lt_or_ge (y + 1) k with hl | hl
    · exact h.lx.sg y hl
    · have : y + 1 = k := by omega
      subst this
      have h0 : isSign (byteAt s y) = false := by
        rcases h.no with h | h
        · omega
        · exact h
      exact ⟨fun h => absurd h (sign58 h0), fun _ => h0⟩

/-- What is known of every atom that is read. -/
structure AtOk (a : Atm) : Prop where
  ch : a.br = false → a.ch = 0
  el : a.aro = true → a.el = ⟨#[67]⟩ ∨ a.el = ⟨#[78]⟩ ∨ a.el = ⟨#[79]⟩ ∨ a.el = ⟨#[80]⟩ ∨ a.el = ⟨#[83]⟩
  c3 : a.ch = 0 ∨ a.ch = 1 ∨ a.ch = -1

/-- On from one state to another: bonds are added, at places between. -/
structure Gon (s : ByteArray) (p q : St) : Prop where
  pos : p.pos ≤ q.pos
  ext : ∃ new, q.bonds = p.bonds ++ new ∧ ∀ b ∈ new, p.pos ≤ b.pl ∧ b.pl < q.pos ∧ Bp (byteAt s b.pl)
  ats : ∃ new, q.atoms = p.atoms ++ new ∧ ∀ a ∈ new, AtOk a

section
variable {s : ByteArray} {p q r : St}
theorem Gon.refl (s : ByteArray) (p : St) : Gon s p p := ⟨Nat.le_refl _, ⟨[], by simp, by simp⟩, ⟨[], by simp, by simp⟩⟩
theorem Gon.trans (h : Gon s p q) (k : Gon s q r) : Gon s p r := by
  obtain ⟨h1, ⟨n, h2, h3⟩, ⟨u, h4, h5⟩⟩ := h
  obtain ⟨k1, ⟨m, k2, k3⟩, ⟨v, k4, k5⟩⟩ := k
  refine ⟨by omega, ⟨n ++ m, by rw [k2, h2, List.append_assoc], fun b hb => ?_⟩, ⟨u ++ v, by rw [k4, h4, List.append_assoc], fun a ha => ?_⟩⟩
  · rw [List.mem_append] at hb
    rcases hb with hb | hb
    · have := h3 b hb
      exact ⟨this.1, by omega, this.2.2⟩
    · have := k3 b hb
      exact ⟨by omega, this.2.1, this.2.2⟩
  · rw [List.mem_append] at ha
    rcases ha with ha | ha
    · exact h5 a ha
    · exact k5 a ha
theorem Gon.move {j : Nat} (h : p.pos ≤ j) : Gon s p { p with pos := j } := ⟨h, ⟨[], by simp, by simp⟩, ⟨[], by simp, by simp⟩⟩

theorem elem_lx {i n : Nat} {el : ByteArray} {ar : Bool} (h : element s i = some (el, ar, n)) (e : Lx s i) : LxE s (i + n) ∧ Bp (byteAt s i) ∧ 0 < n := by
  unfold element at h
  simp only at h
  unfold Bp
  split at h
  · rename_i hc
    cases h
    exact ⟨(e.plain (by rw [hc.1]; rfl) (by omega) (.inr (.inr (by unfold Bp; omega)))).lx.ell hc.2 (by omega) (by rw [Nat.add_sub_cancel]; exact hc.1), by omega, by omega⟩
  split at h
  · rename_i hc
    cases h
    exact ⟨(e.plain (by rw [hc.1]; rfl) (by omega) (.inr (.inr (by unfold Bp; omega)))).plain (by rw [hc.2]; rfl) (by omega), by omega, by omega⟩
  split at h
  · rename_i hc
    cases h
    refine ⟨e.plain ?_ (by omega) (.inr (.inr (by unfold Bp; omega))), by omega, by omega⟩
    rcases hc with h | h | h | h | h | h | h | h <;> rw [h] <;> rfl
  split at h
  · rename_i hc
    cases h
    refine ⟨e.plain ?_ (by omega) (.inr (.inr (by unfold Bp; omega))), by omega, by omega⟩
    rcases hc with h | h | h | h | h <;> rw [h] <;> rfl
  · cases h

theorem dig_sign {c : Int} (h : 48 ≤ c ∧ c ≤ 57) : isSign c = false := by
  unfold isSign
  simp only [Bool.or_eq_false_iff, beq_eq_false_iff_ne, ne_eq]
  omega

theorem hydro_lx {i : Nat} (e : LxE s i) : LxE s (hydro s i).2 ∧ i ≤ (hydro s i).2 := by
  unfold hydro
  split
  · rename_i h
    have e1 := e.plain (by rw [h]; rfl) (by omega)
    split
    · rename_i hd
      exact ⟨e1.plain (dig_sign (by omega)) (by omega), by simp only; omega⟩
    · exact ⟨e1, by simp only; omega⟩
  · exact ⟨e, Nat.le_refl _⟩

theorem charge_lx {i : Nat} (e : LxE s i) : Lx s (charge s i).2 ∧ i ≤ (charge s i).2 ∧ ((charge s i).2 = 0 ∨ byteAt s ((charge s i).2 - 1) ≠ 58) := by
  unfold charge
  split
  · rename_i h
    exact ⟨(e.plain (by rw [h]; rfl) (by omega)).lx, by simp only; omega, .inr (by simp only; rw [Nat.add_sub_cancel, h]; decide)⟩
  · split
    · rename_i h
      exact ⟨e.sign (by rw [h]; rfl), by simp only; omega, .inr (by simp only; rw [Nat.add_sub_cancel, h]; decide)⟩
    · exact ⟨e.lx, Nat.le_refl _, e.no.imp (fun h => h) sign58⟩

theorem bracket_lx {i : Nat} {x : Int × Int × Nat} (h : bracket s i = .ok x) (e : LxE s i) : LxE s x.2.2 ∧ i ≤ x.2.2 := by
  unfold bracket at h
  simp only at h
  obtain ⟨h1, h2⟩ := hydro_lx e
  obtain ⟨h3, h4, h5⟩ := charge_lx h1
  split at h
  · rename_i hc
    cases h
    exact ⟨h3.plain (by rw [hc]; rfl) (by omega) (h5.imp (fun h => h) .inl), by simp only; omega⟩
  · cases h

theorem bondEnd_lx {a : Nat} {g : Hung} (h : bondEnd s a p = .ok (g, q)) (e : LxE s p.pos) : Lx s q.pos ∧ Gon s p q := by
  unfold bondEnd at h
  simp only at h
  split at h
  · rename_i hs
    split at h
    · cases h
    · cases h
      exact ⟨e.sign hs, Gon.move (by omega)⟩
  · cases h
    exact ⟨e.lx, Gon.refl s p⟩

theorem link_lx {a : Nat} {g : Hung} (h : link s a p = .ok (g, q)) (e : LxE s p.pos) : Lx s q.pos ∧ Gon s p q := by
  unfold link at h
  split at h
  · rename_i h46
    cases h
    exact ⟨(e.plain (by rw [h46]; rfl) (by omega)).lx, Gon.move (by omega)⟩
  · exact bondEnd_lx h e

theorem elem_low {i n : Nat} {el : ByteArray} (h : element s i = some (el, true, n)) : el = ⟨#[67]⟩ ∨ el = ⟨#[78]⟩ ∨ el = ⟨#[79]⟩ ∨ el = ⟨#[80]⟩ ∨ el = ⟨#[83]⟩ := by
  unfold element at h
  simp only at h
  split at h
  · cases h
  split at h
  · cases h
  split at h
  · cases h
  split at h
  · rename_i hc
    simp only [Option.some.injEq, Prod.mk.injEq] at h
    rw [← h.1]
    rcases hc with h | h | h | h | h <;> rw [h]
    · exact .inl rfl
    · exact .inr (.inl rfl)
    · exact .inr (.inr (.inl rfl))
    · exact .inr (.inr (.inr (.inl rfl)))
    · exact .inr (.inr (.inr (.inr rfl)))
  · cases h

theorem charge_ch (i : Nat) : (charge s i).1 = 0 ∨ (charge s i).1 = 1 ∨ (charge s i).1 = -1 := by
  unfold charge
  split
  · exact .inr (.inl rfl)
  · split
    · exact .inr (.inr rfl)
    · exact .inl rfl
theorem bracket_ch {i j : Nat} {ch hy : Int} (h : bracket s i = .ok (ch, hy, j)) : ch = 0 ∨ ch = 1 ∨ ch = -1 := by
  unfold bracket at h
  simp only at h
  split at h
  · simp only [Except.ok.injEq, Prod.mk.injEq] at h
    rw [← h.1]
    exact charge_ch _
  · cases h

theorem atom_lx {a : Nat} {g : Hung} (h : atom s g p = .ok (a, q)) (e : Lx s p.pos) : LxE s q.pos ∧ Gon s p q := by
  unfold atom at h
  simp only at h
  split at h
  · split at h <;> cases h
  rename_i el ar n hel
  split at h
  · cases h
  split at h
  · cases h
  split at h
  · cases h
  rename_i ch hy j hb
  simp only [Except.ok.injEq, Prod.mk.injEq] at h
  have key : LxE s j ∧ p.pos < j ∧ Bp (byteAt s p.pos) ∧ ((byteAt s p.pos == 91) = false → ch = 0) ∧ (ch = 0 ∨ ch = 1 ∨ ch = -1) := by
    cases h91 : (byteAt s p.pos == 91)
    · rw [h91] at hel hb
      simp only [Bool.false_eq_true, if_false, Except.ok.injEq, Prod.mk.injEq] at hel hb
      obtain ⟨k1, k2, k3⟩ := elem_lx hel e
      rw [← hb.2.2]
      exact ⟨k1, by omega, k2, fun _ => hb.1.symm, .inl hb.1.symm⟩
    · rw [h91] at hel hb
      simp only [if_true] at hel hb
      have h91' : byteAt s p.pos = 91 := by simpa using h91
      have e1 := e.plain (by rw [h91']; rfl) (by omega) (.inr (.inr (.inl h91')))
      obtain ⟨k1, k2, k3⟩ := elem_lx hel e1.lx
      obtain ⟨k4, k5⟩ := bracket_lx hb k1
      exact ⟨k4, by simp only at k5; omega, .inl h91', (fun h => by cases h), bracket_ch hb⟩
  obtain ⟨k1, k2, k3, k4, k6⟩ := key
  have kA : ∀ a ∈ [(⟨el, ar, ch, hy, p.pos, byteAt s p.pos == 91⟩ : Atm)], AtOk a := fun a ha => by
    rw [List.mem_singleton] at ha
    subst ha
    refine ⟨k4, fun har => ?_, k6⟩
    simp only at har
    subst har
    exact elem_low hel
  rw [← h.2]
  split
  · exact ⟨k1, by simp only; omega, ⟨[], by simp, by simp⟩, ⟨_, rfl, kA⟩⟩
  · refine ⟨k1, by simp only [Bz.bind]; omega, ⟨[_], rfl, fun b hb => ?_⟩, ⟨_, rfl, kA⟩⟩
    rw [List.mem_singleton] at hb
    subst hb
    exact ⟨Nat.le_refl _, k2, k3⟩

theorem number_lx {i k j : Nat} (h : ringNumber s i = .ok (k, j)) (e : Lx s i) : LxE s j ∧ i < j ∧ Bp (byteAt s i) := by
  have dig : ∀ {c : Int}, isDigit c = true → 48 ≤ c ∧ c ≤ 57 := fun {c} h => by
    unfold isDigit at h
    simpa using h
  unfold ringNumber at h
  unfold Bp
  split at h
  · rename_i h37
    have e1 := e.plain (by rw [h37]; rfl) (by omega) (.inr (.inr (.inr (.inl h37))))
    split at h
    · rename_i hd
      have d1 := dig hd
      have e2 := e1.plain (dig_sign d1) (by omega)
      split at h
      · rename_i hd2
        have d2 := dig hd2
        have e3 := e2.plain (dig_sign d2) (show byteAt s (i + 2) ≠ 108 by omega)
        cases h
        exact ⟨e3, by omega, .inr (.inl h37)⟩
      · cases h
    · cases h
  · split at h
    · rename_i hd
      have d1 := dig hd
      cases h
      exact ⟨e.plain (dig_sign d1) (by omega) (.inr (.inr (by unfold Bp; omega))), by omega, by omega⟩
    · cases h

theorem ring_lx {a : Nat} (h : ring s a p = .ok q) (e : LxE s p.pos) : LxE s q.pos ∧ Gon s p q := by
  unfold ring at h
  split at h
  · cases h
  rename_i g p1 he
  obtain ⟨e1, g1⟩ := bondEnd_lx he e
  split at h
  · cases h
  rename_i k j hn
  obtain ⟨e2, l2, b2⟩ := number_lx hn e1
  split at h
  · cases h
    exact ⟨e2, g1.trans ⟨by simp only; omega, ⟨[], by simp, by simp⟩, ⟨[], by simp, by simp⟩⟩⟩
  · unfold closeRing at h
    simp only at h
    split at h
    · cases h
    split at h
    · cases h
    split at h
    · cases h
    cases h
    refine ⟨e2, g1.trans ⟨by simp only [Bz.bind]; omega, ⟨[_], rfl, fun b hb => ?_⟩, ⟨[], by simp [Bz.bind], by simp⟩⟩⟩
    rw [List.mem_singleton] at hb
    subst hb
    exact ⟨Nat.le_refl _, l2, b2⟩

theorem rings_lx {a : Nat} : ∀ (n : Nat) {p q : St}, ringsOf s a n p = .ok q → LxE s p.pos → LxE s q.pos ∧ Gon s p q
  | 0, p, q, h, e => by simp only [ringsOf, Except.ok.injEq] at h; subst h; exact ⟨e, Gon.refl s p⟩
  | n + 1, p, q, h, e => by
    rw [ringsOf] at h
    split at h
    · split at h
      · cases h
      · rename_i hk
        obtain ⟨e1, g1⟩ := ring_lx hk e
        obtain ⟨e2, g2⟩ := rings_lx n h e1
        exact ⟨e2, g1.trans g2⟩
    · cases h; exact ⟨e, Gon.refl s p⟩

def CLx (s : ByteArray) (c : Hung → St → R St) : Prop := ∀ h p q, c h p = .ok q → Lx s p.pos → LxE s q.pos ∧ Gon s p q

theorem branch_lx {c : Hung → St → R St} (hc : CLx s c) {a : Nat} (h : branch s c a p = .ok q) (e : LxE s p.pos) : LxE s q.pos ∧ Gon s p q := by
  unfold branch at h
  split at h
  · cases h
  rename_i hl
  obtain ⟨e1, g1⟩ := link_lx hl e
  split at h
  · cases h
  rename_i hk
  obtain ⟨e2, g2⟩ := hc _ _ _ hk e1
  split at h
  · rename_i h41
    cases h
    exact ⟨e2.plain (by rw [h41]; rfl) (by omega), (g1.trans g2).trans (Gon.move (by omega))⟩
  · cases h

theorem branches_lx {c : Hung → St → R St} (hc : CLx s c) {a : Nat} : ∀ (n : Nat) {p q : St}, branches s c a n p = .ok q → LxE s p.pos → LxE s q.pos ∧ Gon s p q
  | 0, p, q, h, e => by simp only [branches, Except.ok.injEq] at h; subst h; exact ⟨e, Gon.refl s p⟩
  | n + 1, p, q, h, e => by
    rw [branches] at h
    split at h
    · rename_i h40
      split at h
      · cases h
      · rename_i hk
        obtain ⟨e1, g1⟩ := branch_lx hc hk (e.plain (by rw [h40]; rfl) (by omega))
        obtain ⟨e2, g2⟩ := branches_lx hc n h e1
        exact ⟨e2, (Gon.move (by omega)).trans (g1.trans g2)⟩
    · cases h; exact ⟨e, Gon.refl s p⟩

theorem knot_lx {c : Hung → St → R St} (hc : CLx s c) {g : Hung} {a : Nat} (h : knot s c g p = .ok (a, q)) (e : Lx s p.pos) : LxE s q.pos ∧ Gon s p q := by
  unfold knot at h
  split at h
  · cases h
  rename_i h1
  split at h
  · cases h
  rename_i h2
  split at h
  · cases h
  rename_i h3
  cases h
  obtain ⟨e1, g1⟩ := atom_lx h1 e
  obtain ⟨e2, g2⟩ := rings_lx _ h2 e1
  obtain ⟨e3, g3⟩ := branches_lx hc _ h3 e2
  exact ⟨e3, (g1.trans g2).trans g3⟩

theorem lknot_lx {c : Hung → St → R St} (hc : CLx s c) {a k : Nat} (h : linkedKnot s c a p = .ok (k, q)) (e : LxE s p.pos) : LxE s q.pos ∧ Gon s p q := by
  unfold linkedKnot at h
  split at h
  · cases h
  · rename_i hl
    obtain ⟨e1, g1⟩ := link_lx hl e
    obtain ⟨e2, g2⟩ := knot_lx hc h e1
    exact ⟨e2, g1.trans g2⟩

theorem linked_lx {c : Hung → St → R St} (hc : CLx s c) : ∀ (n : Nat) {a : Nat} {p q : St}, Bz.linked s c n a p = .ok q → LxE s p.pos → LxE s q.pos ∧ Gon s p q
  | 0, a, p, q, h, e => by simp only [Bz.linked, Except.ok.injEq] at h; subst h; exact ⟨e, Gon.refl s p⟩
  | n + 1, a, p, q, h, e => by
    rw [Bz.linked] at h
    split at h
    · split at h
      · cases h
      · rename_i hk
        obtain ⟨e1, g1⟩ := lknot_lx hc hk e
        obtain ⟨e2, g2⟩ := linked_lx hc n h e1
        exact ⟨e2, g1.trans g2⟩
    · cases h; exact ⟨e, Gon.refl s p⟩

theorem chain_lx : ∀ n, CLx s (chain s n)
  | 0 => by intro h p q hr; simp [chain] at hr
  | n + 1 => by
    intro h p q hr e
    rw [chain] at hr
    split at hr
    · cases hr
    · rename_i hk
      obtain ⟨e1, g1⟩ := knot_lx (chain_lx n) hk e
      obtain ⟨e2, g2⟩ := linked_lx (chain_lx n) _ hr e1
      exact ⟨e2, g1.trans g2⟩
end
theorem lx0 (s : ByteArray) : LxE s 0 := ⟨⟨fun y h => by omega, fun y h => by omega⟩, .inl rfl⟩
def capU (b : UInt8) : List UInt8 := if b.toNat = 58 then [] else if b.toNat = 99 ∨ b.toNat = 110 ∨ b.toNat = 111 ∨ b.toNat = 112 ∨ b.toNat = 115 then [b - 32] else [b]
def capI (c : Int) : Int := if c = 99 ∨ c = 110 ∨ c = 111 ∨ c = 112 ∨ c = 115 then c - 32 else c

/-- What is written of a text from a place on; d: ahead of which places there is a sign of a double bond. -/
def wrR (d : Nat → Bool) : List UInt8 → Nat → List UInt8
  | [], _ => []
  | c :: t, x => (if d x then [61] else []) ++ (capU c ++ wrR d t (x + 1))
def wr0 (d : Nat → Bool) (s : ByteArray) (x : Nat) : List UInt8 := wrR d (s.data.toList.drop x) x
def wr1 (d : Nat → Bool) (s : ByteArray) (x : Nat) : List UInt8 := match s.data.toList.drop x with
  | [] => []
  | c :: t => capU c ++ wrR d t (x + 1)

section
variable {d : Nat → Bool} {s W : ByteArray} {x P : Nat}
theorem drop_lt (hx : x < s.size) : s.data.toList.drop x = s[x] :: s.data.toList.drop (x + 1) := by
  have hl : x < s.data.toList.length := by simpa using hx
  rw [List.drop_eq_getElem_cons hl]
  rfl
theorem wr1_lt (hx : x < s.size) : wr1 d s x = capU s[x] ++ wr0 d s (x + 1) := by
  unfold wr1 wr0
  rw [drop_lt hx]
theorem wr0_yes (hx : x < s.size) (hd : d x = true) : wr0 d s x = 61 :: wr1 d s x := by
  rw [wr1_lt hx]
  unfold wr0
  rw [drop_lt hx, wrR, hd]
  rfl
theorem wr_ge (hx : ¬ x < s.size) : wr0 d s x = [] ∧ wr1 d s x = [] := by
  have : s.data.toList.drop x = [] := List.drop_eq_nil_of_le (by simpa using hx)
  unfold wr0 wr1
  rw [this]
  exact ⟨rfl, rfl⟩
theorem wr0_no (hd : d x = false) : wr0 d s x = wr1 d s x := by
  by_cases hx : x < s.size
  · rw [wr1_lt hx]
    unfold wr0
    rw [drop_lt hx, wrR, hd]
    rfl
  · rw [(wr_ge hx).1, (wr_ge hx).2]

theorem capU_58 (hx : x < s.size) (h : byteAt s x = 58) : capU s[x] = [] := by
  rw [byteAt_lt s x hx] at h
  unfold capU
  rw [if_pos (by omega)]
theorem capU_no (hx : x < s.size) (h : byteAt s x ≠ 58) : ∃ u : UInt8, capU s[x] = [u] ∧ (u.toNat : Int) = capI (byteAt s x) := by
  rw [byteAt_lt s x hx] at h ⊢
  unfold capU capI
  rw [if_neg (by omega)]
  by_cases hc : s[x].toNat = 99 ∨ s[x].toNat = 110 ∨ s[x].toNat = 111 ∨ s[x].toNat = 112 ∨ s[x].toNat = 115
  · rw [if_pos hc, if_pos (by omega)]
    refine ⟨_, rfl, ?_⟩
    rw [UInt8.toNat_sub_of_le _ _ (by rw [UInt8.le_iff_toNat_le]; show (32 : UInt8).toNat ≤ _; have : (32 : UInt8).toNat = 32 := rfl; omega)]
    have : (32 : UInt8).toNat = 32 := rfl
    omega
  · rw [if_neg hc, if_neg (by omega)]
    exact ⟨_, rfl, rfl⟩

theorem a_yes (h : Bz.Rest W P (wr0 d s x)) (hx : x < s.size) (hd : d x = true) : byteAt W P = 61 ∧ P < W.size ∧ Bz.Rest W (P + 1) (wr1 d s x) := by
  rw [wr0_yes hx hd] at h
  exact ⟨h.at, h.lt, h.next⟩
theorem a_byte (h : Bz.Rest W P (wr1 d s x)) (hx : x < s.size) (hc : byteAt s x ≠ 58) : byteAt W P = capI (byteAt s x) ∧ P < W.size ∧ Bz.Rest W (P + 1) (wr0 d s (x + 1)) := by
  obtain ⟨u, h1, h2⟩ := capU_no hx hc
  rw [wr1_lt hx, h1] at h
  have h' : Bz.Rest W P (u :: wr0 d s (x + 1)) := h
  exact ⟨by rw [h'.at, h2], h'.lt, h'.next⟩
theorem a_colon (hx : x < s.size) (hc : byteAt s x = 58) : wr1 d s x = wr0 d s (x + 1) := by
  rw [wr1_lt hx, capU_58 hx hc]
  rfl
end
/-- What the whole text is like. -/
structure Wc (d : Nat → Bool) (s : ByteArray) : Prop where
  lx : LxE s s.size
  bp : ∀ y, d y = true → y < s.size ∧ Bp (byteAt s y)

section
variable {d : Nat → Bool} {s W : ByteArray} {x P : Nat}
theorem Wc.no (C : Wc d s) (h : ¬ Bp (byteAt s x)) : d x = false := by
  cases hd : d x
  · rfl
  · exact absurd (C.bp x hd).2 h
theorem bp58 : ¬ Bp 58 := by unfold Bp; omega
theorem bp0 : ¬ Bp 0 := by unfold Bp; omega

theorem Wc.colon (C : Wc d s) (hc : byteAt s x = 58) : x + 1 < s.size ∧ Bp (byteAt s (x + 1)) := by
  have hx : x < s.size := lt_of_byteAt (by omega)
  have hlt : x + 1 < s.size := by
    rcases Nat.lt_or_ge (x + 1) s.size with h | h
    · exact h
    · have e : x = s.size - 1 := by omega
      rcases C.lx.no with h0 | h0
      · omega
      · rw [← e, hc] at h0
        cases h0
  exact ⟨hlt, (C.lx.lx.sg x hlt).1 hc⟩

/-- What stands in the text that was written, where the other one's place x is written. -/
theorem Wc.cases (C : Wc d s) (h : Bz.Rest W P (wr0 d s x)) :
    (s.size ≤ x ∧ byteAt W P = 0 ∧ byteAt s x = 0 ∧ W.size ≤ P) ∨
    (x < s.size ∧ d x = true ∧ byteAt W P = 61 ∧ Bp (byteAt s x) ∧ P < W.size ∧ Bz.Rest W (P + 1) (wr1 d s x)) ∨
    (x < s.size ∧ d x = false ∧ byteAt s x ≠ 58 ∧ byteAt W P = capI (byteAt s x) ∧ P < W.size ∧ Bz.Rest W (P + 1) (wr0 d s (x + 1))) ∨
    (byteAt s x = 58 ∧ d x = false ∧ x + 1 < s.size ∧ Bp (byteAt s (x + 1)) ∧ d (x + 1) = true ∧ byteAt W P = 61 ∧ P < W.size ∧ Bz.Rest W (P + 1) (wr1 d s (x + 1))) ∨
    (byteAt s x = 58 ∧ d x = false ∧ x + 1 < s.size ∧ Bp (byteAt s (x + 1)) ∧ d (x + 1) = false ∧ byteAt W P = capI (byteAt s (x + 1)) ∧ P < W.size ∧ Bz.Rest W P (wr1 d s (x + 1))) := by
  by_cases hx : x < s.size
  · cases hd : d x
    · by_cases hc : byteAt s x = 58
      · obtain ⟨h1, h2⟩ := C.colon hc
        have h' := h
        rw [wr0_no hd, a_colon hx hc] at h'
        cases hd1 : d (x + 1)
        · rw [wr0_no hd1] at h'
          obtain ⟨k1, k2, _⟩ := a_byte h' h1 (fun e => by rw [e] at h2; exact bp58 h2)
          exact .inr (.inr (.inr (.inr ⟨hc, rfl, h1, h2, rfl, k1, k2, h'⟩)))
        · obtain ⟨k1, k2, k3⟩ := a_yes h' h1 hd1
          exact .inr (.inr (.inr (.inl ⟨hc, rfl, h1, h2, rfl, k1, k2, k3⟩)))
      · rw [wr0_no hd] at h
        obtain ⟨k1, k2, k3⟩ := a_byte h hx hc
        exact .inr (.inr (.inl ⟨hx, rfl, hc, k1, k2, k3⟩))
    · obtain ⟨k1, k2, k3⟩ := a_yes h hx hd
      exact .inr (.inl ⟨hx, rfl, k1, (C.bp x hd).2, k2, k3⟩)
  · rw [(wr_ge hx).1] at h
    exact .inl ⟨by omega, h.zero, byteAt_ge s x hx, h.end⟩

theorem cap_is {c k : Int} (hk : k ≠ 67 ∧ k ≠ 78 ∧ k ≠ 79 ∧ k ≠ 80 ∧ k ≠ 83 ∧ k ≠ 99 ∧ k ≠ 110 ∧ k ≠ 111 ∧ k ≠ 112 ∧ k ≠ 115) : capI c = k ↔ c = k := by
  unfold capI
  split <;> omega

/-- Brackets and dots. -/
theorem Wc.test (C : Wc d s) (h : Bz.Rest W P (wr0 d s x)) {k : Int} (hk : k = 40 ∨ k = 41 ∨ k = 46) : byteAt W P = k ↔ byteAt s x = k := by
  have ci : ∀ c, capI c = k ↔ c = k := fun c => cap_is (by omega)
  rcases C.cases h with ⟨_, h1, h2, _⟩ | ⟨_, _, h1, h2, _⟩ | ⟨_, _, _, h1, _⟩ | ⟨h0, _, _, _, _, h1, _⟩ | ⟨h0, _, _, h2, _, h1, _⟩
  · rw [h1, h2]
  · unfold Bp at h2
    omega
  · rw [h1]; exact ci _
  · omega
  · rw [h1, ci]
    unfold Bp at h2
    omega

/-- The second letter of a name. -/
theorem Wc.letter (C : Wc d s) (h : Bz.Rest W P (wr0 d s x)) {k : Int} (hk : k = 108 ∨ k = 114) (hb : byteAt W P = k) : byteAt s x = k := by
  have ci : ∀ c, capI c = k ↔ c = k := fun c => cap_is (by omega)
  rcases C.cases h with ⟨_, h1, h2, _⟩ | ⟨_, _, h1, h2, _⟩ | ⟨_, _, _, h1, _⟩ | ⟨h0, _, _, _, _, h1, _⟩ | ⟨h0, _, _, h2, _, h1, _⟩
  · omega
  · omega
  · exact (ci _).1 (by omega)
  · omega
  · have := (ci _).1 (h1.symm.trans hb)
    unfold Bp at h2
    omega

theorem cap_sign (c : Int) : isSign (capI c) = isSign c := by
  unfold capI
  split
  · rename_i h
    rcases h with h | h | h | h | h <;> rw [h] <;> rfl
  · rfl
theorem cap_ring (c : Int) : startsRing (capI c) = startsRing c := by
  unfold capI
  split
  · rename_i h
    rcases h with h | h | h | h | h <;> rw [h] <;> rfl
  · rfl

theorem elem_w (C : Wc d s) {el : ByteArray} {ar : Bool} {n : Nat} (h : Bz.Rest W P (wr1 d s x)) (hel : element s x = some (el, ar, n)) (hg : ∀ y, x < y → y < x + n → d y = false) : element W P = some (el, false, n) ∧ Bz.Rest W (P + n) (wr0 d s (x + n)) ∧ P + n ≤ W.size := by
  have hne : byteAt s x ≠ 0 := by
    intro h0
    unfold element at hel
    rw [h0] at hel
    simp at hel
  have hx := lt_of_byteAt hne
  have h58 : byteAt s x ≠ 58 := by
    intro h0
    unfold element at hel
    rw [h0] at hel
    simp at hel
  obtain ⟨b1, b2, b3⟩ := a_byte h hx h58
  have l1 : byteAt W (P + 1) = 108 → byteAt s (x + 1) = 108 := fun h => C.letter b3 (.inl rfl) h
  have l2 : byteAt W (P + 1) = 114 → byteAt s (x + 1) = 114 := fun h => C.letter b3 (.inr rfl) h
  unfold element at hel
  simp only at hel
  split at hel
  · rename_i hc
    cases hel
    have hx1 : x + 1 < s.size := lt_of_byteAt (by omega)
    rw [wr0_no (hg (x + 1) (by omega) (by omega))] at b3
    obtain ⟨c1, c2, c3⟩ := a_byte b3 hx1 (by omega)
    rw [hc.1] at b1
    rw [hc.2] at c1
    refine ⟨?_, c3, c2⟩
    unfold element
    rw [b1, c1]
    rfl
  rename_i n1
  split at hel
  · rename_i hc
    cases hel
    have hx1 : x + 1 < s.size := lt_of_byteAt (by omega)
    rw [wr0_no (hg (x + 1) (by omega) (by omega))] at b3
    obtain ⟨c1, c2, c3⟩ := a_byte b3 hx1 (by omega)
    rw [hc.1] at b1
    rw [hc.2] at c1
    refine ⟨?_, c3, c2⟩
    unfold element
    rw [b1, c1]
    rfl
  rename_i n2
  split at hel
  · rename_i hc
    cases hel
    have hcap : capI (byteAt s x) = byteAt s x := by unfold capI; rw [if_neg (by omega)]
    rw [hcap] at b1
    refine ⟨?_, b3, b2⟩
    unfold element
    simp only [b1]
    rw [if_neg (fun h => n1 ⟨h.1, l1 h.2⟩), if_neg (fun h => n2 ⟨h.1, l2 h.2⟩), if_pos hc]
  rename_i n3
  split at hel
  · rename_i hc
    cases hel
    have hcap : capI (byteAt s x) = byteAt s x - 32 := by unfold capI; rw [if_pos hc]
    rw [hcap] at b1
    refine ⟨?_, b3, b2⟩
    unfold element
    simp only [b1]
    rw [if_neg ?_, if_neg (by omega), if_pos (by omega)]
    rintro ⟨_, h2⟩
    have h3 := l1 h2
    have hx1 : x + 1 < s.size := lt_of_byteAt (by omega)
    have := (C.lx.lx.el (x + 1) hx1 h3).2
    rw [Nat.add_sub_cancel] at this
    omega
  · cases hel

/-- A sign that is written as it is. -/
theorem a_same {c : Int} (h : Bz.Rest W P (wr0 d s x)) (hd : d x = false) (hc : byteAt s x = c) (h0 : c ≠ 0 ∧ c ≠ 58 ∧ c ≠ 99 ∧ c ≠ 110 ∧ c ≠ 111 ∧ c ≠ 112 ∧ c ≠ 115) : byteAt W P = c ∧ P + 1 ≤ W.size ∧ Bz.Rest W (P + 1) (wr0 d s (x + 1)) := by
  rw [wr0_no hd] at h
  obtain ⟨b1, b2, b3⟩ := a_byte h (lt_of_byteAt (by omega)) (by omega)
  refine ⟨?_, b2, b3⟩
  rw [b1, hc]
  unfold capI
  rw [if_neg (by omega)]

theorem charge_w {i : Nat} {P : Nat} (h : Bz.Rest W P (wr0 d s i)) (h93 : byteAt s (charge s i).2 = 93) (hg : ∀ y, i ≤ y → y ≤ (charge s i).2 → d y = false) :
    ∃ J, charge W P = ((charge s i).1, J) ∧ byteAt W J = 93 ∧ J + 1 ≤ W.size ∧ Bz.Rest W (J + 1) (wr0 d s ((charge s i).2 + 1)) ∧ byteAt W P = byteAt s i := by
  unfold charge at h93 hg ⊢
  by_cases h1 : byteAt s i = 43
  · simp only [h1, if_true] at h93 hg ⊢
    obtain ⟨b1, b2, b3⟩ := a_same h (hg i (by omega) (by omega)) h1 (by omega)
    obtain ⟨c1, c2, c3⟩ := a_same b3 (hg (i + 1) (by omega) (by omega)) h93 (by omega)
    rw [b1]
    exact ⟨P + 1, rfl, c1, c2, c3, rfl⟩
  · by_cases h2 : byteAt s i = 45
    · simp only [h2] at h93 hg ⊢
      have e : ¬ ((45 : Int) = 43) := by omega
      simp only [e, if_false, if_true] at h93 hg ⊢
      obtain ⟨b1, b2, b3⟩ := a_same h (hg i (by omega) (by omega)) h2 (by omega)
      obtain ⟨c1, c2, c3⟩ := a_same b3 (hg (i + 1) (by omega) (by omega)) h93 (by omega)
      rw [b1]
      exact ⟨P + 1, rfl, c1, c2, c3, rfl⟩
    · rw [if_neg h1, if_neg h2] at h93 hg ⊢
      simp only at h93 hg ⊢
      obtain ⟨c1, c2, c3⟩ := a_same h (hg i (by omega) (by omega)) h93 (by omega)
      rw [c1, h93]
      exact ⟨P, rfl, c1, c2, c3, rfl⟩

theorem bracket_w {i j : Nat} {P : Nat} {c y : Int} (h : Bz.Rest W P (wr0 d s i)) (hb : bracket s i = .ok (c, y, j)) (hg : ∀ z, i ≤ z → z < j → d z = false) :
    ∃ J, bracket W P = .ok (c, y, J) ∧ Bz.Rest W J (wr0 d s j) ∧ J ≤ W.size ∧ P ≤ J := by
  unfold bracket at hb
  simp only at hb
  split at hb
  · rename_i h93
    simp only [Except.ok.injEq, Prod.mk.injEq] at hb
    obtain ⟨e1, e2, e3⟩ := hb
    have hcl : ∀ k, k ≤ (charge s k).2 ∧ (charge s k).2 ≤ k + 1 := fun k => by
      unfold charge
      split
      · simp only; omega
      · split <;> simp only <;> omega
    have chJ : ∀ (B : Nat) x J, charge W B = (x, J) → B ≤ J := fun B x J h => by
      unfold charge at h
      split at h
      · cases h; omega
      · split at h <;> cases h <;> omega
    by_cases h72 : byteAt s i = 72
    · by_cases hd : 49 ≤ byteAt s (i + 1) ∧ byteAt s (i + 1) ≤ 52
      · have eh : hydro s i = (byteAt s (i + 1) - 48, i + 2) := by unfold hydro; rw [if_pos h72, if_pos hd]
        rw [eh] at h93 e1 e2 e3
        simp only at h93 e1 e2 e3
        have := hcl (i + 2)
        obtain ⟨b1, b2, b3⟩ := a_same h (hg i (by omega) (by omega)) h72 (by omega)
        obtain ⟨c1, c2, c3⟩ := a_same (c := byteAt s (i + 1)) b3 (hg (i + 1) (by omega) (by omega)) rfl (by omega)
        have c3' : Bz.Rest W (P + 2) (wr0 d s (i + 2)) := c3
        obtain ⟨J, k1, k2, k3, k4, _⟩ := charge_w c3' h93 fun z h1 h2 => hg z (by omega) (by omega)
        have eW : hydro W P = (byteAt s (i + 1) - 48, P + 2) := by unfold hydro; rw [if_pos b1, c1, if_pos hd]
        refine ⟨J + 1, ?_, by rw [← e3]; exact k4, k3, by have := chJ _ _ _ k1; omega⟩
        unfold bracket
        simp only [eW]
        rw [k1]
        simp only
        rw [if_pos k2, e1, e2]
      · have eh : hydro s i = (1, i + 1) := by unfold hydro; rw [if_pos h72, if_neg hd]
        rw [eh] at h93 e1 e2 e3
        simp only at h93 e1 e2 e3
        have := hcl (i + 1)
        obtain ⟨b1, b2, b3⟩ := a_same h (hg i (by omega) (by omega)) h72 (by omega)
        obtain ⟨J, k1, k2, k3, k4, k5⟩ := charge_w b3 h93 fun z h1 h2 => hg z (by omega) (by omega)
        have eW : hydro W P = (1, P + 1) := by unfold hydro; rw [if_pos b1, k5, if_neg hd]
        refine ⟨J + 1, ?_, by rw [← e3]; exact k4, k3, by have := chJ _ _ _ k1; omega⟩
        unfold bracket
        simp only [eW]
        rw [k1]
        simp only
        rw [if_pos k2, e1, e2]
    · have eh : hydro s i = (0, i) := by unfold hydro; rw [if_neg h72]
      rw [eh] at h93 e1 e2 e3
      simp only at h93 e1 e2 e3
      have := hcl i
      obtain ⟨J, k1, k2, k3, k4, k5⟩ := charge_w h h93 fun z h1 h2 => hg z (by omega) (by omega)
      have eW : hydro W P = (0, P) := by unfold hydro; rw [k5, if_neg h72]
      refine ⟨J + 1, ?_, by rw [← e3]; exact k4, k3, by have := chJ _ _ _ k1; omega⟩
      unfold bracket
      simp only [eW]
      rw [k1]
      simp only
      rw [if_pos k2, e1, e2]
  · cases hb

theorem number_w {k j : Nat} (h : Bz.Rest W P (wr1 d s x)) (hr : ringNumber s x = .ok (k, j)) (hg : ∀ y, x < y → y < j → d y = false) :
    ∃ J, ringNumber W P = .ok (k, J) ∧ Bz.Rest W J (wr0 d s j) ∧ J ≤ W.size ∧ P < J := by
  have dig : ∀ {c : Int}, isDigit c = true → 48 ≤ c ∧ c ≤ 57 := fun {c} h => by
    unfold isDigit at h
    simpa using h
  have cd : ∀ {c : Int}, 48 ≤ c ∧ c ≤ 57 → capI c = c := fun {c} h => by unfold capI; rw [if_neg (by omega)]
  unfold ringNumber at hr
  split at hr
  · rename_i h37
    obtain ⟨b1, b2, b3⟩ := a_byte h (lt_of_byteAt (by omega)) (by omega)
    rw [h37] at b1
    split at hr
    · rename_i hd1
      split at hr
      · rename_i hd2
        cases hr
        have g1 := dig hd1
        have g2 := dig hd2
        obtain ⟨c1, c2, c3⟩ := a_same (c := byteAt s (x + 1)) b3 (hg (x + 1) (by omega) (by omega)) rfl (by omega)
        obtain ⟨e1, e2, e3⟩ := a_same (c := byteAt s (x + 2)) c3 (hg (x + 2) (by omega) (by omega)) rfl (by omega)
        have e1' : byteAt W (P + 2) = byteAt s (x + 2) := e1
        refine ⟨P + 3, ?_, e3, e2, by omega⟩
        unfold ringNumber
        rw [b1, c1, e1', hd1, hd2]
        rfl
      · cases hr
    · cases hr
  · rename_i h37
    split at hr
    · rename_i hd1
      cases hr
      have g1 := dig hd1
      obtain ⟨b1, b2, b3⟩ := a_byte h (lt_of_byteAt (by omega)) (by omega)
      rw [cd g1] at b1
      refine ⟨P + 1, ?_, b3, b2, by omega⟩
      unfold ringNumber
      rw [b1, if_neg h37, hd1]
      rfl
    · cases hr
end
def pl0 (a : Atm) : Atm := { a with pl := 0 }
def un (a : Atm) : Atm := { a with pl := 0, aro := false }
def tri (b : Bnd) : Nat × Nat × Int := (b.a, b.b, b.o)
def newO (d : Nat → Bool) (o : Int) (pl : Nat) : Int := if o = 4 then (if d pl then 2 else 1) else o
def newT (d : Nat → Bool) (b : Bnd) : Nat × Nat × Int := (b.a, b.b, newO d b.o b.pl)
def m58 (m : Int) : Int := if m = 58 then 0 else m
def MkOk (m : Int) : Prop := m = 0 ∨ m = 45 ∨ m = 61 ∨ m = 35 ∨ m = 58

theorem MkOk.of {c : Int} (h : isSign c = true) : MkOk c := by
  unfold isSign at h
  simp only [Bool.or_eq_true, beq_iff_eq] at h
  unfold MkOk
  omega

/-- The same state, of the text that was written. -/
structure Wl (d : Nat → Bool) (p P : St) : Prop where
  atoms : P.atoms.map pl0 = p.atoms.map un
  bonds : P.bonds.map tri = p.bonds.map (newT d)
  rings : ∀ k, (p.rings k = none ∧ P.rings k = none) ∨ ∃ o O, p.rings k = some o ∧ P.rings k = some O ∧ O.hung.atom = o.hung.atom ∧ O.hung.mark = m58 o.hung.mark ∧ MkOk o.hung.mark

/-- The same end of a bond, whose other end comes at x. -/
structure HW (d : Nat → Bool) (x : Nat) (g G : Hung) : Prop where
  atom : G.atom = g.atom
  mark : G.mark = if d x then 61 else m58 g.mark
  ok : MkOk g.mark

section
variable {d : Nat → Bool} {s W : ByteArray} {p P q : St}
theorem Wl.len (R : Wl d p P) : P.atoms.length = p.atoms.length := by
  have := congrArg List.length R.atoms
  simpa using this

theorem aro_no (h : P.atoms.map pl0 = p.atoms.map un) (a : Int) : aro P a = false := by
  unfold aro
  cases hP : P.atoms[a.toNat]? with
  | none => rfl
  | some x =>
    have h1 : (P.atoms.map pl0)[a.toNat]? = some (pl0 x) := by rw [List.getElem?_map, hP]; rfl
    rw [h, List.getElem?_map] at h1
    cases hp : p.atoms[a.toNat]? with
    | none => rw [hp] at h1; cases h1
    | some y =>
      rw [hp] at h1
      simp only [Option.map_some, Option.some.injEq] at h1
      have := congrArg Atm.aro h1
      exact this.symm

theorem Wl.bonded (R : Wl d p P) (a b : Nat) : bonded P.bonds a b = bonded p.bonds a b := by
  have key : ∀ (l : List Bnd) (f : Bnd → Nat × Nat × Int), (∀ x ∈ l, (f x).1 = x.a ∧ (f x).2.1 = x.b) → Bz.bonded l a b = (l.map f).any (fun x => (x.1 == a && x.2.1 == b) || (x.1 == b && x.2.1 == a)) := by
    intro l f hf
    unfold Bz.bonded
    induction l with
    | nil => rfl
    | cons x l ih =>
      rw [List.map_cons, List.any_cons, List.any_cons, ih fun y hy => hf y (by simp [hy]), (hf x (by simp)).1, (hf x (by simp)).2]
  rw [key P.bonds tri (fun _ _ => ⟨rfl, rfl⟩), key p.bonds (newT d) (fun _ _ => ⟨rfl, rfl⟩), R.bonds]

theorem order_w {x : Nat} {o m M a b : Int} (hP : ∀ a, aro P a = false) (ho : order p m a b = o) (hm : MkOk m) (hM : M = if d x then 61 else m58 m) (hd : d x = true → o = 4) : order P M a b = newO d o x := by
  have eP : order P M a b = if M = 45 then 1 else if M = 61 then 2 else if M = 35 then 3 else if M = 58 then 4 else 1 := by
    unfold order
    rw [hP, hP]
    rfl
  rw [eP]
  unfold newO
  cases hx : d x
  · rw [hx] at hM
    simp only [Bool.false_eq_true, if_false] at hM ⊢
    unfold m58 at hM
    unfold order at ho
    rcases hm with h | h | h | h | h
    · subst h
      simp at hM ho
      subst hM
      simp
      split at ho <;> omega
    · subst h; simp at hM ho; subst hM; subst ho; rfl
    · subst h; simp at hM ho; subst hM; subst ho; rfl
    · subst h; simp at hM ho; subst hM; subst ho; rfl
    · subst h; simp at hM ho; subst hM; subst ho; rfl
  · rw [hx] at hM
    simp only [if_true] at hM
    rw [hM, hd hx]
    rfl

theorem Wl.bind (R : Wl d p P) {a b pl pl' : Nat} {o O : Int} (h : O = newO d o pl) : Wl d (bind p a b o pl) (bind P a b O pl') := by
  refine ⟨R.atoms, ?_, R.rings⟩
  unfold Bz.bind
  simp only [List.map_append, List.map_cons, List.map_nil]
  rw [R.bonds, h]
  rfl

theorem Wl.move (R : Wl d p P) (j J : Nat) : Wl d { p with pos := j } { P with pos := J } := ⟨R.atoms, R.bonds, R.rings⟩

theorem Wl.setR (R : Wl d p P) (k : Nat) {o O : Option Opn} (ho : (o = none ∧ O = none) ∨ ∃ x X, o = some x ∧ O = some X ∧ X.hung.atom = x.hung.atom ∧ X.hung.mark = m58 x.hung.mark ∧ MkOk x.hung.mark) : Wl d { p with rings := setRing p.rings k o } { P with rings := setRing P.rings k O } := by
  refine ⟨R.atoms, R.bonds, fun j => ?_⟩
  unfold setRing
  simp only
  by_cases hj : j = k
  · rw [if_pos hj, if_pos hj]; exact ho
  · rw [if_neg hj, if_neg hj]; exact R.rings j

theorem bondEnd_w (C : Wc d s) (R : Wl d p P) (h : Bz.Rest W P.pos (wr0 d s p.pos)) (hf : P.pos ≤ W.size) {a : Nat} {g : Hung} (hr : bondEnd s a p = .ok (g, q)) (hd : g.mark ≠ 0 → g.mark ≠ 58 → d q.pos = false) :
    ∃ G Q, bondEnd W a P = .ok (G, Q) ∧ HW d q.pos g G ∧ Wl d q Q ∧ Bz.Rest W Q.pos (wr1 d s q.pos) ∧ P.pos ≤ Q.pos ∧ Q.pos ≤ W.size := by
  have two : ∀ {x : Nat}, byteAt W P.pos = 61 → bondEnd W a P = .ok (⟨61, P.pos, a⟩, { P with pos := P.pos + 1 }) := fun {x} h => by
    unfold bondEnd
    simp only [h]
    rfl
  have none : isSign (byteAt W P.pos) = false → bondEnd W a P = .ok (⟨0, 0, a⟩, P) := fun h => by
    unfold bondEnd
    simp only [h]
    rfl
  unfold bondEnd at hr
  simp only at hr
  rcases C.cases h with ⟨h0, h1, h2, h3⟩ | ⟨h0, hdx, h1, h2, h3, h4⟩ | ⟨h0, hdx, h2, h1, h3, h4⟩ | ⟨h0, hdx, h2, h5, h6, h1, h3, h4⟩ | ⟨h0, hdx, h2, h5, h6, h1, h3, h4⟩
  · rw [h2] at hr
    have e0 : isSign 0 = false := rfl
    rw [e0] at hr
    simp only [Bool.false_eq_true, if_false, Except.ok.injEq, Prod.mk.injEq] at hr
    obtain ⟨rfl, rfl⟩ := hr
    have hdx : d p.pos = false := C.no (by rw [h2]; exact bp0)
    refine ⟨_, _, none (by rw [h1]; rfl), ⟨rfl, by rw [hdx]; rfl, .inl rfl⟩, R, by rw [← wr0_no hdx]; exact h, Nat.le_refl _, hf⟩
  · rw [h2.sign] at hr
    simp only [Bool.false_eq_true, if_false, Except.ok.injEq, Prod.mk.injEq] at hr
    obtain ⟨rfl, rfl⟩ := hr
    exact ⟨_, _, two (x := 0) h1, ⟨rfl, by rw [hdx]; rfl, .inl rfl⟩, R.move p.pos _, h4, by simp only; omega, h3⟩
  · cases hs : isSign (byteAt s p.pos)
    · rw [hs] at hr
      simp only [Bool.false_eq_true, if_false, Except.ok.injEq, Prod.mk.injEq] at hr
      obtain ⟨rfl, rfl⟩ := hr
      exact ⟨_, _, none (by rw [h1, cap_sign]; exact hs), ⟨rfl, by rw [hdx]; rfl, .inl rfl⟩, R, by rw [← wr0_no hdx]; exact h, Nat.le_refl _, hf⟩
    · rw [hs] at hr
      simp only [if_true] at hr
      rw [if_neg (fun h => h2 h.1)] at hr
      simp only [Except.ok.injEq, Prod.mk.injEq] at hr
      obtain ⟨rfl, rfl⟩ := hr
      simp only at hd
      have hm := MkOk.of hs
      have hn0 : byteAt s p.pos ≠ 0 := fun e => by rw [e] at hs; cases hs
      have hd1 := hd hn0 h2
      have hc : capI (byteAt s p.pos) = byteAt s p.pos := by
        unfold capI
        unfold MkOk at hm
        rw [if_neg (by omega)]
      refine ⟨⟨byteAt s p.pos, P.pos, a⟩, { P with pos := P.pos + 1 }, ?_, ⟨rfl, ?_, hm⟩, R.move _ _, ?_, by simp only; omega, h3⟩
      · unfold bondEnd
        rw [h1, hc]
        simp only [hs, if_true]
        rw [if_neg (fun h => h2 h.1)]
      · simp only
        rw [hd1]
        unfold m58
        simp only [Bool.false_eq_true, if_false]
        rw [if_neg h2]
      · simp only
        rw [← wr0_no hd1]
        exact h4
  · rw [h0] at hr
    have e0 : isSign 58 = true := rfl
    rw [e0] at hr
    simp only [if_true] at hr
    split at hr
    · cases hr
    · simp only [Except.ok.injEq, Prod.mk.injEq] at hr
      obtain ⟨rfl, rfl⟩ := hr
      refine ⟨_, _, two (x := 0) h1, ⟨rfl, by simp only; rw [h6]; rfl, .inr (.inr (.inr (.inr rfl)))⟩, R.move _ _, h4, by simp only; omega, h3⟩
  · rw [h0] at hr
    have e0 : isSign 58 = true := rfl
    rw [e0] at hr
    simp only [if_true] at hr
    split at hr
    · cases hr
    · simp only [Except.ok.injEq, Prod.mk.injEq] at hr
      obtain ⟨rfl, rfl⟩ := hr
      refine ⟨_, _, none (by rw [h1, cap_sign]; exact h5.sign), ⟨rfl, by simp only; rw [h6]; rfl, .inr (.inr (.inr (.inr rfl)))⟩, R.move _ P.pos, h4, Nat.le_refl _, hf⟩

theorem ahead_w (C : Wc d s) (h : Bz.Rest W P.pos (wr0 d s p.pos)) (hd : isSign (byteAt s p.pos) = true → byteAt s p.pos ≠ 58 → startsRing (byteAt s (p.pos + 1)) = true → d (p.pos + 1) = false) : ringAhead W P = ringAhead s p := by
  unfold ringAhead
  rcases C.cases h with ⟨h0, h1, h2, h3⟩ | ⟨h0, hdx, h1, h2, h3, h4⟩ | ⟨h0, hdx, h2, h1, h3, h4⟩ | ⟨h0, hdx, h2, h5, h6, h1, h3, h4⟩ | ⟨h0, hdx, h2, h5, h6, h1, h3, h4⟩
  · rw [h1, h2]; rfl
  · obtain ⟨b1, _, _⟩ := a_byte h4 h0 (fun e => by rw [e] at h2; exact bp58 h2)
    rw [h1, h2.sign, b1, cap_ring]
    rfl
  · rw [h1, cap_sign]
    cases hs : isSign (byteAt s p.pos)
    · simp only [Bool.false_eq_true, if_false]
      rw [cap_ring]
    · simp only [if_true]
      rcases C.cases h4 with ⟨k0, k1, k2, _⟩ | ⟨k0, kd, k1, k2, _⟩ | ⟨_, _, k2, k1, _⟩ | ⟨k0, _⟩ | ⟨k0, _⟩
      · rw [k1, k2]
      · cases hr : startsRing (byteAt s (p.pos + 1))
        · rw [k1]; rfl
        · have := hd hs h2 hr
          rw [kd] at this
          cases this
      · rw [k1, cap_ring]
      · have hx1 : p.pos + 1 < s.size := lt_of_byteAt (by omega)
        have := (C.lx.lx.sg p.pos hx1).2 k0
        rw [hs] at this
        cases this
      · have hx1 : p.pos + 1 < s.size := lt_of_byteAt (by omega)
        have := (C.lx.lx.sg p.pos hx1).2 k0
        rw [hs] at this
        cases this
  · obtain ⟨b1, _, _⟩ := a_byte h4 h2 (fun e => by rw [e] at h5; exact bp58 h5)
    rw [h1, h0, b1, cap_ring]
    rfl
  · rw [h1, cap_sign, h0, h5.sign]
    simp only [Bool.false_eq_true, if_false]
    rw [cap_ring]
    rfl

theorem link_w (C : Wc d s) (R : Wl d p P) (h : Bz.Rest W P.pos (wr0 d s p.pos)) (hf : P.pos ≤ W.size) {a : Nat} {g : Hung} (hr : link s a p = .ok (g, q)) (hd : g.mark ≠ 0 → g.mark ≠ 58 → d q.pos = false) (hdot : g.atom = -1 → d q.pos = false) :
    ∃ G Q, link W a P = .ok (G, Q) ∧ HW d q.pos g G ∧ Wl d q Q ∧ Bz.Rest W Q.pos (wr1 d s q.pos) ∧ P.pos ≤ Q.pos ∧ Q.pos ≤ W.size := by
  have ht := C.test h (k := 46) (by omega)
  unfold link at hr ⊢
  split at hr
  · rename_i h46
    simp only [Except.ok.injEq, Prod.mk.injEq] at hr
    obtain ⟨rfl, rfl⟩ := hr
    rw [if_pos (ht.2 h46)]
    obtain ⟨b1, b2, b3⟩ := a_same h (C.no (by rw [h46]; unfold Bp; omega)) h46 (by omega)
    have := hdot rfl
    refine ⟨_, _, rfl, ⟨rfl, ?_, .inl rfl⟩, R.move _ _, ?_, by simp only; omega, b2⟩
    · simp only; rw [this]; rfl
    · simp only; rw [← wr0_no this]; exact b3
  · rename_i h46
    rw [if_neg (fun h => h46 (ht.1 h))]
    exact bondEnd_w C R h hf hr hd

theorem atom_w (C : Wc d s) (R : Wl d p P) (h : Bz.Rest W P.pos (wr1 d s p.pos)) {g G : Hung} (hg : HW d p.pos g G) {a : Nat} (hr : atom s g p = .ok (a, q)) (hgap : ∀ y, p.pos < y → y < q.pos → d y = false) (hd : d p.pos = true → ∃ b, q.bonds = p.bonds ++ [b] ∧ b.o = 4) :
    ∃ Q, atom W G P = .ok (a, Q) ∧ Wl d q Q ∧ Bz.Rest W Q.pos (wr0 d s q.pos) ∧ P.pos < Q.pos ∧ Q.pos ≤ W.size := by
  have hM58 : G.mark ≠ 58 := by
    rw [hg.mark]
    unfold m58
    split
    · omega
    · split <;> omega
  unfold atom at hr
  simp only at hr
  split at hr
  · split at hr <;> cases hr
  rename_i el ar n hel
  split at hr
  · cases hr
  split at hr
  · cases hr
  rename_i hfu
  split at hr
  · cases hr
  rename_i ch hy j hb
  simp only [Except.ok.injEq, Prod.mk.injEq] at hr
  obtain ⟨hra, hrq⟩ := hr
  have hqp : q.pos = j := by
    rw [← hrq]
    split <;> rfl
  have hfW : full P = false := by
    unfold full at hfu ⊢
    rw [R.len]
    simpa using hfu
  have hbr : (byteAt W P.pos == 91) = (byteAt s p.pos == 91) := by
    by_cases hx : p.pos < s.size
    · by_cases h58 : byteAt s p.pos = 58
      · exfalso
        rw [h58] at hel
        simp only [show ((58 : Int) == 91) = false from rfl, Bool.false_eq_true, if_false] at hel
        unfold element at hel
        rw [h58] at hel
        simp at hel
      · obtain ⟨b1, _, _⟩ := a_byte h hx h58
        rw [b1, Bool.eq_iff_iff, beq_iff_eq, beq_iff_eq]
        exact cap_is (by omega)
    · rw [(wr_ge hx).2] at h
      rw [h.zero, byteAt_ge s _ hx]
  have body : ∃ J, (∀ i, i = (if (byteAt W P.pos == 91) = true then P.pos + 1 else P.pos) → element W i = some (el, false, n) ∧ (if (byteAt W P.pos == 91) = true then bracket W (i + n) else .ok (0, 0, i + n)) = .ok (ch, hy, J)) ∧ Bz.Rest W J (wr0 d s j) ∧ P.pos < J ∧ J ≤ W.size := by
    rw [hbr]
    cases h91 : (byteAt s p.pos == 91)
    · rw [h91] at hel hb
      simp only [Bool.false_eq_true, if_false, Except.ok.injEq, Prod.mk.injEq] at hel hb ⊢
      obtain ⟨e1, e2, e3⟩ := hb
      obtain ⟨k1, k2, k3⟩ := elem_w C h hel fun y h1 h2 => hgap y h1 (by omega)
      have hn : 0 < n := (elem_lx (s := s) hel ⟨fun y hy => C.lx.lx.el y (by
        have : p.pos < s.size := by
          refine lt_of_byteAt fun h0 => ?_
          unfold element at hel
          rw [h0] at hel
          simp at hel
        omega), fun y hy => C.lx.lx.sg y (by
        have : p.pos < s.size := by
          refine lt_of_byteAt fun h0 => ?_
          unfold element at hel
          rw [h0] at hel
          simp at hel
        omega)⟩).2.2
      exact ⟨P.pos + n, fun i hi => by subst hi; exact ⟨k1, e1, e2, rfl⟩, by rw [← e3]; exact k2, by omega, k3⟩
    · rw [h91] at hel hb
      simp only [if_true] at hel hb ⊢
      have h91' : byteAt s p.pos = 91 := by simpa using h91
      obtain ⟨b1, b2, b3⟩ := a_byte h (lt_of_byteAt (by omega)) (by omega)
      have hbp := bracket_pos hb
      simp only at hbp
      rw [wr0_no (hgap (p.pos + 1) (by omega) (by omega))] at b3
      obtain ⟨k1, k2, k3⟩ := elem_w C b3 hel fun y h1 h2 => hgap y (by omega) (by omega)
      obtain ⟨J, m1, m2, m3, m4⟩ := bracket_w k2 hb fun z h1 h2 => hgap z (by omega) (by omega)
      exact ⟨J, fun i hi => by subst hi; exact ⟨k1, m1⟩, m2, by omega, m3⟩
  obtain ⟨J, hbody, hrest, hlt, hle⟩ := body
  obtain ⟨w1, w2⟩ := hbody _ rfl
  have R0 : Wl d { p with pos := j, atoms := p.atoms ++ [⟨el, ar, ch, hy, p.pos, byteAt s p.pos == 91⟩] } { P with pos := J, atoms := P.atoms ++ [⟨el, false, ch, hy, P.pos, byteAt W P.pos == 91⟩] } := by
    refine ⟨?_, R.bonds, R.rings⟩
    simp only [List.map_append, List.map_cons, List.map_nil]
    rw [R.atoms, hbr]
    rfl
  refine ⟨if G.atom = -1 then { P with pos := J, atoms := P.atoms ++ [⟨el, false, ch, hy, P.pos, byteAt W P.pos == 91⟩] } else Bz.bind { P with pos := J, atoms := P.atoms ++ [⟨el, false, ch, hy, P.pos, byteAt W P.pos == 91⟩] } G.atom.toNat P.atoms.length (order { P with pos := J, atoms := P.atoms ++ [⟨el, false, ch, hy, P.pos, byteAt W P.pos == 91⟩] } G.mark G.atom P.atoms.length) P.pos, ?_, ?_, ?_, ?_, ?_⟩
  · unfold atom
    simp only [w1]
    rw [if_neg (fun h => hM58 h.1), hfW]
    simp only [Bool.false_eq_true, if_false]
    rw [w2]
    simp only
    rw [← hra, R.len]
  · rw [← hrq, hg.atom]
    split
    · exact R0
    · rename_i hne
      rw [R.len]
      refine R0.bind ?_
      refine order_w (p := { p with pos := j, atoms := p.atoms ++ [⟨el, ar, ch, hy, p.pos, byteAt s p.pos == 91⟩] }) (m := g.mark) (aro_no R0.atoms) rfl hg.ok hg.mark fun hdd => ?_
      obtain ⟨b, hb1, hb2⟩ := hd hdd
      rw [← hrq, if_neg hne] at hb1
      simp only [Bz.bind] at hb1
      have := List.append_cancel_left hb1
      simp only [List.cons.injEq, and_true] at this
      rw [← this] at hb2
      exact hb2
  · rw [hqp]
    split <;> exact hrest
  · split <;> exact hlt
  · split <;> exact hle
end
end Go.Proofs.YtcabaecbmkgclaaGreatDoor
