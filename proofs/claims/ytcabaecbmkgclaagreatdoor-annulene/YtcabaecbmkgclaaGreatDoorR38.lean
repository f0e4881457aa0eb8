/-
  A text that can be read has signs below 128 alone.
-/
import Derived.Test.YtcabaecbmkgclaaGreatDoorR37
namespace Go.Proofs.YtcabaecbmkgclaaGreatDoor
open Go.RowKit Bz
def Asc (s : ByteArray) (k : Nat) : Prop := ∀ i, i < k → byteAt s i < 128

theorem Asc.succ {s : ByteArray} {k : Nat} (h : Asc s k) (hk : byteAt s k < 128) : Asc s (k + 1) := fun i hi => by
  rcases Nat.lt_or_ge i k with hl | hl
  · exact h i hl
  · have : i = k := by omega
    subst this
    exact hk

theorem isSign_lt {c : Int} (h : isSign c = true) : c < 128 := by
  unfold isSign at h
  simp only [Bool.or_eq_true, beq_iff_eq] at h
  omega

theorem element_ac {s : ByteArray} {i : Nat} {el : ByteArray} {ar : Bool} {n : Nat} (h : element s i = some (el, ar, n)) (a : Asc s i) : Asc s (i + n) := by
  unfold element at h
  simp only at h
  split at h
  · rename_i hc
    simp only [Option.some.injEq, Prod.mk.injEq] at h
    obtain ⟨_, _, rfl⟩ := h
    exact (a.succ (by omega)).succ (by omega)
  · split at h
    · rename_i hc
      simp only [Option.some.injEq, Prod.mk.injEq] at h
      obtain ⟨_, _, rfl⟩ := h
      exact (a.succ (by omega)).succ (by omega)
    · split at h
      · rename_i hc
        simp only [Option.some.injEq, Prod.mk.injEq] at h
        obtain ⟨_, _, rfl⟩ := h
        exact a.succ (by omega)
      · split at h
        · rename_i hc
          simp only [Option.some.injEq, Prod.mk.injEq] at h
          obtain ⟨_, _, rfl⟩ := h
          exact a.succ (by omega)
        · cases h

theorem hydro_ac {s : ByteArray} {i : Nat} (a : Asc s i) : Asc s (hydro s i).2 := by
  unfold hydro
  split
  · split
    · exact (a.succ (by omega)).succ (by omega)
    · exact a.succ (by omega)
  · exact a

theorem charge_ac {s : ByteArray} {i : Nat} (a : Asc s i) : Asc s (charge s i).2 := by
  unfold charge
  split
  · exact a.succ (by omega)
  · split
    · exact a.succ (by omega)
    · exact a

theorem bracket_ac {s : ByteArray} {i : Nat} {x : Int × Int × Nat} (h : bracket s i = .ok x) (a : Asc s i) : Asc s x.2.2 := by
  unfold bracket at h
  simp only at h
  split at h
  · rename_i hc
    simp only [Except.ok.injEq] at h
    subst h
    exact (charge_ac (hydro_ac a)).succ (by omega)
  · cases h

theorem head_ac {s : ByteArray} {p : St} {g : Hung} {at_ : Atm} {j : Nat} (h : atomHead s g p = .ok (at_, j)) (a : Asc s p.pos) : Asc s j := by
  unfold atomHead at h
  split at h
  · split at h <;> cases h
  · rename_i el ar n he
    have a1 : Asc s (if (byteAt s p.pos == 91) = true then p.pos + 1 else p.pos) := by
      split
      · rename_i hb
        simp only [beq_iff_eq] at hb
        exact a.succ (by omega)
      · exact a
    have a2 := element_ac he a1
    split at h
    · cases h
    · split at h
      · cases h
      · split at h
        · cases h
        · rename_i ch hy j' hb
          simp only [Except.ok.injEq, Prod.mk.injEq] at h
          obtain ⟨_, rfl⟩ := h
          split at hb
          · rename_i hq
            rw [if_pos hq] at a2
            have := bracket_ac hb a2
            exact this
          · rename_i hq
            rw [if_neg hq] at a2
            simp only [Except.ok.injEq, Prod.mk.injEq] at hb
            obtain ⟨_, _, rfl⟩ := hb
            exact a2

theorem bondEnd_ac {s : ByteArray} {a : Nat} {p q : St} {g : Hung} (h : bondEnd s a p = .ok (g, q)) (e : Asc s p.pos) : Asc s q.pos := by
  unfold bondEnd at h
  simp only at h
  split at h
  · rename_i hs
    split at h
    · cases h
    · simp only [Except.ok.injEq, Prod.mk.injEq] at h
      obtain ⟨_, rfl⟩ := h
      exact e.succ (isSign_lt hs)
  · simp only [Except.ok.injEq, Prod.mk.injEq] at h
    obtain ⟨_, rfl⟩ := h
    exact e

theorem link_ac {s : ByteArray} {a : Nat} {p q : St} {g : Hung} (h : link s a p = .ok (g, q)) (e : Asc s p.pos) : Asc s q.pos := by
  unfold link at h
  split at h
  · simp only [Except.ok.injEq, Prod.mk.injEq] at h
    obtain ⟨_, rfl⟩ := h
    exact e.succ (by omega)
  · exact bondEnd_ac h e

theorem atom_ac {s : ByteArray} {p q : St} {g : Hung} {k : Nat} (h : atom s g p = .ok (k, q)) (e : Asc s p.pos) : Asc s q.pos := by
  rw [atom_eq] at h
  cases hh : atomHead s g p with
  | error e => rw [hh] at h; cases h
  | ok x =>
    obtain ⟨a, j⟩ := x
    rw [hh] at h
    simp only [Except.ok.injEq] at h
    have hj := head_ac hh e
    unfold atomTail at h
    simp only [Prod.mk.injEq] at h
    obtain ⟨_, rfl⟩ := h
    split
    · exact hj
    · exact hj

theorem digit_lt128 {c : Int} (h : isDigit c = true) : c < 128 := by
  unfold isDigit at h
  simp only [Bool.and_eq_true, decide_eq_true_eq] at h
  omega

theorem ringNumber_ac {s : ByteArray} {i n j : Nat} (h : ringNumber s i = .ok (n, j)) (e : Asc s i) : Asc s j := by
  unfold ringNumber at h
  split at h
  · rename_i h0
    split at h
    · split at h
      · rename_i h1 h2
        simp only [Except.ok.injEq, Prod.mk.injEq] at h
        obtain ⟨_, rfl⟩ := h
        exact ((e.succ (by omega)).succ (digit_lt128 h1)).succ (digit_lt128 h2)
      · cases h
    · cases h
  · split at h
    · rename_i h1
      simp only [Except.ok.injEq, Prod.mk.injEq] at h
      obtain ⟨_, rfl⟩ := h
      exact e.succ (digit_lt128 h1)
    · cases h

theorem ring_ac {s : ByteArray} {a : Nat} {p q : St} (h : ring s a p = .ok q) (e : Asc s p.pos) : Asc s q.pos := by
  unfold ring at h
  split at h
  · cases h
  · rename_i g p1 hbe
    have e1 := bondEnd_ac hbe e
    split at h
    · cases h
    · rename_i n j hrn
      have e2 := ringNumber_ac hrn e1
      split at h
      · simp only [Except.ok.injEq] at h
        subst h
        exact e2
      · unfold closeRing at h
        simp only at h
        split at h
        · cases h
        · split at h
          · cases h
          · split at h
            · cases h
            · simp only [Except.ok.injEq] at h
              subst h
              exact e2

theorem ringsOf_ac {s : ByteArray} {a : Nat} : ∀ (n : Nat) {p q : St}, ringsOf s a n p = .ok q → Asc s p.pos → Asc s q.pos
  | 0, p, q, h, e => by simp only [ringsOf, Except.ok.injEq] at h; subst h; exact e
  | n + 1, p, q, h, e => by
    unfold ringsOf at h
    split at h
    · split at h
      · cases h
      · rename_i p1 hr
        exact ringsOf_ac n h (ring_ac hr e)
    · simp only [Except.ok.injEq] at h; subst h; exact e

def ChainAc (s : ByteArray) (c : Hung → St → R St) : Prop := ∀ g q q', Asc s q.pos → c g q = .ok q' → Asc s q'.pos

theorem branch_ac {s : ByteArray} {c : Hung → St → R St} (hc : ChainAc s c) {a : Nat} {p q : St} (h : branch s c a p = .ok q) (e : Asc s p.pos) : Asc s q.pos := by
  unfold branch at h
  split at h
  · cases h
  · rename_i g p1 hl
    have e1 := link_ac hl e
    split at h
    · cases h
    · rename_i p2 hch
      have e2 := hc g p1 p2 e1 hch
      split at h
      · rename_i hb
        simp only [Except.ok.injEq] at h
        subst h
        exact e2.succ (by omega)
      · cases h

theorem branches_ac {s : ByteArray} {c : Hung → St → R St} (hc : ChainAc s c) {a : Nat} : ∀ (n : Nat) {p q : St}, branches s c a n p = .ok q → Asc s p.pos → Asc s q.pos
  | 0, p, q, h, e => by simp only [branches, Except.ok.injEq] at h; subst h; exact e
  | n + 1, p, q, h, e => by
    unfold branches at h
    split at h
    · rename_i eb
      split at h
      · cases h
      · rename_i p1 hr
        exact branches_ac hc n h (branch_ac hc hr (e.succ (by omega)))
    · simp only [Except.ok.injEq] at h; subst h; exact e

theorem knot_ac {s : ByteArray} {c : Hung → St → R St} (hc : ChainAc s c) {g : Hung} {p q : St} {k : Nat} (h : knot s c g p = .ok (k, q)) (e : Asc s p.pos) : Asc s q.pos := by
  unfold knot at h
  split at h
  · cases h
  · rename_i k1 p1 ha
    have e1 := atom_ac ha e
    split at h
    · cases h
    · rename_i p2 hr
      have e2 := ringsOf_ac _ hr e1
      split at h
      · cases h
      · rename_i p3 hb
        simp only [Except.ok.injEq, Prod.mk.injEq] at h
        obtain ⟨_, rfl⟩ := h
        exact branches_ac hc _ hb e2

theorem linked_ac {s : ByteArray} {c : Hung → St → R St} (hc : ChainAc s c) : ∀ (n : Nat) {a : Nat} {p q : St}, Bz.linked s c n a p = .ok q → Asc s p.pos → Asc s q.pos
  | 0, a, p, q, h, e => by simp only [Bz.linked, Except.ok.injEq] at h; subst h; exact e
  | n + 1, a, p, q, h, e => by
    unfold Bz.linked at h
    split at h
    · split at h
      · cases h
      · rename_i k1 p1 hr
        unfold linkedKnot at hr
        split at hr
        · cases hr
        · rename_i g p0 hl
          exact linked_ac hc n h (knot_ac hc hr (link_ac hl e))
    · simp only [Except.ok.injEq] at h; subst h; exact e

theorem chain_ac (s : ByteArray) : ∀ n, ChainAc s (chain s n)
  | 0 => by intro g q q' _ h; simp [chain] at h
  | n + 1 => by
    intro g q q' e h
    unfold chain at h
    split at h
    · cases h
    · rename_i k p1 hk
      exact linked_ac (chain_ac s n) _ h (knot_ac (chain_ac s n) hk e)

theorem parse_ac {s : ByteArray} {ats : List Atm} {l : List Bnd} (h : Bz.parse s = .ok (ats, l)) : ∀ b ∈ s.data.toList, b.toNat < 128 := by
  have key : Asc s s.size := by
    unfold Bz.parse at h
    split at h
    · cases h
    · split at h
      · cases h
      · rename_i p hc
        have he := chain_ac s (s.size + 1) _ _ _ (fun i hi => absurd hi (Nat.not_lt_zero i)) hc
        split at h
        · cases h
        · rename_i hp
          exact fun i hi => he i (by omega)
  intro b hb
  obtain ⟨i, hi, rfl⟩ := List.getElem_of_mem hb
  have hi' : i < s.size := by simpa using hi
  have := key i hi'
  rw [byteAt_lt s i hi'] at this
  have e : s.data.toList[i] = s[i] := rfl
  rw [e]
  omega
end Go.Proofs.YtcabaecbmkgclaaGreatDoor
