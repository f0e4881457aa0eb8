/-
  A ring of carbon in small letters with things hanging on: how its text is read (no program).
  A ring of carbon in small letters: its text, unit by unit.
  A ring of carbon in small letters: its text is read.
-/
import Derived.Test.YtcabaecbmkgclaaGreatDoorR00
import Derived.Test.YtcabaecbmkgclaaGreatDoorR31
namespace Go.Proofs.YtcabaecbmkgclaaGreatDoor.Bz
open Mt
/-- What is left of a text from a place on. -/
def Rest (s : ByteArray) (p : Nat) (l : List UInt8) : Prop := s.data.toList.drop p = l

theorem Rest.at {s : ByteArray} {p : Nat} {c : UInt8} {l : List UInt8} (h : Rest s p (c :: l)) : byteAt s p = (c.toNat : Int) := by
  unfold Rest at h
  have h1 : s.data.toList[p]? = some c := by
    have : (s.data.toList.drop p)[0]? = some c := by rw [h]; rfl
    rwa [List.getElem?_drop, Nat.add_zero] at this
  obtain ⟨hlt, he⟩ := List.getElem?_eq_some_iff.1 h1
  have hlt' : p < s.size := by rw [← ByteArray.size_data]; simpa using hlt
  rw [byteAt_lt s p hlt']
  congr 2
theorem Rest.lt {s : ByteArray} {p : Nat} {c : UInt8} {l : List UInt8} (h : Rest s p (c :: l)) : p < s.size := by
  unfold Rest at h
  have := congrArg List.length h
  rw [List.length_drop, List.length_cons] at this
  rw [← ByteArray.size_data, ← Array.length_toList]
  omega
theorem Rest.next {s : ByteArray} {p : Nat} {c : UInt8} {l : List UInt8} (h : Rest s p (c :: l)) : Rest s (p + 1) l := by
  unfold Rest at *
  rw [← List.drop_drop, h]
  rfl
theorem Rest.end {s : ByteArray} {p : Nat} (h : Rest s p []) : s.size ≤ p := by
  unfold Rest at h
  have := congrArg List.length h
  rw [List.length_drop, List.length_nil] at this
  rw [← ByteArray.size_data, ← Array.length_toList]
  omega
theorem Rest.zero {s : ByteArray} {p : Nat} (h : Rest s p []) : byteAt s p = 0 := byteAt_ge s p (by have := h.end; omega)
theorem Rest.len {s : ByteArray} {p : Nat} {l : List UInt8} (h : Rest s p l) (hp : p ≤ s.size) : p + l.length = s.size := by
  unfold Rest at h
  have := congrArg List.length h
  rw [List.length_drop] at this
  rw [← ByteArray.size_data, ← Array.length_toList] at hp ⊢
  omega

/-- Where nothing more hangs on: the text ends, or the next atom comes. -/
def Nx (l : List UInt8) : Prop := l = [] ∨ ∃ t, l = 99 :: t

theorem Nx.byte {s : ByteArray} {p : Nat} {l : List UInt8} (h : Nx l) (r : Rest s p l) : byteAt s p = 0 ∨ byteAt s p = 99 := by
  rcases h with rfl | ⟨t, rfl⟩
  · exact .inl r.zero
  · exact .inr r.at

theorem rings_stop {s : ByteArray} {a n : Nat} {p : St} (h : ringAhead s p = false) : ringsOf s a n p = .ok p := by
  cases n with
  | zero => rfl
  | succ n => rw [ringsOf, h]; rfl
theorem branches_stop {s : ByteArray} {ch : Hung → St → R St} {a n : Nat} {p : St} (h : byteAt s p.pos ≠ 40) : branches s ch a n p = .ok p := by
  cases n with
  | zero => rfl
  | succ n => rw [branches, if_neg h]
theorem linked_stop {s : ByteArray} {ch : Hung → St → R St} {a n : Nat} {p : St} (h : ¬ (p.pos < s.size ∧ byteAt s p.pos ≠ 41)) : linked s ch n a p = .ok p := by
  cases n with
  | zero => rfl
  | succ n => rw [linked, if_neg h]

theorem no_ring {s : ByteArray} {p : St} (h : byteAt s p.pos = 0 ∨ byteAt s p.pos = 99 ∨ byteAt s p.pos = 40 ∨ byteAt s p.pos = 41) : ringAhead s p = false := by
  unfold ringAhead isSign startsRing isDigit
  rcases h with h | h | h | h <;> rw [h] <;> rfl

def decL (d : Nat) : List UInt8 := match d with
  | 0 => []
  | 1 => [40, 67, 41]
  | 2 => [40, 79, 41]
  | 3 => [40, 67, 108, 41]
  | _ => [40, 45, 78, 41]

def decE (e : ByteArray) : Prop := e = ⟨#[67]⟩ ∨ e = ⟨#[79]⟩ ∨ e = ⟨#[67, 108]⟩ ∨ e = ⟨#[78]⟩

/-- What a thing that hangs on adds. -/
structure Hang (p q : St) (a : Nat) (e : ByteArray) (pl : Nat) : Prop where
  el : decE e
  atoms : q.atoms = p.atoms ++ [⟨e, false, 0, 0, pl, false⟩]
  bonds : q.bonds = p.bonds ++ [⟨a, p.atoms.length, 1, pl⟩]
def Hung' (p q : St) (a : Nat) : Prop := (q.atoms = p.atoms ∧ q.bonds = p.bonds) ∨ ∃ e pl, Hang p q a e pl

/-- One atom in a branch: its own chain. -/
theorem chain_one {s : ByteArray} {n : Nat} {h : Hung} {p : St} {e : ByteArray} {m a : Nat} (ha : h.atom = a) (hm : h.mark = 0 ∨ h.mark = 45) (hlt : a < p.atoms.length) (hbr : byteAt s p.pos ≠ 91) (hel : element s p.pos = some (e, false, m)) (hend : byteAt s (p.pos + m) = 41) (hf : p.atoms.length < 24) :
    chain s (n + 1) h p = .ok { p with pos := p.pos + m, atoms := p.atoms ++ [⟨e, false, 0, 0, p.pos, false⟩], bonds := p.bonds ++ [⟨a, p.atoms.length, 1, p.pos⟩] } := by
  have hat : atom s h p = .ok (p.atoms.length, { p with pos := p.pos + m, atoms := p.atoms ++ [⟨e, false, 0, 0, p.pos, false⟩], bonds := p.bonds ++ [⟨a, p.atoms.length, 1, p.pos⟩] }) := by
    unfold atom
    have hb : (byteAt s p.pos == 91) = false := by simp [hbr]
    have hfu : full p = false := by unfold full; simp; omega
    have hm58 : ¬ (h.mark = 58) := by rcases hm with h | h <;> rw [h] <;> decide
    simp only [hb, Bool.false_eq_true, if_false, hel, hfu, hm58, false_and]
    rw [if_neg (by omega)]
    unfold bind
    have hord : order { p with pos := p.pos + m, atoms := p.atoms ++ [⟨e, false, 0, 0, p.pos, false⟩] } h.mark h.atom (p.atoms.length : Int) = 1 := by
      unfold order
      rcases hm with h | h
      · rw [h]
        have : aro { p with pos := p.pos + m, atoms := p.atoms ++ [⟨e, false, 0, 0, p.pos, false⟩] } (p.atoms.length : Int) = false := by
          unfold aro
          simp
        rw [this]
        simp
      · rw [h]; rfl
    rw [hord, ha]
    simp only [Int.toNat_natCast]
    rw [Nat.min_eq_left (by omega), Nat.max_eq_right (by omega)]
  unfold chain knot
  rw [hat]
  simp only []
  rw [rings_stop (no_ring (.inr (.inr (.inr hend))))]
  simp only []
  rw [branches_stop (by simp only; rw [hend]; decide)]
  simp only []
  rw [linked_stop (by simp only; rw [hend]; simp)]

theorem branch_one {s : ByteArray} {n a x : Nat} {p : St} {h : Hung} {e : ByteArray} {m : Nat} (hl : link s a { p with pos := p.pos + 1 } = .ok (h, { p with pos := x })) (ha : h.atom = a) (hm : h.mark = 0 ∨ h.mark = 45) (hlt : a < p.atoms.length) (hf : p.atoms.length < 24) (hbr : byteAt s x ≠ 91) (hel : element s x = some (e, false, m)) (hend : byteAt s (x + m) = 41) :
    branch s (chain s (n + 1)) a { p with pos := p.pos + 1 } = .ok { p with pos := x + m + 1, atoms := p.atoms ++ [⟨e, false, 0, 0, x, false⟩], bonds := p.bonds ++ [⟨a, p.atoms.length, 1, x⟩] } := by
  have hch := chain_one (s := s) (n := n) (h := h) (p := { p with pos := x }) (e := e) (m := m) (a := a) ha hm hlt hbr hel hend hf
  unfold branch
  rw [hl]
  simp only []
  rw [hch]
  simp only []
  rw [if_pos hend]

theorem hang_one {s : ByteArray} {n a : Nat} {p : St} {d : Nat} {t : List UInt8} (hd : d ≠ 0) (r : Rest s p.pos (decL d ++ t)) (hlt : a < p.atoms.length) (hf : p.atoms.length < 24) :
    ∃ q e pl, branch s (chain s (n + 1)) a { p with pos := p.pos + 1 } = .ok q ∧ byteAt s p.pos = 40 ∧ Rest s q.pos t ∧ q.rings = p.rings ∧ Hang p q a e pl := by
  have key : ∀ {x : Nat} {h : Hung} {e : ByteArray} {m : Nat}, decE e → link s a { p with pos := p.pos + 1 } = .ok (h, { p with pos := x }) → h.atom = a → (h.mark = 0 ∨ h.mark = 45) → byteAt s x ≠ 91 → element s x = some (e, false, m) → byteAt s (x + m) = 41 → byteAt s p.pos = 40 → Rest s (x + m + 1) t →
      ∃ q e pl, branch s (chain s (n + 1)) a { p with pos := p.pos + 1 } = .ok q ∧ byteAt s p.pos = 40 ∧ Rest s q.pos t ∧ q.rings = p.rings ∧ Hang p q a e pl := by
    intro x h e m hE hl ha hm hbr hel hend h40 hr
    exact ⟨_, e, x, branch_one hl ha hm hlt hf hbr hel hend, h40, hr, rfl, ⟨hE, rfl, rfl⟩⟩
  match d, hd with
  | 1, _ =>
    have r1 := r.next
    have r2 := r1.next
    refine key (x := p.pos + 1) (h := ⟨0, 0, a⟩) (e := ⟨#[67]⟩) (m := 1) (.inl rfl) ?_ rfl (.inl rfl) (by rw [r1.at]; decide) (by unfold element; rw [r1.at, r2.at]; rfl) (by rw [r2.at]; rfl) r.at r2.next
    unfold link bondEnd
    simp only [r1.at]
    rfl
  | 2, _ =>
    have r1 := r.next
    have r2 := r1.next
    refine key (x := p.pos + 1) (h := ⟨0, 0, a⟩) (e := ⟨#[79]⟩) (m := 1) (.inr (.inl rfl)) ?_ rfl (.inl rfl) (by rw [r1.at]; decide) (by unfold element; rw [r1.at, r2.at]; rfl) (by rw [r2.at]; rfl) r.at r2.next
    unfold link bondEnd
    simp only [r1.at]
    rfl
  | 3, _ =>
    have r1 := r.next
    have r2 := r1.next
    have r3 := r2.next
    refine key (x := p.pos + 1) (h := ⟨0, 0, a⟩) (e := ⟨#[67, 108]⟩) (m := 2) (.inr (.inr (.inl rfl))) ?_ rfl (.inl rfl) (by rw [r1.at]; decide) (by unfold element; rw [r1.at, r2.at]; rfl) (by rw [show p.pos + 1 + 2 = p.pos + 1 + 1 + 1 from rfl, r3.at]; rfl) r.at r3.next
    unfold link bondEnd
    simp only [r1.at]
    rfl
  | d + 4, _ =>
    have r1 := r.next
    have r2 := r1.next
    have r3 := r2.next
    refine key (x := p.pos + 2) (h := ⟨45, p.pos + 1, a⟩) (e := ⟨#[78]⟩) (m := 1) (.inr (.inr (.inr rfl))) ?_ rfl (.inr rfl) (by rw [show p.pos + 2 = p.pos + 1 + 1 from rfl, r2.at]; decide) (by unfold element; rw [show p.pos + 2 = p.pos + 1 + 1 from rfl, r2.at, r3.at]; rfl) (by rw [show p.pos + 2 + 1 = p.pos + 1 + 1 + 1 from rfl, r3.at]; rfl) r.at r3.next
    unfold link bondEnd
    simp only [r1.at]
    rfl

/-- What hangs on an atom, all of it. -/
theorem hang_all {s : ByteArray} {n m a : Nat} {p : St} (d : Nat) {t : List UInt8} (r : Rest s p.pos (decL d ++ t)) (ht : Nx t) (hlt : a < p.atoms.length) (hf : p.atoms.length < 24) :
    ∃ q, branches s (chain s (n + 1)) a (m + 1) p = .ok q ∧ Rest s q.pos t ∧ q.rings = p.rings ∧ Hung' p q a := by
  by_cases hd : d = 0
  · subst hd
    have r' : Rest s p.pos t := r
    refine ⟨p, branches_stop ?_, r', rfl, .inl ⟨rfl, rfl⟩⟩
    rcases ht.byte r' with h | h <;> rw [h] <;> decide
  · obtain ⟨q, e, pl, h1, h2, h3, h4, h5⟩ := hang_one (n := n) hd r hlt hf
    refine ⟨q, ?_, h3, h4, .inr ⟨e, pl, h5⟩⟩
    rw [branches, if_pos h2, h1]
    simp only []
    refine branches_stop ?_
    rcases ht.byte h3 with h | h <;> rw [h] <;> decide
def rgL (n : Nat) : List UInt8 := if n < 10 then [(48 + n).toUInt8] else [37, (48 + n / 10).toUInt8, (48 + n % 10).toUInt8]

theorem u8 (n : Nat) (h : n < 256) : n.toUInt8.toNat = n := by
  rw [Nat.toUInt8_eq, UInt8.toNat_ofNat']
  omega

theorem not_sign {c : Int} (h : c = 37 ∨ (48 ≤ c ∧ c ≤ 57)) : isSign c = false := by
  unfold isSign
  simp only [Bool.or_eq_false_iff, beq_eq_false_iff_ne, ne_eq]
  omega

theorem digit_yes {c : Int} (h : 48 ≤ c ∧ c ≤ 57) : isDigit c = true := by
  unfold isDigit
  simp [h.1, h.2]

theorem ring_num {s : ByteArray} {p : St} {n : Nat} (a : Nat) {t : List UInt8} (hn : n < 100) (r : Rest s p.pos (rgL n ++ t)) :
    ringAhead s p = true ∧ bondEnd s a p = .ok (⟨0, 0, a⟩, p) ∧ ∃ j, ringNumber s p.pos = .ok (n, j) ∧ Rest s j t := by
  unfold rgL at r
  split at r
  · rename_i h10
    have h0 : byteAt s p.pos = 48 + (n : Int) := by rw [r.at, u8 _ (by omega)]; omega
    have hs := not_sign (c := byteAt s p.pos) (by omega)
    have hd := digit_yes (c := byteAt s p.pos) (by omega)
    refine ⟨?_, ?_, p.pos + 1, ?_, r.next⟩
    · unfold ringAhead startsRing
      rw [hs, hd]
      simp
    · unfold bondEnd
      simp only [hs]
      rfl
    · unfold ringNumber
      rw [if_neg (by omega), hd]
      simp only [if_true]
      congr 2
      omega
  · rename_i h10
    have r1 := r.next
    have r2 := r1.next
    have h0 : byteAt s p.pos = 37 := r.at
    have h1 : byteAt s (p.pos + 1) = 48 + (n / 10 : Nat) := by rw [r1.at, u8 _ (by omega)]; omega
    have h2 : byteAt s (p.pos + 2) = 48 + (n % 10 : Nat) := by rw [show p.pos + 2 = p.pos + 1 + 1 from rfl, r2.at, u8 _ (by omega)]; omega
    have hs := not_sign (c := byteAt s p.pos) (by omega)
    refine ⟨?_, ?_, p.pos + 3, ?_, r2.next⟩
    · unfold ringAhead startsRing
      rw [hs, h0]
      simp
    · unfold bondEnd
      simp only [hs]
      rfl
    · unfold ringNumber
      rw [if_pos h0, digit_yes (c := byteAt s (p.pos + 1)) (by omega), digit_yes (c := byteAt s (p.pos + 2)) (by omega)]
      simp only [if_true]
      congr 2
      omega

def cA (pl : Nat) : Atm := ⟨⟨#[67]⟩, true, 0, 0, pl, false⟩

theorem elem_c {s : ByteArray} {i : Nat} (h : byteAt s i = 99) : element s i = some (⟨#[67]⟩, true, 1) := by
  unfold element
  simp only [h]
  rfl

theorem atom_first {s : ByteArray} {p : St} (h : byteAt s p.pos = 99) (hf : p.atoms.length < 24) : atom s ⟨0, 0, -1⟩ p = .ok (p.atoms.length, { p with pos := p.pos + 1, atoms := p.atoms ++ [cA p.pos] }) := by
  unfold atom
  have hb : (byteAt s p.pos == 91) = false := by rw [h]; rfl
  have hfu : full p = false := by unfold full; simp; omega
  simp only [hb, Bool.false_eq_true, if_false, elem_c h, hfu]
  rfl

theorem atom_next {s : ByteArray} {p : St} {a : Nat} (h : byteAt s p.pos = 99) (hf : p.atoms.length < 24) (ha : aro p a = true) (hlt : a < p.atoms.length) :
    atom s ⟨0, 0, a⟩ p = .ok (p.atoms.length, { p with pos := p.pos + 1, atoms := p.atoms ++ [cA p.pos], bonds := p.bonds ++ [⟨a, p.atoms.length, 4, p.pos⟩] }) := by
  unfold atom
  have hb : (byteAt s p.pos == 91) = false := by rw [h]; rfl
  have hfu : full p = false := by unfold full; simp; omega
  simp only [hb, Bool.false_eq_true, if_false, elem_c h, hfu]
  rw [if_neg (by simp), if_neg (by omega)]
  have hord : order { p with pos := p.pos + 1, atoms := p.atoms ++ [⟨⟨#[67]⟩, true, 0, 0, p.pos, false⟩] } 0 a (p.atoms.length : Int) = 4 := by
    unfold order
    have h1 : aro { p with pos := p.pos + 1, atoms := p.atoms ++ [⟨⟨#[67]⟩, true, 0, 0, p.pos, false⟩] } (a : Int) = true := by
      unfold aro at ha ⊢
      simp only [Int.toNat_natCast] at ha ⊢
      rw [List.getElem?_append_left hlt]
      exact ha
    have h2 : aro { p with pos := p.pos + 1, atoms := p.atoms ++ [⟨⟨#[67]⟩, true, 0, 0, p.pos, false⟩] } (p.atoms.length : Int) = true := by
      unfold aro
      simp
    rw [h1, h2]
    rfl
  rw [hord]
  unfold bind
  simp only [Int.toNat_natCast]
  rw [Nat.min_eq_left (by omega), Nat.max_eq_right (by omega)]
  rfl

theorem aro_at {p : St} {x : Nat} : aro p x = true ↔ ∃ a, p.atoms[x]? = some a ∧ a.aro = true := by
  unfold aro
  simp only [Int.toNat_natCast]
  cases h : p.atoms[x]? with
  | none => simp
  | some a => simp

theorem sum_snoc (l : List Bnd) (b : Bnd) (x : Nat) : sum (l ++ [b]) x = sum l x + if b.a = x ∨ b.b = x then (if b.o = 4 then 1 else b.o) else 0 := by
  unfold sum
  rw [List.map_append, List.sum_append]
  simp

theorem sum_out {l : List Bnd} {x : Nat} (h : ∀ b ∈ l, b.a < x ∧ b.b < x) : sum l x = 0 := by
  induction l with
  | nil => rfl
  | cons b l ih =>
    have h1 := h b (by simp)
    have h2 := ih fun y hy => h y (by simp [hy])
    unfold sum at h2 ⊢
    rw [List.map_cons, List.sum_cons, h2, if_neg (by omega)]
    rfl

/-- A way to give each its own mate, the last one left out where their number is odd. -/
structure Way (p : St) (m : Nat → Option Nat) (last i : Nat) : Prop where
  sym : ∀ x y, m x = some y → m y = some x
  bond : ∀ x y, m x = some y → ∃ b ∈ p.bonds, b.o = 4 ∧ ((b.a = x ∧ b.b = y) ∨ (b.a = y ∧ b.b = x))
  ar : ∀ x y : Nat, m x = some y → aro p x = true
  all : ∀ x : Nat, aro p x = true → (m x = none ↔ (i % 2 = 1 ∧ x = last))

/-- Where the reading of a ring stands: e, how many ends of its bonds an atom waits for. -/
structure An (p : St) (e : Nat → Int) (last i : Nat) : Prop where
  pos : last < p.atoms.length
  ends : ∀ b ∈ p.bonds, b.a < p.atoms.length ∧ b.b < p.atoms.length ∧ (b.o = 1 ∨ b.o = 4)
  ring : ∀ x a, p.atoms[x]? = some a → a.aro = true → a.el = ⟨#[67]⟩ ∧ a.ch = 0 ∧ a.br = false ∧ (sum p.bonds x + e x = 2 ∨ sum p.bonds x + e x = 3)
  on : ∀ x a, p.atoms[x]? = some a → a.aro = false → decE a.el ∧ a.ch = 0 ∧ a.br = false ∧ sum p.bonds x = 1
  zero : aro p (0 : Nat) = true
  la : aro p last = true
  count : cnt p.atoms.length (fun x => aro p x) = i
  way : ∃ m, Way p m last i

theorem aro_snoc {p q : St} {a : Atm} (h : q.atoms = p.atoms ++ [a]) (x : Nat) : aro q x = if x = p.atoms.length then a.aro else aro p x := by
  unfold aro
  simp only [Int.toNat_natCast]
  rw [h]
  by_cases hx : x = p.atoms.length
  · subst hx
    simp
  · rw [if_neg hx]
    by_cases hlt : x < p.atoms.length
    · rw [List.getElem?_append_left hlt]
    · rw [List.getElem?_eq_none (by simp; omega), List.getElem?_eq_none (by omega)]

theorem at_snoc {p q : St} {a b : Atm} (h : q.atoms = p.atoms ++ [a]) {x : Nat} (hx : q.atoms[x]? = some b) : (x = p.atoms.length ∧ b = a) ∨ (x < p.atoms.length ∧ p.atoms[x]? = some b) := by
  rw [h] at hx
  by_cases hlt : x < p.atoms.length
  · rw [List.getElem?_append_left hlt] at hx
    exact .inr ⟨hlt, hx⟩
  · have : x = p.atoms.length := by
      have := (List.getElem?_eq_some_iff.1 hx).1
      simp at this
      omega
    subst this
    simp at hx
    exact .inl ⟨rfl, hx.symm⟩

theorem An.hang {p q : St} {e : Nat → Int} {last i : Nat} (h : An p e last i) (h2 : sum p.bonds last + e last = 2) (H : Hung' p q last) : An q e last i := by
  rcases H with ⟨ha, hb⟩ | ⟨el, pl, hE, ha, hb⟩
  · obtain ⟨k1, k2, k3, k4, k5, k6, k7, m, k8⟩ := h
    have har : ∀ x : Int, aro q x = aro p x := fun x => by unfold aro; rw [ha]
    refine ⟨by rw [ha]; exact k1, by rw [ha, hb]; exact k2, by rw [ha, hb]; exact k3, by rw [ha, hb]; exact k4, by rw [har]; exact k5, by rw [har]; exact k6, by rw [ha]; simp only [har]; exact k7, m, k8.sym, by rw [hb]; exact k8.bond, fun x y h => by rw [har]; exact k8.ar x y h, fun x hx => k8.all x (by rw [← har]; exact hx)⟩
  · obtain ⟨k1, k2, k3, k4, k5, k6, k7, m, k8⟩ := h
    have har := aro_snoc ha
    simp only at har
    have hlen : q.atoms.length = p.atoms.length + 1 := by rw [ha]; simp
    have h0 : 0 < p.atoms.length := by omega
    have hs0 : sum p.bonds p.atoms.length = 0 := sum_out fun b hb => ⟨(k2 b hb).1, (k2 b hb).2.1⟩
    have hlo : ∀ x : Nat, aro p x = true → x < p.atoms.length := fun x hx => by
      obtain ⟨a, h1, _⟩ := aro_at.1 hx
      exact (List.getElem?_eq_some_iff.1 h1).1
    refine ⟨by omega, ?_, ?_, ?_, ?_, ?_, ?_, m, k8.sym, ?_, fun x y h => ?_, ?_⟩
    · intro b hbm
      rw [hb, List.mem_append, List.mem_singleton] at hbm
      rcases hbm with hbm | rfl
      · have := k2 b hbm
        omega
      · exact ⟨by show last < _; omega, by show p.atoms.length < _; omega, .inl rfl⟩
    · intro x a hx haa
      rcases at_snoc ha hx with ⟨rfl, rfl⟩ | ⟨hlt, hx'⟩
      · cases haa
      · have := k3 x a hx' haa
        refine ⟨this.1, this.2.1, this.2.2.1, ?_⟩
        rw [hb, sum_snoc]
        simp only
        by_cases hxl : last = x
        · subst hxl
          simp
          omega
        · rw [if_neg (by omega)]
          have := this.2.2.2
          omega
    · intro x a hx haa
      rcases at_snoc ha hx with ⟨rfl, rfl⟩ | ⟨hlt, hx'⟩
      · refine ⟨hE, rfl, rfl, ?_⟩
        rw [hb, sum_snoc, hs0]
        simp
      · have := k4 x a hx' haa
        refine ⟨this.1, this.2.1, this.2.2.1, ?_⟩
        have hne : last ≠ x := by
          rintro rfl
          obtain ⟨a', h1, h2⟩ := aro_at.1 k6
          rw [hx'] at h1
          cases h1
          rw [haa] at h2
          cases h2
        rw [hb, sum_snoc]
        simp only
        rw [if_neg (by omega), this.2.2.2]
        rfl
    · rw [har, if_neg (by omega)]; exact k5
    · rw [har, if_neg (by omega)]; exact k6
    · rw [hlen, cnt, har]
      simp only [if_true, Bool.false_eq_true, if_false, Nat.add_zero]
      rw [← k7]
      exact cnt_congr fun k hk => by rw [har, if_neg (by omega)]
    · intro x y hxy
      obtain ⟨b, h1, h2⟩ := k8.bond x y hxy
      exact ⟨b, by rw [hb]; simp [h1], h2⟩
    · have := hlo x (k8.ar x y h)
      rw [har, if_neg (by omega)]
      exact k8.ar x y h
    · intro x hx
      rw [har] at hx
      split at hx
      · cases hx
      · exact k8.all x hx

/-- The next atom of the ring. -/
theorem An.atom {p q : St} {e : Nat → Int} {last i pl pl' : Nat} (h : An p e last i) (hel : 1 ≤ e last) (ha : q.atoms = p.atoms ++ [cA pl]) (hb : q.bonds = p.bonds ++ [⟨last, p.atoms.length, 4, pl'⟩]) :
    An q (fun x => if x = p.atoms.length then 1 else if x = last then e x - 1 else e x) p.atoms.length (i + 1) ∧ sum q.bonds p.atoms.length = 1 := by
  obtain ⟨k1, k2, k3, k4, k5, k6, k7, m, k8⟩ := h
  have har := aro_snoc ha
  have hlen : q.atoms.length = p.atoms.length + 1 := by rw [ha]; simp
  have h0 : 0 < p.atoms.length := by omega
  have hs0 : sum p.bonds p.atoms.length = 0 := sum_out fun b hb => ⟨(k2 b hb).1, (k2 b hb).2.1⟩
  have hs1 : sum q.bonds p.atoms.length = 1 := by rw [hb, sum_snoc, hs0]; simp
  have hin : ∀ x y, m x = some y → x < p.atoms.length ∧ y < p.atoms.length := fun x y hxy => by
    obtain ⟨b, h1, h2, h3⟩ := k8.bond x y hxy
    have := k2 b h1
    omega
  refine ⟨⟨by omega, ?_, ?_, ?_, ?_, ?_, ?_, ?_⟩, hs1⟩
  · intro b hbm
    rw [hb, List.mem_append, List.mem_singleton] at hbm
    rcases hbm with hbm | rfl
    · have := k2 b hbm
      omega
    · exact ⟨by show last < _; omega, by show p.atoms.length < _; omega, .inr rfl⟩
  · intro x a hx haa
    rcases at_snoc ha hx with ⟨rfl, rfl⟩ | ⟨hlt, hx'⟩
    · refine ⟨rfl, rfl, rfl, ?_⟩
      rw [hs1]
      simp
    · have := k3 x a hx' haa
      refine ⟨this.1, this.2.1, this.2.2.1, ?_⟩
      rw [hb, sum_snoc]
      simp only
      rw [if_neg (show ¬ x = p.atoms.length by omega)]
      have := this.2.2.2
      by_cases hxl : last = x
      · subst hxl
        simp
        omega
      · rw [if_neg (by omega), if_neg (by omega)]
        omega
  · intro x a hx haa
    rcases at_snoc ha hx with ⟨rfl, rfl⟩ | ⟨hlt, hx'⟩
    · cases haa
    · have := k4 x a hx' haa
      refine ⟨this.1, this.2.1, this.2.2.1, ?_⟩
      have hne : last ≠ x := by
        rintro rfl
        obtain ⟨a', h1, h2⟩ := aro_at.1 k6
        rw [hx'] at h1
        cases h1
        rw [haa] at h2
        cases h2
      rw [hb, sum_snoc]
      simp only
      rw [if_neg (by omega), this.2.2.2]
      rfl
  · rw [har, if_neg (by omega)]; exact k5
  · rw [har, if_pos rfl]; rfl
  · rw [hlen, cnt, har, if_pos rfl]
    simp only [cA, if_true]
    rw [← k7]
    congr 1
    exact cnt_congr fun k hk => by rw [har, if_neg (by omega)]
  · have hold : ∀ x : Nat, aro q x = true → x ≠ p.atoms.length → aro p x = true := fun x hx hne => by rwa [har, if_neg hne] at hx
    have hnew : m p.atoms.length = none := by
      cases hm : m p.atoms.length with
      | none => rfl
      | some y => have := (hin _ _ hm).1; omega
    have hbm : ∀ b ∈ p.bonds, b ∈ q.bonds := fun b h => by rw [hb]; simp [h]
    have hnq : ∀ x : Nat, aro p x = true → aro q x = true := fun x hx => by
      obtain ⟨a, h1, _⟩ := aro_at.1 hx
      have := (List.getElem?_eq_some_iff.1 h1).1
      rw [har, if_neg (by omega)]
      exact hx
    have hqn : aro q (p.atoms.length : Nat) = true := by rw [har, if_pos rfl]; rfl
    by_cases hi : i % 2 = 1
    · have hln : m last = none := (k8.all last k6).2 ⟨hi, rfl⟩
      refine ⟨fun x => if x = last then some p.atoms.length else if x = p.atoms.length then some last else m x, ?_, ?_, ?_, ?_⟩
      · intro x y hxy
        split at hxy
        · rename_i hx
          cases hxy
          rw [if_neg (by omega), if_pos rfl, hx]
        · rename_i hx
          split at hxy
          · rename_i hx2
            cases hxy
            rw [if_pos rfl, hx2]
          · rename_i hx2
            have hy := k8.sym x y hxy
            have h1 : y ≠ last := by rintro rfl; rw [hln] at hy; cases hy
            have h2 : y ≠ p.atoms.length := by rintro rfl; rw [hnew] at hy; cases hy
            rw [if_neg h1, if_neg h2, hy]
      · intro x y hxy
        split at hxy
        · rename_i hx
          cases hxy
          exact ⟨⟨last, p.atoms.length, 4, pl'⟩, by rw [hb]; simp, rfl, .inl ⟨hx.symm, rfl⟩⟩
        · split at hxy
          · rename_i hx2
            cases hxy
            exact ⟨⟨last, p.atoms.length, 4, pl'⟩, by rw [hb]; simp, rfl, .inr ⟨rfl, hx2.symm⟩⟩
          · obtain ⟨b, h1, h2⟩ := k8.bond x y hxy
            exact ⟨b, hbm b h1, h2⟩
      · intro x y hxy
        split at hxy
        · rename_i hx
          rw [hx]
          exact hnq _ k6
        · split at hxy
          · rename_i hx2
            rw [hx2]
            exact hqn
          · exact hnq _ (k8.ar x y hxy)
      · intro x hx
        refine ⟨fun hn => ?_, fun hn => by omega⟩
        split at hn
        · cases hn
        · split at hn
          · cases hn
          · rename_i h1 h2
            have := ((k8.all x (hold x hx h2)).1 hn).2
            exact absurd this h1
    · refine ⟨m, k8.sym, fun x y hxy => ?_, fun x y h => hnq _ (k8.ar x y h), fun x hx => ?_⟩
      · obtain ⟨b, h1, h2⟩ := k8.bond x y hxy
        exact ⟨b, hbm b h1, h2⟩
      · by_cases hxl : x = p.atoms.length
        · subst hxl
          rw [hnew]
          simp
          omega
        · have := k8.all x (hold x hx hxl)
          rw [this]
          constructor
          · intro h; omega
          · intro h; omega

/-- The ring is closed. -/
theorem An.close {p q : St} {e : Nat → Int} {last i pl : Nat} (h : An p e last i) (h0 : e 0 = 1) (hl : e last = 1) (hne : last ≠ 0) (ha : q.atoms = p.atoms) (hb : q.bonds = p.bonds ++ [⟨0, last, 4, pl⟩]) :
    An q (fun x => if x = 0 ∨ x = last then 0 else e x) last i ∧ sum q.bonds last = sum p.bonds last + 1 := by
  obtain ⟨k1, k2, k3, k4, k5, k6, k7, m, k8⟩ := h
  have har : ∀ x : Int, aro q x = aro p x := fun x => by unfold aro; rw [ha]
  refine ⟨⟨by rw [ha]; exact k1, ?_, ?_, ?_, by rw [har]; exact k5, by rw [har]; exact k6, by rw [ha]; simp only [har]; exact k7, m, k8.sym, ?_, fun x y h => by rw [har]; exact k8.ar x y h, fun x hx => k8.all x (by rw [← har]; exact hx)⟩, ?_⟩
  · intro b hbm
    rw [ha]
    rw [hb, List.mem_append, List.mem_singleton] at hbm
    rcases hbm with hbm | rfl
    · exact k2 b hbm
    · exact ⟨by show 0 < _; omega, by show last < _; omega, .inr rfl⟩
  · intro x a hx haa
    rw [ha] at hx
    have := k3 x a hx haa
    refine ⟨this.1, this.2.1, this.2.2.1, ?_⟩
    have := this.2.2.2
    rw [hb, sum_snoc]
    simp only
    by_cases hx0 : x = 0 ∨ x = last
    · rw [if_pos (by omega), if_pos hx0]
      rcases hx0 with rfl | rfl
      · simp; omega
      · simp; omega
    · rw [if_neg (by omega), if_neg hx0]
      omega
  · intro x a hx haa
    rw [ha] at hx
    have := k4 x a hx haa
    refine ⟨this.1, this.2.1, this.2.2.1, ?_⟩
    have hne : ∀ y, aro p (y : Nat) = true → y ≠ x := by
      rintro y hy rfl
      obtain ⟨a', h1, h2⟩ := aro_at.1 hy
      rw [hx] at h1
      cases h1
      rw [haa] at h2
      cases h2
    rw [hb, sum_snoc]
    simp only
    rw [if_neg (by have := hne _ k5; have := hne _ k6; omega), this.2.2.2]
    rfl
  · intro x y hxy
    obtain ⟨b, h1, h2⟩ := k8.bond x y hxy
    exact ⟨b, by rw [hb]; simp [h1], h2⟩
  · rw [hb, sum_snoc]
    simp
/-- The ends that wait: the first atom's, and the last one's. -/
def En2 (last : Nat) (x : Nat) : Int := (if x = 0 then 1 else 0) + (if x = last then 1 else 0)

theorem rings_one {s : ByteArray} {p q : St} {n a : Nat} (h1 : ringAhead s p = true) (h2 : ring s a p = .ok q) (h3 : ringAhead s q = false) : ringsOf s a (n + 1) p = .ok q := by
  rw [ringsOf, h1]
  simp only [if_true]
  rw [h2]
  exact rings_stop h3

theorem dec_next {s : ByteArray} {p d : Nat} {t : List UInt8} (ht : Nx t) (r : Rest s p (decL d ++ t)) : byteAt s p = 0 ∨ byteAt s p = 99 ∨ byteAt s p = 40 ∨ byteAt s p = 41 := by
  match d with
  | 0 => rcases ht.byte (s := s) (p := p) r with h | h <;> omega
  | 1 => have := r.at; exact .inr (.inr (.inl this))
  | 2 => have := r.at; exact .inr (.inr (.inl this))
  | 3 => have := r.at; exact .inr (.inr (.inl this))
  | d + 4 => have := r.at; exact .inr (.inr (.inl this))

theorem first_unit {s : ByteArray} {n num d : Nat} {t : List UInt8} (hn : num < 100) (ht : Nx t) (r : Rest s 0 (99 :: (rgL num ++ (decL d ++ t)))) :
    ∃ q, knot s (chain s (n + 1)) ⟨0, 0, -1⟩ start = .ok (0, q) ∧ Rest s q.pos t ∧ q.rings = setRing (fun _ => none) num (some ⟨⟨0, 0, 0⟩, 1⟩) ∧ An q (En2 0) 0 1 ∧ q.atoms.length ≤ 2 := by
  have ha := atom_first (s := s) (p := start) r.at (by decide)
  have r1 : Rest s 1 (rgL num ++ (decL d ++ t)) := r.next
  obtain ⟨g1, g2, j, g3, g4⟩ := ring_num (s := s) (p := { start with pos := 1, atoms := [cA 0] }) 0 hn r1
  have hr : ring s 0 { start with pos := 1, atoms := [cA 0] } = .ok { start with pos := j, atoms := [cA 0], rings := setRing (fun _ => none) num (some ⟨⟨0, 0, 0⟩, 1⟩) } := by
    unfold ring
    rw [g2]
    simp only []
    rw [g3]
    rfl
  have hrs := rings_one (n := s.size) g1 hr (no_ring (dec_next ht g4))
  obtain ⟨q, b1, b2, b3, b4⟩ := hang_all (n := n) (m := s.size) (a := 0) (p := { start with pos := j, atoms := [cA 0], rings := setRing (fun _ => none) num (some ⟨⟨0, 0, 0⟩, 1⟩) }) d g4 ht (by simp) (by simp)
  have A0 : An { start with pos := j, atoms := [cA 0], rings := setRing (fun _ => none) num (some ⟨⟨0, 0, 0⟩, 1⟩) } (En2 0) 0 1 := by
    refine ⟨by simp, by simp [start], ?_, ?_, rfl, rfl, rfl, fun _ => none, ?_, ?_, ?_, ?_⟩
    · intro x a hx _
      match x, hx with
      | 0, hx =>
        simp at hx
        subst hx
        exact ⟨rfl, rfl, rfl, .inl rfl⟩
      | x + 1, hx => simp at hx
    · intro x a hx ha
      match x, hx with
      | 0, hx =>
        simp at hx
        subst hx
        cases ha
      | x + 1, hx => simp at hx
    · intro x y h; cases h
    · intro x y h; cases h
    · intro x y h; cases h
    · intro x hx
      match x, hx with
      | 0, _ => simp
      | x + 1, hx =>
        obtain ⟨a, h1, _⟩ := aro_at.1 hx
        simp at h1
  refine ⟨q, ?_, b2, b3, A0.hang rfl b4, ?_⟩
  · unfold knot
    rw [ha]
    simp only []
    have e1 : ({ start with pos := start.pos + 1, atoms := start.atoms ++ [cA start.pos] } : St) = { start with pos := 1, atoms := [cA 0] } := rfl
    rw [e1]
    have e2 : start.atoms.length = 0 := rfl
    rw [e2, hrs]
    simp only []
    rw [b1]
  · rcases b4 with ⟨h, _⟩ | ⟨_, _, _, h, _⟩
    · rw [h]; simp
    · rw [h]; simp

theorem link_c {s : ByteArray} {p : St} {a : Nat} (h : byteAt s p.pos = 99) : link s a p = .ok (⟨0, 0, a⟩, p) := by
  unfold link bondEnd
  simp only [h]
  rfl

theorem next_unit {s : ByteArray} {n d last i : Nat} {p : St} {t : List UInt8} (ht : Nx t) (r : Rest s p.pos (99 :: (decL d ++ t))) (A : An p (En2 last) last i) (hl : p.atoms.length ≤ 22) :
    ∃ q, linkedKnot s (chain s (n + 1)) last p = .ok (p.atoms.length, q) ∧ Rest s q.pos t ∧ q.rings = p.rings ∧ An q (En2 p.atoms.length) p.atoms.length (i + 1) ∧ q.atoms.length ≤ p.atoms.length + 2 := by
  have hpos := A.pos
  have ha := atom_next (s := s) (p := p) (a := last) r.at (by omega) A.la A.pos
  have r1 := r.next
  obtain ⟨A1, hs⟩ := A.atom (q := { p with pos := p.pos + 1, atoms := p.atoms ++ [cA p.pos], bonds := p.bonds ++ [⟨last, p.atoms.length, 4, p.pos⟩] }) (by unfold En2; split <;> simp) rfl rfl
  have he : (fun x => if x = p.atoms.length then (1 : Int) else if x = last then En2 last x - 1 else En2 last x) = En2 p.atoms.length := by
    funext x
    unfold En2
    by_cases h1 : x = p.atoms.length
    · rw [if_pos h1, if_neg (by omega), if_pos h1]; rfl
    · rw [if_neg h1]
      by_cases h2 : x = last
      · rw [if_pos h2, if_pos h2, if_neg h1]; omega
      · rw [if_neg h2, if_neg h2, if_neg h1]
  rw [he] at A1
  obtain ⟨q, b1, b2, b3, b4⟩ := hang_all (n := n) (m := s.size) (a := p.atoms.length) (p := { p with pos := p.pos + 1, atoms := p.atoms ++ [cA p.pos], bonds := p.bonds ++ [⟨last, p.atoms.length, 4, p.pos⟩] }) d r1 ht (by simp) (by simp; omega)
  refine ⟨q, ?_, b2, b3, A1.hang (by rw [hs]; unfold En2; rw [if_neg (by omega), if_pos rfl]; rfl) b4, ?_⟩
  · unfold linkedKnot
    rw [link_c r.at]
    simp only []
    unfold knot
    rw [ha]
    simp only []
    rw [rings_stop (no_ring (dec_next ht r1))]
    simp only []
    rw [b1]
  · rcases b4 with ⟨h, _⟩ | ⟨_, _, _, h, _⟩
    · rw [h]; simp
    · rw [h]; simp

theorem last_unit {s : ByteArray} {n d last i num : Nat} {p : St} (hn : num < 100) (r : Rest s p.pos (99 :: (rgL num ++ (decL d ++ [])))) (A : An p (En2 last) last i) (hl : p.atoms.length ≤ 22) (hne : last ≠ 0) (hr : p.rings num = some ⟨⟨0, 0, 0⟩, 1⟩) :
    ∃ q, linkedKnot s (chain s (n + 1)) last p = .ok (p.atoms.length, q) ∧ Rest s q.pos [] ∧ q.rings = setRing p.rings num none ∧ An q (fun _ => 0) p.atoms.length (i + 1) ∧ q.atoms.length ≤ p.atoms.length + 2 := by
  have hpos := A.pos
  have ha := atom_next (s := s) (p := p) (a := last) r.at (by omega) A.la A.pos
  have r1 := r.next
  obtain ⟨A1, hs⟩ := A.atom (q := { p with pos := p.pos + 1, atoms := p.atoms ++ [cA p.pos], bonds := p.bonds ++ [⟨last, p.atoms.length, 4, p.pos⟩] }) (by unfold En2; split <;> simp) rfl rfl
  obtain ⟨g1, g2, j, g3, g4⟩ := ring_num (s := s) (p := { p with pos := p.pos + 1, atoms := p.atoms ++ [cA p.pos], bonds := p.bonds ++ [⟨last, p.atoms.length, 4, p.pos⟩] }) p.atoms.length hn r1
  have hnb : bonded (p.bonds ++ [⟨last, p.atoms.length, 4, p.pos⟩]) 0 p.atoms.length = false := by
    unfold bonded
    rw [List.any_eq_false]
    intro b hb
    rw [List.mem_append, List.mem_singleton] at hb
    simp only [Bool.or_eq_true, Bool.and_eq_true, beq_iff_eq]
    rcases hb with hb | rfl
    · have := A.ends b hb
      omega
    · simp only
      omega
  have hcl : closeRing ⟨0, 0, 0⟩ ⟨0, 0, p.atoms.length⟩ (p.pos + 1) { p with pos := j, atoms := p.atoms ++ [cA p.pos], bonds := p.bonds ++ [⟨last, p.atoms.length, 4, p.pos⟩], rings := setRing p.rings num none } = .ok { p with pos := j, atoms := p.atoms ++ [cA p.pos], bonds := p.bonds ++ [⟨last, p.atoms.length, 4, p.pos⟩] ++ [⟨0, p.atoms.length, 4, p.pos + 1⟩], rings := setRing p.rings num none } := by
    have a0 : aro { p with pos := j, atoms := p.atoms ++ [cA p.pos], bonds := p.bonds ++ [⟨last, p.atoms.length, 4, p.pos⟩], rings := setRing p.rings num none } 0 = true := A1.zero
    have a1 : aro { p with pos := j, atoms := p.atoms ++ [cA p.pos], bonds := p.bonds ++ [⟨last, p.atoms.length, 4, p.pos⟩], rings := setRing p.rings num none } (p.atoms.length : Int) = true := A1.la
    unfold closeRing
    rw [if_neg (by simp), if_neg (by simp), if_neg]
    · simp only [order, given, a0, a1]
      unfold bind
      simp
    · simp only [not_or]
      refine ⟨by omega, ?_, by decide⟩
      show ¬ bonded (p.bonds ++ [⟨last, p.atoms.length, 4, p.pos⟩]) 0 (p.atoms.length : Int).toNat = true
      rw [Int.toNat_natCast, hnb]
      decide
  have hr2 : Bz.ring s p.atoms.length { p with pos := p.pos + 1, atoms := p.atoms ++ [cA p.pos], bonds := p.bonds ++ [⟨last, p.atoms.length, 4, p.pos⟩] } = .ok { p with pos := j, atoms := p.atoms ++ [cA p.pos], bonds := p.bonds ++ [⟨last, p.atoms.length, 4, p.pos⟩] ++ [⟨0, p.atoms.length, 4, p.pos + 1⟩], rings := setRing p.rings num none } := by
    unfold Bz.ring
    rw [g2]
    simp only []
    rw [g3]
    simp only []
    rw [hr]
    exact hcl
  have ht : Nx [] := .inl rfl
  have hrs := rings_one (n := s.size) g1 hr2 (no_ring (dec_next ht g4))
  obtain ⟨A2, hs2⟩ := A1.close (q := { p with pos := j, atoms := p.atoms ++ [cA p.pos], bonds := p.bonds ++ [⟨last, p.atoms.length, 4, p.pos⟩] ++ [⟨0, p.atoms.length, 4, p.pos + 1⟩], rings := setRing p.rings num none }) (pl := p.pos + 1) (by rw [if_neg (by omega), if_neg (by omega)]; unfold En2; rw [if_pos rfl, if_neg (by omega)]; rfl) (by rw [if_pos rfl]) (by omega) rfl rfl
  have he : (fun x => if x = 0 ∨ x = p.atoms.length then (0 : Int) else if x = p.atoms.length then (1 : Int) else if x = last then En2 last x - 1 else En2 last x) = fun _ => 0 := by
    funext x
    unfold En2
    by_cases h1 : x = 0 ∨ x = p.atoms.length
    · rw [if_pos h1]
    · have h3 : ¬ x = 0 := by omega
      have h4 : ¬ x = p.atoms.length := by omega
      rw [if_neg h1, if_neg h4]
      by_cases h2 : x = last
      · rw [if_pos h2, if_neg h3, if_pos h2]; rfl
      · rw [if_neg h2, if_neg h3, if_neg h2]; rfl
  rw [he] at A2
  obtain ⟨q, b1, b2, b3, b4⟩ := hang_all (n := n) (m := s.size) (a := p.atoms.length) (p := { p with pos := j, atoms := p.atoms ++ [cA p.pos], bonds := p.bonds ++ [⟨last, p.atoms.length, 4, p.pos⟩] ++ [⟨0, p.atoms.length, 4, p.pos + 1⟩], rings := setRing p.rings num none }) d g4 ht (by simp) (by simp; omega)
  refine ⟨q, ?_, b2, b3, A2.hang (by rw [hs2, hs]; rfl) b4, ?_⟩
  · unfold linkedKnot
    rw [link_c r.at]
    simp only []
    unfold knot
    rw [ha]
    simp only []
    rw [hrs]
    simp only []
    rw [b1]
  · rcases b4 with ⟨h, _⟩ | ⟨_, _, _, h, _⟩
    · rw [h]; simp
    · rw [h]; simp

def tailL (num : Nat) : List Nat → List UInt8
  | [] => []
  | [d] => 99 :: (rgL num ++ (decL d ++ []))
  | d :: e :: ds => 99 :: (decL d ++ tailL num (e :: ds))

theorem tail_nx (num : Nat) (ds : List Nat) : Nx (tailL num ds) := by
  match ds with
  | [] => exact .inl rfl
  | [d] => exact .inr ⟨_, rfl⟩
  | d :: e :: ds => exact .inr ⟨_, rfl⟩

theorem linked_all {s : ByteArray} {n num : Nat} (hn : num < 100) : ∀ (ds : List Nat) (m last i : Nat) (p : St), ds ≠ [] → ds.length ≤ m → Rest s p.pos (tailL num ds) → An p (En2 last) last i → p.atoms.length ≤ 2 * i → i + ds.length ≤ 12 → (last ≠ 0 ∨ 2 ≤ ds.length) → p.rings = setRing (fun _ => none) num (some ⟨⟨0, 0, 0⟩, 1⟩) →
    ∃ q la, linked s (chain s (n + 1)) m last p = .ok q ∧ Rest s q.pos [] ∧ (∀ k, q.rings k = none) ∧ An q (fun _ => 0) la (i + ds.length) ∧ q.atoms.length ≤ 2 * (i + ds.length) := by
  intro ds
  induction ds with
  | nil => intro _ _ _ _ h; exact absurd rfl h
  | cons d ds ih =>
    intro m last i p _ hm r A hl hi h2 hr
    cases ds with
    | nil =>
      simp only [List.length_cons, List.length_nil] at *
      obtain ⟨q, b1, b2, b3, b4, b5⟩ := last_unit (n := n) hn r A (by omega) (by omega) (by rw [hr]; unfold setRing; simp)
      have hr0 : Rest s p.pos (99 :: (rgL num ++ (decL d ++ []))) := r
      refine ⟨q, p.atoms.length, ?_, b2, ?_, b4, by omega⟩
      · match m, hm with
        | m + 1, _ =>
          rw [linked, if_pos ⟨hr0.lt, by rw [hr0.at]; decide⟩, b1]
          simp only []
          refine linked_stop ?_
          have := b2.end
          omega
      · intro k
        rw [b3, hr]
        unfold setRing
        split <;> rfl
    | cons e ds =>
      simp only [List.length_cons] at *
      have hr0 : Rest s p.pos (99 :: (decL d ++ tailL num (e :: ds))) := r
      obtain ⟨q, b1, b2, b3, b4, b5⟩ := next_unit (n := n) (tail_nx num (e :: ds)) hr0 A (by omega)
      have hpos := A.pos
      match m, hm with
      | m + 1, hm =>
        obtain ⟨q2, la, c1, c2, c3, c4, c5⟩ := ih m p.atoms.length (i + 1) q (by simp) (by omega) b2 b4 (by omega) (by omega) (.inl (by omega)) (b3.trans hr)
        refine ⟨q2, la, ?_, c2, c3, by rw [show i + (ds.length + 1 + 1) = i + 1 + (ds.length + 1) by omega]; exact c4, by omega⟩
        rw [linked, if_pos ⟨hr0.lt, by rw [hr0.at]; decide⟩, b1]
        exact c1

theorem left_none {f : Nat → Option Opn} (h : ∀ k, f k = none) (d : Nat) : ∀ n, leftmost f d n = d
  | 0 => rfl
  | n + 1 => by rw [leftmost, h n]; exact left_none h d n

theorem wrong_none {b : List Bnd} : ∀ {l : List Atm} {i : Nat}, (∀ j a, l[j]? = some a → wrong b (i + j) a = false) → firstWrong b i l = none
  | [], _, _ => rfl
  | a :: l, i, h => by
    have h0 := h 0 a rfl
    rw [Nat.add_zero] at h0
    rw [firstWrong, h0]
    simp only [Bool.false_eq_true, if_false]
    exact wrong_none fun j x hx => by
      have := h (j + 1) x (by simpa using hx)
      rwa [show i + (j + 1) = i + 1 + j by omega] at this

/-- What is known of such a ring's molecule. -/
structure AnnIs (q : St) (k : Nat) (last : Nat) (m : Nat → Option Nat) : Prop where
  orders : ∀ b ∈ q.bonds, b.o = 1 ∨ b.o = 4
  ring : ∀ x a, q.atoms[x]? = some a → a.aro = true → a.el = ⟨#[67]⟩ ∧ a.ch = 0 ∧ sum q.bonds x + a.hy = 3
  count : cnt q.atoms.length (fun x => aro q x) = k
  len : q.atoms.length ≤ 24
  la : aro q last = true
  way : Way q m last k

theorem ann_parse {s : ByteArray} {num d : Nat} {ds : List Nat} (hn : num < 100) (h2 : 2 ≤ ds.length) (h11 : ds.length ≤ 11) (hs : s.size ≤ 160) (r : Rest s 0 (99 :: (rgL num ++ (decL d ++ tailL num ds)))) :
    ∃ ats l, parse s = .ok (ats, l) ∧ ∀ q : St, q.atoms = ats → q.bonds = l → ∃ la m, AnnIs q (ds.length + 1) la m := by
  have hsz : ds.length ≤ s.size := by
    have h1 := r.len (Nat.zero_le _)
    have : ∀ ds : List Nat, ds.length ≤ (tailL num ds).length := by
      intro ds
      induction ds with
      | nil => simp
      | cons d ds ih =>
        cases ds with
        | nil => simp [tailL]
        | cons e ds => simp only [tailL, List.length_cons, List.length_append] at *; omega
    have := this ds
    simp only [List.length_cons, List.length_append] at h1
    omega
  match hss : s.size with
  | 0 => omega
  | z + 1 =>
  obtain ⟨q1, a1, a2, a3, a4, a5⟩ := first_unit (n := z) hn (tail_nx num ds) r
  obtain ⟨q2, la, b1, b2, b3, b4, b5⟩ := linked_all (n := z) hn ds (s.size + 1) 0 1 q1 (by rintro rfl; simp at h2) (by omega) a2 a4 (by omega) (by omega) (.inr h2) a3
  have hc : chain s (s.size + 1) ⟨0, 0, -1⟩ start = .ok q2 := by
    rw [chain, show chain s s.size = chain s (z + 1) by rw [hss], a1]
    simp only []
    exact b1
  have hy : ∀ j a, (q2.atoms.mapIdx (withHydrogens q2.bonds))[j]? = some a → ∃ a0, q2.atoms[j]? = some a0 ∧ a = withHydrogens q2.bonds j a0 := by
    intro j a hj
    rw [List.getElem?_mapIdx] at hj
    cases h0 : q2.atoms[j]? with
    | none => rw [h0] at hj; cases hj
    | some a0 => rw [h0] at hj; cases hj; exact ⟨a0, rfl, rfl⟩
  have hring : ∀ j a, (q2.atoms.mapIdx (withHydrogens q2.bonds))[j]? = some a → a.aro = true → a.el = ⟨#[67]⟩ ∧ a.ch = 0 ∧ sum q2.bonds j + a.hy = 3 := by
    intro j a hj haa
    obtain ⟨a0, h1, rfl⟩ := hy j a hj
    have har : a0.aro = true := by unfold withHydrogens at haa; split at haa <;> exact haa
    obtain ⟨c1, c2, c3, c4⟩ := b4.ring j a0 h1 har
    unfold withHydrogens
    rw [if_neg (by rw [c3]; decide)]
    refine ⟨c1, c2, ?_⟩
    show sum q2.bonds j + implied a0 (sum q2.bonds j) = 3
    unfold implied
    rw [if_pos har, if_pos c1]
    omega
  have hon : ∀ j a, (q2.atoms.mapIdx (withHydrogens q2.bonds))[j]? = some a → wrong q2.bonds j a = false := by
    intro j a hj
    cases haa : a.aro with
    | true =>
      obtain ⟨c1, c2, c3⟩ := hring j a hj haa
      unfold wrong
      rw [haa, c1, c2, c3]
      rfl
    | false =>
      obtain ⟨a0, h1, rfl⟩ := hy j a hj
      have har : a0.aro = false := by unfold withHydrogens at haa; split at haa <;> exact haa
      obtain ⟨c1, c2, c3, c4⟩ := b4.on j a0 h1 har
      unfold withHydrogens
      rw [if_neg (by rw [c3]; decide)]
      unfold wrong implied
      simp only [har, c2, c4, Bool.false_eq_true, if_false]
      rcases c1 with h | h | h | h <;> rw [h] <;> decide
  refine ⟨q2.atoms.mapIdx (withHydrogens q2.bonds), q2.bonds, ?_, ?_⟩
  · unfold parse
    rw [if_neg (by omega), hc]
    simp only []
    rw [if_neg (by have := b2.end; omega), left_none b3, if_neg (by omega), wrong_none (i := 0) fun j a hj => by rw [Nat.zero_add]; exact hon j a hj]
  · intro q hqa hqb
    have har : ∀ x : Nat, aro q x = aro q2 x := by
      intro x
      unfold aro
      simp only [Int.toNat_natCast]
      rw [hqa, List.getElem?_mapIdx]
      cases q2.atoms[x]? with
      | none => rfl
      | some a =>
        simp only [Option.map_some]
        unfold withHydrogens
        split <;> rfl
    obtain ⟨m, w⟩ := b4.way
    refine ⟨la, m, by rw [hqb]; exact fun b hb => (b4.ends b hb).2.2, by rw [hqa, hqb]; exact hring, ?_, ?_, by rw [har]; exact b4.la, ?_⟩
    · have hl : q.atoms.length = q2.atoms.length := by rw [hqa, List.length_mapIdx]
      rw [hl]
      simp only [har]
      rw [b4.count]
      omega
    · rw [hqa, List.length_mapIdx]; omega
    · rw [show ds.length + 1 = 1 + ds.length by omega]
      exact ⟨w.sym, by rw [hqb]; exact w.bond, fun x y h => by rw [har]; exact w.ar x y h, fun x hx => w.all x (by rw [← har]; exact hx)⟩
end Go.Proofs.YtcabaecbmkgclaaGreatDoor.Bz
