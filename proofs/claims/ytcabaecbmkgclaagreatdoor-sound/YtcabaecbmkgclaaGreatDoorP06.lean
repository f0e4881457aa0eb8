/-
  A ring of carbon in small letters: its text is read.
  Two texts with a dot between: the one's atoms and bonds, and then the other's.
  What the signs of a text that can be read are like (no program).
  A text that is written again in capitals, with its double bonds: sign by sign (no program).
-/
import Derived.Test.YtcabaecbmkgclaaGreatDoorP05

namespace Go.Proofs.YtcabaecbmkgclaaGreatDoor.Bz
open Mt

/-- The ends that wait: the first atom's, and the last one's. -/
def En2 (last : Nat) (x : Nat) : Int := (if x = 0 then 1 else 0) + (if x = last then 1 else 0)

theorem rings_one {s : ByteArray} {p q : St} {n a : Nat} (h1 : ringAhead s p = true) (h2 : ring s a p = .ok q) (h3 : ringAhead s q = false) : ringsOf s a (n + 1) p = .ok q := by
  rw [ringsOf, h1]
  simp only [if_true]
  rw [h2]
  exact rings_stop h3

theorem dec_next {s : ByteArray} {p d : Nat} {t : List UInt8} (ht : Nx t) (r : Rest s p (decL d ++ t)) : byteAt s p = 0 ∨ byteAt s p = 99 ∨ byteAt s p = 40 ∨ byteAt s p = 41 := by
  match d with
  | 0 => rcases ht.byte (s := s) (p := p) r with h | h <;> omega
  | 1 => have := r.at; exact .inr (.inr (.inl this))
  | 2 => have := r.at; exact .inr (.inr (.inl this))
  | 3 => have := r.at; exact .inr (.inr (.inl this))
  | d + 4 => have := r.at; exact .inr (.inr (.inl this))

theorem first_unit {s : ByteArray} {n num d : Nat} {t : List UInt8} (hn : num < 100) (ht : Nx t) (r : Rest s 0 (99 :: (rgL num ++ (decL d ++ t)))) :
    ∃ q, knot s (chain s (n + 1)) ⟨0, 0, -1⟩ start = .ok (0, q) ∧ Rest s q.pos t ∧ q.rings = setRing (fun _ => none) num (some ⟨⟨0, 0, 0⟩, 1⟩) ∧ An q (En2 0) 0 1 ∧ q.atoms.length ≤ 2 := by
  have ha := atom_first (s := s) (p := start) r.at (by decide)
  have r1 : Rest s 1 (rgL num ++ (decL d ++ t)) := r.next
  obtain ⟨g1, g2, j, g3, g4⟩ := ring_num (s := s) (p := { start with pos := 1, atoms := [cA 0] }) 0 hn r1
  have hr : ring s 0 { start with pos := 1, atoms := [cA 0] } = .ok { start with pos := j, atoms := [cA 0], rings := setRing (fun _ => none) num (some ⟨⟨0, 0, 0⟩, 1⟩) } := by
    unfold ring
    rw [g2]
    simp only []
    rw [g3]
    rfl
  have hrs := rings_one (n := s.size) g1 hr (no_ring (dec_next ht g4))
  obtain ⟨q, b1, b2, b3, b4⟩ := hang_all (n := n) (m := s.size) (a := 0) (p := { start with pos := j, atoms := [cA 0], rings := setRing (fun _ => none) num (some ⟨⟨0, 0, 0⟩, 1⟩) }) d g4 ht (by simp) (by simp)
  have A0 : An { start with pos := j, atoms := [cA 0], rings := setRing (fun _ => none) num (some ⟨⟨0, 0, 0⟩, 1⟩) } (En2 0) 0 1 := by
    refine ⟨by simp, by simp [start], ?_, ?_, rfl, rfl, rfl, fun _ => none, ?_, ?_, ?_, ?_⟩
    · intro x a hx _
      match x, hx with
      | 0, hx =>
        simp at hx
        subst hx
        exact ⟨rfl, rfl, rfl, .inl rfl⟩
      | x + 1, hx => simp at hx
    · intro x a hx ha
      match x, hx with
      | 0, hx =>
        simp at hx
        subst hx
        cases ha
      | x + 1, hx => simp at hx
    · intro x y h; cases h
    · intro x y h; cases h
    · intro x y h; cases h
    · intro x hx
      match x, hx with
      | 0, _ => simp
      | x + 1, hx =>
        obtain ⟨a, h1, _⟩ := aro_at.1 hx
        simp at h1
  refine ⟨q, ?_, b2, b3, A0.hang rfl b4, ?_⟩
  · unfold knot
    rw [ha]
    simp only []
    have e1 : ({ start with pos := start.pos + 1, atoms := start.atoms ++ [cA start.pos] } : St) = { start with pos := 1, atoms := [cA 0] } := rfl
    rw [e1]
    have e2 : start.atoms.length = 0 := rfl
    rw [e2, hrs]
    simp only []
    rw [b1]
  · rcases b4 with ⟨h, _⟩ | ⟨_, _, _, h, _⟩
    · rw [h]; simp
    · rw [h]; simp

theorem link_c {s : ByteArray} {p : St} {a : Nat} (h : byteAt s p.pos = 99) : link s a p = .ok (⟨0, 0, a⟩, p) := by
  unfold link bondEnd
  simp only [h]
  rfl

theorem next_unit {s : ByteArray} {n d last i : Nat} {p : St} {t : List UInt8} (ht : Nx t) (r : Rest s p.pos (99 :: (decL d ++ t))) (A : An p (En2 last) last i) (hl : p.atoms.length ≤ 22) :
    ∃ q, linkedKnot s (chain s (n + 1)) last p = .ok (p.atoms.length, q) ∧ Rest s q.pos t ∧ q.rings = p.rings ∧ An q (En2 p.atoms.length) p.atoms.length (i + 1) ∧ q.atoms.length ≤ p.atoms.length + 2 := by
  have hpos := A.pos
  have ha := atom_next (s := s) (p := p) (a := last) r.at (by omega) A.la A.pos
  have r1 := r.next
  obtain ⟨A1, hs⟩ := A.atom (q := { p with pos := p.pos + 1, atoms := p.atoms ++ [cA p.pos], bonds := p.bonds ++ [⟨last, p.atoms.length, 4, p.pos⟩] }) (by unfold En2; split <;> simp) rfl rfl
  have he : (fun x => if x = p.atoms.length then (1 : Int) else if x = last then En2 last x - 1 else En2 last x) = En2 p.atoms.length := by
    funext x
    unfold En2
    by_cases h1 : x = p.atoms.length
    · rw [if_pos h1, if_neg (by omega), if_pos h1]; rfl
    · rw [if_neg h1]
      by_cases h2 : x = last
      · rw [if_pos h2, if_pos h2, if_neg h1]; omega
      · rw [if_neg h2, if_neg h2, if_neg h1]
  rw [he] at A1
  obtain ⟨q, b1, b2, b3, b4⟩ := hang_all (n := n) (m := s.size) (a := p.atoms.length) (p := { p with pos := p.pos + 1, atoms := p.atoms ++ [cA p.pos], bonds := p.bonds ++ [⟨last, p.atoms.length, 4, p.pos⟩] }) d r1 ht (by simp) (by simp; omega)
  refine ⟨q, ?_, b2, b3, A1.hang (by rw [hs]; unfold En2; rw [if_neg (by omega), if_pos rfl]; rfl) b4, ?_⟩
  · unfold linkedKnot
    rw [link_c r.at]
    simp only []
    unfold knot
    rw [ha]
    simp only []
    rw [rings_stop (no_ring (dec_next ht r1))]
    simp only []
    rw [b1]
  · rcases b4 with ⟨h, _⟩ | ⟨_, _, _, h, _⟩
    · rw [h]; simp
    · rw [h]; simp

theorem last_unit {s : ByteArray} {n d last i num : Nat} {p : St} (hn : num < 100) (r : Rest s p.pos (99 :: (rgL num ++ (decL d ++ [])))) (A : An p (En2 last) last i) (hl : p.atoms.length ≤ 22) (hne : last ≠ 0) (hr : p.rings num = some ⟨⟨0, 0, 0⟩, 1⟩) :
    ∃ q, linkedKnot s (chain s (n + 1)) last p = .ok (p.atoms.length, q) ∧ Rest s q.pos [] ∧ q.rings = setRing p.rings num none ∧ An q (fun _ => 0) p.atoms.length (i + 1) ∧ q.atoms.length ≤ p.atoms.length + 2 := by
  have hpos := A.pos
  have ha := atom_next (s := s) (p := p) (a := last) r.at (by omega) A.la A.pos
  have r1 := r.next
  obtain ⟨A1, hs⟩ := A.atom (q := { p with pos := p.pos + 1, atoms := p.atoms ++ [cA p.pos], bonds := p.bonds ++ [⟨last, p.atoms.length, 4, p.pos⟩] }) (by unfold En2; split <;> simp) rfl rfl
  obtain ⟨g1, g2, j, g3, g4⟩ := ring_num (s := s) (p := { p with pos := p.pos + 1, atoms := p.atoms ++ [cA p.pos], bonds := p.bonds ++ [⟨last, p.atoms.length, 4, p.pos⟩] }) p.atoms.length hn r1
  have hnb : bonded (p.bonds ++ [⟨last, p.atoms.length, 4, p.pos⟩]) 0 p.atoms.length = false := by
    unfold bonded
    rw [List.any_eq_false]
    intro b hb
    rw [List.mem_append, List.mem_singleton] at hb
    simp only [Bool.or_eq_true, Bool.and_eq_true, beq_iff_eq]
    rcases hb with hb | rfl
    · have := A.ends b hb
      omega
    · simp only
      omega
  have hcl : closeRing ⟨0, 0, 0⟩ ⟨0, 0, p.atoms.length⟩ (p.pos + 1) { p with pos := j, atoms := p.atoms ++ [cA p.pos], bonds := p.bonds ++ [⟨last, p.atoms.length, 4, p.pos⟩], rings := setRing p.rings num none } = .ok { p with pos := j, atoms := p.atoms ++ [cA p.pos], bonds := p.bonds ++ [⟨last, p.atoms.length, 4, p.pos⟩] ++ [⟨0, p.atoms.length, 4, p.pos + 1⟩], rings := setRing p.rings num none } := by
    have a0 : aro { p with pos := j, atoms := p.atoms ++ [cA p.pos], bonds := p.bonds ++ [⟨last, p.atoms.length, 4, p.pos⟩], rings := setRing p.rings num none } 0 = true := A1.zero
    have a1 : aro { p with pos := j, atoms := p.atoms ++ [cA p.pos], bonds := p.bonds ++ [⟨last, p.atoms.length, 4, p.pos⟩], rings := setRing p.rings num none } (p.atoms.length : Int) = true := A1.la
    unfold closeRing
    rw [if_neg (by simp), if_neg (by simp), if_neg]
    · simp only [order, given, a0, a1]
      unfold bind
      simp
    · simp only [not_or]
      refine ⟨by omega, ?_, by decide⟩
      show ¬ bonded (p.bonds ++ [⟨last, p.atoms.length, 4, p.pos⟩]) 0 (p.atoms.length : Int).toNat = true
      rw [Int.toNat_natCast, hnb]
      decide
  have hr2 : Bz.ring s p.atoms.length { p with pos := p.pos + 1, atoms := p.atoms ++ [cA p.pos], bonds := p.bonds ++ [⟨last, p.atoms.length, 4, p.pos⟩] } = .ok { p with pos := j, atoms := p.atoms ++ [cA p.pos], bonds := p.bonds ++ [⟨last, p.atoms.length, 4, p.pos⟩] ++ [⟨0, p.atoms.length, 4, p.pos + 1⟩], rings := setRing p.rings num none } := by
    unfold Bz.ring
    rw [g2]
    simp only []
    rw [g3]
    simp only []
    rw [hr]
    exact hcl
  have ht : Nx [] := .inl rfl
  have hrs := rings_one (n := s.size) g1 hr2 (no_ring (dec_next ht g4))
  obtain ⟨A2, hs2⟩ := A1.close (q := { p with pos := j, atoms := p.atoms ++ [cA p.pos], bonds := p.bonds ++ [⟨last, p.atoms.length, 4, p.pos⟩] ++ [⟨0, p.atoms.length, 4, p.pos + 1⟩], rings := setRing p.rings num none }) (pl := p.pos + 1) (by rw [if_neg (by omega), if_neg (by omega)]; unfold En2; rw [if_pos rfl, if_neg (by omega)]; rfl) (by rw [if_pos rfl]) (by omega) rfl rfl
  have he : (fun x => if x = 0 ∨ x = p.atoms.length then (0 : Int) else if x = p.atoms.length then (1 : Int) else if x = last then En2 last x - 1 else En2 last x) = fun _ => 0 := by
    funext x
    unfold En2
    by_cases h1 : x = 0 ∨ x = p.atoms.length
    · rw [if_pos h1]
    · have h3 : ¬ x = 0 := by omega
      have h4 : ¬ x = p.atoms.length := by omega
      rw [if_neg h1, if_neg h4]
      by_cases h2 : x = last
      · rw [if_pos h2, if_neg h3, if_pos h2]; rfl
      · rw [if_neg h2, if_neg h3, if_neg h2]; rfl
  rw [he] at A2
  obtain ⟨q, b1, b2, b3, b4⟩ := hang_all (n := n) (m := s.size) (a := p.atoms.length) (p := { p with pos := j, atoms := p.atoms ++ [cA p.pos], bonds := p.bonds ++ [⟨last, p.atoms.length, 4, p.pos⟩] ++ [⟨0, p.atoms.length, 4, p.pos + 1⟩], rings := setRing p.rings num none }) d g4 ht (by simp) (by simp; omega)
  refine ⟨q, ?_, b2, b3, A2.hang (by rw [hs2, hs]; rfl) b4, ?_⟩
  · unfold linkedKnot
    rw [link_c r.at]
    simp only []
    unfold knot
    rw [ha]
    simp only []
    rw [hrs]
    simp only []
    rw [b1]
  · rcases b4 with ⟨h, _⟩ | ⟨_, _, _, h, _⟩
    · rw [h]; simp
    · rw [h]; simp

def tailL (num : Nat) : List Nat → List UInt8
  | [] => []
  | [d] => 99 :: (rgL num ++ (decL d ++ []))
  | d :: e :: ds => 99 :: (decL d ++ tailL num (e :: ds))

theorem tail_nx (num : Nat) (ds : List Nat) : Nx (tailL num ds) := by
  match ds with
  | [] => exact .inl rfl
  | [d] => exact .inr ⟨_, rfl⟩
  | d :: e :: ds => exact .inr ⟨_, rfl⟩

theorem linked_all {s : ByteArray} {n num : Nat} (hn : num < 100) : ∀ (ds : List Nat) (m last i : Nat) (p : St), ds ≠ [] → ds.length ≤ m → Rest s p.pos (tailL num ds) → An p (En2 last) last i → p.atoms.length ≤ 2 * i → i + ds.length ≤ 12 → (last ≠ 0 ∨ 2 ≤ ds.length) → p.rings = setRing (fun _ => none) num (some ⟨⟨0, 0, 0⟩, 1⟩) →
    ∃ q la, linked s (chain s (n + 1)) m last p = .ok q ∧ Rest s q.pos [] ∧ (∀ k, q.rings k = none) ∧ An q (fun _ => 0) la (i + ds.length) ∧ q.atoms.length ≤ 2 * (i + ds.length) := by
  intro ds
  induction ds with
  | nil => intro _ _ _ _ h; exact absurd rfl h
  | cons d ds ih =>
    intro m last i p _ hm r A hl hi h2 hr
    cases ds with
    | nil =>
      simp only [List.length_cons, List.length_nil] at *
      obtain ⟨q, b1, b2, b3, b4, b5⟩ := last_unit (n := n) hn r A (by omega) (by omega) (by rw [hr]; unfold setRing; simp)
      have hr0 : Rest s p.pos (99 :: (rgL num ++ (decL d ++ []))) := r
      refine ⟨q, p.atoms.length, ?_, b2, ?_, b4, by omega⟩
      · match m, hm with
        | m + 1, _ =>
          rw [linked, if_pos ⟨hr0.lt, by rw [hr0.at]; decide⟩, b1]
          simp only []
          refine linked_stop ?_
          have := b2.end
          omega
      · intro k
        rw [b3, hr]
        unfold setRing
        split <;> rfl
    | cons e ds =>
      simp only [List.length_cons] at *
      have hr0 : Rest s p.pos (99 :: (decL d ++ tailL num (e :: ds))) := r
      obtain ⟨q, b1, b2, b3, b4, b5⟩ := next_unit (n := n) (tail_nx num (e :: ds)) hr0 A (by omega)
      have hpos := A.pos
      match m, hm with
      | m + 1, hm =>
        obtain ⟨q2, la, c1, c2, c3, c4, c5⟩ := ih m p.atoms.length (i + 1) q (by simp) (by omega) b2 b4 (by omega) (by omega) (.inl (by omega)) (b3.trans hr)
        refine ⟨q2, la, ?_, c2, c3, by rw [show i + (ds.length + 1 + 1) = i + 1 + (ds.length + 1) by omega]; exact c4, by omega⟩
        rw [linked, if_pos ⟨hr0.lt, by rw [hr0.at]; decide⟩, b1]
        exact c1

theorem left_none {f : Nat → Option Opn} (h : ∀ k, f k = none) (d : Nat) : ∀ n, leftmost f d n = d
  | 0 => rfl
  | n + 1 => by rw [leftmost, h n]; exact left_none h d n

theorem wrong_none {b : List Bnd} : ∀ {l : List Atm} {i : Nat}, (∀ j a, l[j]? = some a → wrong b (i + j) a = false) → firstWrong b i l = none
  | [], _, _ => rfl
  | a :: l, i, h => by
    have h0 := h 0 a rfl
    rw [Nat.add_zero] at h0
    rw [firstWrong, h0]
    simp only [Bool.false_eq_true, if_false]
    exact wrong_none fun j x hx => by
      have := h (j + 1) x (by simpa using hx)
      rwa [show i + (j + 1) = i + 1 + j by omega] at this

/-- What is known of such a ring's molecule. -/
structure AnnIs (q : St) (k : Nat) (last : Nat) (m : Nat → Option Nat) : Prop where
  orders : ∀ b ∈ q.bonds, b.o = 1 ∨ b.o = 4
  ring : ∀ x a, q.atoms[x]? = some a → a.aro = true → a.el = ⟨#[67]⟩ ∧ a.ch = 0 ∧ sum q.bonds x + a.hy = 3
  count : cnt q.atoms.length (fun x => aro q x) = k
  len : q.atoms.length ≤ 24
  la : aro q last = true
  way : Way q m last k

theorem ann_parse {s : ByteArray} {num d : Nat} {ds : List Nat} (hn : num < 100) (h2 : 2 ≤ ds.length) (h11 : ds.length ≤ 11) (hs : s.size ≤ 160) (r : Rest s 0 (99 :: (rgL num ++ (decL d ++ tailL num ds)))) :
    ∃ ats l, parse s = .ok (ats, l) ∧ ∀ q : St, q.atoms = ats → q.bonds = l → ∃ la m, AnnIs q (ds.length + 1) la m := by
  have hsz : ds.length ≤ s.size := by
    have h1 := r.len (Nat.zero_le _)
    have : ∀ ds : List Nat, ds.length ≤ (tailL num ds).length := by
      intro ds
      induction ds with
      | nil => simp
      | cons d ds ih =>
        cases ds with
        | nil => simp [tailL]
        | cons e ds => simp only [tailL, List.length_cons, List.length_append] at *; omega
    have := this ds
    simp only [List.length_cons, List.length_append] at h1
    omega
  match hss : s.size with
  | 0 => omega
  | z + 1 =>
  obtain ⟨q1, a1, a2, a3, a4, a5⟩ := first_unit (n := z) hn (tail_nx num ds) r
  obtain ⟨q2, la, b1, b2, b3, b4, b5⟩ := linked_all (n := z) hn ds (s.size + 1) 0 1 q1 (by rintro rfl; simp at h2) (by omega) a2 a4 (by omega) (by omega) (.inr h2) a3
  have hc : chain s (s.size + 1) ⟨0, 0, -1⟩ start = .ok q2 := by
    rw [chain, show chain s s.size = chain s (z + 1) by rw [hss], a1]
    simp only []
    exact b1
  have hy : ∀ j a, (q2.atoms.mapIdx (withHydrogens q2.bonds))[j]? = some a → ∃ a0, q2.atoms[j]? = some a0 ∧ a = withHydrogens q2.bonds j a0 := by
    intro j a hj
    rw [List.getElem?_mapIdx] at hj
    cases h0 : q2.atoms[j]? with
    | none => rw [h0] at hj; cases hj
    | some a0 => rw [h0] at hj; cases hj; exact ⟨a0, rfl, rfl⟩
  have hring : ∀ j a, (q2.atoms.mapIdx (withHydrogens q2.bonds))[j]? = some a → a.aro = true → a.el = ⟨#[67]⟩ ∧ a.ch = 0 ∧ sum q2.bonds j + a.hy = 3 := by
    intro j a hj haa
    obtain ⟨a0, h1, rfl⟩ := hy j a hj
    have har : a0.aro = true := by unfold withHydrogens at haa; split at haa <;> exact haa
    obtain ⟨c1, c2, c3, c4⟩ := b4.ring j a0 h1 har
    unfold withHydrogens
    rw [if_neg (by rw [c3]; decide)]
    refine ⟨c1, c2, ?_⟩
    show sum q2.bonds j + implied a0 (sum q2.bonds j) = 3
    unfold implied
    rw [if_pos har, if_pos c1]
    omega
  have hon : ∀ j a, (q2.atoms.mapIdx (withHydrogens q2.bonds))[j]? = some a → wrong q2.bonds j a = false := by
    intro j a hj
    cases haa : a.aro with
    | true =>
      obtain ⟨c1, c2, c3⟩ := hring j a hj haa
      unfold wrong
      rw [haa, c1, c2, c3]
      rfl
    | false =>
      obtain ⟨a0, h1, rfl⟩ := hy j a hj
      have har : a0.aro = false := by unfold withHydrogens at haa; split at haa <;> exact haa
      obtain ⟨c1, c2, c3, c4⟩ := b4.on j a0 h1 har
      unfold withHydrogens
      rw [if_neg (by rw [c3]; decide)]
      unfold wrong implied
      simp only [har, c2, c4, Bool.false_eq_true, if_false]
      rcases c1 with h | h | h | h <;> rw [h] <;> decide
  refine ⟨q2.atoms.mapIdx (withHydrogens q2.bonds), q2.bonds, ?_, ?_⟩
  · unfold parse
    rw [if_neg (by omega), hc]
    simp only []
    rw [if_neg (by have := b2.end; omega), left_none b3, if_neg (by omega), wrong_none (i := 0) fun j a hj => by rw [Nat.zero_add]; exact hon j a hj]
  · intro q hqa hqb
    have har : ∀ x : Nat, aro q x = aro q2 x := by
      intro x
      unfold aro
      simp only [Int.toNat_natCast]
      rw [hqa, List.getElem?_mapIdx]
      cases q2.atoms[x]? with
      | none => rfl
      | some a =>
        simp only [Option.map_some]
        unfold withHydrogens
        split <;> rfl
    obtain ⟨m, w⟩ := b4.way
    refine ⟨la, m, by rw [hqb]; exact fun b hb => (b4.ends b hb).2.2, by rw [hqa, hqb]; exact hring, ?_, ?_, by rw [har]; exact b4.la, ?_⟩
    · have hl : q.atoms.length = q2.atoms.length := by rw [hqa, List.length_mapIdx]
      rw [hl]
      simp only [har]
      rw [b4.count]
      omega
    · rw [hqa, List.length_mapIdx]; omega
    · rw [show ds.length + 1 = 1 + ds.length by omega]
      exact ⟨w.sym, by rw [hqb]; exact w.bond, fun x y h => by rw [har]; exact w.ar x y h, fun x hx => w.all x (by rw [← har]; exact hx)⟩
end Go.Proofs.YtcabaecbmkgclaaGreatDoor.Bz

namespace Go.Proofs.YtcabaecbmkgclaaGreatDoor
open Bz

/-- The ring numbers that are open. -/
def RI (t : ByteArray) (p : St) : Prop := ∀ k o, p.rings k = some o → k < 100 ∧ o.place < t.size

section
variable {t : ByteArray} {p q : St}

theorem number_lt {i k j : Nat} (h : ringNumber t i = .ok (k, j)) : k < 100 ∧ i < t.size := by
  unfold ringNumber at h
  have dig : ∀ {c : Int}, isDigit c = true → 48 ≤ c ∧ c ≤ 57 := fun {c} h => by
    unfold isDigit at h
    simpa using h
  split at h
  · rename_i h37
    have hlt : i < t.size := lt_of_byteAt (by omega)
    split at h
    · rename_i hd
      split at h
      · rename_i hd2
        have := dig hd
        have := dig hd2
        cases h
        exact ⟨by omega, hlt⟩
      · cases h
    · cases h
  · split at h
    · rename_i hd
      have := dig hd
      cases h
      exact ⟨by omega, lt_of_byteAt (by omega)⟩
    · cases h

theorem bondEnd_ri {a : Nat} {g : Hung} (h : bondEnd t a p = .ok (g, q)) (r : RI t p) : RI t q := by
  unfold bondEnd at h
  simp only at h
  split at h
  · split at h
    · cases h
    · cases h; exact r
  · cases h; exact r

theorem link_ri {a : Nat} {g : Hung} (h : link t a p = .ok (g, q)) (r : RI t p) : RI t q := by
  unfold link at h
  split at h
  · cases h; exact r
  · exact bondEnd_ri h r

theorem atom_ri {a : Nat} {g : Hung} (h : atom t g p = .ok (a, q)) (r : RI t p) : RI t q := by
  unfold atom at h
  simp only at h
  split at h
  · split at h <;> cases h
  split at h
  · cases h
  split at h
  · cases h
  split at h
  · cases h
  simp only [Except.ok.injEq, Prod.mk.injEq] at h
  rw [← h.2]
  split
  · exact r
  · exact r

theorem close_ri {f l : Hung} {pl : Nat} (h : closeRing f l pl p = .ok q) (r : RI t p) : RI t q := by
  unfold closeRing at h
  simp only at h
  split at h
  · cases h
  split at h
  · cases h
  split at h
  · cases h
  cases h
  exact r

theorem ring_ri {a : Nat} (h : ring t a p = .ok q) (r : RI t p) : RI t q := by
  unfold ring at h
  split at h
  · cases h
  rename_i g p1 he
  have r1 := bondEnd_ri he r
  split at h
  · cases h
  rename_i k j hn
  obtain ⟨k1, k2⟩ := number_lt hn
  split at h
  · cases h
    intro x o hx
    simp only [setRing] at hx
    split at hx
    · rename_i e
      cases hx
      exact ⟨by omega, k2⟩
    · exact r1 x o hx
  · refine close_ri h ?_
    intro x o hx
    simp only [setRing] at hx
    split at hx
    · cases hx
    · exact r1 x o hx

theorem rings_ri {a : Nat} : ∀ (n : Nat) {p q : St}, ringsOf t a n p = .ok q → RI t p → RI t q
  | 0, p, q, h, r => by simp only [ringsOf, Except.ok.injEq] at h; subst h; exact r
  | n + 1, p, q, h, r => by
    rw [ringsOf] at h
    split at h
    · split at h
      · cases h
      · rename_i hk
        exact rings_ri n h (ring_ri hk r)
    · cases h; exact r

def CRI (t : ByteArray) (c : Hung → St → R St) : Prop := ∀ h p q, c h p = .ok q → RI t p → RI t q

theorem branch_ri {c : Hung → St → R St} (hc : CRI t c) {a : Nat} (h : branch t c a p = .ok q) (r : RI t p) : RI t q := by
  unfold branch at h
  split at h
  · cases h
  rename_i hl
  split at h
  · cases h
  rename_i hk
  split at h
  · cases h
    have := hc _ _ _ hk (link_ri hl r)
    exact this
  · cases h

theorem branches_ri {c : Hung → St → R St} (hc : CRI t c) {a : Nat} : ∀ (n : Nat) {p q : St}, branches t c a n p = .ok q → RI t p → RI t q
  | 0, p, q, h, r => by simp only [branches, Except.ok.injEq] at h; subst h; exact r
  | n + 1, p, q, h, r => by
    rw [branches] at h
    split at h
    · split at h
      · cases h
      · rename_i hk
        exact branches_ri hc n h (branch_ri hc hk r)
    · cases h; exact r

theorem knot_ri {c : Hung → St → R St} (hc : CRI t c) {g : Hung} {a : Nat} (h : knot t c g p = .ok (a, q)) (r : RI t p) : RI t q := by
  unfold knot at h
  split at h
  · cases h
  rename_i h1
  split at h
  · cases h
  rename_i h2
  split at h
  · cases h
  rename_i h3
  cases h
  exact branches_ri hc _ h3 (rings_ri _ h2 (atom_ri h1 r))

theorem linked_ri {c : Hung → St → R St} (hc : CRI t c) : ∀ (n : Nat) {a : Nat} {p q : St}, Bz.linked t c n a p = .ok q → RI t p → RI t q
  | 0, a, p, q, h, r => by simp only [Bz.linked, Except.ok.injEq] at h; subst h; exact r
  | n + 1, a, p, q, h, r => by
    rw [Bz.linked] at h
    split at h
    · split at h
      · cases h
      · rename_i hk
        refine linked_ri hc n h ?_
        unfold linkedKnot at hk
        split at hk
        · cases hk
        · rename_i hl
          exact knot_ri hc hk (link_ri hl r)
    · cases h; exact r

theorem chain_ri : ∀ n, CRI t (chain t n)
  | 0 => by intro h p q hr; simp [chain] at hr
  | n + 1 => by
    intro h p q hr r
    rw [chain] at hr
    split at hr
    · cases hr
    · rename_i hk
      exact linked_ri (chain_ri n) _ hr (knot_ri (chain_ri n) hk r)
end

theorem left_le {f : Nat → Option Opn} {d : Nat} : ∀ {n k : Nat} {o : Opn}, k < n → f k = some o → leftmost f d n ≤ o.place
  | 0, k, o, hk, _ => by omega
  | n + 1, k, o, hk, h => by
    by_cases hkn : k = n
    · subst hkn
      rw [leftmost, h]
      exact Nat.min_le_right _ _
    · have := left_le (d := d) (n := n) (by omega) h
      rw [leftmost]
      split
      · exact Nat.le_trans (Nat.min_le_left _ _) this
      · exact this

theorem none_wrong {b : List Bnd} : ∀ {l : List Atm} {i : Nat}, firstWrong b i l = none → ∀ j a, l[j]? = some a → wrong b (i + j) a = false
  | [], _, _, j, a, h => by simp at h
  | x :: l, i, h, j, a, hj => by
    rw [firstWrong] at h
    split at h
    · cases h
    · rename_i hw
      match j, hj with
      | 0, hj =>
        simp at hj
        subst hj
        simpa using hw
      | j + 1, hj =>
        have := none_wrong h j a (by simpa using hj)
        rwa [show i + (j + 1) = i + 1 + j by omega]

/-- What a reading that comes to an end came to. -/
structure Came (t : ByteArray) (ats : List Atm) (l : List Bnd) (q : St) : Prop where
  size : t.size ≤ 160
  run : chain t (t.size + 1) ⟨0, 0, -1⟩ Bz.start = .ok q
  pos : t.size ≤ q.pos
  rings : ∀ k, q.rings k = none
  atoms : ats = q.atoms.mapIdx (withHydrogens q.bonds)
  bonds : l = q.bonds
  right : ∀ j a, ats[j]? = some a → wrong l j a = false

theorem came {t : ByteArray} {ats : List Atm} {l : List Bnd} (h : parse t = .ok (ats, l)) : ∃ q, Came t ats l q := by
  unfold parse at h
  split at h
  · cases h
  rename_i hs
  split at h
  · cases h
  rename_i q hq
  split at h
  · cases h
  rename_i hp
  split at h
  · cases h
  rename_i hl
  simp only at h
  split at h
  · cases h
  rename_i hw
  simp only [Except.ok.injEq, Prod.mk.injEq] at h
  obtain ⟨h1, h2⟩ := h
  refine ⟨q, by omega, hq, by omega, fun k => ?_, h1.symm, h2.symm, ?_⟩
  · cases hk : q.rings k with
    | none => rfl
    | some o =>
      have := chain_ri (t := t) _ _ _ _ hq (fun _ _ h => by cases h) k o hk
      have := left_le (d := t.size) this.1 hk
      omega
  · intro j a hj
    rw [← h1] at hj
    rw [← h2]
    have := none_wrong hw j a hj
    rwa [Nat.zero_add] at this

theorem sum_app (l m : List Bnd) (x : Nat) : sum (l ++ m) x = sum l x + sum m x := by
  unfold sum
  rw [List.map_append, List.sum_append]

theorem sum_shift (l : List Bnd) (n D x : Nat) : sum (l.map (shB n D)) (x + n) = sum l x := by
  unfold sum
  rw [List.map_map]
  congr 1
  apply List.map_congr_left
  intro b _
  show (if b.a + n = x + n ∨ b.b + n = x + n then (if b.o = 4 then 1 else b.o) else 0) = _
  by_cases h : b.a = x ∨ b.b = x
  · rw [if_pos h, if_pos (by omega)]
  · rw [if_neg h, if_neg (by omega)]

theorem sum_low (l : List Bnd) (n D x : Nat) (h : x < n) : sum (l.map (shB n D)) x = 0 := by
  induction l with
  | nil => rfl
  | cons b l ih =>
    unfold sum at ih ⊢
    rw [List.map_cons, List.map_cons, List.sum_cons, ih]
    show (if b.a + n = x ∨ b.b + n = x then (if b.o = 4 then 1 else b.o) else 0) + 0 = 0
    rw [if_neg (by omega)]
    rfl

theorem wrong_sh (l m : List Bnd) (i j D : Nat) (a : Atm) (h : sum l i = sum m j) : wrong l i (shA D a) = wrong m j a := by
  unfold wrong shA
  simp only [h]
theorem wrong_eq (l m : List Bnd) (i j : Nat) (a : Atm) (h : sum l i = sum m j) : wrong l i a = wrong m j a := by
  unfold wrong
  simp only [h]
theorem hyd_sh (l m : List Bnd) (i j D : Nat) (a : Atm) (h : sum l i = sum m j) : withHydrogens l i (shA D a) = shA D (withHydrogens m j a) := by
  unfold withHydrogens shA
  simp only [h]
  split <;> rfl
theorem hyd_eq (l m : List Bnd) (i j : Nat) (a : Atm) (h : sum l i = sum m j) : withHydrogens l i a = withHydrogens m j a := by
  unfold withHydrogens
  simp only [h]

theorem ok0 (t : ByteArray) : Ok t Bz.start := ⟨Nat.zero_le _, by simp [Bz.start], by simp [Bz.start], (fun n o h => by simp [Bz.start] at h), by simp [Bz.start], by simp [Bz.start], by simp [Bz.start]⟩

theorem shA_zero (a : Atm) : shA 0 a = a := by unfold shA; simp
theorem shB_zero (b : Bnd) : shB 0 0 b = b := by unfold shB; simp

/-- TWO THAT ARE APART are read one behind the other. -/
theorem apart_parse {t1 t2 s : ByteArray} {a1 a2 : List Atm} {l1 l2 : List Bnd} (E1 : Emb t1 s 0) (h46 : byteAt s t1.size = 46) (E2 : Emb t2 s (t1.size + 1)) (hsz : s.size = t1.size + 1 + t2.size) (hs : s.size ≤ 160) (hn : a1.length + a2.length ≤ 24) (hB : ∀ b ∈ l1, b.a < a1.length ∧ b.b < a1.length) (h1 : parse t1 = .ok (a1, l1)) (h2 : parse t2 = .ok (a2, l2)) :
    parse s = .ok (a1 ++ a2.map (shA (t1.size + 1)), l1 ++ l2.map (shB a1.length (t1.size + 1))) := by
  obtain ⟨q1, c1⟩ := came h1
  obtain ⟨q2, c2⟩ := came h2
  have ea1 : a1.length = q1.atoms.length := by rw [c1.atoms, List.length_mapIdx]
  have ea2 : a2.length = q2.atoms.length := by rw [c2.atoms, List.length_mapIdx]
  obtain ⟨x1, P1, y1, M1, Q1, f1, f2, f3, f4, f5⟩ := part_sim (A := []) (B := []) (D := 0) (P := Bz.start) (H := ⟨0, 0, -1⟩) (N := s.size) (F := s.size + 1) E1 (by simp) (ok0 t1) ⟨rfl, rfl, rfl, fun k => .inl ⟨rfl, rfl⟩⟩ ⟨rfl, .inl ⟨rfl, rfl⟩⟩ (by omega) (by omega) (by simp; omega) c1.run
  have hq1 : q1.pos = t1.size := Nat.le_antisymm f5.pos c1.pos
  have hQ1p : Q1.pos = t1.size := by rw [f3.pos, hq1]; omega
  have hQ1a : Q1.atoms = q1.atoms := by
    rw [f3.atoms, List.nil_append]
    exact (List.map_congr_left fun a _ => shA_zero a).trans (List.map_id' _)
  have hQ1b : Q1.bonds = q1.bonds := by
    rw [f3.bonds, List.nil_append]
    exact (List.map_congr_left fun a _ => shB_zero a).trans (List.map_id' _)
  have hQ1r : ∀ k, Q1.rings k = none := fun k => by
    rcases f3.rings k with ⟨_, h⟩ | ⟨o, O, h, _⟩
    · exact h
    · rw [c1.rings k] at h; cases h
  match M1, f4, f2 with
  | M1 + 1, f4, f2 =>
  have hB' : ∀ b ∈ q1.bonds, b.a < q1.atoms.length ∧ b.b < q1.atoms.length := by rw [← c1.bonds, ← ea1]; exact hB
  obtain ⟨x2, P2, y2, M2, Q2, g1, g2, g3, g4, g5⟩ := part_sim (A := q1.atoms) (B := q1.bonds) (D := t1.size + 1) (P := { Q1 with pos := t1.size + 1 }) (H := ⟨0, 0, -1⟩) (N := s.size) (F := M1) E2 hB' (ok0 t2) ⟨rfl, by simp only [hQ1a]; simp [Bz.start], by simp only [hQ1b]; simp [Bz.start], fun k => .inl ⟨rfl, hQ1r k⟩⟩ ⟨rfl, .inl ⟨rfl, rfl⟩⟩ (by omega) (by simp only; omega) (by omega) c2.run
  have hq2 : q2.pos = t2.size := Nat.le_antisymm g5.pos c2.pos
  have hQ2p : Q2.pos = s.size := by rw [g3.pos, hq2]; omega
  have hQ2r : ∀ k, Q2.rings k = none := fun k => by
    rcases g3.rings k with ⟨_, h⟩ | ⟨o, O, h, _⟩
    · exact h
    · rw [c2.rings k] at h; cases h
  have hrun : chain s (s.size + 1) ⟨0, 0, -1⟩ Bz.start = .ok Q2 := by
    rw [chain, f1]
    simp only
    rw [f2, Bz.linked, if_pos ⟨by omega, by rw [hQ1p, h46]; decide⟩]
    have hk : linkedKnot s (chain s s.size) y1 Q1 = .ok (x2, P2) := by
      unfold linkedKnot link
      rw [hQ1p, if_pos h46]
      exact g1
    rw [hk]
    simp only
    rw [g2]
    exact linked_halt (by omega)
  have s1 : ∀ i, i < q1.atoms.length → sum Q2.bonds i = sum q1.bonds i := fun i hi => by
    rw [g3.bonds, sum_app, sum_low _ _ _ _ hi]
    omega
  have s2 : ∀ i, sum Q2.bonds (i + q1.atoms.length) = sum q2.bonds i := fun i => by
    rw [g3.bonds, sum_app, sum_shift]
    have : sum q1.bonds (i + q1.atoms.length) = 0 := sum_out fun b hb => by have := hB' b hb; omega
    omega
  have hat : Q2.atoms.mapIdx (withHydrogens Q2.bonds) = a1 ++ a2.map (shA (t1.size + 1)) := by
    rw [g3.atoms, List.mapIdx_append]
    congr 1
    · rw [c1.atoms]
      apply List.ext_getElem?
      intro i
      rw [List.getElem?_mapIdx, List.getElem?_mapIdx]
      cases hi : q1.atoms[i]? with
      | none => rfl
      | some a => simp only [Option.map_some]; rw [hyd_eq _ _ _ _ _ (s1 i (List.getElem?_eq_some_iff.1 hi).1)]
    · rw [c2.atoms]
      apply List.ext_getElem?
      intro i
      rw [List.getElem?_mapIdx, List.getElem?_map, List.getElem?_map, List.getElem?_mapIdx]
      cases hi : q2.atoms[i]? with
      | none => rfl
      | some a => simp only [Option.map_some]; rw [hyd_sh _ _ _ _ _ _ (s2 i)]
  have hbo : Q2.bonds = l1 ++ l2.map (shB a1.length (t1.size + 1)) := by rw [g3.bonds, c1.bonds, c2.bonds, ea1]
  have hwr : firstWrong Q2.bonds 0 (a1 ++ a2.map (shA (t1.size + 1))) = none := by
    refine wrong_none (i := 0) fun j a hj => ?_
    rw [Nat.zero_add]
    by_cases hlt : j < a1.length
    · rw [List.getElem?_append_left hlt] at hj
      rw [wrong_eq _ q1.bonds _ j _ (s1 j (by omega)), ← c1.bonds]
      exact c1.right j a hj
    · rw [List.getElem?_append_right (by omega), List.getElem?_map] at hj
      cases hx : a2[j - a1.length]? with
      | none => rw [hx] at hj; cases hj
      | some b =>
        rw [hx] at hj
        cases hj
        have := s2 (j - a1.length)
        rw [show j - a1.length + q1.atoms.length = j by omega] at this
        rw [wrong_sh _ q2.bonds _ (j - a1.length) _ _ this, ← c2.bonds]
        exact c2.right _ b hx
  unfold parse
  rw [if_neg (by omega), hrun]
  simp only
  rw [if_neg (by omega), left_none hQ2r, if_neg (by omega), hat, hwr, hbo]
end Go.Proofs.YtcabaecbmkgclaaGreatDoor

namespace Go.Proofs.YtcabaecbmkgclaaGreatDoor
open Bz

/-- What a bond's place may hold. -/
def Bp (c : Int) : Prop := c = 91 ∨ c = 37 ∨ (48 ≤ c ∧ c ≤ 57) ∨ c = 67 ∨ c = 66 ∨ c = 78 ∨ c = 79 ∨ c = 80 ∨ c = 83 ∨ c = 70 ∨ c = 73 ∨ c = 99 ∨ c = 110 ∨ c = 111 ∨ c = 112 ∨ c = 115

theorem Bp.sign {c : Int} (h : Bp c) : isSign c = false := by
  unfold isSign
  unfold Bp at h
  simp only [Bool.or_eq_false_iff, beq_eq_false_iff_ne, ne_eq]
  omega

/-- The signs ahead of k: an l only behind a C; next to a colon there is no other sign. -/
structure Lx (s : ByteArray) (k : Nat) : Prop where
  el : ∀ y, y < k → byteAt s y = 108 → 1 ≤ y ∧ byteAt s (y - 1) = 67
  sg : ∀ y, y + 1 < k → (byteAt s y = 58 → Bp (byteAt s (y + 1))) ∧ (byteAt s (y + 1) = 58 → isSign (byteAt s y) = false)
structure LxE (s : ByteArray) (k : Nat) : Prop where
  lx : Lx s k
  no : k = 0 ∨ isSign (byteAt s (k - 1)) = false

theorem sign58 {c : Int} (h : isSign c = false) : c ≠ 58 := by
  rintro rfl
  cases h

theorem Lx.plain {s : ByteArray} {k : Nat} (h : Lx s k) (h1 : isSign (byteAt s k) = false) (h2 : byteAt s k ≠ 108) (h3 : k = 0 ∨ byteAt s (k - 1) ≠ 58 ∨ Bp (byteAt s k)) : LxE s (k + 1) := by
  refine ⟨⟨fun y hy he => ?_, fun y hy => ?_⟩, .inr h1⟩
  · rcases Nat.lt_or_ge y k with hl | hl
    · exact h.el y hl he
    · have : y = k := by omega
      subst this
      exact absurd he h2
  · rcases Nat.lt_or_ge (y + 1) k with hl | hl
    · exact h.sg y hl
    · have : y + 1 = k := by omega
      subst this
      rw [Nat.add_sub_cancel] at h3
      exact ⟨fun h => by
        rcases h3 with k | k | k
        · omega
        · exact absurd h k
        · exact k, fun h => absurd h (sign58 h1)⟩
theorem LxE.plain {s : ByteArray} {k : Nat} (h : LxE s k) (h1 : isSign (byteAt s k) = false) (h2 : byteAt s k ≠ 108) : LxE s (k + 1) :=
  h.lx.plain h1 h2 (by
    rcases h.no with k | k
    · exact .inl k
    · exact .inr (.inl (sign58 k)))
theorem Lx.ell {s : ByteArray} {k : Nat} (h : Lx s k) (h1 : byteAt s k = 108) (hk : 1 ≤ k) (h2 : byteAt s (k - 1) = 67) : LxE s (k + 1) := by
  refine ⟨⟨fun y hy he => ?_, fun y hy => ?_⟩, .inr (by rw [Nat.add_sub_cancel, h1]; rfl)⟩
  · rcases Nat.lt_or_ge y k with hl | hl
    · exact h.el y hl he
    · have : y = k := by omega
      subst this
      exact ⟨hk, h2⟩
  · rcases Nat.lt_or_ge (y + 1) k with hl | hl
    · exact h.sg y hl
    · have : y + 1 = k := by omega
      subst this
      rw [Nat.add_sub_cancel] at h2
      rw [h1]
      exact ⟨fun h => by omega, fun h => by omega⟩
theorem LxE.sign {s : ByteArray} {k : Nat} (h : LxE s k) (h1 : isSign (byteAt s k) = true) : Lx s (k + 1) := by
  refine ⟨fun y hy he => ?_, fun y hy => ?_⟩
  · rcases Nat.lt_or_ge y k with hl | hl
    · exact h.lx.el y hl he
    · have : y = k := by omega
      subst this
      rw [he] at h1
      cases h1
  · rcases Nat.lt_or_ge (y + 1) k with hl | hl
    · exact h.lx.sg y hl
    · have : y + 1 = k := by omega
      subst this
      have h0 : isSign (byteAt s y) = false := by
        rcases h.no with h | h
        · omega
        · exact h
      exact ⟨fun h => absurd h (sign58 h0), fun _ => h0⟩

/-- What is known of every atom that is read. -/
structure AtOk (a : Atm) : Prop where
  ch : a.br = false → a.ch = 0
  el : a.aro = true → a.el = ⟨#[67]⟩ ∨ a.el = ⟨#[78]⟩ ∨ a.el = ⟨#[79]⟩ ∨ a.el = ⟨#[80]⟩ ∨ a.el = ⟨#[83]⟩

/-- On from one state to another: bonds are added, at places between. -/
structure Gon (s : ByteArray) (p q : St) : Prop where
  pos : p.pos ≤ q.pos
  ext : ∃ new, q.bonds = p.bonds ++ new ∧ ∀ b ∈ new, p.pos ≤ b.pl ∧ b.pl < q.pos ∧ Bp (byteAt s b.pl)
  ats : ∃ new, q.atoms = p.atoms ++ new ∧ ∀ a ∈ new, AtOk a

section
variable {s : ByteArray} {p q r : St}

theorem Gon.refl (s : ByteArray) (p : St) : Gon s p p := ⟨Nat.le_refl _, ⟨[], by simp, by simp⟩, ⟨[], by simp, by simp⟩⟩
theorem Gon.trans (h : Gon s p q) (k : Gon s q r) : Gon s p r := by
  obtain ⟨h1, ⟨n, h2, h3⟩, ⟨u, h4, h5⟩⟩ := h
  obtain ⟨k1, ⟨m, k2, k3⟩, ⟨v, k4, k5⟩⟩ := k
  refine ⟨by omega, ⟨n ++ m, by rw [k2, h2, List.append_assoc], fun b hb => ?_⟩, ⟨u ++ v, by rw [k4, h4, List.append_assoc], fun a ha => ?_⟩⟩
  · rw [List.mem_append] at hb
    rcases hb with hb | hb
    · have := h3 b hb
      exact ⟨this.1, by omega, this.2.2⟩
    · have := k3 b hb
      exact ⟨by omega, this.2.1, this.2.2⟩
  · rw [List.mem_append] at ha
    rcases ha with ha | ha
    · exact h5 a ha
    · exact k5 a ha
theorem Gon.move {j : Nat} (h : p.pos ≤ j) : Gon s p { p with pos := j } := ⟨h, ⟨[], by simp, by simp⟩, ⟨[], by simp, by simp⟩⟩

theorem elem_lx {i n : Nat} {el : ByteArray} {ar : Bool} (h : element s i = some (el, ar, n)) (e : Lx s i) : LxE s (i + n) ∧ Bp (byteAt s i) ∧ 0 < n := by
  unfold element at h
  simp only at h
  unfold Bp
  split at h
  · rename_i hc
    cases h
    exact ⟨(e.plain (by rw [hc.1]; rfl) (by omega) (.inr (.inr (by unfold Bp; omega)))).lx.ell hc.2 (by omega) (by rw [Nat.add_sub_cancel]; exact hc.1), by omega, by omega⟩
  split at h
  · rename_i hc
    cases h
    exact ⟨(e.plain (by rw [hc.1]; rfl) (by omega) (.inr (.inr (by unfold Bp; omega)))).plain (by rw [hc.2]; rfl) (by omega), by omega, by omega⟩
  split at h
  · rename_i hc
    cases h
    refine ⟨e.plain ?_ (by omega) (.inr (.inr (by unfold Bp; omega))), by omega, by omega⟩
    rcases hc with h | h | h | h | h | h | h | h <;> rw [h] <;> rfl
  split at h
  · rename_i hc
    cases h
    refine ⟨e.plain ?_ (by omega) (.inr (.inr (by unfold Bp; omega))), by omega, by omega⟩
    rcases hc with h | h | h | h | h <;> rw [h] <;> rfl
  · cases h

theorem dig_sign {c : Int} (h : 48 ≤ c ∧ c ≤ 57) : isSign c = false := by
  unfold isSign
  simp only [Bool.or_eq_false_iff, beq_eq_false_iff_ne, ne_eq]
  omega

theorem hydro_lx {i : Nat} (e : LxE s i) : LxE s (hydro s i).2 ∧ i ≤ (hydro s i).2 := by
  unfold hydro
  split
  · rename_i h
    have e1 := e.plain (by rw [h]; rfl) (by omega)
    split
    · rename_i hd
      exact ⟨e1.plain (dig_sign (by omega)) (by omega), by simp only; omega⟩
    · exact ⟨e1, by simp only; omega⟩
  · exact ⟨e, Nat.le_refl _⟩

theorem charge_lx {i : Nat} (e : LxE s i) : Lx s (charge s i).2 ∧ i ≤ (charge s i).2 ∧ ((charge s i).2 = 0 ∨ byteAt s ((charge s i).2 - 1) ≠ 58) := by
  unfold charge
  split
  · rename_i h
    exact ⟨(e.plain (by rw [h]; rfl) (by omega)).lx, by simp only; omega, .inr (by simp only; rw [Nat.add_sub_cancel, h]; decide)⟩
  · split
    · rename_i h
      exact ⟨e.sign (by rw [h]; rfl), by simp only; omega, .inr (by simp only; rw [Nat.add_sub_cancel, h]; decide)⟩
    · exact ⟨e.lx, Nat.le_refl _, e.no.imp (fun h => h) sign58⟩

theorem bracket_lx {i : Nat} {x : Int × Int × Nat} (h : bracket s i = .ok x) (e : LxE s i) : LxE s x.2.2 ∧ i ≤ x.2.2 := by
  unfold bracket at h
  simp only at h
  obtain ⟨h1, h2⟩ := hydro_lx e
  obtain ⟨h3, h4, h5⟩ := charge_lx h1
  split at h
  · rename_i hc
    cases h
    exact ⟨h3.plain (by rw [hc]; rfl) (by omega) (h5.imp (fun h => h) .inl), by simp only; omega⟩
  · cases h

theorem bondEnd_lx {a : Nat} {g : Hung} (h : bondEnd s a p = .ok (g, q)) (e : LxE s p.pos) : Lx s q.pos ∧ Gon s p q := by
  unfold bondEnd at h
  simp only at h
  split at h
  · rename_i hs
    split at h
    · cases h
    · cases h
      exact ⟨e.sign hs, Gon.move (by omega)⟩
  · cases h
    exact ⟨e.lx, Gon.refl s p⟩

theorem link_lx {a : Nat} {g : Hung} (h : link s a p = .ok (g, q)) (e : LxE s p.pos) : Lx s q.pos ∧ Gon s p q := by
  unfold link at h
  split at h
  · rename_i h46
    cases h
    exact ⟨(e.plain (by rw [h46]; rfl) (by omega)).lx, Gon.move (by omega)⟩
  · exact bondEnd_lx h e

theorem elem_low {i n : Nat} {el : ByteArray} (h : element s i = some (el, true, n)) : el = ⟨#[67]⟩ ∨ el = ⟨#[78]⟩ ∨ el = ⟨#[79]⟩ ∨ el = ⟨#[80]⟩ ∨ el = ⟨#[83]⟩ := by
  unfold element at h
  simp only at h
  split at h
  · cases h
  split at h
  · cases h
  split at h
  · cases h
  split at h
  · rename_i hc
    simp only [Option.some.injEq, Prod.mk.injEq] at h
    rw [← h.1]
    rcases hc with h | h | h | h | h <;> rw [h]
    · exact .inl rfl
    · exact .inr (.inl rfl)
    · exact .inr (.inr (.inl rfl))
    · exact .inr (.inr (.inr (.inl rfl)))
    · exact .inr (.inr (.inr (.inr rfl)))
  · cases h

theorem atom_lx {a : Nat} {g : Hung} (h : atom s g p = .ok (a, q)) (e : Lx s p.pos) : LxE s q.pos ∧ Gon s p q := by
  unfold atom at h
  simp only at h
  split at h
  · split at h <;> cases h
  rename_i el ar n hel
  split at h
  · cases h
  split at h
  · cases h
  split at h
  · cases h
  rename_i ch hy j hb
  simp only [Except.ok.injEq, Prod.mk.injEq] at h
  have key : LxE s j ∧ p.pos < j ∧ Bp (byteAt s p.pos) ∧ ((byteAt s p.pos == 91) = false → ch = 0) := by
    cases h91 : (byteAt s p.pos == 91)
    · rw [h91] at hel hb
      simp only [Bool.false_eq_true, if_false, Except.ok.injEq, Prod.mk.injEq] at hel hb
      obtain ⟨k1, k2, k3⟩ := elem_lx hel e
      rw [← hb.2.2]
      exact ⟨k1, by omega, k2, fun _ => hb.1.symm⟩
    · rw [h91] at hel hb
      simp only [if_true] at hel hb
      have h91' : byteAt s p.pos = 91 := by simpa using h91
      have e1 := e.plain (by rw [h91']; rfl) (by omega) (.inr (.inr (.inl h91')))
      obtain ⟨k1, k2, k3⟩ := elem_lx hel e1.lx
      obtain ⟨k4, k5⟩ := bracket_lx hb k1
      exact ⟨k4, by simp only at k5; omega, .inl h91', fun h => by cases h⟩
  obtain ⟨k1, k2, k3, k4⟩ := key
  have kA : ∀ a ∈ [(⟨el, ar, ch, hy, p.pos, byteAt s p.pos == 91⟩ : Atm)], AtOk a := fun a ha => by
    rw [List.mem_singleton] at ha
    subst ha
    refine ⟨k4, fun har => ?_⟩
    simp only at har
    subst har
    exact elem_low hel
  rw [← h.2]
  split
  · exact ⟨k1, by simp only; omega, ⟨[], by simp, by simp⟩, ⟨_, rfl, kA⟩⟩
  · refine ⟨k1, by simp only [Bz.bind]; omega, ⟨[_], rfl, fun b hb => ?_⟩, ⟨_, rfl, kA⟩⟩
    rw [List.mem_singleton] at hb
    subst hb
    exact ⟨Nat.le_refl _, k2, k3⟩

theorem number_lx {i k j : Nat} (h : ringNumber s i = .ok (k, j)) (e : Lx s i) : LxE s j ∧ i < j ∧ Bp (byteAt s i) := by
  have dig : ∀ {c : Int}, isDigit c = true → 48 ≤ c ∧ c ≤ 57 := fun {c} h => by
    unfold isDigit at h
    simpa using h
  unfold ringNumber at h
  unfold Bp
  split at h
  · rename_i h37
    have e1 := e.plain (by rw [h37]; rfl) (by omega) (.inr (.inr (.inr (.inl h37))))
    split at h
    · rename_i hd
      have d1 := dig hd
      have e2 := e1.plain (dig_sign d1) (by omega)
      split at h
      · rename_i hd2
        have d2 := dig hd2
        have e3 := e2.plain (dig_sign d2) (show byteAt s (i + 2) ≠ 108 by omega)
        cases h
        exact ⟨e3, by omega, .inr (.inl h37)⟩
      · cases h
    · cases h
  · split at h
    · rename_i hd
      have d1 := dig hd
      cases h
      exact ⟨e.plain (dig_sign d1) (by omega) (.inr (.inr (by unfold Bp; omega))), by omega, by omega⟩
    · cases h

theorem ring_lx {a : Nat} (h : ring s a p = .ok q) (e : LxE s p.pos) : LxE s q.pos ∧ Gon s p q := by
  unfold ring at h
  split at h
  · cases h
  rename_i g p1 he
  obtain ⟨e1, g1⟩ := bondEnd_lx he e
  split at h
  · cases h
  rename_i k j hn
  obtain ⟨e2, l2, b2⟩ := number_lx hn e1
  split at h
  · cases h
    exact ⟨e2, g1.trans ⟨by simp only; omega, ⟨[], by simp, by simp⟩, ⟨[], by simp, by simp⟩⟩⟩
  · unfold closeRing at h
    simp only at h
    split at h
    · cases h
    split at h
    · cases h
    split at h
    · cases h
    cases h
    refine ⟨e2, g1.trans ⟨by simp only [Bz.bind]; omega, ⟨[_], rfl, fun b hb => ?_⟩, ⟨[], by simp [Bz.bind], by simp⟩⟩⟩
    rw [List.mem_singleton] at hb
    subst hb
    exact ⟨Nat.le_refl _, l2, b2⟩

theorem rings_lx {a : Nat} : ∀ (n : Nat) {p q : St}, ringsOf s a n p = .ok q → LxE s p.pos → LxE s q.pos ∧ Gon s p q
  | 0, p, q, h, e => by simp only [ringsOf, Except.ok.injEq] at h; subst h; exact ⟨e, Gon.refl s p⟩
  | n + 1, p, q, h, e => by
    rw [ringsOf] at h
    split at h
    · split at h
      · cases h
      · rename_i hk
        obtain ⟨e1, g1⟩ := ring_lx hk e
        obtain ⟨e2, g2⟩ := rings_lx n h e1
        exact ⟨e2, g1.trans g2⟩
    · cases h; exact ⟨e, Gon.refl s p⟩

def CLx (s : ByteArray) (c : Hung → St → R St) : Prop := ∀ h p q, c h p = .ok q → Lx s p.pos → LxE s q.pos ∧ Gon s p q

theorem branch_lx {c : Hung → St → R St} (hc : CLx s c) {a : Nat} (h : branch s c a p = .ok q) (e : LxE s p.pos) : LxE s q.pos ∧ Gon s p q := by
  unfold branch at h
  split at h
  · cases h
  rename_i hl
  obtain ⟨e1, g1⟩ := link_lx hl e
  split at h
  · cases h
  rename_i hk
  obtain ⟨e2, g2⟩ := hc _ _ _ hk e1
  split at h
  · rename_i h41
    cases h
    exact ⟨e2.plain (by rw [h41]; rfl) (by omega), (g1.trans g2).trans (Gon.move (by omega))⟩
  · cases h

theorem branches_lx {c : Hung → St → R St} (hc : CLx s c) {a : Nat} : ∀ (n : Nat) {p q : St}, branches s c a n p = .ok q → LxE s p.pos → LxE s q.pos ∧ Gon s p q
  | 0, p, q, h, e => by simp only [branches, Except.ok.injEq] at h; subst h; exact ⟨e, Gon.refl s p⟩
  | n + 1, p, q, h, e => by
    rw [branches] at h
    split at h
    · rename_i h40
      split at h
      · cases h
      · rename_i hk
        obtain ⟨e1, g1⟩ := branch_lx hc hk (e.plain (by rw [h40]; rfl) (by omega))
        obtain ⟨e2, g2⟩ := branches_lx hc n h e1
        exact ⟨e2, (Gon.move (by omega)).trans (g1.trans g2)⟩
    · cases h; exact ⟨e, Gon.refl s p⟩

theorem knot_lx {c : Hung → St → R St} (hc : CLx s c) {g : Hung} {a : Nat} (h : knot s c g p = .ok (a, q)) (e : Lx s p.pos) : LxE s q.pos ∧ Gon s p q := by
  unfold knot at h
  split at h
  · cases h
  rename_i h1
  split at h
  · cases h
  rename_i h2
  split at h
  · cases h
  rename_i h3
  cases h
  obtain ⟨e1, g1⟩ := atom_lx h1 e
  obtain ⟨e2, g2⟩ := rings_lx _ h2 e1
  obtain ⟨e3, g3⟩ := branches_lx hc _ h3 e2
  exact ⟨e3, (g1.trans g2).trans g3⟩

theorem lknot_lx {c : Hung → St → R St} (hc : CLx s c) {a k : Nat} (h : linkedKnot s c a p = .ok (k, q)) (e : LxE s p.pos) : LxE s q.pos ∧ Gon s p q := by
  unfold linkedKnot at h
  split at h
  · cases h
  · rename_i hl
    obtain ⟨e1, g1⟩ := link_lx hl e
    obtain ⟨e2, g2⟩ := knot_lx hc h e1
    exact ⟨e2, g1.trans g2⟩

theorem linked_lx {c : Hung → St → R St} (hc : CLx s c) : ∀ (n : Nat) {a : Nat} {p q : St}, Bz.linked s c n a p = .ok q → LxE s p.pos → LxE s q.pos ∧ Gon s p q
  | 0, a, p, q, h, e => by simp only [Bz.linked, Except.ok.injEq] at h; subst h; exact ⟨e, Gon.refl s p⟩
  | n + 1, a, p, q, h, e => by
    rw [Bz.linked] at h
    split at h
    · split at h
      · cases h
      · rename_i hk
        obtain ⟨e1, g1⟩ := lknot_lx hc hk e
        obtain ⟨e2, g2⟩ := linked_lx hc n h e1
        exact ⟨e2, g1.trans g2⟩
    · cases h; exact ⟨e, Gon.refl s p⟩

theorem chain_lx : ∀ n, CLx s (chain s n)
  | 0 => by intro h p q hr; simp [chain] at hr
  | n + 1 => by
    intro h p q hr e
    rw [chain] at hr
    split at hr
    · cases hr
    · rename_i hk
      obtain ⟨e1, g1⟩ := knot_lx (chain_lx n) hk e
      obtain ⟨e2, g2⟩ := linked_lx (chain_lx n) _ hr e1
      exact ⟨e2, g1.trans g2⟩
end

theorem lx0 (s : ByteArray) : LxE s 0 := ⟨⟨fun y h => by omega, fun y h => by omega⟩, .inl rfl⟩
end Go.Proofs.YtcabaecbmkgclaaGreatDoor

namespace Go.Proofs.YtcabaecbmkgclaaGreatDoor
open Bz

def capU (b : UInt8) : List UInt8 := if b.toNat = 58 then [] else if b.toNat = 99 ∨ b.toNat = 110 ∨ b.toNat = 111 ∨ b.toNat = 112 ∨ b.toNat = 115 then [b - 32] else [b]
def capI (c : Int) : Int := if c = 99 ∨ c = 110 ∨ c = 111 ∨ c = 112 ∨ c = 115 then c - 32 else c

/-- What is written of a text from a place on; d: ahead of which places there is a sign of a double bond. -/
def wrR (d : Nat → Bool) : List UInt8 → Nat → List UInt8
  | [], _ => []
  | c :: t, x => (if d x then [61] else []) ++ (capU c ++ wrR d t (x + 1))
def wr0 (d : Nat → Bool) (s : ByteArray) (x : Nat) : List UInt8 := wrR d (s.data.toList.drop x) x
def wr1 (d : Nat → Bool) (s : ByteArray) (x : Nat) : List UInt8 := match s.data.toList.drop x with
  | [] => []
  | c :: t => capU c ++ wrR d t (x + 1)

section
variable {d : Nat → Bool} {s W : ByteArray} {x P : Nat}

theorem drop_lt (hx : x < s.size) : s.data.toList.drop x = s[x] :: s.data.toList.drop (x + 1) := by
  have hl : x < s.data.toList.length := by simpa using hx
  rw [List.drop_eq_getElem_cons hl]
  rfl
theorem wr1_lt (hx : x < s.size) : wr1 d s x = capU s[x] ++ wr0 d s (x + 1) := by
  unfold wr1 wr0
  rw [drop_lt hx]
theorem wr0_yes (hx : x < s.size) (hd : d x = true) : wr0 d s x = 61 :: wr1 d s x := by
  rw [wr1_lt hx]
  unfold wr0
  rw [drop_lt hx, wrR, hd]
  rfl
theorem wr_ge (hx : ¬ x < s.size) : wr0 d s x = [] ∧ wr1 d s x = [] := by
  have : s.data.toList.drop x = [] := List.drop_eq_nil_of_le (by simpa using hx)
  unfold wr0 wr1
  rw [this]
  exact ⟨rfl, rfl⟩
theorem wr0_no (hd : d x = false) : wr0 d s x = wr1 d s x := by
  by_cases hx : x < s.size
  · rw [wr1_lt hx]
    unfold wr0
    rw [drop_lt hx, wrR, hd]
    rfl
  · rw [(wr_ge hx).1, (wr_ge hx).2]

theorem capU_58 (hx : x < s.size) (h : byteAt s x = 58) : capU s[x] = [] := by
  rw [byteAt_lt s x hx] at h
  unfold capU
  rw [if_pos (by omega)]
theorem capU_no (hx : x < s.size) (h : byteAt s x ≠ 58) : ∃ u : UInt8, capU s[x] = [u] ∧ (u.toNat : Int) = capI (byteAt s x) := by
  rw [byteAt_lt s x hx] at h ⊢
  unfold capU capI
  rw [if_neg (by omega)]
  by_cases hc : s[x].toNat = 99 ∨ s[x].toNat = 110 ∨ s[x].toNat = 111 ∨ s[x].toNat = 112 ∨ s[x].toNat = 115
  · rw [if_pos hc, if_pos (by omega)]
    refine ⟨_, rfl, ?_⟩
    rw [UInt8.toNat_sub_of_le _ _ (by rw [UInt8.le_iff_toNat_le]; show (32 : UInt8).toNat ≤ _; have : (32 : UInt8).toNat = 32 := rfl; omega)]
    have : (32 : UInt8).toNat = 32 := rfl
    omega
  · rw [if_neg hc, if_neg (by omega)]
    exact ⟨_, rfl, rfl⟩

theorem a_yes (h : Bz.Rest W P (wr0 d s x)) (hx : x < s.size) (hd : d x = true) : byteAt W P = 61 ∧ P < W.size ∧ Bz.Rest W (P + 1) (wr1 d s x) := by
  rw [wr0_yes hx hd] at h
  exact ⟨h.at, h.lt, h.next⟩
theorem a_byte (h : Bz.Rest W P (wr1 d s x)) (hx : x < s.size) (hc : byteAt s x ≠ 58) : byteAt W P = capI (byteAt s x) ∧ P < W.size ∧ Bz.Rest W (P + 1) (wr0 d s (x + 1)) := by
  obtain ⟨u, h1, h2⟩ := capU_no hx hc
  rw [wr1_lt hx, h1] at h
  have h' : Bz.Rest W P (u :: wr0 d s (x + 1)) := h
  exact ⟨by rw [h'.at, h2], h'.lt, h'.next⟩
theorem a_colon (hx : x < s.size) (hc : byteAt s x = 58) : wr1 d s x = wr0 d s (x + 1) := by
  rw [wr1_lt hx, capU_58 hx hc]
  rfl
end

/-- What the whole text is like. -/
structure Wc (d : Nat → Bool) (s : ByteArray) : Prop where
  lx : LxE s s.size
  bp : ∀ y, d y = true → y < s.size ∧ Bp (byteAt s y)

section
variable {d : Nat → Bool} {s W : ByteArray} {x P : Nat}

theorem Wc.no (C : Wc d s) (h : ¬ Bp (byteAt s x)) : d x = false := by
  cases hd : d x
  · rfl
  · exact absurd (C.bp x hd).2 h
theorem bp58 : ¬ Bp 58 := by unfold Bp; omega
theorem bp0 : ¬ Bp 0 := by unfold Bp; omega

theorem Wc.colon (C : Wc d s) (hc : byteAt s x = 58) : x + 1 < s.size ∧ Bp (byteAt s (x + 1)) := by
  have hx : x < s.size := lt_of_byteAt (by omega)
  have hlt : x + 1 < s.size := by
    rcases Nat.lt_or_ge (x + 1) s.size with h | h
    · exact h
    · have e : x = s.size - 1 := by omega
      rcases C.lx.no with h0 | h0
      · omega
      · rw [← e, hc] at h0
        cases h0
  exact ⟨hlt, (C.lx.lx.sg x hlt).1 hc⟩

/-- What stands in the text that was written, where the other one's place x is written. -/
theorem Wc.cases (C : Wc d s) (h : Bz.Rest W P (wr0 d s x)) :
    (s.size ≤ x ∧ byteAt W P = 0 ∧ byteAt s x = 0 ∧ W.size ≤ P) ∨
    (x < s.size ∧ d x = true ∧ byteAt W P = 61 ∧ Bp (byteAt s x) ∧ P < W.size ∧ Bz.Rest W (P + 1) (wr1 d s x)) ∨
    (x < s.size ∧ d x = false ∧ byteAt s x ≠ 58 ∧ byteAt W P = capI (byteAt s x) ∧ P < W.size ∧ Bz.Rest W (P + 1) (wr0 d s (x + 1))) ∨
    (byteAt s x = 58 ∧ d x = false ∧ x + 1 < s.size ∧ Bp (byteAt s (x + 1)) ∧ d (x + 1) = true ∧ byteAt W P = 61 ∧ P < W.size ∧ Bz.Rest W (P + 1) (wr1 d s (x + 1))) ∨
    (byteAt s x = 58 ∧ d x = false ∧ x + 1 < s.size ∧ Bp (byteAt s (x + 1)) ∧ d (x + 1) = false ∧ byteAt W P = capI (byteAt s (x + 1)) ∧ P < W.size ∧ Bz.Rest W P (wr1 d s (x + 1))) := by
  by_cases hx : x < s.size
  · cases hd : d x
    · by_cases hc : byteAt s x = 58
      · obtain ⟨h1, h2⟩ := C.colon hc
        have h' := h
        rw [wr0_no hd, a_colon hx hc] at h'
        cases hd1 : d (x + 1)
        · rw [wr0_no hd1] at h'
          obtain ⟨k1, k2, _⟩ := a_byte h' h1 (fun e => by rw [e] at h2; exact bp58 h2)
          exact .inr (.inr (.inr (.inr ⟨hc, rfl, h1, h2, rfl, k1, k2, h'⟩)))
        · obtain ⟨k1, k2, k3⟩ := a_yes h' h1 hd1
          exact .inr (.inr (.inr (.inl ⟨hc, rfl, h1, h2, rfl, k1, k2, k3⟩)))
      · rw [wr0_no hd] at h
        obtain ⟨k1, k2, k3⟩ := a_byte h hx hc
        exact .inr (.inr (.inl ⟨hx, rfl, hc, k1, k2, k3⟩))
    · obtain ⟨k1, k2, k3⟩ := a_yes h hx hd
      exact .inr (.inl ⟨hx, rfl, k1, (C.bp x hd).2, k2, k3⟩)
  · rw [(wr_ge hx).1] at h
    exact .inl ⟨by omega, h.zero, byteAt_ge s x hx, h.end⟩

theorem cap_is {c k : Int} (hk : k ≠ 67 ∧ k ≠ 78 ∧ k ≠ 79 ∧ k ≠ 80 ∧ k ≠ 83 ∧ k ≠ 99 ∧ k ≠ 110 ∧ k ≠ 111 ∧ k ≠ 112 ∧ k ≠ 115) : capI c = k ↔ c = k := by
  unfold capI
  split <;> omega

/-- Brackets and dots. -/
theorem Wc.test (C : Wc d s) (h : Bz.Rest W P (wr0 d s x)) {k : Int} (hk : k = 40 ∨ k = 41 ∨ k = 46) : byteAt W P = k ↔ byteAt s x = k := by
  have ci : ∀ c, capI c = k ↔ c = k := fun c => cap_is (by omega)
  rcases C.cases h with ⟨_, h1, h2, _⟩ | ⟨_, _, h1, h2, _⟩ | ⟨_, _, _, h1, _⟩ | ⟨h0, _, _, _, _, h1, _⟩ | ⟨h0, _, _, h2, _, h1, _⟩
  · rw [h1, h2]
  · unfold Bp at h2
    omega
  · rw [h1]; exact ci _
  · omega
  · rw [h1, ci]
    unfold Bp at h2
    omega

/-- The second letter of a name. -/
theorem Wc.letter (C : Wc d s) (h : Bz.Rest W P (wr0 d s x)) {k : Int} (hk : k = 108 ∨ k = 114) (hb : byteAt W P = k) : byteAt s x = k := by
  have ci : ∀ c, capI c = k ↔ c = k := fun c => cap_is (by omega)
  rcases C.cases h with ⟨_, h1, h2, _⟩ | ⟨_, _, h1, h2, _⟩ | ⟨_, _, _, h1, _⟩ | ⟨h0, _, _, _, _, h1, _⟩ | ⟨h0, _, _, h2, _, h1, _⟩
  · omega
  · omega
  · exact (ci _).1 (by omega)
  · omega
  · have := (ci _).1 (h1.symm.trans hb)
    unfold Bp at h2
    omega

theorem cap_sign (c : Int) : isSign (capI c) = isSign c := by
  unfold capI
  split
  · rename_i h
    rcases h with h | h | h | h | h <;> rw [h] <;> rfl
  · rfl
theorem cap_ring (c : Int) : startsRing (capI c) = startsRing c := by
  unfold capI
  split
  · rename_i h
    rcases h with h | h | h | h | h <;> rw [h] <;> rfl
  · rfl

theorem elem_w (C : Wc d s) {el : ByteArray} {ar : Bool} {n : Nat} (h : Bz.Rest W P (wr1 d s x)) (hel : element s x = some (el, ar, n)) (hg : ∀ y, x < y → y < x + n → d y = false) : element W P = some (el, false, n) ∧ Bz.Rest W (P + n) (wr0 d s (x + n)) ∧ P + n ≤ W.size := by
  have hne : byteAt s x ≠ 0 := by
    intro h0
    unfold element at hel
    rw [h0] at hel
    simp at hel
  have hx := lt_of_byteAt hne
  have h58 : byteAt s x ≠ 58 := by
    intro h0
    unfold element at hel
    rw [h0] at hel
    simp at hel
  obtain ⟨b1, b2, b3⟩ := a_byte h hx h58
  have l1 : byteAt W (P + 1) = 108 → byteAt s (x + 1) = 108 := fun h => C.letter b3 (.inl rfl) h
  have l2 : byteAt W (P + 1) = 114 → byteAt s (x + 1) = 114 := fun h => C.letter b3 (.inr rfl) h
  unfold element at hel
  simp only at hel
  split at hel
  · rename_i hc
    cases hel
    have hx1 : x + 1 < s.size := lt_of_byteAt (by omega)
    rw [wr0_no (hg (x + 1) (by omega) (by omega))] at b3
    obtain ⟨c1, c2, c3⟩ := a_byte b3 hx1 (by omega)
    rw [hc.1] at b1
    rw [hc.2] at c1
    refine ⟨?_, c3, c2⟩
    unfold element
    rw [b1, c1]
    rfl
  rename_i n1
  split at hel
  · rename_i hc
    cases hel
    have hx1 : x + 1 < s.size := lt_of_byteAt (by omega)
    rw [wr0_no (hg (x + 1) (by omega) (by omega))] at b3
    obtain ⟨c1, c2, c3⟩ := a_byte b3 hx1 (by omega)
    rw [hc.1] at b1
    rw [hc.2] at c1
    refine ⟨?_, c3, c2⟩
    unfold element
    rw [b1, c1]
    rfl
  rename_i n2
  split at hel
  · rename_i hc
    cases hel
    have hcap : capI (byteAt s x) = byteAt s x := by unfold capI; rw [if_neg (by omega)]
    rw [hcap] at b1
    refine ⟨?_, b3, b2⟩
    unfold element
    simp only [b1]
    rw [if_neg (fun h => n1 ⟨h.1, l1 h.2⟩), if_neg (fun h => n2 ⟨h.1, l2 h.2⟩), if_pos hc]
  rename_i n3
  split at hel
  · rename_i hc
    cases hel
    have hcap : capI (byteAt s x) = byteAt s x - 32 := by unfold capI; rw [if_pos hc]
    rw [hcap] at b1
    refine ⟨?_, b3, b2⟩
    unfold element
    simp only [b1]
    rw [if_neg ?_, if_neg (by omega), if_pos (by omega)]
    rintro ⟨_, h2⟩
    have h3 := l1 h2
    have hx1 : x + 1 < s.size := lt_of_byteAt (by omega)
    have := (C.lx.lx.el (x + 1) hx1 h3).2
    rw [Nat.add_sub_cancel] at this
    omega
  · cases hel

/-- A sign that is written as it is. -/
theorem a_same {c : Int} (h : Bz.Rest W P (wr0 d s x)) (hd : d x = false) (hc : byteAt s x = c) (h0 : c ≠ 0 ∧ c ≠ 58 ∧ c ≠ 99 ∧ c ≠ 110 ∧ c ≠ 111 ∧ c ≠ 112 ∧ c ≠ 115) : byteAt W P = c ∧ P + 1 ≤ W.size ∧ Bz.Rest W (P + 1) (wr0 d s (x + 1)) := by
  rw [wr0_no hd] at h
  obtain ⟨b1, b2, b3⟩ := a_byte h (lt_of_byteAt (by omega)) (by omega)
  refine ⟨?_, b2, b3⟩
  rw [b1, hc]
  unfold capI
  rw [if_neg (by omega)]

theorem charge_w {i : Nat} {P : Nat} (h : Bz.Rest W P (wr0 d s i)) (h93 : byteAt s (charge s i).2 = 93) (hg : ∀ y, i ≤ y → y ≤ (charge s i).2 → d y = false) :
    ∃ J, charge W P = ((charge s i).1, J) ∧ byteAt W J = 93 ∧ J + 1 ≤ W.size ∧ Bz.Rest W (J + 1) (wr0 d s ((charge s i).2 + 1)) ∧ byteAt W P = byteAt s i := by
  unfold charge at h93 hg ⊢
  by_cases h1 : byteAt s i = 43
  · simp only [h1, if_true] at h93 hg ⊢
    obtain ⟨b1, b2, b3⟩ := a_same h (hg i (by omega) (by omega)) h1 (by omega)
    obtain ⟨c1, c2, c3⟩ := a_same b3 (hg (i + 1) (by omega) (by omega)) h93 (by omega)
    rw [b1]
    exact ⟨P + 1, rfl, c1, c2, c3, rfl⟩
  · by_cases h2 : byteAt s i = 45
    · simp only [h2] at h93 hg ⊢
      have e : ¬ ((45 : Int) = 43) := by omega
      simp only [e, if_false, if_true] at h93 hg ⊢
      obtain ⟨b1, b2, b3⟩ := a_same h (hg i (by omega) (by omega)) h2 (by omega)
      obtain ⟨c1, c2, c3⟩ := a_same b3 (hg (i + 1) (by omega) (by omega)) h93 (by omega)
      rw [b1]
      exact ⟨P + 1, rfl, c1, c2, c3, rfl⟩
    · rw [if_neg h1, if_neg h2] at h93 hg ⊢
      simp only at h93 hg ⊢
      obtain ⟨c1, c2, c3⟩ := a_same h (hg i (by omega) (by omega)) h93 (by omega)
      rw [c1, h93]
      exact ⟨P, rfl, c1, c2, c3, rfl⟩

theorem bracket_w {i j : Nat} {P : Nat} {c y : Int} (h : Bz.Rest W P (wr0 d s i)) (hb : bracket s i = .ok (c, y, j)) (hg : ∀ z, i ≤ z → z < j → d z = false) :
    ∃ J, bracket W P = .ok (c, y, J) ∧ Bz.Rest W J (wr0 d s j) ∧ J ≤ W.size ∧ P ≤ J := by
  unfold bracket at hb
  simp only at hb
  split at hb
  · rename_i h93
    simp only [Except.ok.injEq, Prod.mk.injEq] at hb
    obtain ⟨e1, e2, e3⟩ := hb
    have hcl : ∀ k, k ≤ (charge s k).2 ∧ (charge s k).2 ≤ k + 1 := fun k => by
      unfold charge
      split
      · simp only; omega
      · split <;> simp only <;> omega
    have chJ : ∀ (B : Nat) x J, charge W B = (x, J) → B ≤ J := fun B x J h => by
      unfold charge at h
      split at h
      · cases h; omega
      · split at h <;> cases h <;> omega
    by_cases h72 : byteAt s i = 72
    · by_cases hd : 49 ≤ byteAt s (i + 1) ∧ byteAt s (i + 1) ≤ 52
      · have eh : hydro s i = (byteAt s (i + 1) - 48, i + 2) := by unfold hydro; rw [if_pos h72, if_pos hd]
        rw [eh] at h93 e1 e2 e3
        simp only at h93 e1 e2 e3
        have := hcl (i + 2)
        obtain ⟨b1, b2, b3⟩ := a_same h (hg i (by omega) (by omega)) h72 (by omega)
        obtain ⟨c1, c2, c3⟩ := a_same (c := byteAt s (i + 1)) b3 (hg (i + 1) (by omega) (by omega)) rfl (by omega)
        have c3' : Bz.Rest W (P + 2) (wr0 d s (i + 2)) := c3
        obtain ⟨J, k1, k2, k3, k4, _⟩ := charge_w c3' h93 fun z h1 h2 => hg z (by omega) (by omega)
        have eW : hydro W P = (byteAt s (i + 1) - 48, P + 2) := by unfold hydro; rw [if_pos b1, c1, if_pos hd]
        refine ⟨J + 1, ?_, by rw [← e3]; exact k4, k3, by have := chJ _ _ _ k1; omega⟩
        unfold bracket
        simp only [eW]
        rw [k1]
        simp only
        rw [if_pos k2, e1, e2]
      · have eh : hydro s i = (1, i + 1) := by unfold hydro; rw [if_pos h72, if_neg hd]
        rw [eh] at h93 e1 e2 e3
        simp only at h93 e1 e2 e3
        have := hcl (i + 1)
        obtain ⟨b1, b2, b3⟩ := a_same h (hg i (by omega) (by omega)) h72 (by omega)
        obtain ⟨J, k1, k2, k3, k4, k5⟩ := charge_w b3 h93 fun z h1 h2 => hg z (by omega) (by omega)
        have eW : hydro W P = (1, P + 1) := by unfold hydro; rw [if_pos b1, k5, if_neg hd]
        refine ⟨J + 1, ?_, by rw [← e3]; exact k4, k3, by have := chJ _ _ _ k1; omega⟩
        unfold bracket
        simp only [eW]
        rw [k1]
        simp only
        rw [if_pos k2, e1, e2]
    · have eh : hydro s i = (0, i) := by unfold hydro; rw [if_neg h72]
      rw [eh] at h93 e1 e2 e3
      simp only at h93 e1 e2 e3
      have := hcl i
      obtain ⟨J, k1, k2, k3, k4, k5⟩ := charge_w h h93 fun z h1 h2 => hg z (by omega) (by omega)
      have eW : hydro W P = (0, P) := by unfold hydro; rw [k5, if_neg h72]
      refine ⟨J + 1, ?_, by rw [← e3]; exact k4, k3, by have := chJ _ _ _ k1; omega⟩
      unfold bracket
      simp only [eW]
      rw [k1]
      simp only
      rw [if_pos k2, e1, e2]
  · cases hb

theorem number_w {k j : Nat} (h : Bz.Rest W P (wr1 d s x)) (hr : ringNumber s x = .ok (k, j)) (hg : ∀ y, x < y → y < j → d y = false) :
    ∃ J, ringNumber W P = .ok (k, J) ∧ Bz.Rest W J (wr0 d s j) ∧ J ≤ W.size ∧ P < J := by
  have dig : ∀ {c : Int}, isDigit c = true → 48 ≤ c ∧ c ≤ 57 := fun {c} h => by
    unfold isDigit at h
    simpa using h
  have cd : ∀ {c : Int}, 48 ≤ c ∧ c ≤ 57 → capI c = c := fun {c} h => by unfold capI; rw [if_neg (by omega)]
  unfold ringNumber at hr
  split at hr
  · rename_i h37
    obtain ⟨b1, b2, b3⟩ := a_byte h (lt_of_byteAt (by omega)) (by omega)
    rw [h37] at b1
    split at hr
    · rename_i hd1
      split at hr
      · rename_i hd2
        cases hr
        have g1 := dig hd1
        have g2 := dig hd2
        obtain ⟨c1, c2, c3⟩ := a_same (c := byteAt s (x + 1)) b3 (hg (x + 1) (by omega) (by omega)) rfl (by omega)
        obtain ⟨e1, e2, e3⟩ := a_same (c := byteAt s (x + 2)) c3 (hg (x + 2) (by omega) (by omega)) rfl (by omega)
        have e1' : byteAt W (P + 2) = byteAt s (x + 2) := e1
        refine ⟨P + 3, ?_, e3, e2, by omega⟩
        unfold ringNumber
        rw [b1, c1, e1', hd1, hd2]
        rfl
      · cases hr
    · cases hr
  · rename_i h37
    split at hr
    · rename_i hd1
      cases hr
      have g1 := dig hd1
      obtain ⟨b1, b2, b3⟩ := a_byte h (lt_of_byteAt (by omega)) (by omega)
      rw [cd g1] at b1
      refine ⟨P + 1, ?_, b3, b2, by omega⟩
      unfold ringNumber
      rw [b1, if_neg h37, hd1]
      rfl
    · cases hr
end
end Go.Proofs.YtcabaecbmkgclaaGreatDoor
