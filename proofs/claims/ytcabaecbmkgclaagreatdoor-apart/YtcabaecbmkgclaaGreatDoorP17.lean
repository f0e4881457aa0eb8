/-
  A ring of carbon in small letters: its text is read.
  Two texts with a dot between: the one's atoms and bonds, and then the other's.
  Two molecules that are apart: all candidates can have a mate just if they can in each.
  What the document fixes (works), and what Kekulize's verdict says.
  Apart.
-/
import Derived.Test.YtcabaecbmkgclaaGreatDoorP16
import Derived.BigQuiet

namespace Go.Proofs.YtcabaecbmkgclaaGreatDoor.Bz
open Mt

/-- The ends that wait: the first atom's, and the last one's. -/
def En2 (last : Nat) (x : Nat) : Int := (if x = 0 then 1 else 0) + (if x = last then 1 else 0)

theorem rings_one {s : ByteArray} {p q : St} {n a : Nat} (h1 : ringAhead s p = true) (h2 : ring s a p = .ok q) (h3 : ringAhead s q = false) : ringsOf s a (n + 1) p = .ok q := by
  rw [ringsOf, h1]
  simp only [if_true]
  rw [h2]
  exact rings_stop h3

theorem dec_next {s : ByteArray} {p d : Nat} {t : List UInt8} (ht : Nx t) (r : Rest s p (decL d ++ t)) : byteAt s p = 0 ∨ byteAt s p = 99 ∨ byteAt s p = 40 ∨ byteAt s p = 41 := by
  match d with
  | 0 => rcases ht.byte (s := s) (p := p) r with h | h <;> omega
  | 1 => have := r.at; exact .inr (.inr (.inl this))
  | 2 => have := r.at; exact .inr (.inr (.inl this))
  | 3 => have := r.at; exact .inr (.inr (.inl this))
  | d + 4 => have := r.at; exact .inr (.inr (.inl this))

theorem first_unit {s : ByteArray} {n num d : Nat} {t : List UInt8} (hn : num < 100) (ht : Nx t) (r : Rest s 0 (99 :: (rgL num ++ (decL d ++ t)))) :
    ∃ q, knot s (chain s (n + 1)) ⟨0, 0, -1⟩ start = .ok (0, q) ∧ Rest s q.pos t ∧ q.rings = setRing (fun _ => none) num (some ⟨⟨0, 0, 0⟩, 1⟩) ∧ An q (En2 0) 0 1 ∧ q.atoms.length ≤ 2 := by
  have ha := atom_first (s := s) (p := start) r.at (by decide)
  have r1 : Rest s 1 (rgL num ++ (decL d ++ t)) := r.next
  obtain ⟨g1, g2, j, g3, g4⟩ := ring_num (s := s) (p := { start with pos := 1, atoms := [cA 0] }) 0 hn r1
  have hr : ring s 0 { start with pos := 1, atoms := [cA 0] } = .ok { start with pos := j, atoms := [cA 0], rings := setRing (fun _ => none) num (some ⟨⟨0, 0, 0⟩, 1⟩) } := by
    unfold ring
    rw [g2]
    simp only []
    rw [g3]
    rfl
  have hrs := rings_one (n := s.size) g1 hr (no_ring (dec_next ht g4))
  obtain ⟨q, b1, b2, b3, b4⟩ := hang_all (n := n) (m := s.size) (a := 0) (p := { start with pos := j, atoms := [cA 0], rings := setRing (fun _ => none) num (some ⟨⟨0, 0, 0⟩, 1⟩) }) d g4 ht (by simp) (by simp)
  have A0 : An { start with pos := j, atoms := [cA 0], rings := setRing (fun _ => none) num (some ⟨⟨0, 0, 0⟩, 1⟩) } (En2 0) 0 1 := by
    refine ⟨by simp, by simp [start], ?_, ?_, rfl, rfl, rfl, fun _ => none, ?_, ?_, ?_, ?_⟩
    · intro x a hx _
      match x, hx with
      | 0, hx =>
        simp at hx
        subst hx
        exact ⟨rfl, rfl, rfl, .inl rfl⟩
      | x + 1, hx => simp at hx
    · intro x a hx ha
      match x, hx with
      | 0, hx =>
        simp at hx
        subst hx
        cases ha
      | x + 1, hx => simp at hx
    · intro x y h; cases h
    · intro x y h; cases h
    · intro x y h; cases h
    · intro x hx
      match x, hx with
      | 0, _ => simp
      | x + 1, hx =>
        obtain ⟨a, h1, _⟩ := aro_at.1 hx
        simp at h1
  refine ⟨q, ?_, b2, b3, A0.hang rfl b4, ?_⟩
  · unfold knot
    rw [ha]
    simp only []
    have e1 : ({ start with pos := start.pos + 1, atoms := start.atoms ++ [cA start.pos] } : St) = { start with pos := 1, atoms := [cA 0] } := rfl
    rw [e1]
    have e2 : start.atoms.length = 0 := rfl
    rw [e2, hrs]
    simp only []
    rw [b1]
  · rcases b4 with ⟨h, _⟩ | ⟨_, _, _, h, _⟩
    · rw [h]; simp
    · rw [h]; simp

theorem link_c {s : ByteArray} {p : St} {a : Nat} (h : byteAt s p.pos = 99) : link s a p = .ok (⟨0, 0, a⟩, p) := by
  unfold link bondEnd
  simp only [h]
  rfl

theorem next_unit {s : ByteArray} {n d last i : Nat} {p : St} {t : List UInt8} (ht : Nx t) (r : Rest s p.pos (99 :: (decL d ++ t))) (A : An p (En2 last) last i) (hl : p.atoms.length ≤ 22) :
    ∃ q, linkedKnot s (chain s (n + 1)) last p = .ok (p.atoms.length, q) ∧ Rest s q.pos t ∧ q.rings = p.rings ∧ An q (En2 p.atoms.length) p.atoms.length (i + 1) ∧ q.atoms.length ≤ p.atoms.length + 2 := by
  have hpos := A.pos
  have ha := atom_next (s := s) (p := p) (a := last) r.at (by omega) A.la A.pos
  have r1 := r.next
  obtain ⟨A1, hs⟩ := A.atom (q := { p with pos := p.pos + 1, atoms := p.atoms ++ [cA p.pos], bonds := p.bonds ++ [⟨last, p.atoms.length, 4, p.pos⟩] }) (by unfold En2; split <;> simp) rfl rfl
  have he : (fun x => if x = p.atoms.length then (1 : Int) else if x = last then En2 last x - 1 else En2 last x) = En2 p.atoms.length := by
    funext x
    unfold En2
    by_cases h1 : x = p.atoms.length
    · rw [if_pos h1, if_neg (by omega), if_pos h1]; rfl
    · rw [if_neg h1]
      by_cases h2 : x = last
      · rw [if_pos h2, if_pos h2, if_neg h1]; omega
      · rw [if_neg h2, if_neg h2, if_neg h1]
  rw [he] at A1
  obtain ⟨q, b1, b2, b3, b4⟩ := hang_all (n := n) (m := s.size) (a := p.atoms.length) (p := { p with pos := p.pos + 1, atoms := p.atoms ++ [cA p.pos], bonds := p.bonds ++ [⟨last, p.atoms.length, 4, p.pos⟩] }) d r1 ht (by simp) (by simp; omega)
  refine ⟨q, ?_, b2, b3, A1.hang (by rw [hs]; unfold En2; rw [if_neg (by omega), if_pos rfl]; rfl) b4, ?_⟩
  · unfold linkedKnot
    rw [link_c r.at]
    simp only []
    unfold knot
    rw [ha]
    simp only []
    rw [rings_stop (no_ring (dec_next ht r1))]
    simp only []
    rw [b1]
  · rcases b4 with ⟨h, _⟩ | ⟨_, _, _, h, _⟩
    · rw [h]; simp
    · rw [h]; simp

theorem last_unit {s : ByteArray} {n d last i num : Nat} {p : St} (hn : num < 100) (r : Rest s p.pos (99 :: (rgL num ++ (decL d ++ [])))) (A : An p (En2 last) last i) (hl : p.atoms.length ≤ 22) (hne : last ≠ 0) (hr : p.rings num = some ⟨⟨0, 0, 0⟩, 1⟩) :
    ∃ q, linkedKnot s (chain s (n + 1)) last p = .ok (p.atoms.length, q) ∧ Rest s q.pos [] ∧ q.rings = setRing p.rings num none ∧ An q (fun _ => 0) p.atoms.length (i + 1) ∧ q.atoms.length ≤ p.atoms.length + 2 := by
  have hpos := A.pos
  have ha := atom_next (s := s) (p := p) (a := last) r.at (by omega) A.la A.pos
  have r1 := r.next
  obtain ⟨A1, hs⟩ := A.atom (q := { p with pos := p.pos + 1, atoms := p.atoms ++ [cA p.pos], bonds := p.bonds ++ [⟨last, p.atoms.length, 4, p.pos⟩] }) (by unfold En2; split <;> simp) rfl rfl
  obtain ⟨g1, g2, j, g3, g4⟩ := ring_num (s := s) (p := { p with pos := p.pos + 1, atoms := p.atoms ++ [cA p.pos], bonds := p.bonds ++ [⟨last, p.atoms.length, 4, p.pos⟩] }) p.atoms.length hn r1
  have hnb : bonded (p.bonds ++ [⟨last, p.atoms.length, 4, p.pos⟩]) 0 p.atoms.length = false := by
    unfold bonded
    rw [List.any_eq_false]
    intro b hb
    rw [List.mem_append, List.mem_singleton] at hb
    simp only [Bool.or_eq_true, Bool.and_eq_true, beq_iff_eq]
    rcases hb with hb | rfl
    · have := A.ends b hb
      omega
    · simp only
      omega
  have hcl : closeRing ⟨0, 0, 0⟩ ⟨0, 0, p.atoms.length⟩ (p.pos + 1) { p with pos := j, atoms := p.atoms ++ [cA p.pos], bonds := p.bonds ++ [⟨last, p.atoms.length, 4, p.pos⟩], rings := setRing p.rings num none } = .ok { p with pos := j, atoms := p.atoms ++ [cA p.pos], bonds := p.bonds ++ [⟨last, p.atoms.length, 4, p.pos⟩] ++ [⟨0, p.atoms.length, 4, p.pos + 1⟩], rings := setRing p.rings num none } := by
    have a0 : aro { p with pos := j, atoms := p.atoms ++ [cA p.pos], bonds := p.bonds ++ [⟨last, p.atoms.length, 4, p.pos⟩], rings := setRing p.rings num none } 0 = true := A1.zero
    have a1 : aro { p with pos := j, atoms := p.atoms ++ [cA p.pos], bonds := p.bonds ++ [⟨last, p.atoms.length, 4, p.pos⟩], rings := setRing p.rings num none } (p.atoms.length : Int) = true := A1.la
    unfold closeRing
    rw [if_neg (by simp), if_neg (by simp), if_neg]
    · simp only [order, given, a0, a1]
      unfold bind
      simp
    · simp only [not_or]
      refine ⟨by omega, ?_, by decide⟩
      show ¬ bonded (p.bonds ++ [⟨last, p.atoms.length, 4, p.pos⟩]) 0 (p.atoms.length : Int).toNat = true
      rw [Int.toNat_natCast, hnb]
      decide
  have hr2 : Bz.ring s p.atoms.length { p with pos := p.pos + 1, atoms := p.atoms ++ [cA p.pos], bonds := p.bonds ++ [⟨last, p.atoms.length, 4, p.pos⟩] } = .ok { p with pos := j, atoms := p.atoms ++ [cA p.pos], bonds := p.bonds ++ [⟨last, p.atoms.length, 4, p.pos⟩] ++ [⟨0, p.atoms.length, 4, p.pos + 1⟩], rings := setRing p.rings num none } := by
    unfold Bz.ring
    rw [g2]
    simp only []
    rw [g3]
    simp only []
    rw [hr]
    exact hcl
  have ht : Nx [] := .inl rfl
  have hrs := rings_one (n := s.size) g1 hr2 (no_ring (dec_next ht g4))
  obtain ⟨A2, hs2⟩ := A1.close (q := { p with pos := j, atoms := p.atoms ++ [cA p.pos], bonds := p.bonds ++ [⟨last, p.atoms.length, 4, p.pos⟩] ++ [⟨0, p.atoms.length, 4, p.pos + 1⟩], rings := setRing p.rings num none }) (pl := p.pos + 1) (by rw [if_neg (by omega), if_neg (by omega)]; unfold En2; rw [if_pos rfl, if_neg (by omega)]; rfl) (by rw [if_pos rfl]) (by omega) rfl rfl
  have he : (fun x => if x = 0 ∨ x = p.atoms.length then (0 : Int) else if x = p.atoms.length then (1 : Int) else if x = last then En2 last x - 1 else En2 last x) = fun _ => 0 := by
    funext x
    unfold En2
    by_cases h1 : x = 0 ∨ x = p.atoms.length
    · rw [if_pos h1]
    · have h3 : ¬ x = 0 := by omega
      have h4 : ¬ x = p.atoms.length := by omega
      rw [if_neg h1, if_neg h4]
      by_cases h2 : x = last
      · rw [if_pos h2, if_neg h3, if_pos h2]; rfl
      · rw [if_neg h2, if_neg h3, if_neg h2]; rfl
  rw [he] at A2
  obtain ⟨q, b1, b2, b3, b4⟩ := hang_all (n := n) (m := s.size) (a := p.atoms.length) (p := { p with pos := j, atoms := p.atoms ++ [cA p.pos], bonds := p.bonds ++ [⟨last, p.atoms.length, 4, p.pos⟩] ++ [⟨0, p.atoms.length, 4, p.pos + 1⟩], rings := setRing p.rings num none }) d g4 ht (by simp) (by simp; omega)
  refine ⟨q, ?_, b2, b3, A2.hang (by rw [hs2, hs]; rfl) b4, ?_⟩
  · unfold linkedKnot
    rw [link_c r.at]
    simp only []
    unfold knot
    rw [ha]
    simp only []
    rw [hrs]
    simp only []
    rw [b1]
  · rcases b4 with ⟨h, _⟩ | ⟨_, _, _, h, _⟩
    · rw [h]; simp
    · rw [h]; simp

def tailL (num : Nat) : List Nat → List UInt8
  | [] => []
  | [d] => 99 :: (rgL num ++ (decL d ++ []))
  | d :: e :: ds => 99 :: (decL d ++ tailL num (e :: ds))

theorem tail_nx (num : Nat) (ds : List Nat) : Nx (tailL num ds) := by
  match ds with
  | [] => exact .inl rfl
  | [d] => exact .inr ⟨_, rfl⟩
  | d :: e :: ds => exact .inr ⟨_, rfl⟩

theorem linked_all {s : ByteArray} {n num : Nat} (hn : num < 100) : ∀ (ds : List Nat) (m last i : Nat) (p : St), ds ≠ [] → ds.length ≤ m → Rest s p.pos (tailL num ds) → An p (En2 last) last i → p.atoms.length ≤ 2 * i → i + ds.length ≤ 12 → (last ≠ 0 ∨ 2 ≤ ds.length) → p.rings = setRing (fun _ => none) num (some ⟨⟨0, 0, 0⟩, 1⟩) →
    ∃ q la, linked s (chain s (n + 1)) m last p = .ok q ∧ Rest s q.pos [] ∧ (∀ k, q.rings k = none) ∧ An q (fun _ => 0) la (i + ds.length) ∧ q.atoms.length ≤ 2 * (i + ds.length) := by
  intro ds
  induction ds with
  | nil => intro _ _ _ _ h; exact absurd rfl h
  | cons d ds ih =>
    intro m last i p _ hm r A hl hi h2 hr
    cases ds with
    | nil =>
      simp only [List.length_cons, List.length_nil] at *
      obtain ⟨q, b1, b2, b3, b4, b5⟩ := last_unit (n := n) hn r A (by omega) (by omega) (by rw [hr]; unfold setRing; simp)
      have hr0 : Rest s p.pos (99 :: (rgL num ++ (decL d ++ []))) := r
      refine ⟨q, p.atoms.length, ?_, b2, ?_, b4, by omega⟩
      · match m, hm with
        | m + 1, _ =>
          rw [linked, if_pos ⟨hr0.lt, by rw [hr0.at]; decide⟩, b1]
          simp only []
          refine linked_stop ?_
          have := b2.end
          omega
      · intro k
        rw [b3, hr]
        unfold setRing
        split <;> rfl
    | cons e ds =>
      simp only [List.length_cons] at *
      have hr0 : Rest s p.pos (99 :: (decL d ++ tailL num (e :: ds))) := r
      obtain ⟨q, b1, b2, b3, b4, b5⟩ := next_unit (n := n) (tail_nx num (e :: ds)) hr0 A (by omega)
      have hpos := A.pos
      match m, hm with
      | m + 1, hm =>
        obtain ⟨q2, la, c1, c2, c3, c4, c5⟩ := ih m p.atoms.length (i + 1) q (by simp) (by omega) b2 b4 (by omega) (by omega) (.inl (by omega)) (b3.trans hr)
        refine ⟨q2, la, ?_, c2, c3, by rw [show i + (ds.length + 1 + 1) = i + 1 + (ds.length + 1) by omega]; exact c4, by omega⟩
        rw [linked, if_pos ⟨hr0.lt, by rw [hr0.at]; decide⟩, b1]
        exact c1

theorem left_none {f : Nat → Option Opn} (h : ∀ k, f k = none) (d : Nat) : ∀ n, leftmost f d n = d
  | 0 => rfl
  | n + 1 => by rw [leftmost, h n]; exact left_none h d n

theorem wrong_none {b : List Bnd} : ∀ {l : List Atm} {i : Nat}, (∀ j a, l[j]? = some a → wrong b (i + j) a = false) → firstWrong b i l = none
  | [], _, _ => rfl
  | a :: l, i, h => by
    have h0 := h 0 a rfl
    rw [Nat.add_zero] at h0
    rw [firstWrong, h0]
    simp only [Bool.false_eq_true, if_false]
    exact wrong_none fun j x hx => by
      have := h (j + 1) x (by simpa using hx)
      rwa [show i + (j + 1) = i + 1 + j by omega] at this

/-- What is known of such a ring's molecule. -/
structure AnnIs (q : St) (k : Nat) (last : Nat) (m : Nat → Option Nat) : Prop where
  orders : ∀ b ∈ q.bonds, b.o = 1 ∨ b.o = 4
  ring : ∀ x a, q.atoms[x]? = some a → a.aro = true → a.el = ⟨#[67]⟩ ∧ a.ch = 0 ∧ sum q.bonds x + a.hy = 3
  count : cnt q.atoms.length (fun x => aro q x) = k
  len : q.atoms.length ≤ 24
  la : aro q last = true
  way : Way q m last k

theorem ann_parse {s : ByteArray} {num d : Nat} {ds : List Nat} (hn : num < 100) (h2 : 2 ≤ ds.length) (h11 : ds.length ≤ 11) (hs : s.size ≤ 160) (r : Rest s 0 (99 :: (rgL num ++ (decL d ++ tailL num ds)))) :
    ∃ ats l, parse s = .ok (ats, l) ∧ ∀ q : St, q.atoms = ats → q.bonds = l → ∃ la m, AnnIs q (ds.length + 1) la m := by
  have hsz : ds.length ≤ s.size := by
    have h1 := r.len (Nat.zero_le _)
    have : ∀ ds : List Nat, ds.length ≤ (tailL num ds).length := by
      intro ds
      induction ds with
      | nil => simp
      | cons d ds ih =>
        cases ds with
        | nil => simp [tailL]
        | cons e ds => simp only [tailL, List.length_cons, List.length_append] at *; omega
    have := this ds
    simp only [List.length_cons, List.length_append] at h1
    omega
  match hss : s.size with
  | 0 => omega
  | z + 1 =>
  obtain ⟨q1, a1, a2, a3, a4, a5⟩ := first_unit (n := z) hn (tail_nx num ds) r
  obtain ⟨q2, la, b1, b2, b3, b4, b5⟩ := linked_all (n := z) hn ds (s.size + 1) 0 1 q1 (by rintro rfl; simp at h2) (by omega) a2 a4 (by omega) (by omega) (.inr h2) a3
  have hc : chain s (s.size + 1) ⟨0, 0, -1⟩ start = .ok q2 := by
    rw [chain, show chain s s.size = chain s (z + 1) by rw [hss], a1]
    simp only []
    exact b1
  have hy : ∀ j a, (q2.atoms.mapIdx (withHydrogens q2.bonds))[j]? = some a → ∃ a0, q2.atoms[j]? = some a0 ∧ a = withHydrogens q2.bonds j a0 := by
    intro j a hj
    rw [List.getElem?_mapIdx] at hj
    cases h0 : q2.atoms[j]? with
    | none => rw [h0] at hj; cases hj
    | some a0 => rw [h0] at hj; cases hj; exact ⟨a0, rfl, rfl⟩
  have hring : ∀ j a, (q2.atoms.mapIdx (withHydrogens q2.bonds))[j]? = some a → a.aro = true → a.el = ⟨#[67]⟩ ∧ a.ch = 0 ∧ sum q2.bonds j + a.hy = 3 := by
    intro j a hj haa
    obtain ⟨a0, h1, rfl⟩ := hy j a hj
    have har : a0.aro = true := by unfold withHydrogens at haa; split at haa <;> exact haa
    obtain ⟨c1, c2, c3, c4⟩ := b4.ring j a0 h1 har
    unfold withHydrogens
    rw [if_neg (by rw [c3]; decide)]
    refine ⟨c1, c2, ?_⟩
    show sum q2.bonds j + implied a0 (sum q2.bonds j) = 3
    unfold implied
    rw [if_pos har, if_pos c1]
    omega
  have hon : ∀ j a, (q2.atoms.mapIdx (withHydrogens q2.bonds))[j]? = some a → wrong q2.bonds j a = false := by
    intro j a hj
    cases haa : a.aro with
    | true =>
      obtain ⟨c1, c2, c3⟩ := hring j a hj haa
      unfold wrong
      rw [haa, c1, c2, c3]
      rfl
    | false =>
      obtain ⟨a0, h1, rfl⟩ := hy j a hj
      have har : a0.aro = false := by unfold withHydrogens at haa; split at haa <;> exact haa
      obtain ⟨c1, c2, c3, c4⟩ := b4.on j a0 h1 har
      unfold withHydrogens
      rw [if_neg (by rw [c3]; decide)]
      unfold wrong implied
      simp only [har, c2, c4, Bool.false_eq_true, if_false]
      rcases c1 with h | h | h | h <;> rw [h] <;> decide
  refine ⟨q2.atoms.mapIdx (withHydrogens q2.bonds), q2.bonds, ?_, ?_⟩
  · unfold parse
    rw [if_neg (by omega), hc]
    simp only []
    rw [if_neg (by have := b2.end; omega), left_none b3, if_neg (by omega), wrong_none (i := 0) fun j a hj => by rw [Nat.zero_add]; exact hon j a hj]
  · intro q hqa hqb
    have har : ∀ x : Nat, aro q x = aro q2 x := by
      intro x
      unfold aro
      simp only [Int.toNat_natCast]
      rw [hqa, List.getElem?_mapIdx]
      cases q2.atoms[x]? with
      | none => rfl
      | some a =>
        simp only [Option.map_some]
        unfold withHydrogens
        split <;> rfl
    obtain ⟨m, w⟩ := b4.way
    refine ⟨la, m, by rw [hqb]; exact fun b hb => (b4.ends b hb).2.2, by rw [hqa, hqb]; exact hring, ?_, ?_, by rw [har]; exact b4.la, ?_⟩
    · have hl : q.atoms.length = q2.atoms.length := by rw [hqa, List.length_mapIdx]
      rw [hl]
      simp only [har]
      rw [b4.count]
      omega
    · rw [hqa, List.length_mapIdx]; omega
    · rw [show ds.length + 1 = 1 + ds.length by omega]
      exact ⟨w.sym, by rw [hqb]; exact w.bond, fun x y h => by rw [har]; exact w.ar x y h, fun x hx => w.all x (by rw [← har]; exact hx)⟩
end Go.Proofs.YtcabaecbmkgclaaGreatDoor.Bz

namespace Go.Proofs.YtcabaecbmkgclaaGreatDoor
open Bz

/-- The ring numbers that are open. -/
def RI (t : ByteArray) (p : St) : Prop := ∀ k o, p.rings k = some o → k < 100 ∧ o.place < t.size

section
variable {t : ByteArray} {p q : St}

theorem number_lt {i k j : Nat} (h : ringNumber t i = .ok (k, j)) : k < 100 ∧ i < t.size := by
  unfold ringNumber at h
  have dig : ∀ {c : Int}, isDigit c = true → 48 ≤ c ∧ c ≤ 57 := fun {c} h => by
    unfold isDigit at h
    simpa using h
  split at h
  · rename_i h37
    have hlt : i < t.size := lt_of_byteAt (by omega)
    split at h
    · rename_i hd
      split at h
      · rename_i hd2
        have := dig hd
        have := dig hd2
        cases h
        exact ⟨by omega, hlt⟩
      · cases h
    · cases h
  · split at h
    · rename_i hd
      have := dig hd
      cases h
      exact ⟨by omega, lt_of_byteAt (by omega)⟩
    · cases h

theorem bondEnd_ri {a : Nat} {g : Hung} (h : bondEnd t a p = .ok (g, q)) (r : RI t p) : RI t q := by
  unfold bondEnd at h
  simp only at h
  split at h
  · split at h
    · cases h
    · cases h; exact r
  · cases h; exact r

theorem link_ri {a : Nat} {g : Hung} (h : link t a p = .ok (g, q)) (r : RI t p) : RI t q := by
  unfold link at h
  split at h
  · cases h; exact r
  · exact bondEnd_ri h r

theorem atom_ri {a : Nat} {g : Hung} (h : atom t g p = .ok (a, q)) (r : RI t p) : RI t q := by
  unfold atom at h
  simp only at h
  split at h
  · split at h <;> cases h
  split at h
  · cases h
  split at h
  · cases h
  split at h
  · cases h
  simp only [Except.ok.injEq, Prod.mk.injEq] at h
  rw [← h.2]
  split
  · exact r
  · exact r

theorem close_ri {f l : Hung} {pl : Nat} (h : closeRing f l pl p = .ok q) (r : RI t p) : RI t q := by
  unfold closeRing at h
  simp only at h
  split at h
  · cases h
  split at h
  · cases h
  split at h
  · cases h
  cases h
  exact r

theorem ring_ri {a : Nat} (h : ring t a p = .ok q) (r : RI t p) : RI t q := by
  unfold ring at h
  split at h
  · cases h
  rename_i g p1 he
  have r1 := bondEnd_ri he r
  split at h
  · cases h
  rename_i k j hn
  obtain ⟨k1, k2⟩ := number_lt hn
  split at h
  · cases h
    intro x o hx
    simp only [setRing] at hx
    split at hx
    · rename_i e
      cases hx
      exact ⟨by omega, k2⟩
    · exact r1 x o hx
  · refine close_ri h ?_
    intro x o hx
    simp only [setRing] at hx
    split at hx
    · cases hx
    · exact r1 x o hx

theorem rings_ri {a : Nat} : ∀ (n : Nat) {p q : St}, ringsOf t a n p = .ok q → RI t p → RI t q
  | 0, p, q, h, r => by simp only [ringsOf, Except.ok.injEq] at h; subst h; exact r
  | n + 1, p, q, h, r => by
    rw [ringsOf] at h
    split at h
    · split at h
      · cases h
      · rename_i hk
        exact rings_ri n h (ring_ri hk r)
    · cases h; exact r

def CRI (t : ByteArray) (c : Hung → St → R St) : Prop := ∀ h p q, c h p = .ok q → RI t p → RI t q

theorem branch_ri {c : Hung → St → R St} (hc : CRI t c) {a : Nat} (h : branch t c a p = .ok q) (r : RI t p) : RI t q := by
  unfold branch at h
  split at h
  · cases h
  rename_i hl
  split at h
  · cases h
  rename_i hk
  split at h
  · cases h
    have := hc _ _ _ hk (link_ri hl r)
    exact this
  · cases h

theorem branches_ri {c : Hung → St → R St} (hc : CRI t c) {a : Nat} : ∀ (n : Nat) {p q : St}, branches t c a n p = .ok q → RI t p → RI t q
  | 0, p, q, h, r => by simp only [branches, Except.ok.injEq] at h; subst h; exact r
  | n + 1, p, q, h, r => by
    rw [branches] at h
    split at h
    · split at h
      · cases h
      · rename_i hk
        exact branches_ri hc n h (branch_ri hc hk r)
    · cases h; exact r

theorem knot_ri {c : Hung → St → R St} (hc : CRI t c) {g : Hung} {a : Nat} (h : knot t c g p = .ok (a, q)) (r : RI t p) : RI t q := by
  unfold knot at h
  split at h
  · cases h
  rename_i h1
  split at h
  · cases h
  rename_i h2
  split at h
  · cases h
  rename_i h3
  cases h
  exact branches_ri hc _ h3 (rings_ri _ h2 (atom_ri h1 r))

theorem linked_ri {c : Hung → St → R St} (hc : CRI t c) : ∀ (n : Nat) {a : Nat} {p q : St}, Bz.linked t c n a p = .ok q → RI t p → RI t q
  | 0, a, p, q, h, r => by simp only [Bz.linked, Except.ok.injEq] at h; subst h; exact r
  | n + 1, a, p, q, h, r => by
    rw [Bz.linked] at h
    split at h
    · split at h
      · cases h
      · rename_i hk
        refine linked_ri hc n h ?_
        unfold linkedKnot at hk
        split at hk
        · cases hk
        · rename_i hl
          exact knot_ri hc hk (link_ri hl r)
    · cases h; exact r

theorem chain_ri : ∀ n, CRI t (chain t n)
  | 0 => by intro h p q hr; simp [chain] at hr
  | n + 1 => by
    intro h p q hr r
    rw [chain] at hr
    split at hr
    · cases hr
    · rename_i hk
      exact linked_ri (chain_ri n) _ hr (knot_ri (chain_ri n) hk r)
end

theorem left_le {f : Nat → Option Opn} {d : Nat} : ∀ {n k : Nat} {o : Opn}, k < n → f k = some o → leftmost f d n ≤ o.place
  | 0, k, o, hk, _ => by omega
  | n + 1, k, o, hk, h => by
    by_cases hkn : k = n
    · subst hkn
      rw [leftmost, h]
      exact Nat.min_le_right _ _
    · have := left_le (d := d) (n := n) (by omega) h
      rw [leftmost]
      split
      · exact Nat.le_trans (Nat.min_le_left _ _) this
      · exact this

theorem none_wrong {b : List Bnd} : ∀ {l : List Atm} {i : Nat}, firstWrong b i l = none → ∀ j a, l[j]? = some a → wrong b (i + j) a = false
  | [], _, _, j, a, h => by simp at h
  | x :: l, i, h, j, a, hj => by
    rw [firstWrong] at h
    split at h
    · cases h
    · rename_i hw
      match j, hj with
      | 0, hj =>
        simp at hj
        subst hj
        simpa using hw
      | j + 1, hj =>
        have := none_wrong h j a (by simpa using hj)
        rwa [show i + (j + 1) = i + 1 + j by omega]

/-- What a reading that comes to an end came to. -/
structure Came (t : ByteArray) (ats : List Atm) (l : List Bnd) (q : St) : Prop where
  size : t.size ≤ 160
  run : chain t (t.size + 1) ⟨0, 0, -1⟩ Bz.start = .ok q
  pos : t.size ≤ q.pos
  rings : ∀ k, q.rings k = none
  atoms : ats = q.atoms.mapIdx (withHydrogens q.bonds)
  bonds : l = q.bonds
  right : ∀ j a, ats[j]? = some a → wrong l j a = false

theorem came {t : ByteArray} {ats : List Atm} {l : List Bnd} (h : parse t = .ok (ats, l)) : ∃ q, Came t ats l q := by
  unfold parse at h
  split at h
  · cases h
  rename_i hs
  split at h
  · cases h
  rename_i q hq
  split at h
  · cases h
  rename_i hp
  split at h
  · cases h
  rename_i hl
  simp only at h
  split at h
  · cases h
  rename_i hw
  simp only [Except.ok.injEq, Prod.mk.injEq] at h
  obtain ⟨h1, h2⟩ := h
  refine ⟨q, by omega, hq, by omega, fun k => ?_, h1.symm, h2.symm, ?_⟩
  · cases hk : q.rings k with
    | none => rfl
    | some o =>
      have := chain_ri (t := t) _ _ _ _ hq (fun _ _ h => by cases h) k o hk
      have := left_le (d := t.size) this.1 hk
      omega
  · intro j a hj
    rw [← h1] at hj
    rw [← h2]
    have := none_wrong hw j a hj
    rwa [Nat.zero_add] at this

theorem sum_app (l m : List Bnd) (x : Nat) : sum (l ++ m) x = sum l x + sum m x := by
  unfold sum
  rw [List.map_append, List.sum_append]

theorem sum_shift (l : List Bnd) (n D x : Nat) : sum (l.map (shB n D)) (x + n) = sum l x := by
  unfold sum
  rw [List.map_map]
  congr 1
  apply List.map_congr_left
  intro b _
  show (if b.a + n = x + n ∨ b.b + n = x + n then (if b.o = 4 then 1 else b.o) else 0) = _
  by_cases h : b.a = x ∨ b.b = x
  · rw [if_pos h, if_pos (by omega)]
  · rw [if_neg h, if_neg (by omega)]

theorem sum_low (l : List Bnd) (n D x : Nat) (h : x < n) : sum (l.map (shB n D)) x = 0 := by
  induction l with
  | nil => rfl
  | cons b l ih =>
    unfold sum at ih ⊢
    rw [List.map_cons, List.map_cons, List.sum_cons, ih]
    show (if b.a + n = x ∨ b.b + n = x then (if b.o = 4 then 1 else b.o) else 0) + 0 = 0
    rw [if_neg (by omega)]
    rfl

theorem wrong_sh (l m : List Bnd) (i j D : Nat) (a : Atm) (h : sum l i = sum m j) : wrong l i (shA D a) = wrong m j a := by
  unfold wrong shA
  simp only [h]
theorem wrong_eq (l m : List Bnd) (i j : Nat) (a : Atm) (h : sum l i = sum m j) : wrong l i a = wrong m j a := by
  unfold wrong
  simp only [h]
theorem hyd_sh (l m : List Bnd) (i j D : Nat) (a : Atm) (h : sum l i = sum m j) : withHydrogens l i (shA D a) = shA D (withHydrogens m j a) := by
  unfold withHydrogens shA
  simp only [h]
  split <;> rfl
theorem hyd_eq (l m : List Bnd) (i j : Nat) (a : Atm) (h : sum l i = sum m j) : withHydrogens l i a = withHydrogens m j a := by
  unfold withHydrogens
  simp only [h]

theorem ok0 (t : ByteArray) : Ok t Bz.start := ⟨Nat.zero_le _, by simp [Bz.start], by simp [Bz.start], (fun n o h => by simp [Bz.start] at h), by simp [Bz.start], by simp [Bz.start], by simp [Bz.start]⟩

theorem shA_zero (a : Atm) : shA 0 a = a := by unfold shA; simp
theorem shB_zero (b : Bnd) : shB 0 0 b = b := by unfold shB; simp

/-- TWO THAT ARE APART are read one behind the other. -/
theorem apart_parse {t1 t2 s : ByteArray} {a1 a2 : List Atm} {l1 l2 : List Bnd} (E1 : Emb t1 s 0) (h46 : byteAt s t1.size = 46) (E2 : Emb t2 s (t1.size + 1)) (hsz : s.size = t1.size + 1 + t2.size) (hs : s.size ≤ 160) (hn : a1.length + a2.length ≤ 24) (hB : ∀ b ∈ l1, b.a < a1.length ∧ b.b < a1.length) (h1 : parse t1 = .ok (a1, l1)) (h2 : parse t2 = .ok (a2, l2)) :
    parse s = .ok (a1 ++ a2.map (shA (t1.size + 1)), l1 ++ l2.map (shB a1.length (t1.size + 1))) := by
  obtain ⟨q1, c1⟩ := came h1
  obtain ⟨q2, c2⟩ := came h2
  have ea1 : a1.length = q1.atoms.length := by rw [c1.atoms, List.length_mapIdx]
  have ea2 : a2.length = q2.atoms.length := by rw [c2.atoms, List.length_mapIdx]
  obtain ⟨x1, P1, y1, M1, Q1, f1, f2, f3, f4, f5⟩ := part_sim (A := []) (B := []) (D := 0) (P := Bz.start) (H := ⟨0, 0, -1⟩) (N := s.size) (F := s.size + 1) E1 (by simp) (ok0 t1) ⟨rfl, rfl, rfl, fun k => .inl ⟨rfl, rfl⟩⟩ ⟨rfl, .inl ⟨rfl, rfl⟩⟩ (by omega) (by omega) (by simp; omega) c1.run
  have hq1 : q1.pos = t1.size := Nat.le_antisymm f5.pos c1.pos
  have hQ1p : Q1.pos = t1.size := by rw [f3.pos, hq1]; omega
  have hQ1a : Q1.atoms = q1.atoms := by
    rw [f3.atoms, List.nil_append]
    exact (List.map_congr_left fun a _ => shA_zero a).trans (List.map_id' _)
  have hQ1b : Q1.bonds = q1.bonds := by
    rw [f3.bonds, List.nil_append]
    exact (List.map_congr_left fun a _ => shB_zero a).trans (List.map_id' _)
  have hQ1r : ∀ k, Q1.rings k = none := fun k => by
    rcases f3.rings k with ⟨_, h⟩ | ⟨o, O, h, _⟩
    · exact h
    · rw [c1.rings k] at h; cases h
  match M1, f4, f2 with
  | M1 + 1, f4, f2 =>
  have hB' : ∀ b ∈ q1.bonds, b.a < q1.atoms.length ∧ b.b < q1.atoms.length := by rw [← c1.bonds, ← ea1]; exact hB
  obtain ⟨x2, P2, y2, M2, Q2, g1, g2, g3, g4, g5⟩ := part_sim (A := q1.atoms) (B := q1.bonds) (D := t1.size + 1) (P := { Q1 with pos := t1.size + 1 }) (H := ⟨0, 0, -1⟩) (N := s.size) (F := M1) E2 hB' (ok0 t2) ⟨rfl, by simp only [hQ1a]; simp [Bz.start], by simp only [hQ1b]; simp [Bz.start], fun k => .inl ⟨rfl, hQ1r k⟩⟩ ⟨rfl, .inl ⟨rfl, rfl⟩⟩ (by omega) (by simp only; omega) (by omega) c2.run
  have hq2 : q2.pos = t2.size := Nat.le_antisymm g5.pos c2.pos
  have hQ2p : Q2.pos = s.size := by rw [g3.pos, hq2]; omega
  have hQ2r : ∀ k, Q2.rings k = none := fun k => by
    rcases g3.rings k with ⟨_, h⟩ | ⟨o, O, h, _⟩
    · exact h
    · rw [c2.rings k] at h; cases h
  have hrun : chain s (s.size + 1) ⟨0, 0, -1⟩ Bz.start = .ok Q2 := by
    rw [chain, f1]
    simp only
    rw [f2, Bz.linked, if_pos ⟨by omega, by rw [hQ1p, h46]; decide⟩]
    have hk : linkedKnot s (chain s s.size) y1 Q1 = .ok (x2, P2) := by
      unfold linkedKnot link
      rw [hQ1p, if_pos h46]
      exact g1
    rw [hk]
    simp only
    rw [g2]
    exact linked_halt (by omega)
  have s1 : ∀ i, i < q1.atoms.length → sum Q2.bonds i = sum q1.bonds i := fun i hi => by
    rw [g3.bonds, sum_app, sum_low _ _ _ _ hi]
    omega
  have s2 : ∀ i, sum Q2.bonds (i + q1.atoms.length) = sum q2.bonds i := fun i => by
    rw [g3.bonds, sum_app, sum_shift]
    have : sum q1.bonds (i + q1.atoms.length) = 0 := sum_out fun b hb => by have := hB' b hb; omega
    omega
  have hat : Q2.atoms.mapIdx (withHydrogens Q2.bonds) = a1 ++ a2.map (shA (t1.size + 1)) := by
    rw [g3.atoms, List.mapIdx_append]
    congr 1
    · rw [c1.atoms]
      apply List.ext_getElem?
      intro i
      rw [List.getElem?_mapIdx, List.getElem?_mapIdx]
      cases hi : q1.atoms[i]? with
      | none => rfl
      | some a => simp only [Option.map_some]; rw [hyd_eq _ _ _ _ _ (s1 i (List.getElem?_eq_some_iff.1 hi).1)]
    · rw [c2.atoms]
      apply List.ext_getElem?
      intro i
      rw [List.getElem?_mapIdx, List.getElem?_map, List.getElem?_map, List.getElem?_mapIdx]
      cases hi : q2.atoms[i]? with
      | none => rfl
      | some a => simp only [Option.map_some]; rw [hyd_sh _ _ _ _ _ _ (s2 i)]
  have hbo : Q2.bonds = l1 ++ l2.map (shB a1.length (t1.size + 1)) := by rw [g3.bonds, c1.bonds, c2.bonds, ea1]
  have hwr : firstWrong Q2.bonds 0 (a1 ++ a2.map (shA (t1.size + 1))) = none := by
    refine wrong_none (i := 0) fun j a hj => ?_
    rw [Nat.zero_add]
    by_cases hlt : j < a1.length
    · rw [List.getElem?_append_left hlt] at hj
      rw [wrong_eq _ q1.bonds _ j _ (s1 j (by omega)), ← c1.bonds]
      exact c1.right j a hj
    · rw [List.getElem?_append_right (by omega), List.getElem?_map] at hj
      cases hx : a2[j - a1.length]? with
      | none => rw [hx] at hj; cases hj
      | some b =>
        rw [hx] at hj
        cases hj
        have := s2 (j - a1.length)
        rw [show j - a1.length + q1.atoms.length = j by omega] at this
        rw [wrong_sh _ q2.bonds _ (j - a1.length) _ _ this, ← c2.bonds]
        exact c2.right _ b hx
  unfold parse
  rw [if_neg (by omega), hrun]
  simp only
  rw [if_neg (by omega), left_none hQ2r, if_neg (by omega), hat, hwr, hbo]
end Go.Proofs.YtcabaecbmkgclaaGreatDoor

namespace Go.Proofs.YtcabaecbmkgclaaGreatDoor.Kd
open Bz Mt

/-- All candidates can have a mate of their own. -/
def Perf (q : St) : Prop := ∃ m, MtOk (grL q.atoms.length (candEdges q q.bonds)) m ∧ ∀ i, i < q.atoms.length → cand q i = true → (m i).isSome = true

theorem cnt_full {n : Nat} {p q : Nat → Bool} (h : ∀ k, k < n → p k = true → q k = true) (hc : cnt n q ≤ cnt n p) : ∀ k, k < n → q k = true → p k = true := by
  induction n with
  | zero => intro k hk; omega
  | succ n ih =>
    have hm := cnt_mono (n := n) fun k hk => h k (by omega)
    have hn := h n (by omega)
    rw [cnt, cnt] at hc
    have hc' : cnt n q ≤ cnt n p ∧ (q n = true → p n = true) := by
      cases hp : p n
      · cases hq : q n
        · rw [hp, hq] at hc; simp at hc; exact ⟨hc, fun h => h⟩
        · rw [hp, hq] at hc; simp at hc; omega
      · rw [hn hp, hp] at hc; simp at hc; exact ⟨hc, fun _ => rfl⟩
    intro k hk hq
    by_cases hkn : k = n
    · subst hkn; exact hc'.2 hq
    · exact ih (fun k hk => h k (by omega)) hc'.1 k (by omega) hq

theorem perf_iff {q : St} {pos : Nat} {mate : Nat → Option Nat} {f : Fo} {h : Gh} (en : En q.atoms.length q.bonds pos) (hn : q.atoms.length ≤ 24) (hB : Best (grL q.atoms.length (candEdges q q.bonds)) mate f h) :
    ¬ 2 * (pairsF q.atoms.length mate).length < cnt q.atoms.length (cand q) ↔ Perf q := by
  have E := candEdges_ok en
  constructor
  · intro hd
    refine ⟨mate, hB.m, fun i hi hc => ?_⟩
    have h1 : 2 * (pairsF q.atoms.length mate).length + cnt q.atoms.length (fun x => (mate x).isNone) = q.atoms.length := pairs_two (E.gr hn) hB.m
    have h2 := cnt_not q.atoms.length (fun x => (mate x).isNone)
    have h3 : cnt q.atoms.length (fun k => !(mate k).isNone) = cnt q.atoms.length (fun k => (mate k).isSome) := cnt_congr fun k _ => by cases mate k <;> rfl
    exact cnt_full (p := fun k => (mate k).isSome) (q := cand q) (fun k _ hk => mate_cand hB.m hk) (by omega) i hi hc
  · rintro ⟨m, M, hall⟩
    have := best_lo E hn hB M hall
    omega

section
variable {q q1 q2 : St} {D : Nat}

structure Joint (q q1 q2 : St) (D : Nat) : Prop where
  atoms : q.atoms = q1.atoms ++ q2.atoms.map (shA D)
  bonds : q.bonds = q1.bonds ++ q2.bonds.map (shB q1.atoms.length D)
  ends : ∀ b ∈ q1.bonds, b.a < q1.atoms.length ∧ b.b < q1.atoms.length
  ends2 : ∀ b ∈ q2.bonds, b.a < q2.atoms.length ∧ b.b < q2.atoms.length

theorem Joint.cand1 (j : Joint q q1 q2 D) {i : Nat} (hi : i < q1.atoms.length) : cand q i = cand q1 i := by
  have hs : sum q.bonds i = sum q1.bonds i := by
    rw [j.bonds, sum_app, sum_low _ _ _ _ hi]
    omega
  unfold cand fill
  rw [j.atoms, List.getElem?_append_left hi, hs]

theorem Joint.cand2 (j : Joint q q1 q2 D) (i : Nat) : cand q (i + q1.atoms.length) = cand q2 i := by
  have hs : sum q.bonds (i + q1.atoms.length) = sum q2.bonds i := by
    rw [j.bonds, sum_app, sum_shift]
    have : sum q1.bonds (i + q1.atoms.length) = 0 := sum_out fun b hb => by have := j.ends b hb; omega
    omega
  unfold cand fill
  rw [j.atoms, List.getElem?_append_right (by omega), hs, Nat.add_sub_cancel, List.getElem?_map]
  cases q2.atoms[i]? <;> rfl

theorem Joint.edge (j : Joint q q1 q2 D) {x y : Nat} : (x, y) ∈ candEdges q q.bonds ↔ (x, y) ∈ candEdges q1 q1.bonds ∨ ∃ u v, (u, v) ∈ candEdges q2 q2.bonds ∧ x = u + q1.atoms.length ∧ y = v + q1.atoms.length := by
  rw [candEdges_mem, candEdges_mem]
  constructor
  · rintro ⟨b, hb, he, rfl, rfl⟩
    rw [j.bonds, List.mem_append, List.mem_map] at hb
    rcases hb with hb | ⟨c, hc, rfl⟩
    · obtain ⟨e1, e2⟩ := j.ends b hb
      unfold isEdge at he
      rw [j.cand1 e1, j.cand1 e2] at he
      exact .inl ⟨b, hb, he, rfl, rfl⟩
    · refine .inr ⟨c.a, c.b, candEdges_mem.2 ⟨c, hc, ?_, rfl, rfl⟩, rfl, rfl⟩
      unfold isEdge shB at he
      simp only [j.cand2] at he
      exact he
  · rintro (⟨b, hb, he, rfl, rfl⟩ | ⟨u, v, hm, rfl, rfl⟩)
    · obtain ⟨e1, e2⟩ := j.ends b hb
      refine ⟨b, by rw [j.bonds]; simp [hb], ?_, rfl, rfl⟩
      unfold isEdge at he ⊢
      rw [j.cand1 e1, j.cand1 e2]
      exact he
    · obtain ⟨c, hc, he, rfl, rfl⟩ := candEdges_mem.1 hm
      refine ⟨shB q1.atoms.length D c, by rw [j.bonds, List.mem_append]; exact .inr (List.mem_map.2 ⟨c, hc, rfl⟩), ?_, rfl, rfl⟩
      unfold isEdge at he ⊢
      simp only [shB, j.cand2]
      exact he

theorem Joint.in1 (j : Joint q q1 q2 D) {x y : Nat} (h : (x, y) ∈ candEdges q1 q1.bonds) : x < q1.atoms.length ∧ y < q1.atoms.length := by
  obtain ⟨b, hb, _, rfl, rfl⟩ := candEdges_mem.1 h
  exact j.ends b hb
theorem Joint.in2 (j : Joint q q1 q2 D) {x y : Nat} (h : (x, y) ∈ candEdges q2 q2.bonds) : x < q2.atoms.length ∧ y < q2.atoms.length := by
  obtain ⟨b, hb, _, rfl, rfl⟩ := candEdges_mem.1 h
  exact j.ends2 b hb

theorem Joint.adj1 (j : Joint q q1 q2 D) {x y : Nat} (hx : x < q1.atoms.length) : adjL (candEdges q q.bonds) x y = true ↔ adjL (candEdges q1 q1.bonds) x y = true := by
  rw [adjL_iff, adjL_iff, j.edge, j.edge]
  constructor
  · rintro ((h | ⟨u, v, _, h, _⟩) | (h | ⟨u, v, _, _, h⟩))
    · exact .inl h
    · omega
    · exact .inr h
    · omega
  · rintro (h | h)
    · exact .inl (.inl h)
    · exact .inr (.inl h)

theorem Joint.adj2 (j : Joint q q1 q2 D) {x y : Nat} : adjL (candEdges q q.bonds) (x + q1.atoms.length) y = true ↔ ∃ v, y = v + q1.atoms.length ∧ adjL (candEdges q2 q2.bonds) x v = true := by
  rw [adjL_iff, j.edge, j.edge]
  constructor
  · rintro ((h | ⟨u, v, h, h1, h2⟩) | (h | ⟨u, v, h, h1, h2⟩))
    · have := j.in1 h; omega
    · refine ⟨v, h2, adjL_iff.2 (.inl ?_)⟩
      rw [show x = u by omega]
      exact h
    · have := j.in1 h; omega
    · refine ⟨u, h1, adjL_iff.2 (.inr ?_)⟩
      rw [show x = v by omega]
      exact h
  · rintro ⟨v, rfl, h⟩
    rcases adjL_iff.1 h with h | h
    · exact .inl (.inr ⟨x, v, h, rfl, rfl⟩)
    · exact .inr (.inr ⟨v, x, h, rfl, rfl⟩)

theorem Joint.perf (j : Joint q q1 q2 D) : Perf q ↔ Perf q1 ∧ Perf q2 := by
  have hlen : q.atoms.length = q1.atoms.length + q2.atoms.length := by rw [j.atoms]; simp
  have lt1 : ∀ x y, adjL (candEdges q1 q1.bonds) x y = true → x < q1.atoms.length ∧ y < q1.atoms.length := fun x y h => by
    rcases adjL_iff.1 h with h | h
    · exact j.in1 h
    · exact (j.in1 h).symm
  constructor
  · rintro ⟨m, M, hall⟩
    have A : ∀ a b, m a = some b → adjL (candEdges q q.bonds) a b = true := M.adj
    refine ⟨⟨fun x => if x < q1.atoms.length then m x else none, ⟨?_, ?_⟩, ?_⟩, ⟨fun x => (m (x + q1.atoms.length)).map (· - q1.atoms.length), ⟨?_, ?_⟩, ?_⟩⟩
    · intro a b hab
      split at hab
      · rename_i ha
        exact (j.adj1 ha).1 (A a b hab)
      · cases hab
    · intro a b hab
      split at hab
      · rename_i ha
        have := lt1 a b ((j.adj1 ha).1 (A a b hab))
        rw [if_pos this.2]
        exact M.back a b hab
      · cases hab
    · intro i hi hc
      simp only
      rw [if_pos hi]
      exact hall i (by omega) (by rw [j.cand1 hi]; exact hc)
    · intro a b hab
      cases hm : m (a + q1.atoms.length) with
      | none => rw [hm] at hab; cases hab
      | some y =>
        rw [hm] at hab
        simp only [Option.map_some, Option.some.injEq] at hab
        obtain ⟨v, hv, hadj⟩ := j.adj2.1 (A _ _ hm)
        show adjL (candEdges q2 q2.bonds) a b = true
        rw [show b = v by omega]
        exact hadj
    · intro a b hab
      cases hm : m (a + q1.atoms.length) with
      | none => rw [hm] at hab; cases hab
      | some y =>
        rw [hm] at hab
        simp only [Option.map_some, Option.some.injEq] at hab
        obtain ⟨v, hv, hadj⟩ := j.adj2.1 (A _ _ hm)
        have hb := M.back _ _ hm
        rw [show b + q1.atoms.length = y by omega, hb]
        simp
    · intro i hi hc
      simp only [Option.isSome_map]
      exact hall _ (by omega) (by rw [j.cand2]; exact hc)
  · rintro ⟨⟨m1, M1, hall1⟩, ⟨m2, M2, hall2⟩⟩
    have A1 : ∀ a b, m1 a = some b → adjL (candEdges q1 q1.bonds) a b = true := M1.adj
    have A2 : ∀ a b, m2 a = some b → adjL (candEdges q2 q2.bonds) a b = true := M2.adj
    refine ⟨fun x => if x < q1.atoms.length then m1 x else (m2 (x - q1.atoms.length)).map (· + q1.atoms.length), ⟨?_, ?_⟩, ?_⟩
    · intro a b hab
      show adjL (candEdges q q.bonds) a b = true
      split at hab
      · rename_i ha
        exact (j.adj1 ha).2 (A1 a b hab)
      · rename_i ha
        cases hm : m2 (a - q1.atoms.length) with
        | none => rw [hm] at hab; cases hab
        | some y =>
          rw [hm] at hab
          simp only [Option.map_some, Option.some.injEq] at hab
          have := j.adj2.2 ⟨y, rfl, A2 _ _ hm⟩
          rw [show a - q1.atoms.length + q1.atoms.length = a by omega, hab] at this
          exact this
    · intro a b hab
      split at hab
      · rename_i ha
        rw [if_pos (lt1 a b (A1 a b hab)).2]
        exact M1.back a b hab
      · rename_i ha
        cases hm : m2 (a - q1.atoms.length) with
        | none => rw [hm] at hab; cases hab
        | some y =>
          rw [hm] at hab
          simp only [Option.map_some, Option.some.injEq] at hab
          rw [if_neg (by omega), show b - q1.atoms.length = y by omega, M2.back _ _ hm]
          simp only [Option.map_some, Option.some.injEq]
          omega
    · intro i hi hc
      simp only
      by_cases hlt : i < q1.atoms.length
      · rw [if_pos hlt]
        exact hall1 i hlt (by rw [← j.cand1 hlt]; exact hc)
      · rw [if_neg hlt, Option.isSome_map]
        refine hall2 _ (by omega) ?_
        rw [← j.cand2, show i - q1.atoms.length + q1.atoms.length = i by omega]
        exact hc
end
end Go.Proofs.YtcabaecbmkgclaaGreatDoor.Kd

namespace Go.Proofs.YtcabaecbmkgclaaGreatDoor.Kd
open Go.RowKit Bz Mt Mg Rf

/-- What came out, with its verdict. -/
structure KkOut (q : St) (w : World) (e : Ending) (w' : World) (vd : Nat) (oo : Option Addr) (on oc : Nat) (tx : ByteArray) (co : Option Addr) (cn cc : Nat) (po : Option Addr) (pn pc : Nat) (uo : Option Addr) (un uc : Nat) : Prop where
  he : e = .returned (.tuple #[.agg #[.int .i64 (vd : Int), .slice oo on oc, .string tx, .slice co cn cc, .slice po pn pc, .slice uo un uc], .int .i64 0, .int .i64 0])
  ver : (vd = 1 ∧ Perf q ∧ on = q.bonds.length) ∨ (vd = 2 ∧ ¬ Perf q)
  hb : Below w.heap.size w w'

theorem KkGood.out {s : ByteArray} {w : World} {e : Ending} {w' : World} {q : St} {mate : Nat → Option Nat} {f : Fo} {gh : Gh} (h : KkGood s w e w' q mate f gh) : ∃ vd oo on oc tx co cn cc po pn pc uo un uc, KkOut q w e w' vd oo on oc tx co cn cc po pn pc uo un uc := by
  have hn : q.atoms.length ≤ 24 := h.ho.atoms
  have hpf := perf_iff h.en hn h.best
  rcases h.case with ⟨hlow, pv, uv, hK⟩ | ⟨hlow, ov, cv, hK⟩
  · obtain ⟨he, hp, hu, hb4⟩ := hK
    obtain ⟨po, pc, rfl⟩ := ownsRow_shape hp
    obtain ⟨uo, uc, rfl⟩ := hu.shape
    exact ⟨2, none, 0, 0, ⟨#[]⟩, none, 0, 0, po, _, pc, uo, _, uc, he, .inr ⟨rfl, fun k => absurd hlow (hpf.2 k)⟩, hb4⟩
  · obtain ⟨he, ho, hcv, _, hb4⟩ := hK
    obtain ⟨oo, oc, rfl⟩ := ho.shape
    obtain ⟨co, cc, rfl⟩ := hcv.shape
    exact ⟨1, oo, _, oc, _, co, _, cc, none, 0, 0, none, 0, 0, he, .inl ⟨rfl, hpf.1 hlow, List.length_map ..⟩, hb4⟩

/-- A result in its box. -/
structure RBx (Y : Nat) (vd ov : Value) (W : World) : Prop where
  r0 : W.cell? ⟨Y, 0, none⟩ = some vd
  r1 : W.cell? ⟨Y, 1, none⟩ = some ov
  lt : Y < W.heap.size
theorem RBx.new (w : World) (a b c d e f : Value) : RBx w.heap.size a b (w.alloc (.cells #[a, b, c, d, e, f] 31)) := ⟨by simp, by simp, by simp⟩
theorem RBx.on {Y : Nat} {vd ov : Value} {W W' : World} (h : RBx Y vd ov W) (hb : Below W.heap.size W W') : RBx Y vd ov W' :=
  ⟨(hb.cell h.lt).trans h.r0, (hb.cell h.lt).trans h.r1, Nat.lt_of_lt_of_le h.lt hb.size⟩
theorem RBx.grow {Y : Nat} {vd ov : Value} {W : World} (h : RBx Y vd ov W) (o : Obj) : RBx Y vd ov (W.alloc o) := h.on ((Below.refl _ W).alloc (Nat.le_refl _) o)

def wk1 : ByteArray := ⟨#[99, 49, 99, 99, 110, 99, 49]⟩
def wk2 : ByteArray := ⟨#[99, 49, 99, 99, 91, 110, 72, 93, 99, 49]⟩
def wk3 : ByteArray := ⟨#[67, 67, 40]⟩

set_option maxRecDepth 1000000 in
theorem wk1_facts : (match Bz.parse wk1 with
  | .ok (ats, l) => cnt ats.length (cand (stOf ats l)) == 5
  | .error _ => false) = true := by decide +kernel

set_option maxRecDepth 1000000 in
theorem wk2_facts : (match Bz.parse wk2 with
  | .ok (ats, l) => ats.length == 5 && (l.length == 5 && (adjL (candEdges (stOf ats l) l) 1 2 && (adjL (candEdges (stOf ats l) l) 0 4 && !cand (stOf ats l) 3)))
  | .error _ => false) = true := by decide +kernel

set_option maxRecDepth 1000000 in
theorem wk3_facts : (match Bz.parse wk3 with
  | .ok _ => false
  | .error e => e == (2, 3)) = true := by decide +kernel

theorem wk1_bar {q : St} {pos : Nat} (h : Bz.parse wk1 = .ok (q.atoms, q.bonds)) (en : En q.atoms.length q.bonds pos) (hn : q.atoms.length ≤ 24) : ¬ Perf q := by
  have hf := wk1_facts
  rw [h] at hf
  simp only [beq_iff_eq] at hf
  have e : cand (stOf q.atoms q.bonds) = cand q := rfl
  rw [e] at hf
  rintro ⟨m, M, hall⟩
  have E := candEdges_ok en
  have h1 : 2 * (pairsF q.atoms.length m).length + cnt q.atoms.length (fun x => (m x).isNone) = q.atoms.length := pairs_two (E.gr hn) M
  have h2 := cnt_not q.atoms.length (fun x => (m x).isNone)
  have h3 : cnt q.atoms.length (fun k => !(m k).isNone) = cnt q.atoms.length (fun k => (m k).isSome) := cnt_congr fun k _ => by cases m k <;> rfl
  have h4 : cnt q.atoms.length (cand q) ≤ cnt q.atoms.length (fun k => (m k).isSome) := cnt_mono hall
  have h5 : cnt q.atoms.length (fun k => (m k).isSome) ≤ cnt q.atoms.length (cand q) := cnt_mono fun k _ hk => mate_cand M hk
  omega

def wkM (x : Nat) : Option Nat := match x with
  | 0 => some 4
  | 1 => some 2
  | 2 => some 1
  | 4 => some 0
  | _ => none

theorem wk2_perf {q : St} (h : Bz.parse wk2 = .ok (q.atoms, q.bonds)) : Perf q ∧ q.bonds.length = 5 := by
  have hf := wk2_facts
  rw [h] at hf
  simp only [Bool.and_eq_true, beq_iff_eq, Bool.not_eq_true'] at hf
  have ec : cand (stOf q.atoms q.bonds) = cand q := rfl
  have ee : candEdges (stOf q.atoms q.bonds) q.bonds = candEdges q q.bonds := rfl
  rw [ec, ee] at hf
  obtain ⟨h1, h2, h3, h4, h5⟩ := hf
  refine ⟨⟨wkM, ⟨?_, ?_⟩, ?_⟩, h2⟩
  · intro a b hab
    show adjL (candEdges q q.bonds) a b = true
    unfold wkM at hab
    split at hab
    · cases hab; exact h4
    · cases hab; exact h3
    · cases hab; rw [adjL_sym]; exact h3
    · cases hab; rw [adjL_sym]; exact h4
    · cases hab
  · intro a b hab
    unfold wkM at hab
    split at hab
    · cases hab; rfl
    · cases hab; rfl
    · cases hab; rfl
    · cases hab; rfl
    · cases hab
  · intro i hi hc
    rw [h1] at hi
    match i, hi, hc with
    | 0, _, _ => rfl
    | 1, _, _ => rfl
    | 2, _, _ => rfl
    | 3, _, hc => rw [h5] at hc; cases hc
    | 4, _, _ => rfl

set_option maxRecDepth 100000 in
set_option maxHeartbeats 4000000 in
theorem works_any (w : World) : Calls Tryz.prog 16 #[] w fun e w' => e = .returned (.bool true) ∧ Below w.heap.size w w' := by
  have P1 := fun W => kekulize_any wk1 W (by unfold maxLen; decide)
  have P2 := fun W => kekulize_any wk2 W (by unfold maxLen; decide)
  have P3 := fun W => parse_any wk3 W (by unfold maxLen; decide)
  go_enter Tryz.func16, Tryz.ntmps16
  go_wp2_with fail
  refine (P1 _).mono ?_
  clear P1
  rintro e w1 h
  rcases h with ⟨er, h, _⟩ | ⟨q, mate, f, gh, h⟩
  · exfalso
    have := wk1_facts
    rw [h] at this
    cases this
  have hbar := wk1_bar h.h h.en h.ho.atoms
  obtain ⟨vd, oo, on, oc, tx, co, cn, cc, po, pn, pc, uo, un, uc, he, hver, hb⟩ := h.out
  obtain rfl : vd = 2 := by
    rcases hver with ⟨_, hp, _⟩ | ⟨hv, _⟩
    · exact absurd hp hbar
    · exact hv
  subst he
  have HB1 : Hid (Below w.heap.size w w1) := hb
  clear h hver hbar hb
  go_wp2_with fail
  refine (P2 _).mono ?_
  clear P2
  rintro e w2 h
  rcases h with ⟨er, h, _⟩ | ⟨q2, mate2, f2, gh2, h⟩
  · exfalso
    have := wk2_facts
    rw [h] at this
    cases this
  obtain ⟨hpf, hl5⟩ := wk2_perf h.h
  obtain ⟨vd, oo2, on2, oc2, tx2, co2, cn2, cc2, po2, pn2, pc2, uo2, un2, uc2, he, hver, hb⟩ := h.out
  obtain ⟨rfl, rfl⟩ : vd = 1 ∧ on2 = 5 := by
    rcases hver with ⟨h1, _, h2⟩ | ⟨_, hv⟩
    · exact ⟨h1, by omega⟩
    · exact absurd hpf hv
  subst he
  have R1 := RBx.new w1 (.int .i64 2) (.slice oo on oc) (.string tx) (.slice co cn cc) (.slice po pn pc) (.slice uo un uc)
  have hbw : Below w.heap.size w (w1.alloc (.cells #[.int .i64 2, .slice oo on oc, .string tx, .slice co cn cc, .slice po pn pc, .slice uo un uc] 31)) := HB1.out.alloc HB1.out.size _
  have HR1 : Hid (RBx w1.heap.size (.int .i64 2) (.slice oo on oc) w2) := R1.on hb
  have HB2 : Hid (Below w.heap.size w w2) := hbw.trans (hb.mono hbw.size)
  clear h hver hb hpf hl5 R1 hbw HB1
  go_wp2_with fail
  refine (P3 _).mono ?_
  clear P3
  rintro e w3 h
  rcases h with ⟨er, h, he, hb⟩ | ⟨ats, l, v, v', h, _⟩
  rotate_left
  · exfalso
    have := wk3_facts
    rw [h] at this
    cases this
  obtain rfl : er = (2, 3) := by
    have := wk3_facts
    rw [h] at this
    simpa using this
  subst he
  have R2 := RBx.new w2 (.int .i64 1) (.slice oo2 5 oc2) (.string tx2) (.slice co2 cn2 cc2) (.slice po2 pn2 pc2) (.slice uo2 un2 uc2)
  have hbw : Below w.heap.size w (w2.alloc (.cells #[.int .i64 1, .slice oo2 5 oc2, .string tx2, .slice co2 cn2 cc2, .slice po2 pn2 pc2, .slice uo2 un2 uc2] 31)) := HB2.out.alloc HB2.out.size _
  have HR2 := R2.on hb
  have HR1' := (HR1.out.grow (.cells #[.int .i64 1, .slice oo2 5 oc2, .string tx2, .slice co2 cn2 cc2, .slice po2 pn2 pc2, .slice uo2 un2 uc2] 31)).on hb
  have HB3 : Below w.heap.size w w3 := hbw.trans (hb.mono hbw.size)
  clear h hb R2 hbw HR1 HB2
  go_upto_region 4 with fail
  obtain ⟨W, hW⟩ : ∃ W, w3.alloc (.cells #[.slice none 0 0, .slice none 0 0] 39) = W := ⟨_, rfl⟩
  have H1 := HR1'.grow (.cells #[.slice none 0 0, .slice none 0 0] 39)
  have H2 := HR2.grow (.cells #[.slice none 0 0, .slice none 0 0] 39)
  have HBW : Hid (Below w.heap.size w W) := by rw [← hW]; exact HB3.alloc HB3.size _
  rw [hW] at H1 H2 ⊢
  clear hW HR1' HR2 HB3
  have x0 := H1.r0
  have y0 := H2.r0
  have y1 := H2.r1
  clear H1 H2
  go_wp2_with fail
  go_ret
  exact ⟨rfl, HBW.out⟩
end Go.Proofs.YtcabaecbmkgclaaGreatDoor.Kd

namespace Go.Proofs.YtcabaecbmkgclaaGreatDoor.Kd
open Go.RowKit Bz Mt Mg Rf

theorem byteAt_list (s : ByteArray) (i : Nat) : byteAt s i = match s.data.toList[i]? with
    | some c => (c.toNat : Int)
    | none => 0 := by
  by_cases h : i < s.size
  · rw [byteAt_lt s i h]
    have hl : i < s.data.toList.length := by simpa using h
    rw [List.getElem?_eq_getElem hl]
    rfl
  · rw [byteAt_ge s i h, List.getElem?_eq_none (by simpa using h)]

theorem dot_emb (a b : ByteArray) : Emb a (a ++ ⟨#[46]⟩ ++ b) 0 ∧ byteAt (a ++ ⟨#[46]⟩ ++ b) a.size = 46 ∧ Emb b (a ++ ⟨#[46]⟩ ++ b) (a.size + 1) ∧ (a ++ ⟨#[46]⟩ ++ b).size = a.size + 1 + b.size := by
  have hl : (a ++ ⟨#[46]⟩ ++ b).data.toList = a.data.toList ++ 46 :: b.data.toList := by simp
  have ha : a.data.toList.length = a.size := by simp
  have hb : b.data.toList.length = b.size := by simp
  have hs : (a ++ ⟨#[46]⟩ ++ b).size = a.size + 1 + b.size := by
    rw [ByteArray.size_append, ByteArray.size_append]
    rfl
  have h1 : ∀ i, i < a.size → byteAt (a ++ ⟨#[46]⟩ ++ b) i = byteAt a i := fun i hi => by
    rw [byteAt_list, byteAt_list, hl, List.getElem?_append_left (by omega)]
  have h2 : byteAt (a ++ ⟨#[46]⟩ ++ b) a.size = 46 := by
    rw [byteAt_list, hl, List.getElem?_append_right (by omega), ha, Nat.sub_self]
    rfl
  have h3 : ∀ i, byteAt (a ++ ⟨#[46]⟩ ++ b) (a.size + 1 + i) = byteAt b i := fun i => by
    rw [byteAt_list, byteAt_list, hl, List.getElem?_append_right (by omega), ha, show a.size + 1 + i - a.size = i + 1 by omega, List.getElem?_cons_succ]
  exact ⟨⟨fun i hi => by rw [Nat.zero_add]; exact h1 i hi, .inl (by rw [Nat.zero_add]; exact h2), by omega⟩, h2, ⟨fun i _ => h3 i, .inr (by omega), by omega⟩, hs⟩

/-- What is read in both, one behind the other. -/
theorem apart_is {a b : ByteArray} {q1 q2 : St} (h1 : Bz.parse a = .ok (q1.atoms, q1.bonds)) (h2 : Bz.parse b = .ok (q2.atoms, q2.bonds)) (hs : a.size + b.size + 1 ≤ 160) (hn : q1.atoms.length + q2.atoms.length ≤ 24) :
    Bz.parse (a ++ ⟨#[46]⟩ ++ b) = .ok (q1.atoms ++ q2.atoms.map (shA (a.size + 1)), q1.bonds ++ q2.bonds.map (shB q1.atoms.length (a.size + 1))) ∧
    ∀ q : St, Bz.parse (a ++ ⟨#[46]⟩ ++ b) = .ok (q.atoms, q.bonds) → (Perf q ↔ Perf q1 ∧ Perf q2) := by
  obtain ⟨e1, e2, e3, e4⟩ := dot_emb a b
  obtain ⟨_, n1⟩ := parse_en h1
  obtain ⟨_, n2⟩ := parse_en h2
  have hB1 : ∀ x ∈ q1.bonds, x.a < q1.atoms.length ∧ x.b < q1.atoms.length := fun x hx => by have := n1.ends x hx; omega
  have hB2 : ∀ x ∈ q2.bonds, x.a < q2.atoms.length ∧ x.b < q2.atoms.length := fun x hx => by have := n2.ends x hx; omega
  have hp := apart_parse e1 e2 e3 e4 (by omega) hn hB1 h1 h2
  refine ⟨hp, fun q hq => ?_⟩
  rw [hp] at hq
  simp only [Except.ok.injEq, Prod.mk.injEq] at hq
  exact Joint.perf ⟨hq.1.symm, hq.2.symm, hB1, hB2⟩

/-- An atom of a molecule that came out. -/
theorem atom_at {w : World} {base : Nat} {va : Value} {ats : List Atm} (h : w.ownsRow base 50 4 va ats.length (ats.flatMap plainCells)) {k : Nat} {a : Atm} (hk : ats[k]? = some a) :
    ∃ g cap, va = .slice (some ⟨g, 0, none⟩) ats.length cap ∧ g < w.heap.size ∧ w.cell? ⟨g, k * 4, none⟩ = some (.string a.el) ∧ w.cell? ⟨g, k * 4 + 1, none⟩ = some (.bool a.aro) ∧ w.cell? ⟨g, k * 4 + 2, none⟩ = some (.int .i64 a.ch) ∧ w.cell? ⟨g, k * 4 + 3, none⟩ = some (.int .i64 a.hy) := by
  have hl : k < ats.length := (List.getElem?_eq_some_iff.1 hk).1
  obtain ⟨g, cap, rfl, h1, h2, h3, h4⟩ := ownsRow_at h (by omega)
  have d0 := flatMap_get plainCells 4 plainCells_len _ k 0 a hk (by omega)
  rw [Nat.add_zero] at d0
  refine ⟨g, cap, rfl, h2, (h3 (k * 4) (by omega)).trans d0, ?_, ?_, ?_⟩
  · exact (h3 (k * 4 + 1) (by omega)).trans (flatMap_get plainCells 4 plainCells_len _ k 1 a hk (by omega))
  · exact (h3 (k * 4 + 2) (by omega)).trans (flatMap_get plainCells 4 plainCells_len _ k 2 a hk (by omega))
  · exact (h3 (k * 4 + 3) (by omega)).trans (flatMap_get plainCells 4 plainCells_len _ k 3 a hk (by omega))

/-- A molecule in its box. -/
structure MBx (base X : Nat) (av bv : Value) (ats : List Atm) (W : World) : Prop where
  c0 : W.cell? ⟨X, 0, none⟩ = some av
  c1 : W.cell? ⟨X, 1, none⟩ = some bv
  row : W.ownsRow base 50 4 av ats.length (ats.flatMap plainCells)
  lt : X < W.heap.size
theorem MBx.new {base : Nat} {w : World} {av bv : Value} {ats : List Atm} (h : w.ownsRow base 50 4 av ats.length (ats.flatMap plainCells)) : MBx base w.heap.size av bv ats (w.alloc (.cells #[av, bv] 39)) :=
  ⟨by simp, by simp, ownsRow_same h fun k hk => ((Below.refl _ w).alloc (Nat.le_refl _) _).block k (h.lt k hk).2, by simp⟩
theorem MBx.on {base X : Nat} {av bv : Value} {ats : List Atm} {W W' : World} (h : MBx base X av bv ats W) (hb : Below W.heap.size W W') : MBx base X av bv ats W' :=
  ⟨(hb.cell h.lt).trans h.c0, (hb.cell h.lt).trans h.c1, ownsRow_same h.row fun k hk => hb.block k (h.row.lt k hk).2, Nat.lt_of_lt_of_le h.lt hb.size⟩
theorem MBx.grow {base X : Nat} {av bv : Value} {ats : List Atm} {W : World} (h : MBx base X av bv ats W) (o : Obj) : MBx base X av bv ats (W.alloc o) := h.on ((Below.refl _ W).alloc (Nat.le_refl _) o)

theorem parse_nz {s : ByteArray} {er : Int × Int} (h : Bz.parse s = .error er) : er.1 ≠ 0 := by
  by_cases hs : s.size ≤ 160
  · rw [parse_whole s hs] at h
    cases hq : wholeR s with
    | error e => rw [hq] at h; cases h; exact whole_nz hq
    | ok q => rw [hq] at h; cases h
  · unfold Bz.parse at h
    rw [if_pos (by omega)] at h
    cases h
    decide

theorem ParseIs.shape {s : ByteArray} {w : World} {e : Ending} {w' : World} (h : ParseIs s w e w') : ∃ ao na ac bo nb bc y1 y2, e = .returned (.tuple #[.agg #[.slice ao na ac, .slice bo nb bc], .int .i64 y1, .int .i64 y2]) ∧ Below w.heap.size w w' := by
  rcases h with ⟨er, h, he, hb2⟩ | ⟨ats, l, v, v', h, he, hr1, hr2, hb2, _⟩
  · exact ⟨none, 0, 0, none, 0, 0, _, _, he, hb2⟩
  · obtain ⟨ao, ac, rfl⟩ := ownsRow_shape hr1
    obtain ⟨bo, bc, rfl⟩ := ownsRow_shape hr2
    exact ⟨ao, _, ac, bo, _, bc, _, _, he, hb2⟩

theorem ParseIs.err {s : ByteArray} {w : World} {e : Ending} {w' : World} {er : Int × Int} (h : ParseIs s w e w') (hp : Bz.parse s = .error er) : e = .returned (.tuple #[.agg #[.slice none 0 0, .slice none 0 0], .int .i64 er.1, .int .i64 er.2]) ∧ Below w.heap.size w w' := by
  rcases h with ⟨er', h, he, hb2⟩ | ⟨ats, l, v, v', h, _⟩
  · rw [hp] at h; cases h
    exact ⟨he, hb2⟩
  · rw [hp] at h; cases h

theorem ParseIs.fine {s : ByteArray} {w : World} {e : Ending} {w' : World} {ats : List Atm} {l : List Bnd} (h : ParseIs s w e w') (hp : Bz.parse s = .ok (ats, l)) : ∃ ao ac bo bc, e = .returned (.tuple #[.agg #[.slice ao ats.length ac, .slice bo l.length bc], .int .i64 0, .int .i64 0]) ∧ w'.ownsRow w.heap.size 50 4 (.slice ao ats.length ac) ats.length (ats.flatMap plainCells) ∧ w'.ownsRow w.heap.size 46 3 (.slice bo l.length bc) l.length (l.flatMap bndCells) ∧ Below w.heap.size w w' ∧ ats.length ≤ 24 ∧ l.length ≤ 160 := by
  rcases h with ⟨er', h, he, hb2⟩ | ⟨ats', l', v, v', h, he, hr1, hr2, hb2, _, hn, hl⟩
  · rw [hp] at h; cases h
  · rw [hp] at h; cases h
    obtain ⟨ao, ac, rfl⟩ := ownsRow_shape hr1
    obtain ⟨bo, bc, rfl⟩ := ownsRow_shape hr2
    exact ⟨ao, ac, bo, bc, he, hr1, hr2, hb2, hn, hl⟩

theorem KkIs.fine {s : ByteArray} {w : World} {e : Ending} {w' : World} {ats : List Atm} {l : List Bnd} (h : KkIs s w e w') (hp : Bz.parse s = .ok (ats, l)) : ∃ q : St, q.atoms = ats ∧ q.bonds = l ∧ ∃ vd oo on oc tx co cn cc po pn pc uo un uc, KkOut q w e w' vd oo on oc tx co cn cc po pn pc uo un uc := by
  rcases h with ⟨er, h, _⟩ | ⟨q, mate, f, gh, h⟩
  · rw [hp] at h; cases h
  · have := h.h
    rw [hp] at this
    simp only [Except.ok.injEq, Prod.mk.injEq] at this
    exact ⟨q, this.1.symm, this.2.symm, h.out⟩

section
set_option maxRecDepth 100000 in
set_option maxHeartbeats 4000000 in
/-- The first text can't be read. -/
theorem apart_bad1 (w : World) (a b : ByteArray) (ha : a.size ≤ maxLen) (hb : b.size ≤ maxLen) {er : Int × Int} (hp : Bz.parse a = .error er) : Calls Tryz.prog 9 #[.string a, .string b] w fun e w' => e = .returned (.bool true) ∧ Below w.heap.size w w' := by
  have P1 := fun W => works_any W
  have P2 := fun W => (parse_any a W ha).mono fun e w' h => ParseIs.err h hp
  have P3 := fun W => (parse_any b W hb).mono fun e w' h => ParseIs.shape h
  have hnz : (er.1 != 0) = true := by simp [parse_nz hp]
  have hnz2 : ¬ er.1 = 0 := parse_nz hp
  clear hp
  go_enter Tryz.func9, Tryz.ntmps9
  go_wp2_with fail
  refine (P1 _).mono ?_
  clear P1
  rintro e w1 ⟨rfl, hb1⟩
  go_wp2_with fail
  refine (P2 _).mono ?_
  clear P2
  rintro e w2 ⟨rfl, hb2⟩
  have HB2 : Hid (Below w.heap.size w w2) := hb1.trans (hb2.mono hb1.size)
  clear hb1 hb2
  go_wp2_with fail
  refine (P3 _).mono ?_
  clear P3
  rintro e w3 ⟨ao, na, ac, bo, nb, bc, y1, y2, rfl, hb3⟩
  have hbw : Below w.heap.size w (w2.alloc (.cells #[.slice none 0 0, .slice none 0 0] 39)) := HB2.out.alloc HB2.out.size _
  have HB3 : Hid (Below w.heap.size w w3) := hbw.trans (hb3.mono hbw.size)
  have HB4 : Hid (∀ o, Below w.heap.size w (w3.alloc o)) := fun o => HB3.out.alloc HB3.out.size o
  clear hb3 hbw HB2 HB3
  go_wp2_with fail
  go_ret
  exact ⟨rfl, HB4.out _⟩

set_option maxRecDepth 100000 in
set_option maxHeartbeats 4000000 in
/-- The second one can't. -/
theorem apart_bad2 (w : World) (a b : ByteArray) (ha : a.size ≤ maxLen) (hb : b.size ≤ maxLen) {ats : List Atm} {l : List Bnd} (hp : Bz.parse a = .ok (ats, l)) {er : Int × Int} (hp2 : Bz.parse b = .error er) : Calls Tryz.prog 9 #[.string a, .string b] w fun e w' => e = .returned (.bool true) ∧ Below w.heap.size w w' := by
  have P1 := fun W => works_any W
  have P2 := fun W => (parse_any a W ha).mono fun e w' h => ParseIs.fine h hp
  have P3 := fun W => (parse_any b W hb).mono fun e w' h => ParseIs.err h hp2
  have hnz : (er.1 != 0) = true := by simp [parse_nz hp2]
  have hnz2 : ¬ er.1 = 0 := parse_nz hp2
  clear hp hp2
  go_enter Tryz.func9, Tryz.ntmps9
  go_wp2_with fail
  refine (P1 _).mono ?_
  clear P1
  rintro e w1 ⟨rfl, hb1⟩
  go_wp2_with fail
  refine (P2 _).mono ?_
  clear P2
  rintro e w2 ⟨ao, ac, bo, bc, rfl, hr1, _, hb2, hn1, hl1⟩
  have HB2 : Hid (Below w.heap.size w w2) := hb1.trans (hb2.mono hb1.size)
  clear hb1 hb2 hr1
  go_wp2_with fail
  refine (P3 _).mono ?_
  clear P3
  rintro e w3 ⟨rfl, hb3⟩
  have hbw : Below w.heap.size w (w2.alloc (.cells #[.slice ao ats.length ac, .slice bo l.length bc] 39)) := HB2.out.alloc HB2.out.size _
  have HB3 : Hid (Below w.heap.size w w3) := hbw.trans (hb3.mono hbw.size)
  have HB4 : Hid (∀ o, Below w.heap.size w (w3.alloc o)) := fun o => HB3.out.alloc HB3.out.size o
  clear hb3 hbw HB2 HB3
  go_wp2_with fail
  go_ret
  exact ⟨rfl, HB4.out _⟩

set_option maxRecDepth 100000 in
set_option maxHeartbeats 4000000 in
/-- Both can, but they are too long, or too many atoms, together. -/
theorem apart_great (w : World) (a b : ByteArray) (ha : a.size ≤ maxLen) (hb : b.size ≤ maxLen) {ats : List Atm} {l : List Bnd} (hp : Bz.parse a = .ok (ats, l)) {ats2 : List Atm} {l2 : List Bnd} (hp2 : Bz.parse b = .ok (ats2, l2)) (hg : 160 < a.size + b.size + 1 ∨ 24 < ats.length + ats2.length) : Calls Tryz.prog 9 #[.string a, .string b] w fun e w' => e = .returned (.bool true) ∧ Below w.heap.size w w' := by
  have P1 := fun W => works_any W
  have P2 := fun W => (parse_any a W ha).mono fun e w' h => ParseIs.fine h hp
  have P3 := fun W => (parse_any b W hb).mono fun e w' h => ParseIs.fine h hp2
  have hsa := (parse_en hp).1
  have hsb := (parse_en hp2).1
  clear hp hp2
  go_enter Tryz.func9, Tryz.ntmps9
  go_wp2_with fail
  refine (P1 _).mono ?_
  clear P1
  rintro e w1 ⟨rfl, hb1⟩
  go_wp2_with fail
  refine (P2 _).mono ?_
  clear P2
  rintro e w2 ⟨ao, ac, bo, bc, rfl, hr1, _, hb2, hn1, hl1⟩
  have HB2 : Hid (Below w.heap.size w w2) := hb1.trans (hb2.mono hb1.size)
  clear hb1 hb2
  go_wp2_with fail
  refine (P3 _).mono ?_
  clear P3
  rintro e w3 ⟨ao2, ac2, bo2, bc2, rfl, _, _, hb3, hn2, hl2⟩
  have M1 := ((MBx.new (bv := .slice bo l.length bc) hr1).on hb3).grow (.cells #[.slice ao2 ats2.length ac2, .slice bo2 l2.length bc2] 39)
  have hbw : Below w.heap.size w (w2.alloc (.cells #[.slice ao ats.length ac, .slice bo l.length bc] 39)) := HB2.out.alloc HB2.out.size _
  have HB3 : Hid (Below w.heap.size w w3) := hbw.trans (hb3.mono hbw.size)
  have HB4 : Hid (∀ o, Below w.heap.size w (w3.alloc o)) := fun o => HB3.out.alloc HB3.out.size o
  have x0 := M1.c0
  clear hb3 hbw HB2 HB3 hr1 M1
  by_cases hlen : 160 < a.size + b.size + 1
  · have hlen' : (a.size : Int) + (b.size : Int) + 1 > 160 := by omega
    clear hg
    go_wp2_with fail
    go_ret
    exact ⟨rfl, HB4.out _⟩
  · have hlen' : ¬ ((a.size : Int) + (b.size : Int) + 1 > 160) := by omega
    have hat : (ats.length : Int) + (ats2.length : Int) > 24 := by omega
    clear hg
    go_wp2_with fail
    go_ret
    exact ⟨rfl, HB4.out _⟩
end
end Go.Proofs.YtcabaecbmkgclaaGreatDoor.Kd
