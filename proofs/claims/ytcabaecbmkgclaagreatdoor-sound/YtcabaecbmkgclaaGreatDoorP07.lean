/-
  A text that is written again in capitals is read step by step as the one that it was (no program).
  A text that is written again in capitals: rings, branches, chains (no program).
  Of the bonds that the plain reader lays: both ends are there, the first below the second; no two join the same atoms; they stand by rising places.
  A text that can be read has signs below 128 alone.
  What the molecule's Sum and filled do.
-/
import Derived.Test.YtcabaecbmkgclaaGreatDoorP06
import Derived.Deep.LoopGhost

namespace Go.Proofs.YtcabaecbmkgclaaGreatDoor
open Bz

def pl0 (a : Atm) : Atm := { a with pl := 0 }
def un (a : Atm) : Atm := { a with pl := 0, aro := false }
def tri (b : Bnd) : Nat × Nat × Int := (b.a, b.b, b.o)
def newO (d : Nat → Bool) (o : Int) (pl : Nat) : Int := if o = 4 then (if d pl then 2 else 1) else o
def newT (d : Nat → Bool) (b : Bnd) : Nat × Nat × Int := (b.a, b.b, newO d b.o b.pl)
def m58 (m : Int) : Int := if m = 58 then 0 else m
def MkOk (m : Int) : Prop := m = 0 ∨ m = 45 ∨ m = 61 ∨ m = 35 ∨ m = 58

theorem MkOk.of {c : Int} (h : isSign c = true) : MkOk c := by
  unfold isSign at h
  simp only [Bool.or_eq_true, beq_iff_eq] at h
  unfold MkOk
  omega

/-- The same state, of the text that was written. -/
structure Wl (d : Nat → Bool) (p P : St) : Prop where
  atoms : P.atoms.map pl0 = p.atoms.map un
  bonds : P.bonds.map tri = p.bonds.map (newT d)
  rings : ∀ k, (p.rings k = none ∧ P.rings k = none) ∨ ∃ o O, p.rings k = some o ∧ P.rings k = some O ∧ O.hung.atom = o.hung.atom ∧ O.hung.mark = m58 o.hung.mark ∧ MkOk o.hung.mark

/-- The same end of a bond, whose other end comes at x. -/
structure HW (d : Nat → Bool) (x : Nat) (g G : Hung) : Prop where
  atom : G.atom = g.atom
  mark : G.mark = if d x then 61 else m58 g.mark
  ok : MkOk g.mark

section
variable {d : Nat → Bool} {s W : ByteArray} {p P q : St}

theorem Wl.len (R : Wl d p P) : P.atoms.length = p.atoms.length := by
  have := congrArg List.length R.atoms
  simpa using this

theorem aro_no (h : P.atoms.map pl0 = p.atoms.map un) (a : Int) : aro P a = false := by
  unfold aro
  cases hP : P.atoms[a.toNat]? with
  | none => rfl
  | some x =>
    have h1 : (P.atoms.map pl0)[a.toNat]? = some (pl0 x) := by rw [List.getElem?_map, hP]; rfl
    rw [h, List.getElem?_map] at h1
    cases hp : p.atoms[a.toNat]? with
    | none => rw [hp] at h1; cases h1
    | some y =>
      rw [hp] at h1
      simp only [Option.map_some, Option.some.injEq] at h1
      have := congrArg Atm.aro h1
      exact this.symm

theorem Wl.bonded (R : Wl d p P) (a b : Nat) : bonded P.bonds a b = bonded p.bonds a b := by
  have key : ∀ (l : List Bnd) (f : Bnd → Nat × Nat × Int), (∀ x ∈ l, (f x).1 = x.a ∧ (f x).2.1 = x.b) → Bz.bonded l a b = (l.map f).any (fun x => (x.1 == a && x.2.1 == b) || (x.1 == b && x.2.1 == a)) := by
    intro l f hf
    unfold Bz.bonded
    induction l with
    | nil => rfl
    | cons x l ih =>
      rw [List.map_cons, List.any_cons, List.any_cons, ih fun y hy => hf y (by simp [hy]), (hf x (by simp)).1, (hf x (by simp)).2]
  rw [key P.bonds tri (fun _ _ => ⟨rfl, rfl⟩), key p.bonds (newT d) (fun _ _ => ⟨rfl, rfl⟩), R.bonds]

theorem order_w {x : Nat} {o m M a b : Int} (hP : ∀ a, aro P a = false) (ho : order p m a b = o) (hm : MkOk m) (hM : M = if d x then 61 else m58 m) (hd : d x = true → o = 4) : order P M a b = newO d o x := by
  have eP : order P M a b = if M = 45 then 1 else if M = 61 then 2 else if M = 35 then 3 else if M = 58 then 4 else 1 := by
    unfold order
    rw [hP, hP]
    rfl
  rw [eP]
  unfold newO
  cases hx : d x
  · rw [hx] at hM
    simp only [Bool.false_eq_true, if_false] at hM ⊢
    unfold m58 at hM
    unfold order at ho
    rcases hm with h | h | h | h | h
    · subst h
      simp at hM ho
      subst hM
      simp
      split at ho <;> omega
    · subst h; simp at hM ho; subst hM; subst ho; rfl
    · subst h; simp at hM ho; subst hM; subst ho; rfl
    · subst h; simp at hM ho; subst hM; subst ho; rfl
    · subst h; simp at hM ho; subst hM; subst ho; rfl
  · rw [hx] at hM
    simp only [if_true] at hM
    rw [hM, hd hx]
    rfl

theorem Wl.bind (R : Wl d p P) {a b pl pl' : Nat} {o O : Int} (h : O = newO d o pl) : Wl d (bind p a b o pl) (bind P a b O pl') := by
  refine ⟨R.atoms, ?_, R.rings⟩
  unfold Bz.bind
  simp only [List.map_append, List.map_cons, List.map_nil]
  rw [R.bonds, h]
  rfl

theorem Wl.move (R : Wl d p P) (j J : Nat) : Wl d { p with pos := j } { P with pos := J } := ⟨R.atoms, R.bonds, R.rings⟩

theorem Wl.setR (R : Wl d p P) (k : Nat) {o O : Option Opn} (ho : (o = none ∧ O = none) ∨ ∃ x X, o = some x ∧ O = some X ∧ X.hung.atom = x.hung.atom ∧ X.hung.mark = m58 x.hung.mark ∧ MkOk x.hung.mark) : Wl d { p with rings := setRing p.rings k o } { P with rings := setRing P.rings k O } := by
  refine ⟨R.atoms, R.bonds, fun j => ?_⟩
  unfold setRing
  simp only
  by_cases hj : j = k
  · rw [if_pos hj, if_pos hj]; exact ho
  · rw [if_neg hj, if_neg hj]; exact R.rings j

theorem bondEnd_w (C : Wc d s) (R : Wl d p P) (h : Bz.Rest W P.pos (wr0 d s p.pos)) (hf : P.pos ≤ W.size) {a : Nat} {g : Hung} (hr : bondEnd s a p = .ok (g, q)) (hd : g.mark ≠ 0 → g.mark ≠ 58 → d q.pos = false) :
    ∃ G Q, bondEnd W a P = .ok (G, Q) ∧ HW d q.pos g G ∧ Wl d q Q ∧ Bz.Rest W Q.pos (wr1 d s q.pos) ∧ P.pos ≤ Q.pos ∧ Q.pos ≤ W.size := by
  have two : ∀ {x : Nat}, byteAt W P.pos = 61 → bondEnd W a P = .ok (⟨61, P.pos, a⟩, { P with pos := P.pos + 1 }) := fun {x} h => by
    unfold bondEnd
    simp only [h]
    rfl
  have none : isSign (byteAt W P.pos) = false → bondEnd W a P = .ok (⟨0, 0, a⟩, P) := fun h => by
    unfold bondEnd
    simp only [h]
    rfl
  unfold bondEnd at hr
  simp only at hr
  rcases C.cases h with ⟨h0, h1, h2, h3⟩ | ⟨h0, hdx, h1, h2, h3, h4⟩ | ⟨h0, hdx, h2, h1, h3, h4⟩ | ⟨h0, hdx, h2, h5, h6, h1, h3, h4⟩ | ⟨h0, hdx, h2, h5, h6, h1, h3, h4⟩
  · rw [h2] at hr
    have e0 : isSign 0 = false := rfl
    rw [e0] at hr
    simp only [Bool.false_eq_true, if_false, Except.ok.injEq, Prod.mk.injEq] at hr
    obtain ⟨rfl, rfl⟩ := hr
    have hdx : d p.pos = false := C.no (by rw [h2]; exact bp0)
    refine ⟨_, _, none (by rw [h1]; rfl), ⟨rfl, by rw [hdx]; rfl, .inl rfl⟩, R, by rw [← wr0_no hdx]; exact h, Nat.le_refl _, hf⟩
  · rw [h2.sign] at hr
    simp only [Bool.false_eq_true, if_false, Except.ok.injEq, Prod.mk.injEq] at hr
    obtain ⟨rfl, rfl⟩ := hr
    exact ⟨_, _, two (x := 0) h1, ⟨rfl, by rw [hdx]; rfl, .inl rfl⟩, R.move p.pos _, h4, by simp only; omega, h3⟩
  · cases hs : isSign (byteAt s p.pos)
    · rw [hs] at hr
      simp only [Bool.false_eq_true, if_false, Except.ok.injEq, Prod.mk.injEq] at hr
      obtain ⟨rfl, rfl⟩ := hr
      exact ⟨_, _, none (by rw [h1, cap_sign]; exact hs), ⟨rfl, by rw [hdx]; rfl, .inl rfl⟩, R, by rw [← wr0_no hdx]; exact h, Nat.le_refl _, hf⟩
    · rw [hs] at hr
      simp only [if_true] at hr
      rw [if_neg (fun h => h2 h.1)] at hr
      simp only [Except.ok.injEq, Prod.mk.injEq] at hr
      obtain ⟨rfl, rfl⟩ := hr
      simp only at hd
      have hm := MkOk.of hs
      have hn0 : byteAt s p.pos ≠ 0 := fun e => by rw [e] at hs; cases hs
      have hd1 := hd hn0 h2
      have hc : capI (byteAt s p.pos) = byteAt s p.pos := by
        unfold capI
        unfold MkOk at hm
        rw [if_neg (by omega)]
      refine ⟨⟨byteAt s p.pos, P.pos, a⟩, { P with pos := P.pos + 1 }, ?_, ⟨rfl, ?_, hm⟩, R.move _ _, ?_, by simp only; omega, h3⟩
      · unfold bondEnd
        rw [h1, hc]
        simp only [hs, if_true]
        rw [if_neg (fun h => h2 h.1)]
      · simp only
        rw [hd1]
        unfold m58
        simp only [Bool.false_eq_true, if_false]
        rw [if_neg h2]
      · simp only
        rw [← wr0_no hd1]
        exact h4
  · rw [h0] at hr
    have e0 : isSign 58 = true := rfl
    rw [e0] at hr
    simp only [if_true] at hr
    split at hr
    · cases hr
    · simp only [Except.ok.injEq, Prod.mk.injEq] at hr
      obtain ⟨rfl, rfl⟩ := hr
      refine ⟨_, _, two (x := 0) h1, ⟨rfl, by simp only; rw [h6]; rfl, .inr (.inr (.inr (.inr rfl)))⟩, R.move _ _, h4, by simp only; omega, h3⟩
  · rw [h0] at hr
    have e0 : isSign 58 = true := rfl
    rw [e0] at hr
    simp only [if_true] at hr
    split at hr
    · cases hr
    · simp only [Except.ok.injEq, Prod.mk.injEq] at hr
      obtain ⟨rfl, rfl⟩ := hr
      refine ⟨_, _, none (by rw [h1, cap_sign]; exact h5.sign), ⟨rfl, by simp only; rw [h6]; rfl, .inr (.inr (.inr (.inr rfl)))⟩, R.move _ P.pos, h4, Nat.le_refl _, hf⟩

theorem ahead_w (C : Wc d s) (h : Bz.Rest W P.pos (wr0 d s p.pos)) (hd : isSign (byteAt s p.pos) = true → byteAt s p.pos ≠ 58 → startsRing (byteAt s (p.pos + 1)) = true → d (p.pos + 1) = false) : ringAhead W P = ringAhead s p := by
  unfold ringAhead
  rcases C.cases h with ⟨h0, h1, h2, h3⟩ | ⟨h0, hdx, h1, h2, h3, h4⟩ | ⟨h0, hdx, h2, h1, h3, h4⟩ | ⟨h0, hdx, h2, h5, h6, h1, h3, h4⟩ | ⟨h0, hdx, h2, h5, h6, h1, h3, h4⟩
  · rw [h1, h2]; rfl
  · obtain ⟨b1, _, _⟩ := a_byte h4 h0 (fun e => by rw [e] at h2; exact bp58 h2)
    rw [h1, h2.sign, b1, cap_ring]
    rfl
  · rw [h1, cap_sign]
    cases hs : isSign (byteAt s p.pos)
    · simp only [Bool.false_eq_true, if_false]
      rw [cap_ring]
    · simp only [if_true]
      rcases C.cases h4 with ⟨k0, k1, k2, _⟩ | ⟨k0, kd, k1, k2, _⟩ | ⟨_, _, k2, k1, _⟩ | ⟨k0, _⟩ | ⟨k0, _⟩
      · rw [k1, k2]
      · cases hr : startsRing (byteAt s (p.pos + 1))
        · rw [k1]; rfl
        · have := hd hs h2 hr
          rw [kd] at this
          cases this
      · rw [k1, cap_ring]
      · have hx1 : p.pos + 1 < s.size := lt_of_byteAt (by omega)
        have := (C.lx.lx.sg p.pos hx1).2 k0
        rw [hs] at this
        cases this
      · have hx1 : p.pos + 1 < s.size := lt_of_byteAt (by omega)
        have := (C.lx.lx.sg p.pos hx1).2 k0
        rw [hs] at this
        cases this
  · obtain ⟨b1, _, _⟩ := a_byte h4 h2 (fun e => by rw [e] at h5; exact bp58 h5)
    rw [h1, h0, b1, cap_ring]
    rfl
  · rw [h1, cap_sign, h0, h5.sign]
    simp only [Bool.false_eq_true, if_false]
    rw [cap_ring]
    rfl

theorem link_w (C : Wc d s) (R : Wl d p P) (h : Bz.Rest W P.pos (wr0 d s p.pos)) (hf : P.pos ≤ W.size) {a : Nat} {g : Hung} (hr : link s a p = .ok (g, q)) (hd : g.mark ≠ 0 → g.mark ≠ 58 → d q.pos = false) (hdot : g.atom = -1 → d q.pos = false) :
    ∃ G Q, link W a P = .ok (G, Q) ∧ HW d q.pos g G ∧ Wl d q Q ∧ Bz.Rest W Q.pos (wr1 d s q.pos) ∧ P.pos ≤ Q.pos ∧ Q.pos ≤ W.size := by
  have ht := C.test h (k := 46) (by omega)
  unfold link at hr ⊢
  split at hr
  · rename_i h46
    simp only [Except.ok.injEq, Prod.mk.injEq] at hr
    obtain ⟨rfl, rfl⟩ := hr
    rw [if_pos (ht.2 h46)]
    obtain ⟨b1, b2, b3⟩ := a_same h (C.no (by rw [h46]; unfold Bp; omega)) h46 (by omega)
    have := hdot rfl
    refine ⟨_, _, rfl, ⟨rfl, ?_, .inl rfl⟩, R.move _ _, ?_, by simp only; omega, b2⟩
    · simp only; rw [this]; rfl
    · simp only; rw [← wr0_no this]; exact b3
  · rename_i h46
    rw [if_neg (fun h => h46 (ht.1 h))]
    exact bondEnd_w C R h hf hr hd

theorem atom_w (C : Wc d s) (R : Wl d p P) (h : Bz.Rest W P.pos (wr1 d s p.pos)) {g G : Hung} (hg : HW d p.pos g G) {a : Nat} (hr : atom s g p = .ok (a, q)) (hgap : ∀ y, p.pos < y → y < q.pos → d y = false) (hd : d p.pos = true → ∃ b, q.bonds = p.bonds ++ [b] ∧ b.o = 4) :
    ∃ Q, atom W G P = .ok (a, Q) ∧ Wl d q Q ∧ Bz.Rest W Q.pos (wr0 d s q.pos) ∧ P.pos < Q.pos ∧ Q.pos ≤ W.size := by
  have hM58 : G.mark ≠ 58 := by
    rw [hg.mark]
    unfold m58
    split
    · omega
    · split <;> omega
  unfold atom at hr
  simp only at hr
  split at hr
  · split at hr <;> cases hr
  rename_i el ar n hel
  split at hr
  · cases hr
  split at hr
  · cases hr
  rename_i hfu
  split at hr
  · cases hr
  rename_i ch hy j hb
  simp only [Except.ok.injEq, Prod.mk.injEq] at hr
  obtain ⟨hra, hrq⟩ := hr
  have hqp : q.pos = j := by
    rw [← hrq]
    split <;> rfl
  have hfW : full P = false := by
    unfold full at hfu ⊢
    rw [R.len]
    simpa using hfu
  have hbr : (byteAt W P.pos == 91) = (byteAt s p.pos == 91) := by
    by_cases hx : p.pos < s.size
    · by_cases h58 : byteAt s p.pos = 58
      · exfalso
        rw [h58] at hel
        simp only [show ((58 : Int) == 91) = false from rfl, Bool.false_eq_true, if_false] at hel
        unfold element at hel
        rw [h58] at hel
        simp at hel
      · obtain ⟨b1, _, _⟩ := a_byte h hx h58
        rw [b1, Bool.eq_iff_iff, beq_iff_eq, beq_iff_eq]
        exact cap_is (by omega)
    · rw [(wr_ge hx).2] at h
      rw [h.zero, byteAt_ge s _ hx]
  have body : ∃ J, (∀ i, i = (if (byteAt W P.pos == 91) = true then P.pos + 1 else P.pos) → element W i = some (el, false, n) ∧ (if (byteAt W P.pos == 91) = true then bracket W (i + n) else .ok (0, 0, i + n)) = .ok (ch, hy, J)) ∧ Bz.Rest W J (wr0 d s j) ∧ P.pos < J ∧ J ≤ W.size := by
    rw [hbr]
    cases h91 : (byteAt s p.pos == 91)
    · rw [h91] at hel hb
      simp only [Bool.false_eq_true, if_false, Except.ok.injEq, Prod.mk.injEq] at hel hb ⊢
      obtain ⟨e1, e2, e3⟩ := hb
      obtain ⟨k1, k2, k3⟩ := elem_w C h hel fun y h1 h2 => hgap y h1 (by omega)
      have hn : 0 < n := (elem_lx (s := s) hel ⟨fun y hy => C.lx.lx.el y (by
        have : p.pos < s.size := by
          refine lt_of_byteAt fun h0 => ?_
          unfold element at hel
          rw [h0] at hel
          simp at hel
        omega), fun y hy => C.lx.lx.sg y (by
        have : p.pos < s.size := by
          refine lt_of_byteAt fun h0 => ?_
          unfold element at hel
          rw [h0] at hel
          simp at hel
        omega)⟩).2.2
      exact ⟨P.pos + n, fun i hi => by subst hi; exact ⟨k1, e1, e2, rfl⟩, by rw [← e3]; exact k2, by omega, k3⟩
    · rw [h91] at hel hb
      simp only [if_true] at hel hb ⊢
      have h91' : byteAt s p.pos = 91 := by simpa using h91
      obtain ⟨b1, b2, b3⟩ := a_byte h (lt_of_byteAt (by omega)) (by omega)
      have hbp := bracket_pos hb
      simp only at hbp
      rw [wr0_no (hgap (p.pos + 1) (by omega) (by omega))] at b3
      obtain ⟨k1, k2, k3⟩ := elem_w C b3 hel fun y h1 h2 => hgap y (by omega) (by omega)
      obtain ⟨J, m1, m2, m3, m4⟩ := bracket_w k2 hb fun z h1 h2 => hgap z (by omega) (by omega)
      exact ⟨J, fun i hi => by subst hi; exact ⟨k1, m1⟩, m2, by omega, m3⟩
  obtain ⟨J, hbody, hrest, hlt, hle⟩ := body
  obtain ⟨w1, w2⟩ := hbody _ rfl
  have R0 : Wl d { p with pos := j, atoms := p.atoms ++ [⟨el, ar, ch, hy, p.pos, byteAt s p.pos == 91⟩] } { P with pos := J, atoms := P.atoms ++ [⟨el, false, ch, hy, P.pos, byteAt W P.pos == 91⟩] } := by
    refine ⟨?_, R.bonds, R.rings⟩
    simp only [List.map_append, List.map_cons, List.map_nil]
    rw [R.atoms, hbr]
    rfl
  refine ⟨if G.atom = -1 then { P with pos := J, atoms := P.atoms ++ [⟨el, false, ch, hy, P.pos, byteAt W P.pos == 91⟩] } else Bz.bind { P with pos := J, atoms := P.atoms ++ [⟨el, false, ch, hy, P.pos, byteAt W P.pos == 91⟩] } G.atom.toNat P.atoms.length (order { P with pos := J, atoms := P.atoms ++ [⟨el, false, ch, hy, P.pos, byteAt W P.pos == 91⟩] } G.mark G.atom P.atoms.length) P.pos, ?_, ?_, ?_, ?_, ?_⟩
  · unfold atom
    simp only [w1]
    rw [if_neg (fun h => hM58 h.1), hfW]
    simp only [Bool.false_eq_true, if_false]
    rw [w2]
    simp only
    rw [← hra, R.len]
  · rw [← hrq, hg.atom]
    split
    · exact R0
    · rename_i hne
      rw [R.len]
      refine R0.bind ?_
      refine order_w (p := { p with pos := j, atoms := p.atoms ++ [⟨el, ar, ch, hy, p.pos, byteAt s p.pos == 91⟩] }) (m := g.mark) (aro_no R0.atoms) rfl hg.ok hg.mark fun hdd => ?_
      obtain ⟨b, hb1, hb2⟩ := hd hdd
      rw [← hrq, if_neg hne] at hb1
      simp only [Bz.bind] at hb1
      have := List.append_cancel_left hb1
      simp only [List.cons.injEq, and_true] at this
      rw [← this] at hb2
      exact hb2
  · rw [hqp]
    split <;> exact hrest
  · split <;> exact hlt
  · split <;> exact hle
end
end Go.Proofs.YtcabaecbmkgclaaGreatDoor

namespace Go.Proofs.YtcabaecbmkgclaaGreatDoor
open Bz

/-- Ahead of which places there is a sign of a double bond: those of the aromatic bonds that e tells. -/
def dOf (L : List Bnd) (e : Bnd → Bool) (x : Nat) : Bool := L.any fun b => b.pl == x && (b.o == 4 && e b)

theorem dOf_mem {L : List Bnd} {e : Bnd → Bool} {x : Nat} : dOf L e x = true ↔ ∃ b ∈ L, b.pl = x ∧ b.o = 4 ∧ e b = true := by
  unfold dOf
  rw [List.any_eq_true]
  simp only [Bool.and_eq_true, beq_iff_eq]

/-- All bonds so far lie ahead. -/
def Pre (p : St) : Prop := ∀ b ∈ p.bonds, b.pl < p.pos
/-- All bonds to come lie behind. -/
def Rem (L : List Bnd) (q : St) : Prop := ∃ r, L = q.bonds ++ r ∧ ∀ b ∈ r, q.pos ≤ b.pl

section
variable {L : List Bnd} {e : Bnd → Bool} {s W : ByteArray} {p P q : St}

theorem Pre.on (h : Pre p) (g : Gon s p q) : Pre q := by
  obtain ⟨h1, ⟨n, h2, h3⟩, _⟩ := g
  intro b hb
  rw [h2, List.mem_append] at hb
  rcases hb with hb | hb
  · have := h b hb; omega
  · exact (h3 b hb).2.1
theorem Rem.back (h : Rem L q) (g : Gon s p q) : Rem L p := by
  obtain ⟨h1, ⟨n, h2, h3⟩, _⟩ := g
  obtain ⟨r, k1, k2⟩ := h
  refine ⟨n ++ r, by rw [k1, h2, List.append_assoc], fun b hb => ?_⟩
  rw [List.mem_append] at hb
  rcases hb with hb | hb
  · exact (h3 b hb).1
  · have := k2 b hb; omega

theorem d_new {new : List Bnd} (hp : Pre p) (hq : Rem L q) (hn : q.bonds = p.bonds ++ new) {y : Nat} (h1 : p.pos ≤ y) (h2 : y < q.pos) (hd : dOf L e y = true) : ∃ b ∈ new, b.pl = y ∧ b.o = 4 := by
  obtain ⟨b, hb, k1, k2, _⟩ := dOf_mem.1 hd
  obtain ⟨r, r1, r2⟩ := hq
  rw [r1, hn, List.mem_append, List.mem_append] at hb
  rcases hb with (hb | hb) | hb
  · have := hp b hb; omega
  · exact ⟨b, hb, k1, k2⟩
  · have := r2 b hb; omega

theorem d_gap {new : List Bnd} (hp : Pre p) (hq : Rem L q) (hn : q.bonds = p.bonds ++ new) {y : Nat} (h1 : p.pos ≤ y) (h2 : y < q.pos) (hy : ∀ b ∈ new, b.pl = y → b.o ≠ 4) : dOf L e y = false := by
  cases hd : dOf L e y
  · rfl
  · obtain ⟨b, hb, k1, k2⟩ := d_new hp hq hn h1 h2 hd
    exact absurd k2 (hy b hb k1)

/-- What an atom adds. -/
theorem atom_new {a : Nat} {g : Hung} (h : atom s g p = .ok (a, q)) : (g.atom = -1 ∧ q.bonds = p.bonds ++ []) ∨ (g.atom ≠ -1 ∧ ∃ b, q.bonds = p.bonds ++ [b] ∧ b.pl = p.pos ∧ (g.mark = 45 ∨ g.mark = 61 ∨ g.mark = 35 → b.o ≠ 4)) := by
  unfold atom at h
  simp only at h
  split at h
  · split at h <;> cases h
  split at h
  · cases h
  split at h
  · cases h
  split at h
  · cases h
  simp only [Except.ok.injEq, Prod.mk.injEq] at h
  rw [← h.2]
  split
  · rename_i h1
    exact .inl ⟨h1, by simp⟩
  · rename_i h1
    refine .inr ⟨h1, _, rfl, rfl, fun hm => ?_⟩
    show order _ g.mark _ _ ≠ 4
    unfold order
    rcases hm with hm | hm | hm <;> rw [hm] <;> simp

theorem atom_d (hp : Pre p) (e0 : Lx s p.pos) {a : Nat} {g : Hung} (h : atom s g p = .ok (a, q)) (hq : Rem L q) :
    (∀ y, p.pos < y → y < q.pos → dOf L e y = false) ∧ (dOf L e p.pos = true → ∃ b, q.bonds = p.bonds ++ [b] ∧ b.o = 4) ∧ (g.mark = 45 ∨ g.mark = 61 ∨ g.mark = 35 → dOf L e p.pos = false) ∧ (g.atom = -1 → dOf L e p.pos = false) := by
  obtain ⟨_, go⟩ := atom_lx h e0
  have hlt : p.pos < q.pos := by
    unfold atom at h
    simp only at h
    split at h
    · split at h <;> cases h
    rename_i el ar n hel
    split at h
    · cases h
    split at h
    · cases h
    split at h
    · cases h
    rename_i ch hy j hb
    have hj : q.pos = j := by
      simp only [Except.ok.injEq, Prod.mk.injEq] at h
      rw [← h.2]
      split <;> rfl
    rw [hj]
    cases h91 : (byteAt s p.pos == 91)
    · rw [h91] at hel hb
      simp only [Bool.false_eq_true, if_false, Except.ok.injEq, Prod.mk.injEq] at hel hb
      have := (elem_lx hel e0).2.2
      omega
    · rw [h91] at hel hb
      simp only [if_true] at hel hb
      have := (bracket_pos hb).1
      simp only at this
      omega
  rcases atom_new h with ⟨h1, h2⟩ | ⟨h1, b, h2, h3, h4⟩
  · refine ⟨fun y y1 y2 => d_gap hp hq h2 (by omega) y2 (by simp), fun hd => ?_, fun _ => d_gap hp hq h2 (by omega) hlt (by simp), fun _ => d_gap hp hq h2 (by omega) hlt (by simp)⟩
    obtain ⟨b, hb, _⟩ := d_new hp hq h2 (by omega) hlt hd
    simp at hb
  · refine ⟨fun y y1 y2 => d_gap hp hq h2 (by omega) y2 (by simp; omega), fun hd => ?_, fun hm => d_gap hp hq h2 (by omega) hlt (by simp only [List.mem_singleton]; rintro b rfl _; exact h4 hm), fun h => absurd h h1⟩
    obtain ⟨b', hb, _, k2⟩ := d_new hp hq h2 (by omega) hlt hd
    rw [List.mem_singleton] at hb
    subst hb
    exact ⟨_, h2, k2⟩

theorem clash_iff {a b : Int} : clash a b = true ↔ a ≠ 0 ∧ b ≠ 0 ∧ a ≠ b := by
  unfold clash
  simp only [Bool.and_eq_true, bne_iff_ne, ne_eq, and_assoc]

theorem close_w {d : Nat → Bool} (R : Wl d p P) {f F l K : Hung} {x pl : Nat} (hfa : F.atom = f.atom) (hfm : F.mark = m58 f.mark) (hfo : MkOk f.mark) (hl : HW d x l K) (hr : closeRing f l x p = .ok q) (hd : d x = true → ∃ b, q.bonds = p.bonds ++ [b] ∧ b.o = 4) :
    ∃ Q, closeRing F K pl P = .ok Q ∧ Wl d q Q ∧ Q.pos = P.pos := by
  have hK58 : K.mark ≠ 58 := by
    rw [hl.mark]
    unfold m58
    split
    · omega
    · split <;> omega
  have hF58 : F.mark ≠ 58 := by
    rw [hfm]
    unfold m58
    split <;> omega
  unfold closeRing at hr
  simp only at hr
  split at hr
  · cases hr
  split at hr
  · cases hr
  split at hr
  · cases hr
  rename_i c3
  cases hr
  have hd4 : d x = true → order p (given f.mark l.mark) f.atom l.atom = 4 := fun h => by
    obtain ⟨b, h1, h2⟩ := hd h
    simp only [Bz.bind] at h1
    have := List.append_cancel_left h1
    simp only [List.cons.injEq, and_true] at this
    rw [← this] at h2
    exact h2
  simp only [not_or] at c3
  obtain ⟨n1, n2, n3⟩ := c3
  rw [clash_iff] at n3
  have hlo := hl.ok
  have gm : MkOk (given f.mark l.mark) := by unfold given; split <;> assumption
  have hg4 : d x = true → f.mark = 0 ∨ f.mark = 58 := fun h => by
    have h4 := hd4 h
    unfold order at h4
    unfold given at h4 gm
    by_cases h0 : f.mark = 0
    · exact .inl h0
    · rw [if_neg h0] at h4
      unfold MkOk at hfo
      rcases hfo with k | k | k | k | k
      · exact .inl k
      · rw [k] at h4; simp at h4
      · rw [k] at h4; simp at h4
      · rw [k] at h4; simp at h4
      · exact .inr k
  have hgv : given F.mark K.mark = if d x then 61 else m58 (given f.mark l.mark) := by
    rw [hfm, hl.mark]
    cases hx : d x
    · simp only [Bool.false_eq_true, if_false]
      unfold given m58
      unfold MkOk at hfo hlo
      by_cases h0 : f.mark = 0
      · simp [h0]
      · rw [if_neg h0]
        by_cases h58 : f.mark = 58
        · simp only [h58, if_true]
          rcases hlo with k | k | k | k | k
          · rw [k]; rfl
          all_goals first
            | (rw [k]; rfl)
            | (exfalso; exact n3 ⟨h0, by omega, by omega⟩)
        · rw [if_neg h58, if_neg h0]
    · simp only [if_true]
      have := hg4 hx
      unfold given m58
      rcases this with h | h <;> simp [h]
  have hncl : ¬ clash F.mark K.mark = true := by
    rw [clash_iff, hfm, hl.mark]
    unfold m58
    cases hx : d x
    · simp only [Bool.false_eq_true, if_false]
      split
      · simp
      · split
        · simp
        · exact n3
    · have := hg4 hx
      rcases this with h | h <;> simp [h]
  refine ⟨_, ?_, R.bind (pl' := pl) (order_w (p := p) (m := given f.mark l.mark) (M := given F.mark K.mark) (aro_no R.atoms) rfl gm hgv hd4), rfl⟩
  unfold closeRing
  simp only
  rw [if_neg (fun h => hK58 h.1), if_neg (fun h => hF58 h.1), if_neg ?_, hfa, hl.atom]
  rw [hfa, hl.atom, R.bonded]
  simp only [not_or]
  exact ⟨n1, n2, hncl⟩

/-- What a ring number adds. -/
theorem ring_new {a : Nat} (h : ring s a p = .ok q) : ∃ g p1 k j, bondEnd s a p = .ok (g, p1) ∧ ringNumber s p1.pos = .ok (k, j) ∧ q.pos = j ∧ p1.bonds = p.bonds ∧ (q.bonds = p.bonds ++ [] ∨ ∃ b, q.bonds = p.bonds ++ [b] ∧ b.pl = p1.pos ∧ (g.mark = 45 ∨ g.mark = 61 ∨ g.mark = 35 → b.o ≠ 4)) := by
  unfold ring at h
  split at h
  · cases h
  rename_i g p1 he
  split at h
  · cases h
  rename_i k j hn
  have hb : p1.bonds = p.bonds := by
    unfold bondEnd at he
    simp only at he
    split at he
    · split at he
      · cases he
      · cases he; rfl
    · cases he; rfl
  refine ⟨g, p1, k, j, he, hn, ?_⟩
  split at h
  · cases h
    exact ⟨rfl, hb, .inl (by simp [hb])⟩
  · rename_i o ho
    unfold closeRing at h
    simp only at h
    split at h
    · cases h
    split at h
    · cases h
    split at h
    · cases h
    rename_i c3
    cases h
    refine ⟨rfl, hb, .inr ⟨_, by simp only [Bz.bind]; rw [hb], rfl, fun hm => ?_⟩⟩
    simp only [not_or] at c3
    have n3 := c3.2.2
    rw [clash_iff] at n3
    show order _ (given o.hung.mark g.mark) _ _ ≠ 4
    have : given o.hung.mark g.mark = 45 ∨ given o.hung.mark g.mark = 61 ∨ given o.hung.mark g.mark = 35 := by
      unfold given
      split <;> omega
    unfold order
    rcases this with h | h | h <;> rw [h] <;> simp

theorem ring_w (C : Wc (dOf L e) s) (R : Wl (dOf L e) p P) (h : Bz.Rest W P.pos (wr0 (dOf L e) s p.pos)) (hf : P.pos ≤ W.size) (hp : Pre p) (e0 : LxE s p.pos) {a : Nat} (hr : ring s a p = .ok q) (hq : Rem L q) :
    ∃ Q, ring W a P = .ok Q ∧ Wl (dOf L e) q Q ∧ Bz.Rest W Q.pos (wr0 (dOf L e) s q.pos) ∧ P.pos < Q.pos ∧ Q.pos ≤ W.size := by
  obtain ⟨g, p1, k, j, he, hn, hj, hb1, hnew⟩ := ring_new hr
  obtain ⟨e1, g1⟩ := bondEnd_lx he e0
  obtain ⟨_, l2, _⟩ := number_lx hn e1
  have hp1 := g1.pos
  have gap : ∀ y, p1.pos < y → y < j → dOf L e y = false := fun y y1 y2 => by
    rcases hnew with h2 | ⟨b, h2, h3, h4⟩
    · exact d_gap hp hq h2 (by omega) (by omega) (by simp)
    · exact d_gap hp hq h2 (by omega) (by omega) (by simp; omega)
  have hmk : g.mark = 45 ∨ g.mark = 61 ∨ g.mark = 35 → dOf L e p1.pos = false := fun hm => by
    rcases hnew with h2 | ⟨b, h2, h3, h4⟩
    · exact d_gap hp hq h2 (by omega) (by omega) (by simp)
    · exact d_gap hp hq h2 (by omega) (by omega) (by simp only [List.mem_singleton]; rintro b rfl _; exact h4 hm)
  have hgm : MkOk g.mark := by
    unfold bondEnd at he
    simp only at he
    split at he
    · rename_i hs
      split at he
      · cases he
      · cases he; exact MkOk.of hs
    · cases he; exact .inl rfl
  obtain ⟨G, P1, b1, b2, b3, b4, b5, b6⟩ := bondEnd_w C R h hf he fun h0 h58 => hmk (by unfold MkOk at hgm; omega)
  obtain ⟨J, c1, c2, c3, c4⟩ := number_w b4 hn gap
  have hd : dOf L e p1.pos = true → ∃ b, q.bonds = p1.bonds ++ [b] ∧ b.o = 4 := fun hdd => by
    rw [hb1]
    rcases hnew with h2 | ⟨b, h2, h3, h4⟩
    · obtain ⟨b, hb, _⟩ := d_new hp hq h2 (by omega) (by omega) hdd
      simp at hb
    · obtain ⟨b', hb, _, k2⟩ := d_new hp hq h2 (by omega) (by omega) hdd
      rw [List.mem_singleton] at hb
      subst hb
      exact ⟨_, h2, k2⟩
  unfold ring at hr ⊢
  rw [he] at hr
  rw [b1]
  simp only at hr ⊢
  rw [hn] at hr
  rw [c1]
  simp only at hr ⊢
  rcases b3.rings k with ⟨r1, r2⟩ | ⟨o, O, r1, r2, r3, r4, r5⟩
  · rw [r1] at hr
    rw [r2]
    simp only [Except.ok.injEq] at hr ⊢
    subst hr
    have hdn : dOf L e p1.pos = false := by
      cases hdd : dOf L e p1.pos
      · rfl
      · obtain ⟨b, h1, _⟩ := hd hdd
        have := congrArg List.length h1
        simp at this
    refine ⟨_, rfl, (b3.move j J).setR k (.inr ⟨_, _, rfl, rfl, b2.atom, ?_, b2.ok⟩), c2, by simp only; omega, c3⟩
    rw [b2.mark, hdn]
    rfl
  · rw [r1] at hr
    rw [r2]
    simp only at hr ⊢
    obtain ⟨Q, k1, k2, k3⟩ := close_w (pl := P1.pos) ((b3.move j J).setR k (.inl ⟨rfl, rfl⟩)) r3 r4 r5 b2 hr hd
    simp only at k3
    exact ⟨Q, k1, k2, by rw [k3, hj]; exact c2, by omega, by omega⟩

theorem rings_w (C : Wc (dOf L e) s) {a : Nat} : ∀ (m M : Nat) {p P q : St}, ringsOf s a m p = .ok q → s.size - p.pos < m → W.size - P.pos < M → Wl (dOf L e) p P → Bz.Rest W P.pos (wr0 (dOf L e) s p.pos) → P.pos ≤ W.size → Pre p → LxE s p.pos → Rem L q →
    ∃ Q, ringsOf W a M P = .ok Q ∧ Wl (dOf L e) q Q ∧ Bz.Rest W Q.pos (wr0 (dOf L e) s q.pos) ∧ P.pos ≤ Q.pos ∧ Q.pos ≤ W.size
  | 0, M, p, P, q, _, hm, _, _, _, _, _, _, _ => by omega
  | m + 1, 0, p, P, q, _, _, hm, _, _, _, _, _, _ => by omega
  | m + 1, M + 1, p, P, q, hr, hm, hM, R, h, hf, hp, e0, hq => by
    rw [ringsOf] at hr ⊢
    cases hah : ringAhead s p
    · rw [hah] at hr
      simp only [Bool.false_eq_true, if_false, Except.ok.injEq] at hr
      subst hr
      have hw : ringAhead W P = false := by
        rw [ahead_w C h, hah]
        intro h1 _ h3
        unfold ringAhead at hah
        rw [h1] at hah
        simp only [if_true] at hah
        rw [hah] at h3
        cases h3
      rw [hw]
      exact ⟨P, rfl, R, h, Nat.le_refl _, hf⟩
    · rw [hah] at hr
      simp only [if_true] at hr
      cases h1 : ring s a p with
      | error e => rw [h1] at hr; cases hr
      | ok p1 =>
        rw [h1] at hr
        simp only at hr
        obtain ⟨e1, g1⟩ := ring_lx h1 e0
        obtain ⟨_, g2⟩ := rings_lx m hr e1
        have hq1 := hq.back g2
        have hw : ringAhead W P = true := by
          rw [ahead_w C h, hah]
          intro k1 k2 k3
          obtain ⟨g, p0, k, j, he, hn, hj, hb1, hnew⟩ := ring_new h1
          have hm : g.mark = byteAt s p.pos ∧ p0.pos = p.pos + 1 := by
            unfold bondEnd at he
            simp only [k1, if_true] at he
            split at he
            · cases he
            · cases he; exact ⟨rfl, rfl⟩
          have hmo := MkOk.of k1
          have hn0 : byteAt s p.pos ≠ 0 := fun e => by rw [e] at k1; cases k1
          unfold MkOk at hmo
          obtain ⟨_, l2, _⟩ := number_lx hn (by rw [hm.2]; exact e0.sign k1)
          rw [← hm.2]
          rcases hnew with h2 | ⟨b, h2, h3, h4⟩
          · exact d_gap hp hq1 h2 (by omega) (by omega) (by simp)
          · exact d_gap hp hq1 h2 (by omega) (by omega) (by simp only [List.mem_singleton]; rintro b rfl _; exact h4 (by omega))
        rw [hw]
        simp only [if_true]
        obtain ⟨P1, c1, c2, c3, c4, c5⟩ := ring_w C R h hf hp e0 h1 hq1
        rw [c1]
        simp only
        have hg1 := g1.pos
        have hlt := ahead_lt hah
        have hpos : p.pos < p1.pos := by
          obtain ⟨g, p0, k, j, he, hn, hj, hb1, hnew⟩ := ring_new h1
          obtain ⟨e2, g3⟩ := bondEnd_lx he e0
          obtain ⟨_, l2, _⟩ := number_lx hn e2
          have := g3.pos
          omega
        obtain ⟨Q, d1, d2, d3, d4, d5⟩ := rings_w C m M hr (by omega) (by omega) c2 c3 c5 (hp.on g1) e1 hq
        exact ⟨Q, d1, d2, d3, by omega, d5⟩

/-- Chains of the one text and of the other. -/
def CW (L : List Bnd) (e : Bnd → Bool) (s W : ByteArray) (N : Nat) (c K : Hung → St → R St) : Prop :=
  ∀ g G p P q, c g p = .ok q → W.size - P.pos < N → HW (dOf L e) p.pos g G → Wl (dOf L e) p P → Bz.Rest W P.pos (wr1 (dOf L e) s p.pos) → P.pos ≤ W.size → Pre p → Lx s p.pos → Rem L q →
    ∃ Q, K G P = .ok Q ∧ Wl (dOf L e) q Q ∧ Bz.Rest W Q.pos (wr0 (dOf L e) s q.pos) ∧ P.pos < Q.pos ∧ Q.pos ≤ W.size

/-- A chain begins with an atom. -/
def CA (L : List Bnd) (e : Bnd → Bool) (s : ByteArray) (c : Hung → St → R St) : Prop :=
  ∀ g p q, c g p = .ok q → Pre p → Lx s p.pos → Rem L q → (g.mark = 45 ∨ g.mark = 61 ∨ g.mark = 35 → dOf L e p.pos = false) ∧ (g.atom = -1 → dOf L e p.pos = false) ∧ p.pos < q.pos

theorem link_mk {a : Nat} {g : Hung} (h : link s a p = .ok (g, q)) : MkOk g.mark := by
  unfold link bondEnd at h
  simp only at h
  split at h
  · cases h; exact .inl rfl
  split at h
  · rename_i hs
    split at h
    · cases h
    · cases h; exact MkOk.of hs
  · cases h; exact .inl rfl

theorem branch_w (C : Wc (dOf L e) s) {c K : Hung → St → R St} (hc : CLx s c) (ca : CA L e s c) {N : Nat} (cw : CW L e s W N c K) (R : Wl (dOf L e) p P) (h : Bz.Rest W P.pos (wr0 (dOf L e) s p.pos)) (hf : P.pos ≤ W.size) (hp : Pre p) (e0 : LxE s p.pos) {a : Nat} (hN : W.size - P.pos < N) (hr : branch s c a p = .ok q) (hq : Rem L q) :
    ∃ Q, branch W K a P = .ok Q ∧ Wl (dOf L e) q Q ∧ Bz.Rest W Q.pos (wr0 (dOf L e) s q.pos) ∧ P.pos < Q.pos ∧ Q.pos ≤ W.size := by
  unfold branch at hr ⊢
  cases hl : link s a p with
  | error e => rw [hl] at hr; cases hr
  | ok x =>
    obtain ⟨g, p1⟩ := x
    rw [hl] at hr
    simp only at hr
    obtain ⟨e1, g1⟩ := link_lx hl e0
    cases h2 : c g p1 with
    | error e => rw [h2] at hr; cases hr
    | ok p2 =>
      rw [h2] at hr
      simp only at hr
      obtain ⟨e2, g2⟩ := hc g p1 p2 h2 e1
      split at hr
      · rename_i h41
        cases hr
        have hq2 : Rem L p2 := hq.back (s := s) (Gon.move (by omega))
        have hp1 := hp.on g1
        obtain ⟨a1, a2, a3⟩ := ca g p1 p2 h2 hp1 e1 hq2
        have hmk := link_mk hl
        obtain ⟨G, P1, b1, b2, b3, b4, b5, b6⟩ := link_w C R h hf hl (fun h0 h58 => a1 (by unfold MkOk at hmk; omega)) a2
        obtain ⟨P2, c1, c2, c3, c4, c5⟩ := cw g G p1 P1 p2 h2 (by omega) b2 b3 b4 b6 hp1 e1 hq2
        rw [b1]
        simp only
        rw [c1]
        simp only
        rw [if_pos ((C.test c3 (k := 41) (by omega)).2 h41)]
        obtain ⟨k1, k2, k3⟩ := a_same c3 (C.no (by rw [h41]; unfold Bp; omega)) h41 (by omega)
        exact ⟨_, rfl, c2.move _ _, k3, by simp only; omega, k2⟩
      · cases hr

theorem branches_w (C : Wc (dOf L e) s) {c K : Hung → St → R St} (hc : CLx s c) (ca : CA L e s c) {N : Nat} (cw : CW L e s W N c K) {a : Nat} : ∀ (m M : Nat) {p P q : St}, branches s c a m p = .ok q → s.size - p.pos < m → W.size - P.pos < M → Wl (dOf L e) p P → Bz.Rest W P.pos (wr0 (dOf L e) s p.pos) → P.pos ≤ W.size → Pre p → LxE s p.pos → Rem L q → W.size - P.pos < N →
    ∃ Q, branches W K a M P = .ok Q ∧ Wl (dOf L e) q Q ∧ Bz.Rest W Q.pos (wr0 (dOf L e) s q.pos) ∧ P.pos ≤ Q.pos ∧ Q.pos ≤ W.size
  | 0, M, p, P, q, _, hm, _, _, _, _, _, _, _, _ => by omega
  | m + 1, 0, p, P, q, _, _, hm, _, _, _, _, _, _, _ => by omega
  | m + 1, M + 1, p, P, q, hr, hm, hM, R, h, hf, hp, e0, hq, hN => by
    have ht := C.test h (k := 40) (by omega)
    rw [branches] at hr ⊢
    split at hr
    · rename_i h40
      rw [if_pos (ht.2 h40)]
      cases h1 : branch s c a { p with pos := p.pos + 1 } with
      | error e => rw [h1] at hr; cases hr
      | ok p1 =>
        rw [h1] at hr
        simp only at hr
        have e1 : LxE s (p.pos + 1) := e0.plain (by rw [h40]; rfl) (by omega)
        have g0 : Gon s p { p with pos := p.pos + 1 } := Gon.move (by omega)
        obtain ⟨e2, g1⟩ := branch_lx hc h1 e1
        obtain ⟨_, g2⟩ := branches_lx hc m hr e2
        obtain ⟨k1, k2, k3⟩ := a_same h (C.no (by rw [h40]; unfold Bp; omega)) h40 (by omega)
        obtain ⟨P1, c1, c2, c3, c4, c5⟩ := branch_w (P := { P with pos := P.pos + 1 }) C hc ca cw (R.move _ _) k3 k2 (hp.on g0) e1 (by simp only; omega) h1 (hq.back g2)
        rw [c1]
        simp only at c4 ⊢
        have hg := g1.pos
        simp only at hg
        have hlt : p.pos < s.size := lt_of_byteAt (by omega)
        obtain ⟨Q, d1, d2, d3, d4, d5⟩ := branches_w C hc ca cw m M hr (by omega) (by omega) c2 c3 c5 (hp.on (g0.trans g1)) e2 hq (by omega)
        exact ⟨Q, d1, d2, d3, by omega, d5⟩
    · rename_i h40
      rw [if_neg (fun h => h40 (ht.1 h))]
      cases hr
      exact ⟨P, rfl, R, h, Nat.le_refl _, hf⟩

theorem atom_go (e0 : Lx s p.pos) {a : Nat} {g : Hung} (h : atom s g p = .ok (a, q)) : p.pos < q.pos := by
  unfold atom at h
  simp only at h
  split at h
  · split at h <;> cases h
  rename_i el ar n hel
  split at h
  · cases h
  split at h
  · cases h
  split at h
  · cases h
  rename_i ch hy j hb
  have hj : q.pos = j := by
    simp only [Except.ok.injEq, Prod.mk.injEq] at h
    rw [← h.2]
    split <;> rfl
  rw [hj]
  cases h91 : (byteAt s p.pos == 91)
  · rw [h91] at hel hb
    simp only [Bool.false_eq_true, if_false, Except.ok.injEq, Prod.mk.injEq] at hel hb
    have := (elem_lx hel e0).2.2
    omega
  · rw [h91] at hel hb
    simp only [if_true] at hel hb
    have := (bracket_pos hb).1
    simp only at this
    omega

theorem knot_w (C : Wc (dOf L e) s) {c K : Hung → St → R St} (hc : CLx s c) (ca : CA L e s c) {N : Nat} (cw : CW L e s W N c K) (R : Wl (dOf L e) p P) {g G : Hung} (hg : HW (dOf L e) p.pos g G) (h : Bz.Rest W P.pos (wr1 (dOf L e) s p.pos)) (hp : Pre p) (e0 : Lx s p.pos) {a : Nat} (hN : W.size - P.pos < N + 1) (hr : knot s c g p = .ok (a, q)) (hq : Rem L q) :
    ∃ Q, knot W K G P = .ok (a, Q) ∧ Wl (dOf L e) q Q ∧ Bz.Rest W Q.pos (wr0 (dOf L e) s q.pos) ∧ P.pos < Q.pos ∧ Q.pos ≤ W.size := by
  unfold knot at hr ⊢
  cases h1 : atom s g p with
  | error e => rw [h1] at hr; cases hr
  | ok x =>
    obtain ⟨a1, p1⟩ := x
    rw [h1] at hr
    simp only at hr
    obtain ⟨e1, g1⟩ := atom_lx h1 e0
    cases h2 : ringsOf s a1 (s.size + 1) p1 with
    | error e => rw [h2] at hr; cases hr
    | ok p2 =>
      rw [h2] at hr
      simp only at hr
      obtain ⟨e2, g2⟩ := rings_lx _ h2 e1
      cases h3 : branches s c a1 (s.size + 1) p2 with
      | error e => rw [h3] at hr; cases hr
      | ok p3 =>
        rw [h3] at hr
        simp only [Except.ok.injEq, Prod.mk.injEq] at hr
        obtain ⟨rfl, rfl⟩ := hr
        obtain ⟨e3, g3⟩ := branches_lx hc _ h3 e2
        have hq2 := hq.back g3
        have hq1 := hq2.back g2
        obtain ⟨a1', a2', _, _⟩ := atom_d (e := e) hp e0 h1 hq1
        obtain ⟨P1, c1, c2, c3, c4, c5⟩ := atom_w C R h hg h1 a1' a2'
        obtain ⟨P2, d1, d2, d3, d4, d5⟩ := rings_w C (s.size + 1) (W.size + 1) h2 (by omega) (by omega) c2 c3 c5 (hp.on g1) e1 hq2
        obtain ⟨P3, f1, f2, f3, f4, f5⟩ := branches_w C hc ca cw (s.size + 1) (W.size + 1) h3 (by omega) (by omega) d2 d3 d5 (hp.on (g1.trans g2)) e2 hq (by omega)
        rw [c1]
        simp only
        rw [d1]
        simp only
        rw [f1]
        exact ⟨P3, rfl, f2, f3, by omega, f5⟩

theorem knot_a {c : Hung → St → R St} (hc : CLx s c) {g : Hung} (hp : Pre p) (e0 : Lx s p.pos) {a : Nat} (hr : knot s c g p = .ok (a, q)) (hq : Rem L q) :
    (g.mark = 45 ∨ g.mark = 61 ∨ g.mark = 35 → dOf L e p.pos = false) ∧ (g.atom = -1 → dOf L e p.pos = false) ∧ p.pos < q.pos := by
  unfold knot at hr
  cases h1 : atom s g p with
  | error e => rw [h1] at hr; cases hr
  | ok x =>
    obtain ⟨a1, p1⟩ := x
    rw [h1] at hr
    simp only at hr
    obtain ⟨e1, g1⟩ := atom_lx h1 e0
    split at hr
    · cases hr
    rename_i h2
    split at hr
    · cases hr
    rename_i h3
    cases hr
    obtain ⟨e2, g2⟩ := rings_lx _ h2 e1
    obtain ⟨e3, g3⟩ := branches_lx hc _ h3 e2
    obtain ⟨_, _, a3, a4⟩ := atom_d (e := e) hp e0 h1 (hq.back (g2.trans g3))
    have := atom_go e0 h1
    have := (g2.trans g3).pos
    exact ⟨a3, a4, by omega⟩

theorem linked_w (C : Wc (dOf L e) s) {c K : Hung → St → R St} (hc : CLx s c) (ca : CA L e s c) {N : Nat} (cw : CW L e s W N c K) : ∀ (m M : Nat) {a : Nat} {p P q : St}, Bz.linked s c m a p = .ok q → s.size - p.pos < m → W.size - P.pos < M → Wl (dOf L e) p P → Bz.Rest W P.pos (wr0 (dOf L e) s p.pos) → P.pos ≤ W.size → Pre p → LxE s p.pos → Rem L q → W.size - P.pos < N + 1 →
    ∃ Q, Bz.linked W K M a P = .ok Q ∧ Wl (dOf L e) q Q ∧ Bz.Rest W Q.pos (wr0 (dOf L e) s q.pos) ∧ P.pos ≤ Q.pos ∧ Q.pos ≤ W.size
  | 0, M, a, p, P, q, _, hm, _, _, _, _, _, _, _, _ => by omega
  | m + 1, 0, a, p, P, q, _, _, hm, _, _, _, _, _, _, _ => by omega
  | m + 1, M + 1, a, p, P, q, hr, hm, hM, R, h, hf, hp, e0, hq, hN => by
    have ht := C.test h (k := 41) (by omega)
    have hlt : p.pos < s.size ↔ P.pos < W.size := by
      rcases C.cases h with ⟨h0, _, _, h3⟩ | ⟨h0, _, _, _, h3, _⟩ | ⟨h0, _, _, _, h3, _⟩ | ⟨h0, _, h2, _, _, _, h3, _⟩ | ⟨h0, _, h2, _, _, _, h3, _⟩ <;> omega
    rw [Bz.linked] at hr ⊢
    split at hr
    · rename_i hg
      rw [if_pos ⟨hlt.1 hg.1, fun h => hg.2 (ht.1 h)⟩]
      cases h1 : linkedKnot s c a p with
      | error e => rw [h1] at hr; cases hr
      | ok x =>
        obtain ⟨a1, p1⟩ := x
        rw [h1] at hr
        simp only at hr
        obtain ⟨e1, g1⟩ := lknot_lx hc h1 e0
        obtain ⟨_, g2⟩ := linked_lx hc m hr e1
        have hq1 := hq.back g2
        have hk : ∃ P1, linkedKnot W K a P = .ok (a1, P1) ∧ Wl (dOf L e) p1 P1 ∧ Bz.Rest W P1.pos (wr0 (dOf L e) s p1.pos) ∧ P.pos < P1.pos ∧ P1.pos ≤ W.size ∧ p.pos < p1.pos := by
          unfold linkedKnot at h1 ⊢
          cases h2 : link s a p with
          | error e => rw [h2] at h1; cases h1
          | ok x =>
            obtain ⟨g, p0⟩ := x
            rw [h2] at h1
            simp only at h1
            obtain ⟨e2, g0⟩ := link_lx h2 e0
            have hp0 := hp.on g0
            obtain ⟨a1', a2', a3'⟩ := knot_a (e := e) hc hp0 e2 h1 hq1
            have hmk := link_mk h2
            obtain ⟨G, P0, b1, b2, b3, b4, b5, b6⟩ := link_w C R h hf h2 (fun h0 h58 => a1' (by unfold MkOk at hmk; omega)) a2'
            rw [b1]
            obtain ⟨P1, c1, c2, c3, c4, c5⟩ := knot_w C hc ca cw b3 b2 b4 hp0 e2 (by omega) h1 hq1
            have := g0.pos
            exact ⟨P1, c1, c2, c3, by omega, c5, by omega⟩
        obtain ⟨P1, c1, c2, c3, c4, c5, c6⟩ := hk
        rw [c1]
        simp only
        obtain ⟨Q, d1, d2, d3, d4, d5⟩ := linked_w C hc ca cw m M hr (by omega) (by omega) c2 c3 c5 (hp.on g1) e1 hq (by omega)
        exact ⟨Q, d1, d2, d3, by omega, d5⟩
    · rename_i hg
      rw [if_neg (fun h => hg ⟨hlt.2 h.1, fun k => h.2 (ht.2 k)⟩)]
      cases hr
      exact ⟨P, rfl, R, h, Nat.le_refl _, hf⟩

theorem chain_a : ∀ n, CA L e s (chain s n)
  | 0 => by intro g p q hr; simp [chain] at hr
  | n + 1 => by
    intro g p q hr hp e0 hq
    rw [chain] at hr
    split at hr
    · cases hr
    · rename_i a1 p1 hk
      obtain ⟨e1, g1⟩ := knot_lx (chain_lx n) hk e0
      obtain ⟨_, g2⟩ := linked_lx (chain_lx n) _ hr e1
      obtain ⟨k1, k2, k3⟩ := knot_a (e := e) (chain_lx n) hp e0 hk (hq.back g2)
      have := g2.pos
      exact ⟨k1, k2, by omega⟩

theorem chain_w (C : Wc (dOf L e) s) : ∀ n N, CW L e s W N (chain s n) (chain W N)
  | 0, N => by intro g G p P q hr; simp [chain] at hr
  | n + 1, 0 => by intro g G p P q hr hN; omega
  | n + 1, N + 1 => by
    intro g G p P q hr hN hg R h hf hp e0 hq
    rw [chain] at hr ⊢
    cases h1 : knot s (chain s n) g p with
    | error e => rw [h1] at hr; cases hr
    | ok x =>
      obtain ⟨a1, p1⟩ := x
      rw [h1] at hr
      simp only at hr
      obtain ⟨e1, g1⟩ := knot_lx (chain_lx n) h1 e0
      obtain ⟨_, g2⟩ := linked_lx (chain_lx n) _ hr e1
      obtain ⟨P1, c1, c2, c3, c4, c5⟩ := knot_w C (chain_lx n) (chain_a n) (chain_w C n N) R hg h hp e0 hN h1 (hq.back g2)
      rw [c1]
      simp only
      obtain ⟨Q, d1, d2, d3, d4, d5⟩ := linked_w C (chain_lx n) (chain_a n) (chain_w C n N) (s.size + 1) (W.size + 1) hr (by omega) (by omega) c2 c3 c5 (hp.on g1) e1 hq (by omega)
      exact ⟨Q, d1, d2, d3, by omega, d5⟩
end
end Go.Proofs.YtcabaecbmkgclaaGreatDoor

namespace Go.Proofs.YtcabaecbmkgclaaGreatDoor
open Go.RowKit Bz

structure En (n : Nat) (l : List Bnd) (pos : Nat) : Prop where
  ends : ∀ b ∈ l, b.a < b.b ∧ b.b < n
  dist : l.Pairwise fun x y => ¬ (x.a = y.a ∧ x.b = y.b)
  rise : l.Pairwise fun x y => x.pl < y.pl
  plt : ∀ b ∈ l, b.pl < pos

theorem En.mono {n n' pos pos' : Nat} {l : List Bnd} (h : En n l pos) (hn : n ≤ n') (hp : pos ≤ pos') : En n' l pos' :=
  ⟨fun b hb => ⟨(h.ends b hb).1, Nat.lt_of_lt_of_le (h.ends b hb).2 hn⟩, h.dist, h.rise, fun b hb => Nat.lt_of_lt_of_le (h.plt b hb) hp⟩

theorem En.snoc {n pos pos' : Nat} {l : List Bnd} (h : En n l pos) {a b pl : Nat} (o : Int) (hab : a < b) (hb : b < n) (hd : ∀ x ∈ l, ¬ (x.a = a ∧ x.b = b)) (hp : pos ≤ pl) (hp' : pl < pos') : En n (l ++ [⟨a, b, o, pl⟩]) pos' := by
  refine ⟨fun x hx => ?_, ?_, ?_, fun x hx => ?_⟩
  · rcases List.mem_append.1 hx with hx | hx
    · exact h.ends x hx
    · simp at hx; subst hx; exact ⟨hab, hb⟩
  · rw [List.pairwise_append]
    refine ⟨h.dist, by simp, fun x hx y hy => ?_⟩
    simp at hy; subst hy; exact hd x hx
  · rw [List.pairwise_append]
    refine ⟨h.rise, by simp, fun x hx y hy => ?_⟩
    simp at hy; subst hy
    have := h.plt x hx
    simp only
    omega
  · rcases List.mem_append.1 hx with hx | hx
    · have := h.plt x hx; omega
    · simp at hx; subst hx; exact hp'

def Eo (p : St) : Prop := En p.atoms.length p.bonds p.pos

theorem bondEnd_en {s : ByteArray} {a : Nat} {p q : St} {g : Hung} (h : bondEnd s a p = .ok (g, q)) (o : Ok s p) (e : Eo p) : Eo q := by
  obtain ⟨h1, h2, h3, h4, h5, h6⟩ := bondEnd_ok h o.pos
  unfold Eo
  rw [h1, h2]
  exact En.mono e (Nat.le_refl _) (by omega)

theorem link_en {s : ByteArray} {a : Nat} {p q : St} {g : Hung} (h : link s a p = .ok (g, q)) (o : Ok s p) (e : Eo p) : Eo q := by
  unfold link at h
  split at h
  · simp only [Except.ok.injEq, Prod.mk.injEq] at h
    obtain ⟨rfl, rfl⟩ := h
    exact En.mono e (Nat.le_refl _) (by simp)
  · exact bondEnd_en h o e

theorem head_pl {s : ByteArray} {p : St} {g : Hung} {a : Atm} {j : Nat} (h : atomHead s g p = .ok (a, j)) : a.pl = p.pos := by
  unfold atomHead at h
  split at h
  · split at h <;> cases h
  · split at h
    · cases h
    · split at h
      · cases h
      · split at h
        · cases h
        · simp only [Except.ok.injEq, Prod.mk.injEq] at h
          obtain ⟨rfl, rfl⟩ := h
          rfl

theorem atom_en {s : ByteArray} {p q : St} {g : Hung} {k : Nat} (h : atom s g p = .ok (k, q)) (hg : HungOk g p) (e : Eo p) : Eo q := by
  rw [atom_eq] at h
  cases hh : atomHead s g p with
  | error e => rw [hh] at h; cases h
  | ok x =>
    obtain ⟨a, j⟩ := x
    rw [hh] at h
    simp only [Except.ok.injEq] at h
    have hj := head_pos hh
    unfold atomTail at h
    simp only [Prod.mk.injEq] at h
    obtain ⟨rfl, rfl⟩ := h
    split
    · exact En.mono e (by simp) (by simp; omega)
    · rename_i hne
      rcases hg with hg | ⟨fa, hf, hl⟩
      · exact absurd hg hne
      · unfold Eo Bz.bind
        simp only [hf, Int.toNat_natCast]
        have e1 : min fa p.atoms.length = fa := by omega
        have e2 : max fa p.atoms.length = p.atoms.length := by omega
        rw [e1, e2, head_pl hh]
        refine En.snoc (pos := p.pos) (En.mono e (by simp) (Nat.le_refl _)) _ hl (by simp) (fun x hx => ?_) (Nat.le_refl _) hj.1
        have := (e.ends x hx).2
        omega

theorem bonded_no {l : List Bnd} {a b : Nat} (h : bonded l a b = false) : ∀ x ∈ l, ¬ (x.a = min a b ∧ x.b = max a b) := by
  intro x hx hc
  unfold bonded at h
  have := List.any_eq_false.1 h x hx
  simp at this
  rcases Nat.le_total a b with k | k
  · rw [Nat.min_eq_left k, Nat.max_eq_right k] at hc
    exact this.1 hc.1 hc.2
  · rw [Nat.min_eq_right k, Nat.max_eq_left k] at hc
    exact this.2 hc.1 hc.2

theorem ring_en {s : ByteArray} {a : Nat} {p q : St} (h : ring s a p = .ok q) (o : Ok s p) (ha : a < p.atoms.length) (e : Eo p) : Eo q := by
  unfold ring at h
  split at h
  · cases h
  · rename_i g p1 hbe
    obtain ⟨o1, hg, ha1, hp1⟩ := bondEnd_wf hbe o ha
    have e1 := bondEnd_en hbe o e
    obtain ⟨_, _, _, _, _, h6⟩ := bondEnd_ok hbe o.pos
    split at h
    · cases h
    · rename_i n j hrn
      obtain ⟨h1, h2⟩ := ringNumber_pos hrn
      split at h
      · simp only [Except.ok.injEq] at h
        subst h
        exact En.mono e1 (Nat.le_refl _) (by simp; omega)
      · rename_i op hop
        obtain ⟨fa, hfa, hfl⟩ := o1.rings n op hop
        unfold closeRing at h
        simp only at h
        split at h
        · cases h
        · split at h
          · cases h
          · split at h
            · cases h
            · rename_i hno
              simp only [Except.ok.injEq] at h
              subst h
              simp only [not_or] at hno
              obtain ⟨n1, n2, _⟩ := hno
              have n2' : bonded p1.bonds op.hung.atom.toNat g.atom.toNat = false := by simpa using n2
              rw [hfa, h6] at n1 n2'
              simp only [Int.toNat_natCast] at n2'
              unfold Eo Bz.bind
              simp only [hfa, h6, Int.toNat_natCast]
              have hal : a < p1.atoms.length := by rw [ha1]; exact ha
              refine En.snoc (pos := p1.pos) e1 _ (by omega) (by omega) (bonded_no n2') (Nat.le_refl _) (by omega)

theorem ringsOf_en {s : ByteArray} {a : Nat} : ∀ (n : Nat) {p q : St}, ringsOf s a n p = .ok q → Ok s p → a < p.atoms.length → Eo p → Eo q
  | 0, p, q, h, _, _, e => by simp only [ringsOf, Except.ok.injEq] at h; subst h; exact e
  | n + 1, p, q, h, o, ha, e => by
    unfold ringsOf at h
    split at h
    · split at h
      · cases h
      · rename_i p1 hr
        obtain ⟨o1, h1, h2⟩ := ring_wf hr o ha
        exact ringsOf_en n h o1 (by omega) (ring_en hr o ha e)
    · simp only [Except.ok.injEq] at h; subst h; exact e

def ChainEn (s : ByteArray) (c : Hung → St → R St) : Prop := ∀ g q q', Ok s q → HungOk g q → Eo q → c g q = .ok q' → Eo q'

theorem branch_en {s : ByteArray} {c : Hung → St → R St} (hc : ChainEn s c) {a : Nat} {p q : St} (h : branch s c a p = .ok q) (o : Ok s p) (ha : a < p.atoms.length) (e : Eo p) : Eo q := by
  unfold branch at h
  split at h
  · cases h
  · rename_i g p1 hl
    obtain ⟨o1, hg, ha1, hp1⟩ := link_wf hl o ha
    have e1 := link_en hl o e
    split at h
    · cases h
    · rename_i p2 hch
      have e2 := hc g p1 p2 o1 hg e1 hch
      split at h
      · simp only [Except.ok.injEq] at h
        subst h
        exact En.mono e2 (Nat.le_refl _) (by simp)
      · cases h

theorem branches_en {s : ByteArray} {c : Hung → St → R St} (hk : ChainOk s c) (hc : ChainEn s c) {a : Nat} : ∀ (n : Nat) {p q : St}, branches s c a n p = .ok q → Ok s p → a < p.atoms.length → Eo p → Eo q
  | 0, p, q, h, _, _, e => by simp only [branches, Except.ok.injEq] at h; subst h; exact e
  | n + 1, p, q, h, o, ha, e => by
    unfold branches at h
    split at h
    · rename_i eb
      split at h
      · cases h
      · rename_i p1 hr
        have os := o.step (byte_lt eb (by decide))
        have es : Eo { p with pos := p.pos + 1 } := En.mono e (Nat.le_refl _) (by simp)
        obtain ⟨o1, h1, h2⟩ := branch_wf hk hr os ha
        simp only at h1 h2
        exact branches_en hk hc n h o1 (by omega) (branch_en hc hr os ha es)
    · simp only [Except.ok.injEq] at h; subst h; exact e

theorem knot_en {s : ByteArray} {c : Hung → St → R St} (hk : ChainOk s c) (hc : ChainEn s c) {g : Hung} {p q : St} {k : Nat} (h : knot s c g p = .ok (k, q)) (o : Ok s p) (hg : HungOk g p) (e : Eo p) : Eo q := by
  unfold knot at h
  split at h
  · cases h
  · rename_i k1 p1 ha
    obtain ⟨o1, h1, h2, h3⟩ := atom_wf ha o
    have e1 := atom_en ha hg e
    split at h
    · cases h
    · rename_i p2 hr
      obtain ⟨o2, h4, h5⟩ := ringsOf_wf _ hr o1 h1
      have e2 := ringsOf_en _ hr o1 h1 e1
      split at h
      · cases h
      · rename_i p3 hb
        simp only [Except.ok.injEq, Prod.mk.injEq] at h
        obtain ⟨rfl, rfl⟩ := h
        exact branches_en hk hc _ hb o2 (by omega) e2

theorem linkedKnot_en {s : ByteArray} {c : Hung → St → R St} (hk : ChainOk s c) (hc : ChainEn s c) {a : Nat} {p q : St} {k : Nat} (h : linkedKnot s c a p = .ok (k, q)) (o : Ok s p) (ha : a < p.atoms.length) (e : Eo p) : Eo q := by
  unfold linkedKnot at h
  split at h
  · cases h
  · rename_i g p1 hl
    obtain ⟨o1, hg, ha1, hp1⟩ := link_wf hl o ha
    exact knot_en hk hc h o1 hg (link_en hl o e)

theorem linked_en {s : ByteArray} {c : Hung → St → R St} (hk : ChainOk s c) (hc : ChainEn s c) : ∀ (n : Nat) {a : Nat} {p q : St}, Bz.linked s c n a p = .ok q → Ok s p → a < p.atoms.length → Eo p → Eo q
  | 0, a, p, q, h, _, _, e => by simp only [Bz.linked, Except.ok.injEq] at h; subst h; exact e
  | n + 1, a, p, q, h, o, ha, e => by
    unfold Bz.linked at h
    split at h
    · split at h
      · cases h
      · rename_i k1 p1 hr
        obtain ⟨o1, h1, h2, h3⟩ := linkedKnot_wf hk hr o ha
        exact linked_en hk hc n h o1 h1 (linkedKnot_en hk hc hr o ha e)
    · simp only [Except.ok.injEq] at h; subst h; exact e

theorem chain_en (s : ByteArray) : ∀ n, ChainEn s (chain s n)
  | 0 => by intro g q q' _ _ _ h; simp [chain] at h
  | n + 1 => by
    intro g q q' o hg e h
    unfold chain at h
    split at h
    · cases h
    · rename_i k p1 hk
      obtain ⟨o1, h1, h2, h3⟩ := knot_wf (chain_wf s n) hk o
      exact linked_en (chain_wf s n) (chain_en s n) _ h o1 h1 (knot_en (chain_wf s n) (chain_en s n) hk o hg e)
end Go.Proofs.YtcabaecbmkgclaaGreatDoor

namespace Go.Proofs.YtcabaecbmkgclaaGreatDoor
open Go.RowKit Bz

def Asc (s : ByteArray) (k : Nat) : Prop := ∀ i, i < k → byteAt s i < 128

theorem Asc.succ {s : ByteArray} {k : Nat} (h : Asc s k) (hk : byteAt s k < 128) : Asc s (k + 1) := fun i hi => by
  rcases Nat.lt_or_ge i k with hl | hl
  · exact h i hl
  · have : i = k := by omega
    subst this
    exact hk

theorem isSign_lt {c : Int} (h : isSign c = true) : c < 128 := by
  unfold isSign at h
  simp only [Bool.or_eq_true, beq_iff_eq] at h
  omega

theorem element_ac {s : ByteArray} {i : Nat} {el : ByteArray} {ar : Bool} {n : Nat} (h : element s i = some (el, ar, n)) (a : Asc s i) : Asc s (i + n) := by
  unfold element at h
  simp only at h
  split at h
  · rename_i hc
    simp only [Option.some.injEq, Prod.mk.injEq] at h
    obtain ⟨_, _, rfl⟩ := h
    exact (a.succ (by omega)).succ (by omega)
  · split at h
    · rename_i hc
      simp only [Option.some.injEq, Prod.mk.injEq] at h
      obtain ⟨_, _, rfl⟩ := h
      exact (a.succ (by omega)).succ (by omega)
    · split at h
      · rename_i hc
        simp only [Option.some.injEq, Prod.mk.injEq] at h
        obtain ⟨_, _, rfl⟩ := h
        exact a.succ (by omega)
      · split at h
        · rename_i hc
          simp only [Option.some.injEq, Prod.mk.injEq] at h
          obtain ⟨_, _, rfl⟩ := h
          exact a.succ (by omega)
        · cases h

theorem hydro_ac {s : ByteArray} {i : Nat} (a : Asc s i) : Asc s (hydro s i).2 := by
  unfold hydro
  split
  · split
    · exact (a.succ (by omega)).succ (by omega)
    · exact a.succ (by omega)
  · exact a

theorem charge_ac {s : ByteArray} {i : Nat} (a : Asc s i) : Asc s (charge s i).2 := by
  unfold charge
  split
  · exact a.succ (by omega)
  · split
    · exact a.succ (by omega)
    · exact a

theorem bracket_ac {s : ByteArray} {i : Nat} {x : Int × Int × Nat} (h : bracket s i = .ok x) (a : Asc s i) : Asc s x.2.2 := by
  unfold bracket at h
  simp only at h
  split at h
  · rename_i hc
    simp only [Except.ok.injEq] at h
    subst h
    exact (charge_ac (hydro_ac a)).succ (by omega)
  · cases h

theorem head_ac {s : ByteArray} {p : St} {g : Hung} {at_ : Atm} {j : Nat} (h : atomHead s g p = .ok (at_, j)) (a : Asc s p.pos) : Asc s j := by
  unfold atomHead at h
  split at h
  · split at h <;> cases h
  · rename_i el ar n he
    have a1 : Asc s (if (byteAt s p.pos == 91) = true then p.pos + 1 else p.pos) := by
      split
      · rename_i hb
        simp only [beq_iff_eq] at hb
        exact a.succ (by omega)
      · exact a
    have a2 := element_ac he a1
    split at h
    · cases h
    · split at h
      · cases h
      · split at h
        · cases h
        · rename_i ch hy j' hb
          simp only [Except.ok.injEq, Prod.mk.injEq] at h
          obtain ⟨_, rfl⟩ := h
          split at hb
          · rename_i hq
            rw [if_pos hq] at a2
            have := bracket_ac hb a2
            exact this
          · rename_i hq
            rw [if_neg hq] at a2
            simp only [Except.ok.injEq, Prod.mk.injEq] at hb
            obtain ⟨_, _, rfl⟩ := hb
            exact a2

theorem bondEnd_ac {s : ByteArray} {a : Nat} {p q : St} {g : Hung} (h : bondEnd s a p = .ok (g, q)) (e : Asc s p.pos) : Asc s q.pos := by
  unfold bondEnd at h
  simp only at h
  split at h
  · rename_i hs
    split at h
    · cases h
    · simp only [Except.ok.injEq, Prod.mk.injEq] at h
      obtain ⟨_, rfl⟩ := h
      exact e.succ (isSign_lt hs)
  · simp only [Except.ok.injEq, Prod.mk.injEq] at h
    obtain ⟨_, rfl⟩ := h
    exact e

theorem link_ac {s : ByteArray} {a : Nat} {p q : St} {g : Hung} (h : link s a p = .ok (g, q)) (e : Asc s p.pos) : Asc s q.pos := by
  unfold link at h
  split at h
  · simp only [Except.ok.injEq, Prod.mk.injEq] at h
    obtain ⟨_, rfl⟩ := h
    exact e.succ (by omega)
  · exact bondEnd_ac h e

theorem atom_ac {s : ByteArray} {p q : St} {g : Hung} {k : Nat} (h : atom s g p = .ok (k, q)) (e : Asc s p.pos) : Asc s q.pos := by
  rw [atom_eq] at h
  cases hh : atomHead s g p with
  | error e => rw [hh] at h; cases h
  | ok x =>
    obtain ⟨a, j⟩ := x
    rw [hh] at h
    simp only [Except.ok.injEq] at h
    have hj := head_ac hh e
    unfold atomTail at h
    simp only [Prod.mk.injEq] at h
    obtain ⟨_, rfl⟩ := h
    split
    · exact hj
    · exact hj

theorem digit_lt128 {c : Int} (h : isDigit c = true) : c < 128 := by
  unfold isDigit at h
  simp only [Bool.and_eq_true, decide_eq_true_eq] at h
  omega

theorem ringNumber_ac {s : ByteArray} {i n j : Nat} (h : ringNumber s i = .ok (n, j)) (e : Asc s i) : Asc s j := by
  unfold ringNumber at h
  split at h
  · rename_i h0
    split at h
    · split at h
      · rename_i h1 h2
        simp only [Except.ok.injEq, Prod.mk.injEq] at h
        obtain ⟨_, rfl⟩ := h
        exact ((e.succ (by omega)).succ (digit_lt128 h1)).succ (digit_lt128 h2)
      · cases h
    · cases h
  · split at h
    · rename_i h1
      simp only [Except.ok.injEq, Prod.mk.injEq] at h
      obtain ⟨_, rfl⟩ := h
      exact e.succ (digit_lt128 h1)
    · cases h

theorem ring_ac {s : ByteArray} {a : Nat} {p q : St} (h : ring s a p = .ok q) (e : Asc s p.pos) : Asc s q.pos := by
  unfold ring at h
  split at h
  · cases h
  · rename_i g p1 hbe
    have e1 := bondEnd_ac hbe e
    split at h
    · cases h
    · rename_i n j hrn
      have e2 := ringNumber_ac hrn e1
      split at h
      · simp only [Except.ok.injEq] at h
        subst h
        exact e2
      · unfold closeRing at h
        simp only at h
        split at h
        · cases h
        · split at h
          · cases h
          · split at h
            · cases h
            · simp only [Except.ok.injEq] at h
              subst h
              exact e2

theorem ringsOf_ac {s : ByteArray} {a : Nat} : ∀ (n : Nat) {p q : St}, ringsOf s a n p = .ok q → Asc s p.pos → Asc s q.pos
  | 0, p, q, h, e => by simp only [ringsOf, Except.ok.injEq] at h; subst h; exact e
  | n + 1, p, q, h, e => by
    unfold ringsOf at h
    split at h
    · split at h
      · cases h
      · rename_i p1 hr
        exact ringsOf_ac n h (ring_ac hr e)
    · simp only [Except.ok.injEq] at h; subst h; exact e

def ChainAc (s : ByteArray) (c : Hung → St → R St) : Prop := ∀ g q q', Asc s q.pos → c g q = .ok q' → Asc s q'.pos

theorem branch_ac {s : ByteArray} {c : Hung → St → R St} (hc : ChainAc s c) {a : Nat} {p q : St} (h : branch s c a p = .ok q) (e : Asc s p.pos) : Asc s q.pos := by
  unfold branch at h
  split at h
  · cases h
  · rename_i g p1 hl
    have e1 := link_ac hl e
    split at h
    · cases h
    · rename_i p2 hch
      have e2 := hc g p1 p2 e1 hch
      split at h
      · rename_i hb
        simp only [Except.ok.injEq] at h
        subst h
        exact e2.succ (by omega)
      · cases h

theorem branches_ac {s : ByteArray} {c : Hung → St → R St} (hc : ChainAc s c) {a : Nat} : ∀ (n : Nat) {p q : St}, branches s c a n p = .ok q → Asc s p.pos → Asc s q.pos
  | 0, p, q, h, e => by simp only [branches, Except.ok.injEq] at h; subst h; exact e
  | n + 1, p, q, h, e => by
    unfold branches at h
    split at h
    · rename_i eb
      split at h
      · cases h
      · rename_i p1 hr
        exact branches_ac hc n h (branch_ac hc hr (e.succ (by omega)))
    · simp only [Except.ok.injEq] at h; subst h; exact e

theorem knot_ac {s : ByteArray} {c : Hung → St → R St} (hc : ChainAc s c) {g : Hung} {p q : St} {k : Nat} (h : knot s c g p = .ok (k, q)) (e : Asc s p.pos) : Asc s q.pos := by
  unfold knot at h
  split at h
  · cases h
  · rename_i k1 p1 ha
    have e1 := atom_ac ha e
    split at h
    · cases h
    · rename_i p2 hr
      have e2 := ringsOf_ac _ hr e1
      split at h
      · cases h
      · rename_i p3 hb
        simp only [Except.ok.injEq, Prod.mk.injEq] at h
        obtain ⟨_, rfl⟩ := h
        exact branches_ac hc _ hb e2

theorem linked_ac {s : ByteArray} {c : Hung → St → R St} (hc : ChainAc s c) : ∀ (n : Nat) {a : Nat} {p q : St}, Bz.linked s c n a p = .ok q → Asc s p.pos → Asc s q.pos
  | 0, a, p, q, h, e => by simp only [Bz.linked, Except.ok.injEq] at h; subst h; exact e
  | n + 1, a, p, q, h, e => by
    unfold Bz.linked at h
    split at h
    · split at h
      · cases h
      · rename_i k1 p1 hr
        unfold linkedKnot at hr
        split at hr
        · cases hr
        · rename_i g p0 hl
          exact linked_ac hc n h (knot_ac hc hr (link_ac hl e))
    · simp only [Except.ok.injEq] at h; subst h; exact e

theorem chain_ac (s : ByteArray) : ∀ n, ChainAc s (chain s n)
  | 0 => by intro g q q' _ h; simp [chain] at h
  | n + 1 => by
    intro g q q' e h
    unfold chain at h
    split at h
    · cases h
    · rename_i k p1 hk
      exact linked_ac (chain_ac s n) _ h (knot_ac (chain_ac s n) hk e)

theorem parse_ac {s : ByteArray} {ats : List Atm} {l : List Bnd} (h : Bz.parse s = .ok (ats, l)) : ∀ b ∈ s.data.toList, b.toNat < 128 := by
  have key : Asc s s.size := by
    unfold Bz.parse at h
    split at h
    · cases h
    · split at h
      · cases h
      · rename_i p hc
        have he := chain_ac s (s.size + 1) _ _ _ (fun i hi => absurd hi (Nat.not_lt_zero i)) hc
        split at h
        · cases h
        · rename_i hp
          exact fun i hi => he i (by omega)
  intro b hb
  obtain ⟨i, hi, rfl⟩ := List.getElem_of_mem hb
  have hi' : i < s.size := by simpa using hi
  have := key i hi'
  rw [byteAt_lt s i hi'] at this
  have e : s.data.toList[i] = s[i] := rfl
  rw [e]
  omega
end Go.Proofs.YtcabaecbmkgclaaGreatDoor

namespace Go.Proofs.YtcabaecbmkgclaaGreatDoor
open Go.RowKit Bz

def part (a : Nat) (b : Bnd) : Int := if b.a = a ∨ b.b = a then (if b.o = 4 then 1 else b.o) else 0

theorem sum_take (l : List Bnd) (a k : Nat) (h : k < l.length) : Bz.sum (l.take (k + 1)) a = Bz.sum (l.take k) a + part a l[k] := by
  unfold Bz.sum
  rw [List.take_succ_eq_append_getElem h, List.map_append, List.sum_append]
  simp [part]

theorem part_bd (a : Nat) (b : Bnd) (h : 1 ≤ b.o ∧ b.o ≤ 4) : 0 ≤ part a b ∧ part a b ≤ 4 := by
  unfold part
  split
  · split <;> omega
  · omega

theorem sum_bd (l : List Bnd) (a : Nat) (h : ∀ b ∈ l, 1 ≤ b.o ∧ b.o ≤ 4) : ∀ k, k ≤ l.length → 0 ≤ Bz.sum (l.take k) a ∧ Bz.sum (l.take k) a ≤ 4 * k
  | 0, _ => by simp [Bz.sum]
  | k + 1, hk => by
    rw [sum_take l a k (by omega)]
    have h1 := sum_bd l a h k (by omega)
    have h2 := part_bd a l[k] (h _ (List.getElem_mem _))
    omega

section
variable {w : World} {B : Nat} {s : ByteArray} {p : St}

theorem Rd.bondsLen (h : Rd w B s p) : ∃ ao cap, w.cell? ⟨B, 27, none⟩ = some (.slice ao p.bonds.length cap) := by
  obtain ⟨v, hv, ho⟩ := h.bonds
  obtain ⟨ao, cap, rfl⟩ := ownsRow_shape ho
  exact ⟨ao, cap, hv⟩

/-- One round. -/
def SumAt (w : World) (l : List Bnd) (a : Nat) (k : Nat) (vs vi : Value) (wr : World) : Prop :=
  ∃ i : Nat, i ≤ l.length ∧ l.length - i ≤ k ∧ vi = .int .i64 i ∧ vs = .int .i64 (Bz.sum (l.take i) a) ∧ Below w.heap.size w wr

set_option maxRecDepth 100000 in
set_option maxHeartbeats 2000000 in
theorem sum_any (h : Rd w B s p) (a : Nat) (hb : p.bonds.length ≤ 1000) (ho : ∀ b ∈ p.bonds, 1 ≤ b.o ∧ b.o ≤ 4) :
    Calls Tryz.prog 84 #[.pointer (some ⟨B, 2, none⟩), .int .i64 a] w fun e w' => e = .returned (.int .i64 (Bz.sum p.bonds a)) ∧ Below w.heap.size w w' := by
  have hsb := sum_bd p.bonds a ho
  by_cases hl : p.bonds.length = 0
  · obtain ⟨ao, cap, hc⟩ := h.bondsLen
    rw [hl] at hc
    have he : Hid (Bz.sum p.bonds a = 0) := by unfold Hid; rw [List.eq_nil_of_length_eq_zero hl]; rfl
    clear hsb hl ho
    go_enter Tryz.func84, Tryz.ntmps84
    go_wp2_with fail
    refine wp_loop_rounds 1 ?_
    rw [rounds_succ]
    go_wp2_with fail
    go_ret
    exact ⟨ret_int he.out.symm, Below.refl _ _⟩
  · obtain ⟨g, cap, hv, hc, _, hBg, hgl⟩ := h.bondsAt (by omega)
    have HC : Hid _ := hc
    have HO : Hid _ := ho
    have HS : Hid _ := hsb
    clear hc ho hsb
    go_enter Tryz.func84, Tryz.ntmps84
    go_wp2_with fail
    go_loopg [5, 13] (p.bonds.length + 1) (fun k vs vi wr => SumAt w p.bonds a k vs vi wr)
    case atStart => exact ⟨0, by omega, by omega, rfl, by simp [Bz.sum], Below.refl _ _⟩
    case round =>
      obtain ⟨i, hi, hk, rfl, rfl, hbel⟩ := hrel
      by_cases hlt : i < p.bonds.length
      · have hsi := HS.out i hi
        have hst := sum_take p.bonds a i hlt
        have hbo := HO.out p.bonds[i] (List.getElem_mem _)
        have gi := List.getElem?_eq_getElem hlt
        have c0 := (hbel.cell (p := ⟨g, i * 4, none⟩) hgl).trans (HC.out i _ 0 _ gi rfl)
        have c1 := (hbel.cell (p := ⟨g, i * 4 + 1, none⟩) hgl).trans (HC.out i _ 1 _ gi rfl)
        have c2 := (hbel.cell (p := ⟨g, i * 4 + 2, none⟩) hgl).trans (HC.out i _ 2 _ gi rfl)
        have c3 := (hbel.cell (p := ⟨g, i * 4 + 3, none⟩) hgl).trans (HC.out i _ 3 _ gi rfl)
        have hsz := hbel.size
        have hlt' : (i : Int) < (p.bonds.length : Int) := by omega
        generalize p.bonds[i] = b at *
        obtain ⟨ba, bb, bo, bpl⟩ := b
        simp only at c0 c1 c2 c3 hbo
        have HST : Hid _ := hst
        clear hst gi
        generalize Bz.sum (p.bonds.take i) a = sm at *
        have t4 : (bo == 4) = true ∨ (bo == 4) = false := by cases (bo == 4) <;> simp
        have fin : ∀ wx, Below w.heap.size w wx → ∀ u : Int, u = sm + part a ⟨ba, bb, bo, bpl⟩ → SumAt w p.bonds a (p.bonds.length - (i + 1)) (.int .i64 u) (.int .i64 ((i : Int) + 1)) wx := by
          intro wx hx u hu
          exact ⟨i + 1, by omega, Nat.le_refl _, by go_num, by rw [HST.out, hu], hx⟩
        have FIN : Hid _ := fin
        clear fin
        by_cases hin : ba = a ∨ bb = a
        · have tin : ((ba : Int) != (a : Int)) = false ∨ ((ba : Int) != (a : Int)) = true ∧ ((bb : Int) != (a : Int)) = false := by
            by_cases e : ba = a
            · left; simp [e]
            · right
              have e2 : bb = a := by omega
              exact ⟨by simp; omega, by simp [e2]⟩
          have HP : Hid (part a ⟨ba, bb, bo, bpl⟩ = if bo = 4 then 1 else bo) := by unfold Hid part; rw [if_pos hin]
          clear hin
          rcases t4 with t4 | t4
          · have hp : Hid (part a ⟨ba, bb, bo, bpl⟩ = 1) := by unfold Hid; rw [HP.out, if_pos (by simpa using t4)]
            rcases tin with tin | ⟨tin, tin2⟩
            all_goals
              go_wp2_with fail
              go_roundg (p.bonds.length - (i + 1))
              case measure => omega
              case rel => exact FIN.out _ (hbel.alloc hsz _) _ (by rw [hp.out])
          · have hp : Hid (part a ⟨ba, bb, bo, bpl⟩ = bo) := by unfold Hid; rw [HP.out, if_neg (by simpa using t4)]
            rcases tin with tin | ⟨tin, tin2⟩
            all_goals
              go_wp2_with fail
              go_roundg (p.bonds.length - (i + 1))
              case measure => omega
              case rel => exact FIN.out _ (hbel.alloc hsz _) _ (by rw [hp.out])
        · have hp : Hid (part a ⟨ba, bb, bo, bpl⟩ = 0) := by unfold Hid part; rw [if_neg hin]
          have tin : ((ba : Int) != (a : Int)) = true := by simp; omega
          have tin2 : ((bb : Int) != (a : Int)) = true := by simp; omega
          clear hin t4
          go_wp2_with fail
          go_roundg (p.bonds.length - (i + 1))
          case measure => omega
          case rel => exact FIN.out _ (hbel.alloc hsz _) _ (by rw [hp.out]; omega)
      · have hi' : i = p.bonds.length := by omega
        have he : Hid (Bz.sum (p.bonds.take i) a = Bz.sum p.bonds a) := by unfold Hid; rw [hi', List.take_length]
        have hlt' : ¬ (i : Int) < (p.bonds.length : Int) := by omega
        clear hi'
        go_wp2_with fail
        go_ret
        exact ⟨ret_int he.out, hbel⟩
end
end Go.Proofs.YtcabaecbmkgclaaGreatDoor
