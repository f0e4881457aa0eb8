/-
  A text within another text: it is read as by itself, with all numbers moved on (no program).
  A text within another text: rings, branches, chains.
  Matchings, with odd rings contracted, said on numbers and lists alone: what stands while a search grows, and that it goes on standing.
  An odd ring is contracted: what stood goes on standing.
-/
import Derived.Test.YtcabaecbmkgclaaGreatDoorP02

namespace Go.Proofs.YtcabaecbmkgclaaGreatDoor
open Bz

/-- The text t lies in s from D on; behind it there is a dot, or the end. -/
structure Emb (t s : ByteArray) (D : Nat) : Prop where
  at' : ∀ i, i < t.size → byteAt s (D + i) = byteAt t i
  stop : byteAt s (D + t.size) = 46 ∨ D + t.size = s.size
  fit : D + t.size ≤ s.size

theorem Emb.last {t s : ByteArray} {D : Nat} (h : Emb t s D) : byteAt s (D + t.size) = 46 ∨ byteAt s (D + t.size) = 0 := by
  rcases h.stop with k | k
  · exact .inl k
  · exact .inr (byteAt_ge s _ (by omega))

/-- Any test that tells a dot from nothing else but the end falls out alike. -/
theorem Emb.same {t s : ByteArray} {D i : Nat} {α : Type} (h : Emb t s D) (hi : i ≤ t.size) (f : Int → α) (hf : f 46 = f 0) : f (byteAt s (D + i)) = f (byteAt t i) := by
  by_cases hlt : i < t.size
  · rw [h.at' i hlt]
  · have hi' : i = t.size := by omega
    rw [hi', byteAt_ge t t.size (by omega)]
    rcases h.last with k | k <;> rw [k]
    exact hf

def shA (D : Nat) (a : Atm) : Atm := { a with pl := D + a.pl }
def shB (n D : Nat) (b : Bnd) : Bnd := ⟨b.a + n, b.b + n, b.o, D + b.pl⟩

/-- The same end of a bond, its atom moved on by n. -/
structure HR (n : Nat) (h H : Hung) : Prop where
  mark : H.mark = h.mark
  atom : (h.atom = -1 ∧ H.atom = -1) ∨ ∃ a : Nat, h.atom = a ∧ H.atom = ((a + n : Nat) : Int)

/-- The same state, moved on. -/
structure Rl (A : List Atm) (B : List Bnd) (D : Nat) (p P : St) : Prop where
  pos : P.pos = D + p.pos
  atoms : P.atoms = A ++ p.atoms.map (shA D)
  bonds : P.bonds = B ++ p.bonds.map (shB A.length D)
  rings : ∀ k, (p.rings k = none ∧ P.rings k = none) ∨ ∃ o O, p.rings k = some o ∧ P.rings k = some O ∧ HR A.length o.hung O.hung

section
variable {A : List Atm} {B : List Bnd} {D : Nat} {p P q : St} {t s : ByteArray}

theorem Rl.len (h : Rl A B D p P) : P.atoms.length = A.length + p.atoms.length := by rw [h.atoms]; simp

theorem Rl.aro (h : Rl A B D p P) (a : Nat) : aro P ((a + A.length : Nat) : Int) = aro p a := by
  unfold Bz.aro
  simp only [Int.toNat_natCast]
  rw [h.atoms, List.getElem?_append_right (by omega), List.getElem?_map, Nat.add_sub_cancel]
  cases p.atoms[a]? <;> rfl

theorem Rl.order (h : Rl A B D p P) (m : Int) (a b : Nat) : order P m ((a + A.length : Nat) : Int) ((b + A.length : Nat) : Int) = order p m a b := by
  unfold Bz.order
  rw [h.aro, h.aro]

theorem Rl.bonded (h : Rl A B D p P) (hB : ∀ b ∈ B, b.a < A.length ∧ b.b < A.length) (a b : Nat) : bonded P.bonds (a + A.length) (b + A.length) = bonded p.bonds a b := by
  unfold Bz.bonded
  rw [h.bonds, List.any_append]
  have h1 : B.any (fun x => (x.a == a + A.length && x.b == b + A.length) || (x.a == b + A.length && x.b == a + A.length)) = false := by
    rw [List.any_eq_false]
    intro x hx
    have := hB x hx
    simp only [Bool.or_eq_true, Bool.and_eq_true, beq_iff_eq]
    omega
  rw [h1, Bool.false_or, List.any_map]
  congr 1
  funext x
  have e : ∀ u v : Nat, (u + A.length == v + A.length) = (u == v) := fun u v => by
    rw [Bool.eq_iff_iff, beq_iff_eq, beq_iff_eq]
    omega
  simp only [Function.comp, shB, e]

theorem Rl.bind (h : Rl A B D p P) {a b pl : Nat} {o : Int} : Rl A B D (bind p a b o pl) (bind P (a + A.length) (b + A.length) o (D + pl)) := by
  refine ⟨h.pos, h.atoms, ?_, h.rings⟩
  unfold Bz.bind
  simp only
  rw [h.bonds, List.map_append, List.append_assoc]
  congr 2
  simp only [List.map_cons, List.map_nil, shB]
  congr 2 <;> omega

theorem Rl.move (h : Rl A B D p P) {j J : Nat} (hj : J = D + j) : Rl A B D { p with pos := j } { P with pos := J } := ⟨hj, h.atoms, h.bonds, h.rings⟩

theorem Rl.setR (h : Rl A B D p P) (k : Nat) {o O : Option Opn} (ho : (o = none ∧ O = none) ∨ ∃ x X, o = some x ∧ O = some X ∧ HR A.length x.hung X.hung) : Rl A B D { p with rings := setRing p.rings k o } { P with rings := setRing P.rings k O } := by
  refine ⟨h.pos, h.atoms, h.bonds, fun j => ?_⟩
  unfold setRing
  simp only
  by_cases hj : j = k
  · rw [if_pos hj, if_pos hj]; exact ho
  · rw [if_neg hj, if_neg hj]; exact h.rings j

theorem elem_sim (E : Emb t s D) {i : Nat} {x : ByteArray × Bool × Nat} (h : element t i = some x) : element s (D + i) = some x ∧ i < t.size := by
  have hne : byteAt t i ≠ 0 := by
    intro h0
    unfold element at h
    rw [h0] at h
    simp at h
  have hlt := lt_of_byteAt hne
  refine ⟨?_, hlt⟩
  rw [← h]
  unfold element
  have h1 : (byteAt s (D + i + 1) = 108) = (byteAt t (i + 1) = 108) := E.same (i := i + 1) (by omega) (fun c => c = 108) (by simp)
  have h2 : (byteAt s (D + i + 1) = 114) = (byteAt t (i + 1) = 114) := E.same (i := i + 1) (by omega) (fun c => c = 114) (by simp)
  simp only [E.at' i hlt, h1, h2]

theorem hydro_sim (E : Emb t s D) {i : Nat} (hi : i ≤ t.size) : hydro s (D + i) = ((hydro t i).1, D + (hydro t i).2) ∧ (hydro t i).2 ≤ t.size := by
  have h0 : (byteAt s (D + i) = 72) = (byteAt t i = 72) := E.same hi (fun c => c = 72) (by simp)
  unfold hydro
  by_cases h : byteAt t i = 72
  · have hlt : i < t.size := lt_of_byteAt (by omega)
    have hd : (49 ≤ byteAt s (D + i + 1) ∧ byteAt s (D + i + 1) ≤ 52) = (49 ≤ byteAt t (i + 1) ∧ byteAt t (i + 1) ≤ 52) := E.same (i := i + 1) (by omega) (fun c => 49 ≤ c ∧ c ≤ 52) (by simp)
    rw [if_pos h, if_pos (h0.mpr h)]
    by_cases hd2 : 49 ≤ byteAt t (i + 1) ∧ byteAt t (i + 1) ≤ 52
    · have hlt2 : i + 1 < t.size := lt_of_byteAt (by omega)
      rw [if_pos hd2, if_pos (hd.mpr hd2)]
      have : byteAt s (D + i + 1) = byteAt t (i + 1) := E.at' (i + 1) hlt2
      rw [this]
      exact ⟨rfl, hlt2⟩
    · rw [if_neg hd2, if_neg (fun h => hd2 (hd.mp h))]
      exact ⟨rfl, hlt⟩
  · rw [if_neg h, if_neg (fun k => h (h0.mp k))]
    exact ⟨rfl, hi⟩

theorem charge_sim (E : Emb t s D) {i : Nat} (hi : i ≤ t.size) : charge s (D + i) = ((charge t i).1, D + (charge t i).2) ∧ (charge t i).2 ≤ t.size := by
  have h0 : (byteAt s (D + i) = 43) = (byteAt t i = 43) := E.same hi (fun c => c = 43) (by simp)
  have h1 : (byteAt s (D + i) = 45) = (byteAt t i = 45) := E.same hi (fun c => c = 45) (by simp)
  unfold charge
  simp only [h0, h1]
  split
  · rename_i h
    exact ⟨rfl, lt_of_byteAt (by omega)⟩
  · split
    · rename_i h
      exact ⟨rfl, lt_of_byteAt (by omega)⟩
    · exact ⟨rfl, hi⟩

theorem bracket_sim (E : Emb t s D) {i : Nat} {c y : Int} {j : Nat} (hi : i ≤ t.size) (h : bracket t i = .ok (c, y, j)) : bracket s (D + i) = .ok (c, y, D + j) := by
  obtain ⟨e1, e2⟩ := hydro_sim E hi
  obtain ⟨e3, e4⟩ := charge_sim E e2
  have h0 : (byteAt s (D + (charge t (hydro t i).2).2) = 93) = (byteAt t (charge t (hydro t i).2).2 = 93) := E.same e4 (fun c => c = 93) (by simp)
  unfold bracket at h ⊢
  simp only [e1, e3, h0] at h ⊢
  split at h
  · rename_i hh
    cases h
    rw [if_pos hh]
    rfl
  · cases h

theorem HR.m1 {n : Nat} {h H : Hung} (x : HR n h H) : (H.atom = -1) = (h.atom = -1) := by
  rcases x.atom with ⟨a, b⟩ | ⟨a, b, c⟩
  · rw [a, b]
  · rw [b, c]
    apply propext
    omega

theorem atom_put (R : Rl A B D p P) {h H : Hung} (hh : HR A.length h H) (x : Atm) (j : Nat) :
    Rl A B D (if h.atom = -1 then { p with pos := j, atoms := p.atoms ++ [x] } else Bz.bind { p with pos := j, atoms := p.atoms ++ [x] } h.atom.toNat p.atoms.length (order { p with pos := j, atoms := p.atoms ++ [x] } h.mark h.atom p.atoms.length) p.pos)
      (if H.atom = -1 then { P with pos := D + j, atoms := P.atoms ++ [shA D x] } else Bz.bind { P with pos := D + j, atoms := P.atoms ++ [shA D x] } H.atom.toNat P.atoms.length (order { P with pos := D + j, atoms := P.atoms ++ [shA D x] } H.mark H.atom P.atoms.length) P.pos) := by
  have R0 : Rl A B D { p with pos := j, atoms := p.atoms ++ [x] } { P with pos := D + j, atoms := P.atoms ++ [shA D x] } := by
    refine ⟨rfl, ?_, R.bonds, R.rings⟩
    simp only
    rw [R.atoms, List.map_append, List.append_assoc]
    rfl
  rcases hh.atom with ⟨e1, e2⟩ | ⟨a, e1, e2⟩
  · rw [if_pos e1, if_pos e2]; exact R0
  · rw [if_neg (by omega), if_neg (by omega), e1, e2, hh.mark, R.len, Nat.add_comm A.length, R0.order, R.pos]
    simp only [Int.toNat_natCast]
    exact R0.bind

theorem atom_sim (E : Emb t s D) (R : Rl A B D p P) {h H : Hung} (hh : HR A.length h H) {a : Nat} (hp : p.pos ≤ t.size) (hn : A.length + q.atoms.length ≤ 24) (hr : atom t h p = .ok (a, q)) :
    ∃ Q, atom s H P = .ok (a + A.length, Q) ∧ Rl A B D q Q := by
  have hbr : (byteAt s (D + p.pos) == 91) = (byteAt t p.pos == 91) := E.same hp (fun c => c == 91) (by simp)
  have hin : byteAt t p.pos = 91 → p.pos < t.size := fun h => lt_of_byteAt (by omega)
  unfold atom at hr ⊢
  rw [R.pos]
  simp only [hbr]
  cases hel : element t (if (byteAt t p.pos == 91) = true then p.pos + 1 else p.pos) with
  | none => simp only [hel] at hr; split at hr <;> cases hr
  | some x =>
    obtain ⟨el, ar, m⟩ := x
    simp only [hel] at hr
    obtain ⟨hel2, hlt⟩ := elem_sim E hel
    have ei : (D + if (byteAt t p.pos == 91) = true then p.pos + 1 else p.pos) = if (byteAt t p.pos == 91) = true then D + p.pos + 1 else D + p.pos := by split <;> omega
    rw [ei] at hel2
    simp only [hel2]
    by_cases h58 : h.mark = 58 ∧ ar = false
    · rw [if_pos h58] at hr; cases hr
    rw [if_neg h58] at hr
    rw [hh.mark, if_neg h58]
    cases hf : full p with
    | true => rw [hf] at hr; simp at hr
    | false =>
      rw [hf] at hr
      simp only [Bool.false_eq_true, if_false] at hr
      have fin : ∀ (c y : Int) (j : Nat), Except.ok (ε := Int × Int) (p.atoms.length, if h.atom = -1 then { p with pos := j, atoms := p.atoms ++ [⟨el, ar, c, y, p.pos, byteAt t p.pos == 91⟩] } else Bz.bind { p with pos := j, atoms := p.atoms ++ [⟨el, ar, c, y, p.pos, byteAt t p.pos == 91⟩] } h.atom.toNat p.atoms.length (order { p with pos := j, atoms := p.atoms ++ [⟨el, ar, c, y, p.pos, byteAt t p.pos == 91⟩] } h.mark h.atom p.atoms.length) p.pos) = .ok (a, q) → full P = false ∧
          ∃ Q, Except.ok (ε := Int × Int) (P.atoms.length, if H.atom = -1 then { P with pos := D + j, atoms := P.atoms ++ [⟨el, ar, c, y, D + p.pos, byteAt t p.pos == 91⟩] } else Bz.bind { P with pos := D + j, atoms := P.atoms ++ [⟨el, ar, c, y, D + p.pos, byteAt t p.pos == 91⟩] } H.atom.toNat P.atoms.length (order { P with pos := D + j, atoms := P.atoms ++ [⟨el, ar, c, y, D + p.pos, byteAt t p.pos == 91⟩] } h.mark H.atom P.atoms.length) (D + p.pos)) = .ok (a + A.length, Q) ∧ Rl A B D q Q := by
        intro c y j e
        simp only [Except.ok.injEq, Prod.mk.injEq] at e
        obtain ⟨e1, e2⟩ := e
        have hpl : q.atoms.length = p.atoms.length + 1 := by
          rw [← e2]
          split
          · simp
          · unfold Bz.bind; simp
        have := atom_put R hh ⟨el, ar, c, y, p.pos, byteAt t p.pos == 91⟩ j
        rw [R.pos, hh.mark, e2] at this
        refine ⟨?_, _, congrArg (fun z => Except.ok (z, _)) ?_, this⟩
        · unfold full
          rw [R.len]
          simp
          omega
        · rw [R.len, ← e1, Nat.add_comm A.length]
      cases hb : (byteAt t p.pos == 91) with
      | true =>
        rw [hb] at hr fin hlt
        simp only [if_true] at hr hlt ⊢
        cases hk : bracket t (p.pos + 1 + m) with
        | error e => rw [hk] at hr; cases hr
        | ok x =>
          obtain ⟨c, y, j⟩ := x
          rw [hk] at hr
          obtain ⟨f1, Q, f2, f3⟩ := fin c y j hr
          have hle : p.pos + 1 + m ≤ t.size := by
            have : m = 1 ∨ (m = 2 ∧ byteAt t (p.pos + 1 + 1) ≠ 0) := by
              rw [hb] at hel
              simp only [if_true] at hel
              unfold element at hel
              simp only at hel
              split at hel
              · rename_i h; cases hel; exact .inr ⟨rfl, by omega⟩
              split at hel
              · rename_i h; cases hel; exact .inr ⟨rfl, by omega⟩
              split at hel
              · cases hel; exact .inl rfl
              split at hel
              · cases hel; exact .inl rfl
              · cases hel
            rcases this with rfl | ⟨rfl, h⟩
            · exact hlt
            · exact lt_of_byteAt h
          have hk2 := bracket_sim E hle hk
          rw [show D + (p.pos + 1 + m) = D + p.pos + 1 + m by omega] at hk2
          refine ⟨Q, ?_, f3⟩
          rw [hk2, f1]
          exact f2
      | false =>
        rw [hb] at hr fin
        simp only [Bool.false_eq_true, if_false] at hr ⊢
        obtain ⟨f1, Q, f2, f3⟩ := fin 0 0 (p.pos + m) hr
        refine ⟨Q, ?_, f3⟩
        rw [f1]
        simp only [Bool.false_eq_true, if_false]
        rw [← f2, Nat.add_assoc]

theorem bondEnd_sim (E : Emb t s D) (R : Rl A B D p P) {a : Nat} {h : Hung} (hp : p.pos ≤ t.size) (hr : bondEnd t a p = .ok (h, q)) : ∃ H Q, bondEnd s (a + A.length) P = .ok (H, Q) ∧ HR A.length h H ∧ Rl A B D q Q := by
  unfold bondEnd at hr ⊢
  have hs : isSign (byteAt s (D + p.pos)) = isSign (byteAt t p.pos) := E.same hp isSign (by rfl)
  rw [R.pos]
  simp only [hs]
  cases hb : isSign (byteAt t p.pos)
  · simp only [hb, Bool.false_eq_true, if_false] at hr ⊢
    cases hr
    exact ⟨_, _, rfl, ⟨rfl, .inr ⟨a, rfl, rfl⟩⟩, R⟩
  · have hlt : p.pos < t.size := lt_of_byteAt (by intro h; rw [h] at hb; cases hb)
    simp only [hb, if_true] at hr ⊢
    rw [R.aro, E.at' _ hlt]
    split at hr
    · cases hr
    · rename_i h58
      cases hr
      rw [if_neg h58]
      exact ⟨_, _, rfl, ⟨rfl, .inr ⟨a, rfl, rfl⟩⟩, R.move (by omega)⟩

theorem link_sim (E : Emb t s D) (R : Rl A B D p P) {a : Nat} {h : Hung} (hp : p.pos < t.size) (hr : link t a p = .ok (h, q)) : ∃ H Q, link s (a + A.length) P = .ok (H, Q) ∧ HR A.length h H ∧ Rl A B D q Q := by
  unfold link at hr ⊢
  rw [R.pos, E.at' _ hp]
  split at hr
  · rename_i h46
    cases hr
    rw [if_pos h46]
    exact ⟨_, _, rfl, ⟨rfl, .inl ⟨rfl, rfl⟩⟩, R.move (by omega)⟩
  · rename_i h46
    rw [if_neg h46]
    exact bondEnd_sim E R (by omega) hr

theorem number_sim (E : Emb t s D) {i k j : Nat} (hi : i ≤ t.size) (hr : ringNumber t i = .ok (k, j)) : ringNumber s (D + i) = .ok (k, D + j) := by
  unfold ringNumber at hr ⊢
  have h0 : (byteAt s (D + i) = 37) = (byteAt t i = 37) := E.same hi (fun c => c = 37) (by simp)
  have h1 : isDigit (byteAt s (D + i)) = isDigit (byteAt t i) := E.same hi isDigit rfl
  simp only [h0]
  split at hr
  · rename_i h37
    have hlt : i < t.size := lt_of_byteAt (by omega)
    rw [if_pos h37]
    have hd1 : isDigit (byteAt s (D + i + 1)) = isDigit (byteAt t (i + 1)) := E.same (i := i + 1) (by omega) isDigit rfl
    rw [hd1]
    split at hr
    · rename_i hy
      have hlt1 : i + 1 < t.size := lt_of_byteAt (by intro h; rw [h] at hy; cases hy)
      have hd2 : isDigit (byteAt s (D + i + 2)) = isDigit (byteAt t (i + 2)) := E.same (i := i + 2) (by omega) isDigit rfl
      rw [if_pos hy, hd2]
      split at hr
      · rename_i hy2
        have hlt2 : i + 2 < t.size := lt_of_byteAt (by intro h; rw [h] at hy2; cases hy2)
        rw [if_pos hy2]
        have e1 : byteAt s (D + i + 1) = byteAt t (i + 1) := E.at' (i + 1) hlt1
        have e2 : byteAt s (D + i + 2) = byteAt t (i + 2) := E.at' (i + 2) hlt2
        rw [e1, e2]
        cases hr
        rfl
      · cases hr
    · cases hr
  · rename_i h37
    rw [if_neg h37, h1]
    split at hr
    · rename_i hy
      have hlt : i < t.size := lt_of_byteAt (by intro h; rw [h] at hy; cases hy)
      rw [if_pos hy, E.at' _ hlt]
      cases hr
      rfl
    · cases hr

theorem close_sim (R : Rl A B D p P) (hB : ∀ b ∈ B, b.a < A.length ∧ b.b < A.length) {f F l L : Hung} (hf : HR A.length f F) (hl : HR A.length l L) {fa la : Nat} (ef : f.atom = fa) (el : l.atom = la) {pl : Nat} (hr : closeRing f l pl p = .ok q) : ∃ Q, closeRing F L (D + pl) P = .ok Q ∧ Rl A B D q Q := by
  have eF : F.atom = ((fa + A.length : Nat) : Int) := by
    rcases hf.atom with ⟨a, _⟩ | ⟨x, a, b⟩
    · omega
    · rw [b]; omega
  have eL : L.atom = ((la + A.length : Nat) : Int) := by
    rcases hl.atom with ⟨a, _⟩ | ⟨x, a, b⟩
    · omega
    · rw [b]; omega
  unfold closeRing at hr ⊢
  have hq : (((fa + A.length : Nat) : Int) = ((la + A.length : Nat) : Int)) = ((fa : Int) = (la : Int)) := by
    apply propext
    omega
  rw [eF, eL, hf.mark, hl.mark]
  rw [ef, el] at hr
  simp only [R.aro, R.order, hq, Int.toNat_natCast, R.bonded hB] at hr ⊢
  split at hr
  · cases hr
  rename_i c1
  rw [if_neg c1]
  split at hr
  · cases hr
  rename_i c2
  rw [if_neg c2]
  split at hr
  · cases hr
  rename_i c3
  rw [if_neg c3]
  cases hr
  exact ⟨_, rfl, R.bind⟩
end
end Go.Proofs.YtcabaecbmkgclaaGreatDoor

namespace Go.Proofs.YtcabaecbmkgclaaGreatDoor
open Bz

section
variable {A : List Atm} {B : List Bnd} {D : Nat} {p P q : St} {t s : ByteArray}

theorem ring_sim (E : Emb t s D) (hB : ∀ b ∈ B, b.a < A.length ∧ b.b < A.length) (o : Ok t p) (R : Rl A B D p P) {a : Nat} (ha : a < p.atoms.length) (hr : ring t a p = .ok q) : ∃ Q, ring s (a + A.length) P = .ok Q ∧ Rl A B D q Q := by
  unfold ring at hr ⊢
  cases he : bondEnd t a p with
  | error e => rw [he] at hr; cases hr
  | ok x =>
    obtain ⟨g, p1⟩ := x
    rw [he] at hr
    simp only at hr
    obtain ⟨G, P1, b1, b2, b3⟩ := bondEnd_sim E R o.pos he
    obtain ⟨o1, go1, ea, _⟩ := bondEnd_wf he o ha
    have hg : g.atom = (a : Int) := by
      unfold bondEnd at he
      simp only at he
      split at he
      · split at he
        · cases he
        · cases he; rfl
      · cases he; rfl
    rw [b1]
    simp only
    cases hn : ringNumber t p1.pos with
    | error e => rw [hn] at hr; cases hr
    | ok x =>
      obtain ⟨k, j⟩ := x
      rw [hn] at hr
      simp only at hr
      rw [b3.pos, number_sim E o1.pos hn]
      simp only
      rcases b3.rings k with ⟨r1, r2⟩ | ⟨x, X, r1, r2, r3⟩
      · rw [r1] at hr
        rw [r2]
        simp only [Except.ok.injEq] at hr ⊢
        subst hr
        exact ⟨_, rfl, (b3.move rfl).setR k (.inr ⟨_, _, rfl, rfl, b2⟩)⟩
      · rw [r1] at hr
        rw [r2]
        simp only at hr ⊢
        obtain ⟨fa, ef, _⟩ := o1.rings k x r1
        exact close_sim ((b3.move rfl).setR k (.inl ⟨rfl, rfl⟩)) hB r3 b2 ef hg hr

theorem ahead_sim (E : Emb t s D) (R : Rl A B D p P) (hp : p.pos ≤ t.size) : ringAhead s P = ringAhead t p := by
  unfold ringAhead
  rw [R.pos]
  have h1 : isSign (byteAt s (D + p.pos)) = isSign (byteAt t p.pos) := E.same hp isSign rfl
  have h2 : startsRing (byteAt s (D + p.pos)) = startsRing (byteAt t p.pos) := E.same hp startsRing rfl
  rw [h1, h2]
  cases hs : isSign (byteAt t p.pos)
  · rfl
  · have hlt : p.pos < t.size := lt_of_byteAt (by intro h; rw [h] at hs; cases hs)
    have h3 : startsRing (byteAt s (D + p.pos + 1)) = startsRing (byteAt t (p.pos + 1)) := E.same (i := p.pos + 1) (by omega) startsRing rfl
    rw [h3]

theorem ahead_lt (h : ringAhead t p = true) : p.pos < t.size := by
  refine lt_of_byteAt fun h0 => ?_
  unfold ringAhead at h
  rw [h0] at h
  cases h

theorem rings_sim (E : Emb t s D) (hB : ∀ b ∈ B, b.a < A.length ∧ b.b < A.length) {a : Nat} : ∀ (m M : Nat) {p P q : St}, ringsOf t a m p = .ok q → t.size - p.pos < m → t.size - p.pos < M → Ok t p → Rl A B D p P → a < p.atoms.length → ∃ Q, ringsOf s (a + A.length) M P = .ok Q ∧ Rl A B D q Q
  | 0, M, p, P, q, _, hm, _, _, _, _ => by omega
  | m + 1, 0, p, P, q, _, _, hm, _, _, _ => by omega
  | m + 1, M + 1, p, P, q, hr, hm, hM, o, R, ha => by
    rw [ringsOf] at hr ⊢
    rw [ahead_sim E R o.pos]
    cases hah : ringAhead t p
    · rw [hah] at hr
      simp only [Bool.false_eq_true, if_false, Except.ok.injEq] at hr ⊢
      subst hr
      exact ⟨P, rfl, R⟩
    · rw [hah] at hr
      simp only [if_true] at hr ⊢
      have hlt := ahead_lt hah
      cases h1 : ring t a p with
      | error e => rw [h1] at hr; cases hr
      | ok p1 =>
        rw [h1] at hr
        simp only at hr
        obtain ⟨P1, c1, c2⟩ := ring_sim E hB o R ha h1
        obtain ⟨o1, l1, l2⟩ := ring_wf h1 o ha
        rw [c1]
        simp only
        exact rings_sim E hB m M hr (by omega) (by omega) o1 c2 (by omega)

/-- Chains of the one text and of the other, that end within it. -/
def CS (A : List Atm) (B : List Bnd) (D : Nat) (t : ByteArray) (c C : Hung → St → R St) : Prop :=
  ∀ h H p P q, c h p = .ok q → Ok t p → HungOk h p → HR A.length h H → Rl A B D p P → q.pos < t.size → A.length + q.atoms.length ≤ 24 → ∃ Q, C H P = .ok Q ∧ Rl A B D q Q

theorem branch_sim (E : Emb t s D) {c C : Hung → St → R St} (hc : ChainOk t c) (cs : CS A B D t c C) (o : Ok t p) (R : Rl A B D p P) {a : Nat} (ha : a < p.atoms.length) (hn : A.length + q.atoms.length ≤ 24) (hr : branch t c a p = .ok q) : ∃ Q, branch s C (a + A.length) P = .ok Q ∧ Rl A B D q Q := by
  unfold branch at hr ⊢
  cases hl : link t a p with
  | error e => rw [hl] at hr; cases hr
  | ok x =>
    obtain ⟨g, p1⟩ := x
    rw [hl] at hr
    simp only at hr
    obtain ⟨o1, g1, ea, l1⟩ := link_wf hl o ha
    cases h2 : c g p1 with
    | error e => rw [h2] at hr; cases hr
    | ok p2 =>
      rw [h2] at hr
      simp only at hr
      obtain ⟨o2, l2, l3⟩ := hc g p1 p2 o1 g1 h2
      have := o2.pos
      split at hr
      · rename_i h41
        cases hr
        have hlt : p2.pos < t.size := lt_of_byteAt (by omega)
        obtain ⟨G, P1, b1, b2, b3⟩ := link_sim E R (by omega) hl
        obtain ⟨P2, c1, c2⟩ := cs g G p1 P1 p2 h2 o1 g1 b2 b3 hlt hn
        rw [b1]
        simp only
        rw [c1]
        simp only
        rw [c2.pos, E.at' _ hlt, if_pos h41]
        exact ⟨_, rfl, c2.move (by omega)⟩
      · cases hr

theorem branches_sim (E : Emb t s D) {c C : Hung → St → R St} (hc : ChainOk t c) (cs : CS A B D t c C) {a : Nat} : ∀ (m M : Nat) {p P q : St}, branches t c a m p = .ok q → t.size - p.pos < m → t.size - p.pos < M → Ok t p → Rl A B D p P → a < p.atoms.length → A.length + q.atoms.length ≤ 24 → ∃ Q, branches s C (a + A.length) M P = .ok Q ∧ Rl A B D q Q
  | 0, M, p, P, q, _, hm, _, _, _, _, _ => by omega
  | m + 1, 0, p, P, q, _, _, hm, _, _, _, _ => by omega
  | m + 1, M + 1, p, P, q, hr, hm, hM, o, R, ha, hn => by
    rw [branches] at hr ⊢
    have h40 : (byteAt s (D + p.pos) = 40) = (byteAt t p.pos = 40) := E.same o.pos (fun c => c = 40) (by simp)
    rw [R.pos]
    simp only [h40]
    split at hr
    · rename_i hb
      have hlt : p.pos < t.size := lt_of_byteAt (by omega)
      rw [if_pos hb]
      cases h1 : branch t c a { p with pos := p.pos + 1 } with
      | error e => rw [h1] at hr; cases hr
      | ok p1 =>
        rw [h1] at hr
        simp only at hr
        obtain ⟨o1, l1, l2⟩ := branch_wf hc h1 (o.step hlt) ha
        simp only at l1 l2
        obtain ⟨o2, l3, l4⟩ := branches_wf hc m hr o1 (by omega)
        obtain ⟨P1, c1, c2⟩ := branch_sim (P := { P with pos := D + p.pos + 1 }) E hc cs (o.step hlt) (R.move (by omega)) ha (by omega) h1
        rw [c1]
        simp only
        exact branches_sim E hc cs m M hr (by omega) (by omega) o1 c2 (by omega) hn
    · rename_i hb
      rw [if_neg hb]
      cases hr
      exact ⟨P, rfl, R⟩

theorem knot_sim (E : Emb t s D) (hB : ∀ b ∈ B, b.a < A.length ∧ b.b < A.length) {c C : Hung → St → R St} (hc : ChainOk t c) (cs : CS A B D t c C) (o : Ok t p) (R : Rl A B D p P) {h H : Hung} (hh : HR A.length h H) {a : Nat} (hn : A.length + q.atoms.length ≤ 24) (hr : knot t c h p = .ok (a, q)) : ∃ Q, knot s C H P = .ok (a + A.length, Q) ∧ Rl A B D q Q := by
  have hfit := E.fit
  unfold knot at hr ⊢
  cases h1 : atom t h p with
  | error e => rw [h1] at hr; cases hr
  | ok x =>
    obtain ⟨a1, p1⟩ := x
    rw [h1] at hr
    simp only at hr
    obtain ⟨o1, k1, l1, m1⟩ := atom_wf h1 o
    cases h2 : ringsOf t a1 (t.size + 1) p1 with
    | error e => rw [h2] at hr; cases hr
    | ok p2 =>
      rw [h2] at hr
      simp only at hr
      obtain ⟨o2, l2, m2⟩ := ringsOf_wf _ h2 o1 k1
      cases h3 : branches t c a1 (t.size + 1) p2 with
      | error e => rw [h3] at hr; cases hr
      | ok p3 =>
        rw [h3] at hr
        simp only [Except.ok.injEq, Prod.mk.injEq] at hr
        obtain ⟨rfl, rfl⟩ := hr
        obtain ⟨o3, l3, m3⟩ := branches_wf hc _ h3 o2 (by omega)
        obtain ⟨P1, c1, c2⟩ := atom_sim E R hh o.pos (by omega) h1
        obtain ⟨P2, d1, d2⟩ := rings_sim E hB (t.size + 1) (s.size + 1) h2 (by omega) (by omega) o1 c2 k1
        obtain ⟨P3, e1, e2⟩ := branches_sim E hc cs (t.size + 1) (s.size + 1) h3 (by omega) (by omega) o2 d2 (by omega) hn
        rw [c1]
        simp only
        rw [d1]
        simp only
        rw [e1]
        exact ⟨P3, rfl, e2⟩

/-- How far the one runs beside the other: to where the text t stops. -/
theorem linked_sim (E : Emb t s D) (hB : ∀ b ∈ B, b.a < A.length ∧ b.b < A.length) {c C : Hung → St → R St} (hc : ChainOk t c) (cs : CS A B D t c C) : ∀ (m M : Nat) {a : Nat} {p P q : St}, Bz.linked t c m a p = .ok q → t.size - p.pos < m → s.size - P.pos < M → Ok t p → Rl A B D p P → a < p.atoms.length → A.length + q.atoms.length ≤ 24 →
    ∃ a' M' Q, Bz.linked s C M (a + A.length) P = Bz.linked s C M' a' Q ∧ Rl A B D q Q ∧ s.size - Q.pos < M' ∧ (q.pos < t.size → byteAt t q.pos = 41) ∧ Ok t q
  | 0, M, a, p, P, q, _, hm, _, _, _, _, _ => by omega
  | m + 1, 0, a, p, P, q, _, _, hm, _, _, _, _ => by omega
  | m + 1, M + 1, a, p, P, q, hr, hm, hM, o, R, ha, hn => by
    have hfit := E.fit
    rw [Bz.linked] at hr
    split at hr
    · rename_i hg
      cases h1 : linkedKnot t c a p with
      | error e => rw [h1] at hr; cases hr
      | ok x =>
        obtain ⟨a1, p1⟩ := x
        rw [h1] at hr
        simp only at hr
        obtain ⟨o1, k1, l1, l2⟩ := linkedKnot_wf hc h1 o ha
        obtain ⟨o2, l3, l4⟩ := linked_wf hc m hr o1 k1
        have hk : ∃ P1, linkedKnot s C (a + A.length) P = .ok (a1 + A.length, P1) ∧ Rl A B D p1 P1 := by
          unfold linkedKnot at h1 ⊢
          cases h2 : link t a p with
          | error e => rw [h2] at h1; cases h1
          | ok x =>
            obtain ⟨g, p0⟩ := x
            rw [h2] at h1
            simp only at h1
            obtain ⟨o0, _, _, _⟩ := link_wf h2 o ha
            obtain ⟨G, P0, b1, b2, b3⟩ := link_sim E R hg.1 h2
            rw [b1]
            exact knot_sim E hB hc cs o0 b3 b2 (by omega) h1
        obtain ⟨P1, c1, c2⟩ := hk
        have hp := R.pos
        have hp1 := c2.pos
        have ho1 := o1.pos
        obtain ⟨a', M', Q, d1, d2, d3, d4, d5⟩ := linked_sim E hB hc cs m M hr (by omega) (by omega) o1 c2 k1 hn
        refine ⟨a', M', Q, ?_, d2, d3, d4, d5⟩
        rw [Bz.linked, if_pos ⟨by omega, by rw [R.pos, E.at' _ hg.1]; exact hg.2⟩, c1]
        exact d1
    · rename_i hg
      cases hr
      refine ⟨a + A.length, M + 1, P, rfl, R, hM, fun hlt => ?_, o⟩
      exact Classical.byContradiction fun h => hg ⟨hlt, h⟩

theorem linked_halt {C : Hung → St → R St} {a n : Nat} {p : St} (h : ¬ (p.pos < s.size ∧ byteAt s p.pos ≠ 41)) : Bz.linked s C n a p = .ok p := by
  cases n with
  | zero => rfl
  | succ n => rw [Bz.linked, if_neg h]

theorem chain_sim (E : Emb t s D) (hB : ∀ b ∈ B, b.a < A.length ∧ b.b < A.length) : ∀ n N, n ≤ N → CS A B D t (chain t n) (chain s N)
  | 0, N, _ => by intro h H p P q hr; simp [chain] at hr
  | n + 1, 0, hN => by omega
  | n + 1, N + 1, hN => by
    intro h H p P q hr o ho hh R hlt hn
    have hfit := E.fit
    have hc := chain_wf t n
    have cs := chain_sim E hB n N (by omega)
    rw [chain] at hr ⊢
    cases h1 : knot t (chain t n) h p with
    | error e => rw [h1] at hr; cases hr
    | ok x =>
      obtain ⟨a1, p1⟩ := x
      rw [h1] at hr
      simp only at hr
      obtain ⟨o1, k1, l1, l2⟩ := knot_wf hc h1 o
      obtain ⟨o2, l3, l4⟩ := linked_wf hc _ hr o1 k1
      obtain ⟨P1, c1, c2⟩ := knot_sim E hB hc cs o R hh (by omega) h1
      have hp1 := c2.pos
      obtain ⟨a', M', Q, d1, d2, d3, d4, d5⟩ := linked_sim E hB hc cs (t.size + 1) (s.size + 1) hr (by omega) (by omega) o1 c2 k1 hn
      rw [c1]
      simp only
      rw [d1]
      refine ⟨Q, linked_halt ?_, d2⟩
      rw [d2.pos, E.at' _ hlt]
      rintro ⟨_, h⟩
      exact h (d4 hlt)

/-- One text of two: what is left to be read behind it. -/
theorem part_sim (E : Emb t s D) (hB : ∀ b ∈ B, b.a < A.length ∧ b.b < A.length) {h H : Hung} (o : Ok t p) (R : Rl A B D p P) (hh : HR A.length h H) {n N F : Nat} (hN : n ≤ N) (hF : s.size - P.pos < F) (hn : A.length + q.atoms.length ≤ 24) (hr : chain t (n + 1) h p = .ok q) :
    ∃ a1 P1 a' M' Q, knot s (chain s N) H P = .ok (a1, P1) ∧ Bz.linked s (chain s N) F a1 P1 = Bz.linked s (chain s N) M' a' Q ∧ Rl A B D q Q ∧ s.size - Q.pos < M' ∧ Ok t q := by
  have hfit := E.fit
  have hc := chain_wf t n
  have cs := chain_sim E hB n N hN
  rw [chain] at hr
  cases h1 : knot t (chain t n) h p with
  | error e => rw [h1] at hr; cases hr
  | ok x =>
    obtain ⟨a1, p1⟩ := x
    rw [h1] at hr
    simp only at hr
    obtain ⟨o1, k1, l1, l2⟩ := knot_wf hc h1 o
    obtain ⟨o2, l3, l4⟩ := linked_wf hc _ hr o1 k1
    obtain ⟨P1, c1, c2⟩ := knot_sim E hB hc cs o R hh (by omega) h1
    have hp := R.pos
    have hp1 := c2.pos
    obtain ⟨a', M', Q, d1, d2, d3, _, d5⟩ := linked_sim E hB hc cs (t.size + 1) F hr (by omega) (by omega) o1 c2 k1 hn
    exact ⟨a1 + A.length, P1, a', M', Q, c1, d1, d2, d3, d5⟩
end
end Go.Proofs.YtcabaecbmkgclaaGreatDoor

namespace Go.Proofs.YtcabaecbmkgclaaGreatDoor.Mt

structure Gr where
  n : Nat
  adj : Nat → Nat → Bool

structure GrOk (g : Gr) : Prop where
  n24 : g.n ≤ 24
  lt : ∀ a b, g.adj a b = true → a < g.n ∧ b < g.n
  sym : ∀ a b, g.adj a b = true → g.adj b a = true
  irr : ∀ a, g.adj a a = false

structure MtOk (g : Gr) (mate : Nat → Option Nat) : Prop where
  adj : ∀ a b, mate a = some b → g.adj a b = true
  back : ∀ a b, mate a = some b → mate b = some a

/-- What a search has reached. -/
structure Fo where
  ring : Nat → Nat → Bool
  next : Nat → Nat
  outer : Nat → Bool
  inner : Nat → Bool
  queue : List Nat

/-- By turns a pair and an edge, up to t. -/
def Alt (g : Gr) (mate : Nat → Option Nat) (next : Nat → Nat) (t : Nat) : List Nat → Prop
  | [] => False
  | [x] => x = t
  | x :: m :: l => mate x = some m ∧ g.adj m (next m) = true ∧ l.head? = some (next m) ∧ Alt g mate next t l

def Pairs (mate : Nat → Option Nat) : List Nat → Prop
  | [] => True
  | [_] => False
  | x :: m :: l => mate x = some m ∧ Pairs mate l

def EvO (outer : Nat → Bool) : List Nat → Prop
  | [] => True
  | [x] => outer x = true
  | x :: _ :: l => outer x = true ∧ EvO outer l

/-- What is kept in mind beside: each ring's base, its level, its tree. -/
structure Gh where
  base : Nat → Nat
  lev : Nat → Nat
  root : Nat → Nat

structure Inv (g : Gr) (mate : Nat → Option Nat) (f : Fo) (h : Gh) : Prop where
  olt : ∀ v, f.outer v = true → v < g.n
  ilt : ∀ v, f.inner v = true → v < g.n
  self : ∀ v, v < 24 → f.ring v v = true
  rlt : ∀ v x, f.ring v x = true → v < 24 ∧ x < 24
  same : ∀ v x, f.ring v x = true → f.ring x = f.ring v
  single : ∀ v x, f.outer v = false → f.ring v x = true → x = v
  rout : ∀ v x, f.outer v = true → f.ring v x = true → f.outer x = true
  base : ∀ v, f.outer v = true → f.ring v (h.base v) = true
  baseC : ∀ v x, f.outer v = true → f.ring v x = true → h.base x = h.base v ∧ h.lev x = h.lev v ∧ h.root x = h.root v
  seg : ∀ v, f.outer v = true → ∃ s, s.head? = some v ∧ Alt g mate f.next (h.base v) s ∧ (∀ x ∈ s, f.ring v x = true) ∧ s.Nodup
  up : ∀ b m, f.outer b = true → h.base b = b → mate b = some m → f.inner m = true ∧ f.outer m = false ∧ g.adj m (f.next m) = true ∧ f.outer (f.next m) = true ∧ h.lev (f.next m) < h.lev b ∧ h.root (f.next m) = h.root b
  inn : ∀ m, f.inner m = true → f.outer m = false → ∃ b, mate m = some b ∧ f.outer b = true ∧ h.base b = b
  rootO : ∀ v, v < g.n → mate v = none → f.outer v = true ∧ h.base v = v ∧ h.root v = v
  q : ∀ v, v ∈ f.queue ↔ f.outer v = true
  qn : f.queue.Nodup

section
variable {g : Gr} {mate : Nat → Option Nat} {next : Nat → Nat} {t : Nat}

theorem Alt.ne {l : List Nat} (h : Alt g mate next t l) : l ≠ [] := by
  rintro rfl
  exact h

theorem Alt.append : ∀ {s : List Nat} {b m : Nat} {l : List Nat}, Alt g mate next b s → mate b = some m → g.adj m (next m) = true → l.head? = some (next m) → Alt g mate next t l → Alt g mate next t (s ++ m :: l)
  | [x], b, m, l, h, hb, ha, hl, hr => by
    have : x = b := h
    subst this
    exact ⟨hb, ha, hl, hr⟩
  | x :: y :: s, b, m, l, h, hb, ha, hl, hr => by
    obtain ⟨h1, h2, h3, h4⟩ := h
    refine ⟨h1, h2, ?_, Alt.append h4 hb ha hl hr⟩
    cases s with
    | nil => cases h3
    | cons z s => exact h3

/-- The last of it. -/
theorem Alt.mem : ∀ {s : List Nat}, Alt g mate next t s → t ∈ s
  | [x], h => by have : x = t := h; subst this; simp
  | _ :: _ :: s, h => by
    have := Alt.mem h.2.2.2
    simp [this]

theorem Alt.unique {t' : Nat} (ht : mate t = none) (ht' : mate t' = none) : ∀ {l l' : List Nat}, Alt g mate next t l → Alt g mate next t' l' → l.head? = l'.head? → l = l'
  | [x], [y], _, _, e => by simpa using e
  | [x], y :: m :: l', h, h', e => by
    have hx : x = t := h
    simp at e
    have k := h'.1
    rw [← e, hx, ht] at k
    cases k
  | x :: m :: l, [y], h, h', e => by
    have hy : y = t' := h'
    simp at e
    have k := h.1
    rw [e, hy, ht'] at k
    cases k
  | x :: m :: l, y :: m' :: l', h, h', e => by
    simp at e
    subst e
    obtain ⟨h1, h2, h3, h4⟩ := h
    obtain ⟨k1, k2, k3, k4⟩ := h'
    rw [h1] at k1
    cases k1
    rw [Alt.unique ht ht' h4 k4 (h3.trans k3.symm)]

theorem Alt.evo {outer : Nat → Bool} : ∀ {s : List Nat}, Alt g mate next t s → (∀ x ∈ s, outer x = true) → EvO outer s
  | [x], _, h => h x (by simp)
  | x :: m :: s, ha, h => ⟨h x (by simp), Alt.evo ha.2.2.2 fun y hy => h y (by simp [hy])⟩

theorem EvO.append {outer : Nat → Bool} : ∀ {s : List Nat} {m : Nat} {l : List Nat} {b : Nat}, Alt g mate next b s → EvO outer s → EvO outer l → EvO outer (s ++ m :: l)
  | [_], _, _, _, _, h, k => ⟨h, k⟩
  | _ :: _ :: _, _, _, _, ha, h, k => ⟨h.1, EvO.append ha.2.2.2 h.2 k⟩

theorem Alt.pairs : ∀ {s : List Nat} {b m : Nat} {l : List Nat}, Alt g mate next b s → mate b = some m → Pairs mate l → Pairs mate (s ++ m :: l)
  | [x], b, m, l, h, hb, hl => by
    have : x = b := h
    subst this
    exact ⟨hb, hl⟩
  | _ :: _ :: _, _, _, _, h, hb, hl => ⟨h.1, Alt.pairs h.2.2.2 hb hl⟩

theorem Pairs.closed (back : ∀ a b, mate a = some b → mate b = some a) : ∀ {l : List Nat}, Pairs mate l → ∀ x ∈ l, ∃ y ∈ l, mate x = some y
  | [], _, x, hx => by cases hx
  | a :: m :: l, h, x, hx => by
    rcases List.mem_cons.1 hx with rfl | hx
    · exact ⟨m, by simp, h.1⟩
    rcases List.mem_cons.1 hx with rfl | hx
    · exact ⟨a, by simp, back _ _ h.1⟩
    · obtain ⟨y, hy, e⟩ := Pairs.closed back h.2 x hx
      exact ⟨y, by simp [hy], e⟩

/-- What is not outer stands behind its mate. -/
theorem EvO.before {outer : Nat → Bool} (back : ∀ a b, mate a = some b → mate b = some a) : ∀ {l : List Nat} {pre post : List Nat} {x : Nat}, Alt g mate next t l → EvO outer l → l = pre ++ x :: post → outer x = false → ∃ b ∈ pre, mate x = some b
  | [a], pre, post, x, _, ho, e, hx => by
    cases pre with
    | nil =>
      simp at e
      rw [← e.1] at hx
      have : outer a = true := ho
      rw [this] at hx
      cases hx
    | cons p pre => simp at e
  | a :: m :: l, pre, post, x, ha, ho, e, hx => by
    match pre, e with
    | [], e =>
      simp at e
      rw [← e.1] at hx
      rw [ho.1] at hx
      cases hx
    | [p], e =>
      simp at e
      obtain ⟨rfl, rfl, _⟩ := e
      exact ⟨_, by simp, back _ _ ha.1⟩
    | p :: p' :: pre, e =>
      simp at e
      obtain ⟨rfl, rfl, e⟩ := e
      obtain ⟨b, hb, hm⟩ := EvO.before back ha.2.2.2 ho.2 e hx
      exact ⟨b, by simp [hb], hm⟩
end

section
variable {g : Gr} {mate : Nat → Option Nat} {f : Fo} {h : Gh}

/-- Where what stands on a route belongs. -/
def Lab (mate : Nat → Option Nat) (f : Fo) (h : Gh) (v y : Nat) : Prop :=
  (f.outer y = true ∧ h.lev y ≤ h.lev v ∧ h.root y = h.root v) ∨ (f.outer y = false ∧ ∃ b, mate y = some b ∧ f.outer b = true ∧ h.base b = b ∧ h.lev b ≤ h.lev v ∧ h.root b = h.root v)

/-- The route from an outer vertex to its root. -/
structure Rt (g : Gr) (mate : Nat → Option Nat) (f : Fo) (h : Gh) (v : Nat) (l : List Nat) : Prop where
  head : l.head? = some v
  alt : Alt g mate f.next (h.root v) l
  nodup : l.Nodup
  free : mate (h.root v) = none
  lab : ∀ y ∈ l, Lab mate f h v y
  evo : EvO f.outer l

theorem Inv.baseB (I : Inv g mate f h) {v : Nat} (hv : f.outer v = true) : f.outer (h.base v) = true ∧ h.base (h.base v) = h.base v ∧ h.lev (h.base v) = h.lev v ∧ h.root (h.base v) = h.root v :=
  ⟨I.rout v _ hv (I.base v hv), I.baseC v _ hv (I.base v hv)⟩

theorem Lab.up {v u y : Nat} (hl : h.lev u ≤ h.lev v) (hr : h.root u = h.root v) (k : Lab mate f h u y) : Lab mate f h v y := by
  rcases k with ⟨a, b, c⟩ | ⟨a, b, c, d, e, e2, e3⟩
  · exact .inl ⟨a, by omega, by omega⟩
  · exact .inr ⟨a, b, c, d, e, by omega, by omega⟩

/-- A route is the way through its first ring, and what comes behind. -/
theorem Rt.ring (M : MtOk g mate) (I : Inv g mate f h) {v : Nat} (hv : f.outer v = true) {s : List Nat} (h1 : s.head? = some v) (h2 : Alt g mate f.next (h.base v) s) (h3 : ∀ x ∈ s, f.ring v x = true) (h4 : s.Nodup) {m : Nat} (hm : mate (h.base v) = some m) {l : List Nat} (r : Rt g mate f h (f.next m) l) :
    Rt g mate f h v (s ++ m :: l) := by
  obtain ⟨b1, b2, b3, b4⟩ := I.baseB hv
  obtain ⟨u1, u2, u3, u4, u5, u6⟩ := I.up _ _ b1 b2 hm
  have hroot : h.root (f.next m) = h.root v := u6.trans b4
  have hlev : h.lev (f.next m) < h.lev v := by omega
  have hsl : ∀ x ∈ s, f.outer x = true ∧ h.lev x = h.lev v ∧ h.root x = h.root v := fun x hx => ⟨I.rout v x hv (h3 x hx), (I.baseC v x hv (h3 x hx)).2⟩
  have hml : ∀ y ∈ l, f.outer y = true → h.lev y < h.lev v := by
    intro y hy ho
    rcases r.lab y hy with ⟨_, k, _⟩ | ⟨k, _⟩
    · omega
    · rw [ho] at k; cases k
  refine ⟨?_, ?_, ?_, ?_, ?_, ?_⟩
  · cases s with
    | nil => cases h1
    | cons a s => exact h1
  · rw [← hroot]; exact Alt.append h2 hm u3 r.head r.alt
  · rw [List.nodup_append]
    refine ⟨h4, ?_, ?_⟩
    · rw [List.nodup_cons]
      refine ⟨?_, r.nodup⟩
      intro hml2
      rcases r.lab m hml2 with ⟨k, _⟩ | ⟨_, b, k1, _, _, k4, _⟩
      · rw [u2] at k; cases k
      · rw [M.back _ _ hm] at k1
        cases k1
        omega
    · intro a ha b hb
      rcases List.mem_cons.1 hb with rfl | hb
      · rintro rfl
        have := (hsl _ ha).1
        rw [u2] at this
        cases this
      · rintro rfl
        have k1 := hsl _ ha
        have k2 := hml _ hb k1.1
        omega
  · rw [← hroot]; exact r.free
  · intro y hy
    rcases List.mem_append.1 hy with hy | hy
    · have k := hsl y hy
      exact .inl ⟨k.1, by omega, k.2.2⟩
    · rcases List.mem_cons.1 hy with rfl | hy
      · exact .inr ⟨u2, h.base v, M.back _ _ hm, b1, b2, by omega, b4⟩
      · exact (r.lab y hy).up (by omega) hroot
  · exact EvO.append h2 (h2.evo fun x hx => (hsl x hx).1) r.evo

theorem Rt.last (I : Inv g mate f h) {v : Nat} (hv : f.outer v = true) {s : List Nat} (h1 : s.head? = some v) (h2 : Alt g mate f.next (h.base v) s) (h3 : ∀ x ∈ s, f.ring v x = true) (h4 : s.Nodup) (hm : mate (h.base v) = none) : Rt g mate f h v s := by
  obtain ⟨b1, b2, b3, b4⟩ := I.baseB hv
  have k := (I.rootO _ (I.olt _ b1) hm).2.2
  have hroot : h.root v = h.base v := by rw [← b4]; exact k
  have hsl : ∀ x ∈ s, f.outer x = true ∧ h.lev x = h.lev v ∧ h.root x = h.root v := fun x hx => ⟨I.rout v x hv (h3 x hx), (I.baseC v x hv (h3 x hx)).2⟩
  exact ⟨h1, by rw [hroot]; exact h2, h4, by rw [hroot]; exact hm, fun y hy => .inl ⟨(hsl y hy).1, by have := (hsl y hy).2.1; omega, (hsl y hy).2.2⟩, h2.evo fun x hx => (hsl x hx).1⟩

theorem route_ex (M : MtOk g mate) (I : Inv g mate f h) : ∀ k v, f.outer v = true → h.lev v < k → ∃ l, Rt g mate f h v l
  | 0, _, _, hk => absurd hk (Nat.not_lt_zero _)
  | k + 1, v, hv, hk => by
    obtain ⟨s, h1, h2, h3, h4⟩ := I.seg v hv
    obtain ⟨b1, b2, b3, b4⟩ := I.baseB hv
    cases hm : mate (h.base v) with
    | none => exact ⟨s, Rt.last I hv h1 h2 h3 h4 hm⟩
    | some m =>
      obtain ⟨u1, u2, u3, u4, u5, u6⟩ := I.up _ _ b1 b2 hm
      obtain ⟨l, r⟩ := route_ex M I k _ u4 (by omega)
      exact ⟨_, Rt.ring M I hv h1 h2 h3 h4 hm r⟩

theorem Inv.route (M : MtOk g mate) (I : Inv g mate f h) {v : Nat} (hv : f.outer v = true) : ∃ l, Rt g mate f h v l := route_ex M I (h.lev v + 1) v hv (by omega)

theorem Rt.unique {v : Nat} {l l' : List Nat} (r : Rt g mate f h v l) (r' : Rt g mate f h v l') : l = l' := Alt.unique r.free r'.free r.alt r'.alt (r.head.trans r'.head.symm)

/-- A route up to a ring T on it. -/
structure Climb (g : Gr) (mate : Nat → Option Nat) (f : Fo) (h : Gh) (T : Nat → Bool) (v : Nat) (L : List Nat) (e : Nat) (R : List Nat) : Prop where
  rt : Rt g mate f h v (L ++ e :: R)
  ring : f.ring e = T
  eo : f.outer e = true
  er : Rt g mate f h e (e :: R)
  out : ∀ x ∈ L, f.ring x ≠ T
  pairs : Pairs mate L
  base : ∀ x ∈ L, f.outer x = true → h.base x ∈ L
  lev : h.lev e ≤ h.lev v
  levs : ∀ x ∈ L, f.outer x = true → h.lev e ≤ h.lev x

theorem climb_ex (G : GrOk g) (M : MtOk g mate) (I : Inv g mate f h) (T : Nat → Bool) : ∀ k v l, f.outer v = true → h.lev v < k → Rt g mate f h v l → (∃ y ∈ l, f.outer y = true ∧ f.ring y = T) → ∃ L e R, Climb g mate f h T v L e R
  | 0, _, _, _, hk, _, _ => absurd hk (Nat.not_lt_zero _)
  | k + 1, v, l, hv, hk, r, ⟨y, hy, hyo, hyT⟩ => by
    by_cases hT : f.ring v = T
    · cases l with
      | nil => exact absurd r.head (by simp)
      | cons a R =>
        have : a = v := by simpa using r.head
        subst this
        exact ⟨[], a, R, ⟨r, hT, hv, r, by simp, trivial, by simp, Nat.le_refl _, by simp⟩⟩
    · obtain ⟨s, h1, h2, h3, h4⟩ := I.seg v hv
      obtain ⟨b1, b2, b3, b4⟩ := I.baseB hv
      have hsT : ∀ x ∈ s, f.ring x ≠ T := fun x hx e => hT (by rw [← I.same v x (h3 x hx)]; exact e)
      cases hm : mate (h.base v) with
      | none =>
        have e := r.unique (Rt.last I hv h1 h2 h3 h4 hm)
        subst e
        exact absurd hyT (hsT y hy)
      | some m =>
        obtain ⟨u1, u2, u3, u4, u5, u6⟩ := I.up _ _ b1 b2 hm
        obtain ⟨l', r'⟩ := route_ex M I k _ u4 (by omega)
        have hr := Rt.ring M I hv h1 h2 h3 h4 hm r'
        have e := r.unique hr
        subst e
        have hy' : y ∈ l' := by
          rcases List.mem_append.1 hy with hy | hy
          · exact absurd hyT (hsT y hy)
          · rcases List.mem_cons.1 hy with rfl | hy
            · rw [u2] at hyo; cases hyo
            · exact hy
        obtain ⟨L, e, R, c⟩ := climb_ex G M I T k _ l' u4 (by omega) r' ⟨y, hy', hyo, hyT⟩
        have e2 := r'.unique c.rt
        subst e2
        refine ⟨s ++ m :: L, e, R, ⟨by simpa using hr, c.ring, c.eo, c.er, ?_, Alt.pairs h2 hm c.pairs, ?_, by have := c.lev; omega, ?_⟩⟩
        · intro x hx
          rcases List.mem_append.1 hx with hx | hx
          · exact hsT x hx
          · rcases List.mem_cons.1 hx with rfl | hx
            · intro e
              have hx24 := I.ilt _ u1
              have k1 : f.ring y x = true := by rw [hyT, ← e]; exact I.self x (by have := G.n24; omega)
              have := I.rout y x hyo k1
              rw [u2] at this
              cases this
            · exact c.out x hx
        · intro x hx hxo
          rcases List.mem_append.1 hx with hx | hx
          · rw [(I.baseC v x hv (h3 x hx)).1]
            exact List.mem_append_left _ h2.mem
          · rcases List.mem_cons.1 hx with rfl | hx
            · rw [u2] at hxo; cases hxo
            · exact List.mem_append_right _ (List.mem_cons_of_mem _ (c.base x hx hxo))
        · intro x hx hxo
          rcases List.mem_append.1 hx with hx | hx
          · have k := (I.baseC v x hv (h3 x hx)).2.1
            have := c.lev
            omega
          · rcases List.mem_cons.1 hx with rfl | hx
            · rw [u2] at hxo; cases hxo
            · exact c.levs x hx hxo
end
end Go.Proofs.YtcabaecbmkgclaaGreatDoor.Mt

namespace Go.Proofs.YtcabaecbmkgclaaGreatDoor.Mt

def setAt {α : Type} (f : Nat → α) (k : Nat) (v : α) : Nat → α := fun x => if x = k then v else f x

/-- Routes that come to one side of a ring from a mate go back down that side. -/
def turn (next : Nat → Nat) : List Nat → Nat → (Nat → Nat)
  | x :: m :: l, b => turn (setAt next x b) l m
  | [_], _ => next
  | [], _ => next

def Turned (N : Nat → Nat) : List Nat → Nat → Prop
  | x :: m :: l, b => N x = b ∧ Turned N l m
  | [_], _ => True
  | [], _ => True

def Edges (g : Gr) : List Nat → Nat → Prop
  | x :: m :: l, b => g.adj x b = true ∧ Edges g l m
  | [_], _ => True
  | [], _ => True

def OddIn : List Nat → Nat → Prop
  | _ :: m :: l, y => y = m ∨ OddIn l y
  | [_], _ => False
  | [], _ => False

def EvenIn : List Nat → Nat → Prop
  | x :: _ :: l, y => y = x ∨ EvenIn l y
  | [x], y => y = x
  | [], _ => False

theorem oddIn_mem : ∀ {l : List Nat} {y : Nat}, OddIn l y → y ∈ l
  | _ :: m :: l, y, h => by
    rcases h with rfl | h
    · simp
    · simp [oddIn_mem h]
theorem evenIn_mem : ∀ {l : List Nat} {y : Nat}, EvenIn l y → y ∈ l
  | [x], y, h => by have : y = x := h; simp [this]
  | x :: m :: l, y, h => by
    rcases h with rfl | h
    · simp
    · simp [evenIn_mem h]
theorem mem_even_or_odd : ∀ {l : List Nat} {y : Nat}, y ∈ l → EvenIn l y ∨ OddIn l y
  | [x], y, h => by simp at h; exact .inl h
  | x :: m :: l, y, h => by
    rcases List.mem_cons.1 h with rfl | h
    · exact .inl (.inl rfl)
    rcases List.mem_cons.1 h with rfl | h
    · exact .inr (.inl rfl)
    · rcases mem_even_or_odd h with h | h
      · exact .inl (.inr h)
      · exact .inr (.inr h)

theorem odd_not_even : ∀ {l : List Nat} {y : Nat}, l.Nodup → OddIn l y → ¬ EvenIn l y
  | x :: m :: l, y, hn, ho, he => by
    simp only [List.nodup_cons, List.mem_cons, not_or] at hn
    rcases ho with rfl | ho
    · rcases he with rfl | he
      · exact hn.1.1 rfl
      · exact hn.2.1 (evenIn_mem he)
    · rcases he with rfl | he
      · exact hn.1.2 (oddIn_mem ho)
      · exact odd_not_even hn.2.2 ho he

theorem turn_other : ∀ {l : List Nat} {next : Nat → Nat} {b y : Nat}, ¬ EvenIn l y → turn next l b y = next y
  | [], _, _, _, _ => rfl
  | [_], _, _, _, _ => rfl
  | x :: m :: l, next, b, y, h => by
    have h1 : ¬ y = x := fun e => h (.inl e)
    have h2 : ¬ EvenIn l y := fun e => h (.inr e)
    show turn (setAt next x b) l m y = next y
    rw [turn_other h2, setAt, if_neg h1]

theorem turned_congr : ∀ {l : List Nat} {N N' : Nat → Nat} {b : Nat}, Turned N l b → (∀ y, y ∈ l → N' y = N y) → Turned N' l b
  | [], _, _, _, _, _ => trivial
  | [_], _, _, _, _, _ => trivial
  | x :: m :: l, N, N', b, h, hc => ⟨(hc x (by simp)).trans h.1, turned_congr h.2 fun y hy => hc y (by simp [hy])⟩

theorem turn_turned : ∀ {l : List Nat} {next : Nat → Nat} {b : Nat}, l.Nodup → Turned (turn next l b) l b
  | [], _, _, _ => trivial
  | [_], _, _, _ => trivial
  | x :: m :: l, next, b, hn => by
    simp only [List.nodup_cons, List.mem_cons, not_or] at hn
    refine ⟨?_, turn_turned hn.2.2⟩
    show turn (setAt next x b) l m x = b
    rw [turn_other (fun e => hn.1.2 (evenIn_mem e)), setAt, if_pos rfl]

section
variable {g : Gr} {mate : Nat → Option Nat} {next N : Nat → Nat} {t : Nat}

theorem Alt.congr : ∀ {l : List Nat}, Alt g mate next t l → (∀ m, OddIn l m → N m = next m) → Alt g mate N t l
  | [x], h, _ => h
  | x :: m :: l, h, hc => by
    obtain ⟨h1, h2, h3, h4⟩ := h
    have e := hc m (.inl rfl)
    exact ⟨h1, by rw [e]; exact h2, by rw [e]; exact h3, Alt.congr h4 fun y hy => hc y (.inr hy)⟩

theorem oddIn_append : ∀ {L s : List Nat} {y : Nat}, Pairs mate L → OddIn (L ++ s) y → OddIn L y ∨ OddIn s y
  | [], _, _, _, h => .inr h
  | _ :: m :: L, s, y, hp, h => by
    rcases h with rfl | h
    · exact .inl (.inl rfl)
    · rcases oddIn_append hp.2 h with h | h
      · exact .inl (.inr h)
      · exact .inr h

/-- The same way up to e, and another way on from there. -/
theorem Alt.swap {r e : Nat} : ∀ {L R s : List Nat}, Alt g mate next r (L ++ e :: R) → Pairs mate L → Alt g mate next t s → s.head? = some e → Alt g mate next t (L ++ s)
  | [], _, _, _, _, h, _ => h
  | x :: m :: L, R, s, ha, hp, h, hs => by
    obtain ⟨h1, h2, h3, h4⟩ := ha
    refine ⟨h1, h2, ?_, Alt.swap h4 hp.2 h hs⟩
    cases L with
    | nil =>
      show s.head? = some (next m)
      rw [hs]; exact h3
    | cons y L => exact h3

theorem Alt.edges (G : GrOk g) {r e : Nat} : ∀ {L R : List Nat} {b : Nat}, Alt g mate next r (L ++ e :: R) → Pairs mate L → (∀ x, (L ++ e :: R).head? = some x → g.adj x b = true) → Edges g L b
  | [], _, _, _, _, _ => trivial
  | x :: m :: L, R, b, ha, hp, hb => by
    obtain ⟨h1, h2, h3, h4⟩ := ha
    refine ⟨hb x rfl, Alt.edges G h4 hp.2 fun y hy => ?_⟩
    have h3' : (L ++ e :: R).head? = some (next m) := h3
    rw [h3'] at hy
    cases hy
    exact G.sym _ _ h2

theorem fwd_ex : ∀ {L s : List Nat} {y : Nat}, Alt g mate N t (L ++ s) → Pairs mate L → (L ++ s).Nodup → EvenIn L y → ∃ l, l.head? = some y ∧ Alt g mate N t l ∧ (∀ z ∈ l, z ∈ L ++ s) ∧ l.Nodup
  | x :: m :: L, s, y, ha, hp, hn, he => by
    rcases he with rfl | he
    · exact ⟨_, rfl, ha, fun z hz => hz, hn⟩
    · have hn2 : (L ++ s).Nodup := by
        simp only [List.cons_append, List.nodup_cons] at hn
        exact hn.2.2
      obtain ⟨l, h1, h2, h3, h4⟩ := fwd_ex (L := L) ha.2.2.2 hp.2 hn2 he
      exact ⟨l, h1, h2, fun z hz => by have := h3 z hz; simp only [List.cons_append, List.mem_cons]; exact .inr (.inr this), h4⟩

theorem back_ex (back : ∀ a b, mate a = some b → mate b = some a) : ∀ {L r : List Nat} {b y : Nat}, Pairs mate L → Turned N L b → Edges g L b → L.Nodup → r.head? = some b → Alt g mate N t r → r.Nodup → (∀ x ∈ L, x ∉ r) → OddIn L y →
    ∃ l, l.head? = some y ∧ Alt g mate N t l ∧ (∀ z ∈ l, z ∈ L ∨ z ∈ r) ∧ l.Nodup
  | x :: m :: L, r, b, y, hp, ht, he, hn, hr, ha, hrn, hd, ho => by
    simp only [List.nodup_cons, List.mem_cons, not_or] at hn
    have hr2 : Alt g mate N t (m :: x :: r) := ⟨back _ _ hp.1, by rw [ht.1]; exact he.1, by rw [ht.1]; exact hr, ha⟩
    have hn2 : (m :: x :: r).Nodup := by
      simp only [List.nodup_cons, List.mem_cons, not_or]
      exact ⟨⟨fun e => hn.1.1 e.symm, hd m (by simp)⟩, hd x (by simp), hrn⟩
    rcases ho with rfl | ho
    · exact ⟨_, rfl, hr2, fun z hz => by simp only [List.mem_cons] at hz ⊢; rcases hz with h | h | h <;> simp [h], hn2⟩
    · obtain ⟨l, h1, h2, h3, h4⟩ := back_ex back hp.2 ht.2 he.2 hn.2.2 rfl hr2 hn2 (fun z hz => by
        simp only [List.mem_cons, not_or]
        exact ⟨fun e => hn.2.1 (e ▸ hz), fun e => hn.1.2 (e ▸ hz), hd z (by simp [hz])⟩) ho
      refine ⟨l, h1, h2, fun z hz => ?_, h4⟩
      rcases h3 z hz with h | h
      · exact .inl (by simp [h])
      · simp only [List.mem_cons] at h
        rcases h with h | h | h
        · exact .inl (by simp [h])
        · exact .inl (by simp [h])
        · exact .inr h

/-- From a vertex of a ring that the side passes, by its old way till it meets the side, and then by the new one. -/
theorem ring_ex (back : ∀ a b, mate a = some b → mate b = some a) {L : List Nat} (A : Nat → Prop) (O : Nat → Prop) (hcl : ∀ x ∈ L, ∃ y ∈ L, mate x = some y)
    (hside : ∀ x ∈ L, ∃ l, l.head? = some x ∧ Alt g mate N t l ∧ (∀ z ∈ l, z ∈ L ∨ O z) ∧ l.Nodup) (hO : ∀ z, A z → ¬ O z) (hN : ∀ m, A m → m ∉ L → N m = next m) {b : Nat} (hb : b ∈ L) :
    ∀ {s : List Nat}, Alt g mate next b s → (∀ x ∈ s, A x) → s.Nodup → ∃ l, l.head? = s.head? ∧ Alt g mate N t l ∧ (∀ z ∈ l, z ∈ s ∨ z ∈ L ∨ O z) ∧ l.Nodup
  | [x], ha, _, _ => by
    have : x = b := ha
    subst this
    obtain ⟨l, h1, h2, h3, h4⟩ := hside x hb
    exact ⟨l, h1, h2, fun z hz => .inr (h3 z hz), h4⟩
  | x :: m :: s, ha, hA, hn => by
    by_cases hx : x ∈ L
    · obtain ⟨l, h1, h2, h3, h4⟩ := hside x hx
      exact ⟨l, h1, h2, fun z hz => .inr (h3 z hz), h4⟩
    · obtain ⟨a1, a2, a3, a4⟩ := ha
      have hm : m ∉ L := by
        intro hm
        obtain ⟨y, hy, e⟩ := hcl m hm
        rw [back _ _ a1] at e
        cases e
        exact hx hy
      have e := hN m (hA m (by simp)) hm
      simp only [List.nodup_cons, List.mem_cons, not_or] at hn
      obtain ⟨l, h1, h2, h3, h4⟩ := ring_ex back A O hcl hside hO hN hb a4 (fun y hy => hA y (by simp [hy])) hn.2.2
      refine ⟨x :: m :: l, rfl, ⟨a1, by rw [e]; exact a2, by rw [e, h1]; exact a3, h2⟩, ?_, ?_⟩
      · intro z hz
        simp only [List.mem_cons] at hz ⊢
        rcases hz with h | h | h
        · exact .inl (.inl h)
        · exact .inl (.inr (.inl h))
        · rcases h3 z h with k | k
          · exact .inl (.inr (.inr k))
          · exact .inr k
      · simp only [List.nodup_cons, List.mem_cons, not_or]
        refine ⟨⟨hn.1.1, ?_⟩, ?_, h4⟩
        · intro hz
          rcases h3 x hz with k | k | k
          · exact hn.1.2 k
          · exact hx k
          · exact hO x (hA x (by simp)) k
        · intro hz
          rcases h3 m hz with k | k | k
          · exact hn.2.1 k
          · exact hm k
          · exact hO m (hA m (by simp)) k
end

section
variable {g : Gr} {mate : Nat → Option Nat} {f : Fo} {h : Gh}

/-- Two ways that meet in one ring first. -/
structure Meet (g : Gr) (mate : Nat → Option Nat) (f : Fo) (h : Gh) (T : Nat → Bool) (v w : Nat) (L L' : List Nat) (e e' : Nat) (R R' : List Nat) : Prop where
  l : Climb g mate f h T v L e R
  r : Climb g mate f h T w L' e' R'
  apart : ∀ x ∈ L, ∀ y ∈ L', f.ring x ≠ f.ring y
  vw : g.adj v w = true

theorem Meet.flip (G : GrOk g) {T : Nat → Bool} {v w : Nat} {L L' : List Nat} {e e' : Nat} {R R' : List Nat} (m : Meet g mate f h T v w L L' e e' R R') : Meet g mate f h T w v L' L e' e R' R :=
  ⟨m.r, m.l, fun x hx y hy k => m.apart y hy x hx k.symm, G.sym _ _ m.vw⟩

/-- All that a contraction takes up. -/
def whole (f : Fo) (T : Nat → Bool) (l : List Nat) : Nat → Bool := fun x => T x || l.any fun y => f.ring y x

theorem whole_iff {T : Nat → Bool} {l : List Nat} {x : Nat} : whole f T l x = true ↔ T x = true ∨ ∃ y ∈ l, f.ring y x = true := by
  unfold whole
  simp

theorem Inv.cls (I : Inv g mate f h) {y z x : Nat} (hy : f.ring y x = true) (hz : f.ring z x = true) : f.ring y = f.ring z := (I.same y x hy).symm.trans (I.same z x hz)

theorem Climb.memLt (G : GrOk g) (M : MtOk g mate) (I : Inv g mate f h) {T : Nat → Bool} {v : Nat} {L : List Nat} {e : Nat} {R : List Nat} (c : Climb g mate f h T v L e R) : ∀ x ∈ L, x < g.n := by
  intro x hx
  rcases c.rt.lab x (List.mem_append_left _ hx) with k | ⟨_, b, k, _⟩
  · exact I.olt x k.1
  · exact (G.lt _ _ (M.adj _ _ k)).1

/-- The way within the top ring, from where a side comes into it. -/
theorem Climb.top (I : Inv g mate f h) {T : Nat → Bool} {v : Nat} {L : List Nat} {e : Nat} {R : List Nat} (c : Climb g mate f h T v L e R) : ∃ s, s.head? = some e ∧ Alt g mate f.next (h.base e) s ∧ (∀ x ∈ s, T x = true) ∧ s.Nodup := by
  obtain ⟨s, h1, h2, h3, h4⟩ := I.seg e c.eo
  exact ⟨s, h1, h2, fun x hx => by rw [← c.ring]; exact h3 x hx, h4⟩

/-- Each vertex of the rings of a side has its way to the base of the top ring. -/
theorem side_ex (G : GrOk g) (M : MtOk g mate) (I : Inv g mate f h) {T : Nat → Bool} {v w : Nat} {L L' : List Nat} {e e' : Nat} {R R' : List Nat} (m : Meet g mate f h T v w L L' e e' R R') (N : Nat → Nat)
    (hN : ∀ y, ¬ EvenIn L y → ¬ EvenIn L' y → N y = f.next y) (hT : Turned N L w) {x y : Nat} (hy : y ∈ L) (hx : f.ring y x = true) :
    ∃ l, l.head? = some x ∧ Alt g mate N (h.base e) l ∧ (∀ z ∈ l, whole f T (L ++ L') z = true) ∧ l.Nodup := by
  have hLn : ∀ z ∈ L, z < 24 := fun z hz => Nat.lt_of_lt_of_le (m.l.memLt G M I z hz) G.n24
  have hLn' : ∀ z ∈ L', z < 24 := fun z hz => Nat.lt_of_lt_of_le (m.r.memLt G M I z hz) G.n24
  have hnT : ∀ z, z ∈ L → T z ≠ true := fun z hz k => m.l.out z hz (by rw [← m.l.ring] at k ⊢; exact I.same e z k)
  have hnT' : ∀ z, z ∈ L' → T z ≠ true := fun z hz k => m.r.out z hz (by rw [← m.r.ring] at k ⊢; exact I.same e' z k)
  have hLL : ∀ z, z ∈ L → z ∉ L' := fun z hz hz' => m.apart z hz z hz' rfl
  have hndL : L.Nodup := (List.nodup_append.1 m.l.rt.nodup).1
  have hndL' : L'.Nodup := (List.nodup_append.1 m.r.rt.nodup).1
  have hbb : h.base e' = h.base e := by
    have k : f.ring e e' = true := by
      rw [m.l.ring, ← m.r.ring]
      exact I.self e' (Nat.lt_of_lt_of_le (I.olt _ m.r.eo) G.n24)
    exact (I.baseC e e' m.l.eo k).1
  obtain ⟨s, s1, s2, s3, s4⟩ := m.l.top I
  obtain ⟨s', s1', s2', s3', s4'⟩ := m.r.top I
  have fL : Alt g mate N (h.base e) (L ++ s) := by
    refine Alt.congr (Alt.swap m.l.rt.alt m.l.pairs s2 s1) fun z hz => ?_
    rcases oddIn_append m.l.pairs hz with hz | hz
    · exact hN z (odd_not_even hndL hz) (fun k => hLL z (oddIn_mem hz) (evenIn_mem k))
    · exact hN z (fun k => hnT z (evenIn_mem k) (s3 z (oddIn_mem hz))) (fun k => hnT' z (evenIn_mem k) (s3 z (oddIn_mem hz)))
  have fR : Alt g mate N (h.base e) (L' ++ s') := by
    rw [← hbb]
    refine Alt.congr (Alt.swap m.r.rt.alt m.r.pairs s2' s1') fun z hz => ?_
    rcases oddIn_append m.r.pairs hz with hz | hz
    · exact hN z (fun k => hLL z (evenIn_mem k) (oddIn_mem hz)) (odd_not_even hndL' hz)
    · exact hN z (fun k => hnT z (evenIn_mem k) (s3' z (oddIn_mem hz))) (fun k => hnT' z (evenIn_mem k) (s3' z (oddIn_mem hz)))
  have nL : (L ++ s).Nodup := List.nodup_append.2 ⟨hndL, s4, fun a ha b hb k => hnT a ha (k ▸ s3 b hb)⟩
  have nR : (L' ++ s').Nodup := List.nodup_append.2 ⟨hndL', s4', fun a ha b hb k => hnT' a ha (k ▸ s3' b hb)⟩
  have hR0 : (L' ++ s').head? = some w := by
    have k := m.r.rt.head
    cases L' with
    | nil =>
      simp at k
      rw [List.nil_append, s1', k]
    | cons a l => simpa using k
  have hv : (L ++ e :: R).head? = some v := m.l.rt.head
  have hed : Edges g L w := Alt.edges G m.l.rt.alt m.l.pairs fun z hz => by
    rw [hv] at hz
    cases hz
    exact m.vw
  have hdis : ∀ z ∈ L, z ∉ L' ++ s' := by
    intro z hz k
    rcases List.mem_append.1 k with k | k
    · exact hLL z hz k
    · exact hnT z hz (s3' z k)
  have hside : ∀ z ∈ L, ∃ l, l.head? = some z ∧ Alt g mate N (h.base e) l ∧ (∀ u ∈ l, u ∈ L ∨ (T u = true ∨ u ∈ L')) ∧ l.Nodup := by
    intro z hz
    rcases mem_even_or_odd hz with k | k
    · obtain ⟨l, h1, h2, h3, h4⟩ := fwd_ex fL m.l.pairs nL k
      refine ⟨l, h1, h2, fun u hu => ?_, h4⟩
      rcases List.mem_append.1 (h3 u hu) with k | k
      · exact .inl k
      · exact .inr (.inl (s3 u k))
    · obtain ⟨l, h1, h2, h3, h4⟩ := back_ex M.back m.l.pairs hT hed hndL hR0 fR nR hdis k
      refine ⟨l, h1, h2, fun u hu => ?_, h4⟩
      rcases h3 u hu with k | k
      · exact .inl k
      · rcases List.mem_append.1 k with k | k
        · exact .inr (.inr k)
        · exact .inr (.inl (s3' u k))
  have wh : ∀ u, u ∈ L ∨ (T u = true ∨ u ∈ L') → whole f T (L ++ L') u = true := by
    rintro u (k | k | k)
    · exact whole_iff.2 (.inr ⟨u, List.mem_append_left _ k, I.self u (hLn u k)⟩)
    · exact whole_iff.2 (.inl k)
    · exact whole_iff.2 (.inr ⟨u, List.mem_append_right _ k, I.self u (hLn' u k)⟩)
  by_cases hyo : f.outer y = true
  · have hxo := I.rout y x hyo hx
    obtain ⟨s0, k1, k2, k3, k4⟩ := I.seg x hxo
    have hb : h.base x ∈ L := by
      rw [(I.baseC y x hyo hx).1]
      exact m.l.base y hy hyo
    have hA : ∀ z, f.ring x z = true → f.ring y z = true := fun z hz => by rw [← I.same y x hx]; exact hz
    obtain ⟨l, h1, h2, h3, h4⟩ := ring_ex (g := g) (N := N) (next := f.next) M.back (L := L) (fun z => f.ring x z = true) (fun z => T z = true ∨ z ∈ L') (Pairs.closed M.back m.l.pairs) hside (by
        rintro z hz (k | k)
        · refine m.l.out y hy ?_
          rw [← m.l.ring] at k ⊢
          exact I.cls (hA z hz) k
        · exact m.apart y hy z k ((I.same y z (hA z hz)).symm)) (by
        intro z hz hzL
        refine hN z (fun k => hzL (evenIn_mem k)) (fun k => ?_)
        exact m.apart y hy z (evenIn_mem k) ((I.same y z (hA z hz)).symm)) hb k2 k3 k4
    refine ⟨l, h1.trans k1, h2, fun z hz => ?_, h4⟩
    rcases h3 z hz with k | k
    · exact whole_iff.2 (.inr ⟨y, List.mem_append_left _ hy, hA z (k3 z k)⟩)
    · exact wh z k
  · have hyo : f.outer y = false := by simpa using hyo
    have := I.single y x hyo hx
    subst this
    obtain ⟨l, h1, h2, h3, h4⟩ := hside x hy
    exact ⟨l, h1, h2, fun z hz => wh z (h3 z hz), h4⟩
end
end Go.Proofs.YtcabaecbmkgclaaGreatDoor.Mt
