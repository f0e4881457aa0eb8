/-
  A text within another text: it is read as by itself, with all numbers moved on (no program).
  A text within another text: rings, branches, chains.
  A ring of carbon in small letters with things hanging on: how its text is read (no program).
  A ring of carbon in small letters: its text, unit by unit.
-/
import Derived.Test.YtcabaecbmkgclaaGreatDoorP15

namespace Go.Proofs.YtcabaecbmkgclaaGreatDoor
open Bz

/-- The text t lies in s from D on; behind it there is a dot, or the end. -/
structure Emb (t s : ByteArray) (D : Nat) : Prop where
  at' : ∀ i, i < t.size → byteAt s (D + i) = byteAt t i
  stop : byteAt s (D + t.size) = 46 ∨ D + t.size = s.size
  fit : D + t.size ≤ s.size

theorem Emb.last {t s : ByteArray} {D : Nat} (h : Emb t s D) : byteAt s (D + t.size) = 46 ∨ byteAt s (D + t.size) = 0 := by
  rcases h.stop with k | k
  · exact .inl k
  · exact .inr (byteAt_ge s _ (by omega))

/-- Any test that tells a dot from nothing else but the end falls out alike. -/
theorem Emb.same {t s : ByteArray} {D i : Nat} {α : Type} (h : Emb t s D) (hi : i ≤ t.size) (f : Int → α) (hf : f 46 = f 0) : f (byteAt s (D + i)) = f (byteAt t i) := by
  by_cases hlt : i < t.size
  · rw [h.at' i hlt]
  · have hi' : i = t.size := by omega
    rw [hi', byteAt_ge t t.size (by omega)]
    rcases h.last with k | k <;> rw [k]
    exact hf

def shA (D : Nat) (a : Atm) : Atm := { a with pl := D + a.pl }
def shB (n D : Nat) (b : Bnd) : Bnd := ⟨b.a + n, b.b + n, b.o, D + b.pl⟩

/-- The same end of a bond, its atom moved on by n. -/
structure HR (n : Nat) (h H : Hung) : Prop where
  mark : H.mark = h.mark
  atom : (h.atom = -1 ∧ H.atom = -1) ∨ ∃ a : Nat, h.atom = a ∧ H.atom = ((a + n : Nat) : Int)

/-- The same state, moved on. -/
structure Rl (A : List Atm) (B : List Bnd) (D : Nat) (p P : St) : Prop where
  pos : P.pos = D + p.pos
  atoms : P.atoms = A ++ p.atoms.map (shA D)
  bonds : P.bonds = B ++ p.bonds.map (shB A.length D)
  rings : ∀ k, (p.rings k = none ∧ P.rings k = none) ∨ ∃ o O, p.rings k = some o ∧ P.rings k = some O ∧ HR A.length o.hung O.hung

section
variable {A : List Atm} {B : List Bnd} {D : Nat} {p P q : St} {t s : ByteArray}

theorem Rl.len (h : Rl A B D p P) : P.atoms.length = A.length + p.atoms.length := by rw [h.atoms]; simp

theorem Rl.aro (h : Rl A B D p P) (a : Nat) : aro P ((a + A.length : Nat) : Int) = aro p a := by
  unfold Bz.aro
  simp only [Int.toNat_natCast]
  rw [h.atoms, List.getElem?_append_right (by omega), List.getElem?_map, Nat.add_sub_cancel]
  cases p.atoms[a]? <;> rfl

theorem Rl.order (h : Rl A B D p P) (m : Int) (a b : Nat) : order P m ((a + A.length : Nat) : Int) ((b + A.length : Nat) : Int) = order p m a b := by
  unfold Bz.order
  rw [h.aro, h.aro]

theorem Rl.bonded (h : Rl A B D p P) (hB : ∀ b ∈ B, b.a < A.length ∧ b.b < A.length) (a b : Nat) : bonded P.bonds (a + A.length) (b + A.length) = bonded p.bonds a b := by
  unfold Bz.bonded
  rw [h.bonds, List.any_append]
  have h1 : B.any (fun x => (x.a == a + A.length && x.b == b + A.length) || (x.a == b + A.length && x.b == a + A.length)) = false := by
    rw [List.any_eq_false]
    intro x hx
    have := hB x hx
    simp only [Bool.or_eq_true, Bool.and_eq_true, beq_iff_eq]
    omega
  rw [h1, Bool.false_or, List.any_map]
  congr 1
  funext x
  have e : ∀ u v : Nat, (u + A.length == v + A.length) = (u == v) := fun u v => by
    rw [Bool.eq_iff_iff, beq_iff_eq, beq_iff_eq]
    omega
  simp only [Function.comp, shB, e]

theorem Rl.bind (h : Rl A B D p P) {a b pl : Nat} {o : Int} : Rl A B D (bind p a b o pl) (bind P (a + A.length) (b + A.length) o (D + pl)) := by
  refine ⟨h.pos, h.atoms, ?_, h.rings⟩
  unfold Bz.bind
  simp only
  rw [h.bonds, List.map_append, List.append_assoc]
  congr 2
  simp only [List.map_cons, List.map_nil, shB]
  congr 2 <;> omega

theorem Rl.move (h : Rl A B D p P) {j J : Nat} (hj : J = D + j) : Rl A B D { p with pos := j } { P with pos := J } := ⟨hj, h.atoms, h.bonds, h.rings⟩

theorem Rl.setR (h : Rl A B D p P) (k : Nat) {o O : Option Opn} (ho : (o = none ∧ O = none) ∨ ∃ x X, o = some x ∧ O = some X ∧ HR A.length x.hung X.hung) : Rl A B D { p with rings := setRing p.rings k o } { P with rings := setRing P.rings k O } := by
  refine ⟨h.pos, h.atoms, h.bonds, fun j => ?_⟩
  unfold setRing
  simp only
  by_cases hj : j = k
  · rw [if_pos hj, if_pos hj]; exact ho
  · rw [if_neg hj, if_neg hj]; exact h.rings j

theorem elem_sim (E : Emb t s D) {i : Nat} {x : ByteArray × Bool × Nat} (h : element t i = some x) : element s (D + i) = some x ∧ i < t.size := by
  have hne : byteAt t i ≠ 0 := by
    intro h0
    unfold element at h
    rw [h0] at h
    simp at h
  have hlt := lt_of_byteAt hne
  refine ⟨?_, hlt⟩
  rw [← h]
  unfold element
  have h1 : (byteAt s (D + i + 1) = 108) = (byteAt t (i + 1) = 108) := E.same (i := i + 1) (by omega) (fun c => c = 108) (by simp)
  have h2 : (byteAt s (D + i + 1) = 114) = (byteAt t (i + 1) = 114) := E.same (i := i + 1) (by omega) (fun c => c = 114) (by simp)
  simp only [E.at' i hlt, h1, h2]

theorem hydro_sim (E : Emb t s D) {i : Nat} (hi : i ≤ t.size) : hydro s (D + i) = ((hydro t i).1, D + (hydro t i).2) ∧ (hydro t i).2 ≤ t.size := by
  have h0 : (byteAt s (D + i) = 72) = (byteAt t i = 72) := E.same hi (fun c => c = 72) (by simp)
  unfold hydro
  by_cases h : byteAt t i = 72
  · have hlt : i < t.size := lt_of_byteAt (by omega)
    have hd : (49 ≤ byteAt s (D + i + 1) ∧ byteAt s (D + i + 1) ≤ 52) = (49 ≤ byteAt t (i + 1) ∧ byteAt t (i + 1) ≤ 52) := E.same (i := i + 1) (by omega) (fun c => 49 ≤ c ∧ c ≤ 52) (by simp)
    rw [if_pos h, if_pos (h0.mpr h)]
    by_cases hd2 : 49 ≤ byteAt t (i + 1) ∧ byteAt t (i + 1) ≤ 52
    · have hlt2 : i + 1 < t.size := lt_of_byteAt (by omega)
      rw [if_pos hd2, if_pos (hd.mpr hd2)]
      have : byteAt s (D + i + 1) = byteAt t (i + 1) := E.at' (i + 1) hlt2
      rw [this]
      exact ⟨rfl, hlt2⟩
    · rw [if_neg hd2, if_neg (fun h => hd2 (hd.mp h))]
      exact ⟨rfl, hlt⟩
  · rw [if_neg h, if_neg (fun k => h (h0.mp k))]
    exact ⟨rfl, hi⟩

theorem charge_sim (E : Emb t s D) {i : Nat} (hi : i ≤ t.size) : charge s (D + i) = ((charge t i).1, D + (charge t i).2) ∧ (charge t i).2 ≤ t.size := by
  have h0 : (byteAt s (D + i) = 43) = (byteAt t i = 43) := E.same hi (fun c => c = 43) (by simp)
  have h1 : (byteAt s (D + i) = 45) = (byteAt t i = 45) := E.same hi (fun c => c = 45) (by simp)
  unfold charge
  simp only [h0, h1]
  split
  · rename_i h
    exact ⟨rfl, lt_of_byteAt (by omega)⟩
  · split
    · rename_i h
      exact ⟨rfl, lt_of_byteAt (by omega)⟩
    · exact ⟨rfl, hi⟩

theorem bracket_sim (E : Emb t s D) {i : Nat} {c y : Int} {j : Nat} (hi : i ≤ t.size) (h : bracket t i = .ok (c, y, j)) : bracket s (D + i) = .ok (c, y, D + j) := by
  obtain ⟨e1, e2⟩ := hydro_sim E hi
  obtain ⟨e3, e4⟩ := charge_sim E e2
  have h0 : (byteAt s (D + (charge t (hydro t i).2).2) = 93) = (byteAt t (charge t (hydro t i).2).2 = 93) := E.same e4 (fun c => c = 93) (by simp)
  unfold bracket at h ⊢
  simp only [e1, e3, h0] at h ⊢
  split at h
  · rename_i hh
    cases h
    rw [if_pos hh]
    rfl
  · cases h

theorem HR.m1 {n : Nat} {h H : Hung} (x : HR n h H) : (H.atom = -1) = (h.atom = -1) := by
  rcases x.atom with ⟨a, b⟩ | ⟨a, b, c⟩
  · rw [a, b]
  · rw [b, c]
    apply propext
    omega

theorem atom_put (R : Rl A B D p P) {h H : Hung} (hh : HR A.length h H) (x : Atm) (j : Nat) :
    Rl A B D (if h.atom = -1 then { p with pos := j, atoms := p.atoms ++ [x] } else Bz.bind { p with pos := j, atoms := p.atoms ++ [x] } h.atom.toNat p.atoms.length (order { p with pos := j, atoms := p.atoms ++ [x] } h.mark h.atom p.atoms.length) p.pos)
      (if H.atom = -1 then { P with pos := D + j, atoms := P.atoms ++ [shA D x] } else Bz.bind { P with pos := D + j, atoms := P.atoms ++ [shA D x] } H.atom.toNat P.atoms.length (order { P with pos := D + j, atoms := P.atoms ++ [shA D x] } H.mark H.atom P.atoms.length) P.pos) := by
  have R0 : Rl A B D { p with pos := j, atoms := p.atoms ++ [x] } { P with pos := D + j, atoms := P.atoms ++ [shA D x] } := by
    refine ⟨rfl, ?_, R.bonds, R.rings⟩
    simp only
    rw [R.atoms, List.map_append, List.append_assoc]
    rfl
  rcases hh.atom with ⟨e1, e2⟩ | ⟨a, e1, e2⟩
  · rw [if_pos e1, if_pos e2]; exact R0
  · rw [if_neg (by omega), if_neg (by omega), e1, e2, hh.mark, R.len, Nat.add_comm A.length, R0.order, R.pos]
    simp only [Int.toNat_natCast]
    exact R0.bind

theorem atom_sim (E : Emb t s D) (R : Rl A B D p P) {h H : Hung} (hh : HR A.length h H) {a : Nat} (hp : p.pos ≤ t.size) (hn : A.length + q.atoms.length ≤ 24) (hr : atom t h p = .ok (a, q)) :
    ∃ Q, atom s H P = .ok (a + A.length, Q) ∧ Rl A B D q Q := by
  have hbr : (byteAt s (D + p.pos) == 91) = (byteAt t p.pos == 91) := E.same hp (fun c => c == 91) (by simp)
  have hin : byteAt t p.pos = 91 → p.pos < t.size := fun h => lt_of_byteAt (by omega)
  unfold atom at hr ⊢
  rw [R.pos]
  simp only [hbr]
  cases hel : element t (if (byteAt t p.pos == 91) = true then p.pos + 1 else p.pos) with
  | none => simp only [hel] at hr; split at hr <;> cases hr
  | some x =>
    obtain ⟨el, ar, m⟩ := x
    simp only [hel] at hr
    obtain ⟨hel2, hlt⟩ := elem_sim E hel
    have ei : (D + if (byteAt t p.pos == 91) = true then p.pos + 1 else p.pos) = if (byteAt t p.pos == 91) = true then D + p.pos + 1 else D + p.pos := by split <;> omega
    rw [ei] at hel2
    simp only [hel2]
    by_cases h58 : h.mark = 58 ∧ ar = false
    · rw [if_pos h58] at hr; cases hr
    rw [if_neg h58] at hr
    rw [hh.mark, if_neg h58]
    cases hf : full p with
    | true => rw [hf] at hr; simp at hr
    | false =>
      rw [hf] at hr
      simp only [Bool.false_eq_true, if_false] at hr
      have fin : ∀ (c y : Int) (j : Nat), Except.ok (ε := Int × Int) (p.atoms.length, if h.atom = -1 then { p with pos := j, atoms := p.atoms ++ [⟨el, ar, c, y, p.pos, byteAt t p.pos == 91⟩] } else Bz.bind { p with pos := j, atoms := p.atoms ++ [⟨el, ar, c, y, p.pos, byteAt t p.pos == 91⟩] } h.atom.toNat p.atoms.length (order { p with pos := j, atoms := p.atoms ++ [⟨el, ar, c, y, p.pos, byteAt t p.pos == 91⟩] } h.mark h.atom p.atoms.length) p.pos) = .ok (a, q) → full P = false ∧
          ∃ Q, Except.ok (ε := Int × Int) (P.atoms.length, if H.atom = -1 then { P with pos := D + j, atoms := P.atoms ++ [⟨el, ar, c, y, D + p.pos, byteAt t p.pos == 91⟩] } else Bz.bind { P with pos := D + j, atoms := P.atoms ++ [⟨el, ar, c, y, D + p.pos, byteAt t p.pos == 91⟩] } H.atom.toNat P.atoms.length (order { P with pos := D + j, atoms := P.atoms ++ [⟨el, ar, c, y, D + p.pos, byteAt t p.pos == 91⟩] } h.mark H.atom P.atoms.length) (D + p.pos)) = .ok (a + A.length, Q) ∧ Rl A B D q Q := by
        intro c y j e
        simp only [Except.ok.injEq, Prod.mk.injEq] at e
        obtain ⟨e1, e2⟩ := e
        have hpl : q.atoms.length = p.atoms.length + 1 := by
          rw [← e2]
          split
          · simp
          · unfold Bz.bind; simp
        have := atom_put R hh ⟨el, ar, c, y, p.pos, byteAt t p.pos == 91⟩ j
        rw [R.pos, hh.mark, e2] at this
        refine ⟨?_, _, congrArg (fun z => Except.ok (z, _)) ?_, this⟩
        · unfold full
          rw [R.len]
          simp
          omega
        · rw [R.len, ← e1, Nat.add_comm A.length]
      cases hb : (byteAt t p.pos == 91) with
      | true =>
        rw [hb] at hr fin hlt
        simp only [if_true] at hr hlt ⊢
        cases hk : bracket t (p.pos + 1 + m) with
        | error e => rw [hk] at hr; cases hr
        | ok x =>
          obtain ⟨c, y, j⟩ := x
          rw [hk] at hr
          obtain ⟨f1, Q, f2, f3⟩ := fin c y j hr
          have hle : p.pos + 1 + m ≤ t.size := by
            have : m = 1 ∨ (m = 2 ∧ byteAt t (p.pos + 1 + 1) ≠ 0) := by
              rw [hb] at hel
              simp only [if_true] at hel
              unfold element at hel
              simp only at hel
              split at hel
              · rename_i h; cases hel; exact .inr ⟨rfl, by omega⟩
              split at hel
              · rename_i h; cases hel; exact .inr ⟨rfl, by omega⟩
              split at hel
              · cases hel; exact .inl rfl
              split at hel
              · cases hel; exact .inl rfl
              · cases hel
            rcases this with rfl | ⟨rfl, h⟩
            · exact hlt
            · exact lt_of_byteAt h
          have hk2 := bracket_sim E hle hk
          rw [show D + (p.pos + 1 + m) = D + p.pos + 1 + m by omega] at hk2
          refine ⟨Q, ?_, f3⟩
          rw [hk2, f1]
          exact f2
      | false =>
        rw [hb] at hr fin
        simp only [Bool.false_eq_true, if_false] at hr ⊢
        obtain ⟨f1, Q, f2, f3⟩ := fin 0 0 (p.pos + m) hr
        refine ⟨Q, ?_, f3⟩
        rw [f1]
        simp only [Bool.false_eq_true, if_false]
        rw [← f2, Nat.add_assoc]

theorem bondEnd_sim (E : Emb t s D) (R : Rl A B D p P) {a : Nat} {h : Hung} (hp : p.pos ≤ t.size) (hr : bondEnd t a p = .ok (h, q)) : ∃ H Q, bondEnd s (a + A.length) P = .ok (H, Q) ∧ HR A.length h H ∧ Rl A B D q Q := by
  unfold bondEnd at hr ⊢
  have hs : isSign (byteAt s (D + p.pos)) = isSign (byteAt t p.pos) := E.same hp isSign (by rfl)
  rw [R.pos]
  simp only [hs]
  cases hb : isSign (byteAt t p.pos)
  · simp only [hb, Bool.false_eq_true, if_false] at hr ⊢
    cases hr
    exact ⟨_, _, rfl, ⟨rfl, .inr ⟨a, rfl, rfl⟩⟩, R⟩
  · have hlt : p.pos < t.size := lt_of_byteAt (by intro h; rw [h] at hb; cases hb)
    simp only [hb, if_true] at hr ⊢
    rw [R.aro, E.at' _ hlt]
    split at hr
    · cases hr
    · rename_i h58
      cases hr
      rw [if_neg h58]
      exact ⟨_, _, rfl, ⟨rfl, .inr ⟨a, rfl, rfl⟩⟩, R.move (by omega)⟩

theorem link_sim (E : Emb t s D) (R : Rl A B D p P) {a : Nat} {h : Hung} (hp : p.pos < t.size) (hr : link t a p = .ok (h, q)) : ∃ H Q, link s (a + A.length) P = .ok (H, Q) ∧ HR A.length h H ∧ Rl A B D q Q := by
  unfold link at hr ⊢
  rw [R.pos, E.at' _ hp]
  split at hr
  · rename_i h46
    cases hr
    rw [if_pos h46]
    exact ⟨_, _, rfl, ⟨rfl, .inl ⟨rfl, rfl⟩⟩, R.move (by omega)⟩
  · rename_i h46
    rw [if_neg h46]
    exact bondEnd_sim E R (by omega) hr

theorem number_sim (E : Emb t s D) {i k j : Nat} (hi : i ≤ t.size) (hr : ringNumber t i = .ok (k, j)) : ringNumber s (D + i) = .ok (k, D + j) := by
  unfold ringNumber at hr ⊢
  have h0 : (byteAt s (D + i) = 37) = (byteAt t i = 37) := E.same hi (fun c => c = 37) (by simp)
  have h1 : isDigit (byteAt s (D + i)) = isDigit (byteAt t i) := E.same hi isDigit rfl
  simp only [h0]
  split at hr
  · rename_i h37
    have hlt : i < t.size := lt_of_byteAt (by omega)
    rw [if_pos h37]
    have hd1 : isDigit (byteAt s (D + i + 1)) = isDigit (byteAt t (i + 1)) := E.same (i := i + 1) (by omega) isDigit rfl
    rw [hd1]
    split at hr
    · rename_i hy
      have hlt1 : i + 1 < t.size := lt_of_byteAt (by intro h; rw [h] at hy; cases hy)
      have hd2 : isDigit (byteAt s (D + i + 2)) = isDigit (byteAt t (i + 2)) := E.same (i := i + 2) (by omega) isDigit rfl
      rw [if_pos hy, hd2]
      split at hr
      · rename_i hy2
        have hlt2 : i + 2 < t.size := lt_of_byteAt (by intro h; rw [h] at hy2; cases hy2)
        rw [if_pos hy2]
        have e1 : byteAt s (D + i + 1) = byteAt t (i + 1) := E.at' (i + 1) hlt1
        have e2 : byteAt s (D + i + 2) = byteAt t (i + 2) := E.at' (i + 2) hlt2
        rw [e1, e2]
        cases hr
        rfl
      · cases hr
    · cases hr
  · rename_i h37
    rw [if_neg h37, h1]
    split at hr
    · rename_i hy
      have hlt : i < t.size := lt_of_byteAt (by intro h; rw [h] at hy; cases hy)
      rw [if_pos hy, E.at' _ hlt]
      cases hr
      rfl
    · cases hr

theorem close_sim (R : Rl A B D p P) (hB : ∀ b ∈ B, b.a < A.length ∧ b.b < A.length) {f F l L : Hung} (hf : HR A.length f F) (hl : HR A.length l L) {fa la : Nat} (ef : f.atom = fa) (el : l.atom = la) {pl : Nat} (hr : closeRing f l pl p = .ok q) : ∃ Q, closeRing F L (D + pl) P = .ok Q ∧ Rl A B D q Q := by
  have eF : F.atom = ((fa + A.length : Nat) : Int) := by
    rcases hf.atom with ⟨a, _⟩ | ⟨x, a, b⟩
    · omega
    · rw [b]; omega
  have eL : L.atom = ((la + A.length : Nat) : Int) := by
    rcases hl.atom with ⟨a, _⟩ | ⟨x, a, b⟩
    · omega
    · rw [b]; omega
  unfold closeRing at hr ⊢
  have hq : (((fa + A.length : Nat) : Int) = ((la + A.length : Nat) : Int)) = ((fa : Int) = (la : Int)) := by
    apply propext
    omega
  rw [eF, eL, hf.mark, hl.mark]
  rw [ef, el] at hr
  simp only [R.aro, R.order, hq, Int.toNat_natCast, R.bonded hB] at hr ⊢
  split at hr
  · cases hr
  rename_i c1
  rw [if_neg c1]
  split at hr
  · cases hr
  rename_i c2
  rw [if_neg c2]
  split at hr
  · cases hr
  rename_i c3
  rw [if_neg c3]
  cases hr
  exact ⟨_, rfl, R.bind⟩
end
end Go.Proofs.YtcabaecbmkgclaaGreatDoor

namespace Go.Proofs.YtcabaecbmkgclaaGreatDoor
open Bz

section
variable {A : List Atm} {B : List Bnd} {D : Nat} {p P q : St} {t s : ByteArray}

theorem ring_sim (E : Emb t s D) (hB : ∀ b ∈ B, b.a < A.length ∧ b.b < A.length) (o : Ok t p) (R : Rl A B D p P) {a : Nat} (ha : a < p.atoms.length) (hr : ring t a p = .ok q) : ∃ Q, ring s (a + A.length) P = .ok Q ∧ Rl A B D q Q := by
  unfold ring at hr ⊢
  cases he : bondEnd t a p with
  | error e => rw [he] at hr; cases hr
  | ok x =>
    obtain ⟨g, p1⟩ := x
    rw [he] at hr
    simp only at hr
    obtain ⟨G, P1, b1, b2, b3⟩ := bondEnd_sim E R o.pos he
    obtain ⟨o1, go1, ea, _⟩ := bondEnd_wf he o ha
    have hg : g.atom = (a : Int) := by
      unfold bondEnd at he
      simp only at he
      split at he
      · split at he
        · cases he
        · cases he; rfl
      · cases he; rfl
    rw [b1]
    simp only
    cases hn : ringNumber t p1.pos with
    | error e => rw [hn] at hr; cases hr
    | ok x =>
      obtain ⟨k, j⟩ := x
      rw [hn] at hr
      simp only at hr
      rw [b3.pos, number_sim E o1.pos hn]
      simp only
      rcases b3.rings k with ⟨r1, r2⟩ | ⟨x, X, r1, r2, r3⟩
      · rw [r1] at hr
        rw [r2]
        simp only [Except.ok.injEq] at hr ⊢
        subst hr
        exact ⟨_, rfl, (b3.move rfl).setR k (.inr ⟨_, _, rfl, rfl, b2⟩)⟩
      · rw [r1] at hr
        rw [r2]
        simp only at hr ⊢
        obtain ⟨fa, ef, _⟩ := o1.rings k x r1
        exact close_sim ((b3.move rfl).setR k (.inl ⟨rfl, rfl⟩)) hB r3 b2 ef hg hr

theorem ahead_sim (E : Emb t s D) (R : Rl A B D p P) (hp : p.pos ≤ t.size) : ringAhead s P = ringAhead t p := by
  unfold ringAhead
  rw [R.pos]
  have h1 : isSign (byteAt s (D + p.pos)) = isSign (byteAt t p.pos) := E.same hp isSign rfl
  have h2 : startsRing (byteAt s (D + p.pos)) = startsRing (byteAt t p.pos) := E.same hp startsRing rfl
  rw [h1, h2]
  cases hs : isSign (byteAt t p.pos)
  · rfl
  · have hlt : p.pos < t.size := lt_of_byteAt (by intro h; rw [h] at hs; cases hs)
    have h3 : startsRing (byteAt s (D + p.pos + 1)) = startsRing (byteAt t (p.pos + 1)) := E.same (i := p.pos + 1) (by omega) startsRing rfl
    rw [h3]

theorem ahead_lt (h : ringAhead t p = true) : p.pos < t.size := by
  refine lt_of_byteAt fun h0 => ?_
  unfold ringAhead at h
  rw [h0] at h
  cases h

theorem rings_sim (E : Emb t s D) (hB : ∀ b ∈ B, b.a < A.length ∧ b.b < A.length) {a : Nat} : ∀ (m M : Nat) {p P q : St}, ringsOf t a m p = .ok q → t.size - p.pos < m → t.size - p.pos < M → Ok t p → Rl A B D p P → a < p.atoms.length → ∃ Q, ringsOf s (a + A.length) M P = .ok Q ∧ Rl A B D q Q
  | 0, M, p, P, q, _, hm, _, _, _, _ => by omega
  | m + 1, 0, p, P, q, _, _, hm, _, _, _ => by omega
  | m + 1, M + 1, p, P, q, hr, hm, hM, o, R, ha => by
    rw [ringsOf] at hr ⊢
    rw [ahead_sim E R o.pos]
    cases hah : ringAhead t p
    · rw [hah] at hr
      simp only [Bool.false_eq_true, if_false, Except.ok.injEq] at hr ⊢
      subst hr
      exact ⟨P, rfl, R⟩
    · rw [hah] at hr
      simp only [if_true] at hr ⊢
      have hlt := ahead_lt hah
      cases h1 : ring t a p with
      | error e => rw [h1] at hr; cases hr
      | ok p1 =>
        rw [h1] at hr
        simp only at hr
        obtain ⟨P1, c1, c2⟩ := ring_sim E hB o R ha h1
        obtain ⟨o1, l1, l2⟩ := ring_wf h1 o ha
        rw [c1]
        simp only
        exact rings_sim E hB m M hr (by omega) (by omega) o1 c2 (by omega)

/-- Chains of the one text and of the other, that end within it. -/
def CS (A : List Atm) (B : List Bnd) (D : Nat) (t : ByteArray) (c C : Hung → St → R St) : Prop :=
  ∀ h H p P q, c h p = .ok q → Ok t p → HungOk h p → HR A.length h H → Rl A B D p P → q.pos < t.size → A.length + q.atoms.length ≤ 24 → ∃ Q, C H P = .ok Q ∧ Rl A B D q Q

theorem branch_sim (E : Emb t s D) {c C : Hung → St → R St} (hc : ChainOk t c) (cs : CS A B D t c C) (o : Ok t p) (R : Rl A B D p P) {a : Nat} (ha : a < p.atoms.length) (hn : A.length + q.atoms.length ≤ 24) (hr : branch t c a p = .ok q) : ∃ Q, branch s C (a + A.length) P = .ok Q ∧ Rl A B D q Q := by
  unfold branch at hr ⊢
  cases hl : link t a p with
  | error e => rw [hl] at hr; cases hr
  | ok x =>
    obtain ⟨g, p1⟩ := x
    rw [hl] at hr
    simp only at hr
    obtain ⟨o1, g1, ea, l1⟩ := link_wf hl o ha
    cases h2 : c g p1 with
    | error e => rw [h2] at hr; cases hr
    | ok p2 =>
      rw [h2] at hr
      simp only at hr
      obtain ⟨o2, l2, l3⟩ := hc g p1 p2 o1 g1 h2
      have := o2.pos
      split at hr
      · rename_i h41
        cases hr
        have hlt : p2.pos < t.size := lt_of_byteAt (by omega)
        obtain ⟨G, P1, b1, b2, b3⟩ := link_sim E R (by omega) hl
        obtain ⟨P2, c1, c2⟩ := cs g G p1 P1 p2 h2 o1 g1 b2 b3 hlt hn
        rw [b1]
        simp only
        rw [c1]
        simp only
        rw [c2.pos, E.at' _ hlt, if_pos h41]
        exact ⟨_, rfl, c2.move (by omega)⟩
      · cases hr

theorem branches_sim (E : Emb t s D) {c C : Hung → St → R St} (hc : ChainOk t c) (cs : CS A B D t c C) {a : Nat} : ∀ (m M : Nat) {p P q : St}, branches t c a m p = .ok q → t.size - p.pos < m → t.size - p.pos < M → Ok t p → Rl A B D p P → a < p.atoms.length → A.length + q.atoms.length ≤ 24 → ∃ Q, branches s C (a + A.length) M P = .ok Q ∧ Rl A B D q Q
  | 0, M, p, P, q, _, hm, _, _, _, _, _ => by omega
  | m + 1, 0, p, P, q, _, _, hm, _, _, _, _ => by omega
  | m + 1, M + 1, p, P, q, hr, hm, hM, o, R, ha, hn => by
    rw [branches] at hr ⊢
    have h40 : (byteAt s (D + p.pos) = 40) = (byteAt t p.pos = 40) := E.same o.pos (fun c => c = 40) (by simp)
    rw [R.pos]
    simp only [h40]
    split at hr
    · rename_i hb
      have hlt : p.pos < t.size := lt_of_byteAt (by omega)
      rw [if_pos hb]
      cases h1 : branch t c a { p with pos := p.pos + 1 } with
      | error e => rw [h1] at hr; cases hr
      | ok p1 =>
        rw [h1] at hr
        simp only at hr
        obtain ⟨o1, l1, l2⟩ := branch_wf hc h1 (o.step hlt) ha
        simp only at l1 l2
        obtain ⟨o2, l3, l4⟩ := branches_wf hc m hr o1 (by omega)
        obtain ⟨P1, c1, c2⟩ := branch_sim (P := { P with pos := D + p.pos + 1 }) E hc cs (o.step hlt) (R.move (by omega)) ha (by omega) h1
        rw [c1]
        simp only
        exact branches_sim E hc cs m M hr (by omega) (by omega) o1 c2 (by omega) hn
    · rename_i hb
      rw [if_neg hb]
      cases hr
      exact ⟨P, rfl, R⟩

theorem knot_sim (E : Emb t s D) (hB : ∀ b ∈ B, b.a < A.length ∧ b.b < A.length) {c C : Hung → St → R St} (hc : ChainOk t c) (cs : CS A B D t c C) (o : Ok t p) (R : Rl A B D p P) {h H : Hung} (hh : HR A.length h H) {a : Nat} (hn : A.length + q.atoms.length ≤ 24) (hr : knot t c h p = .ok (a, q)) : ∃ Q, knot s C H P = .ok (a + A.length, Q) ∧ Rl A B D q Q := by
  have hfit := E.fit
  unfold knot at hr ⊢
  cases h1 : atom t h p with
  | error e => rw [h1] at hr; cases hr
  | ok x =>
    obtain ⟨a1, p1⟩ := x
    rw [h1] at hr
    simp only at hr
    obtain ⟨o1, k1, l1, m1⟩ := atom_wf h1 o
    cases h2 : ringsOf t a1 (t.size + 1) p1 with
    | error e => rw [h2] at hr; cases hr
    | ok p2 =>
      rw [h2] at hr
      simp only at hr
      obtain ⟨o2, l2, m2⟩ := ringsOf_wf _ h2 o1 k1
      cases h3 : branches t c a1 (t.size + 1) p2 with
      | error e => rw [h3] at hr; cases hr
      | ok p3 =>
        rw [h3] at hr
        simp only [Except.ok.injEq, Prod.mk.injEq] at hr
        obtain ⟨rfl, rfl⟩ := hr
        obtain ⟨o3, l3, m3⟩ := branches_wf hc _ h3 o2 (by omega)
        obtain ⟨P1, c1, c2⟩ := atom_sim E R hh o.pos (by omega) h1
        obtain ⟨P2, d1, d2⟩ := rings_sim E hB (t.size + 1) (s.size + 1) h2 (by omega) (by omega) o1 c2 k1
        obtain ⟨P3, e1, e2⟩ := branches_sim E hc cs (t.size + 1) (s.size + 1) h3 (by omega) (by omega) o2 d2 (by omega) hn
        rw [c1]
        simp only
        rw [d1]
        simp only
        rw [e1]
        exact ⟨P3, rfl, e2⟩

/-- How far the one runs beside the other: to where the text t stops. -/
theorem linked_sim (E : Emb t s D) (hB : ∀ b ∈ B, b.a < A.length ∧ b.b < A.length) {c C : Hung → St → R St} (hc : ChainOk t c) (cs : CS A B D t c C) : ∀ (m M : Nat) {a : Nat} {p P q : St}, Bz.linked t c m a p = .ok q → t.size - p.pos < m → s.size - P.pos < M → Ok t p → Rl A B D p P → a < p.atoms.length → A.length + q.atoms.length ≤ 24 →
    ∃ a' M' Q, Bz.linked s C M (a + A.length) P = Bz.linked s C M' a' Q ∧ Rl A B D q Q ∧ s.size - Q.pos < M' ∧ (q.pos < t.size → byteAt t q.pos = 41) ∧ Ok t q
  | 0, M, a, p, P, q, _, hm, _, _, _, _, _ => by omega
  | m + 1, 0, a, p, P, q, _, _, hm, _, _, _, _ => by omega
  | m + 1, M + 1, a, p, P, q, hr, hm, hM, o, R, ha, hn => by
    have hfit := E.fit
    rw [Bz.linked] at hr
    split at hr
    · rename_i hg
      cases h1 : linkedKnot t c a p with
      | error e => rw [h1] at hr; cases hr
      | ok x =>
        obtain ⟨a1, p1⟩ := x
        rw [h1] at hr
        simp only at hr
        obtain ⟨o1, k1, l1, l2⟩ := linkedKnot_wf hc h1 o ha
        obtain ⟨o2, l3, l4⟩ := linked_wf hc m hr o1 k1
        have hk : ∃ P1, linkedKnot s C (a + A.length) P = .ok (a1 + A.length, P1) ∧ Rl A B D p1 P1 := by
          unfold linkedKnot at h1 ⊢
          cases h2 : link t a p with
          | error e => rw [h2] at h1; cases h1
          | ok x =>
            obtain ⟨g, p0⟩ := x
            rw [h2] at h1
            simp only at h1
            obtain ⟨o0, _, _, _⟩ := link_wf h2 o ha
            obtain ⟨G, P0, b1, b2, b3⟩ := link_sim E R hg.1 h2
            rw [b1]
            exact knot_sim E hB hc cs o0 b3 b2 (by omega) h1
        obtain ⟨P1, c1, c2⟩ := hk
        have hp := R.pos
        have hp1 := c2.pos
        have ho1 := o1.pos
        obtain ⟨a', M', Q, d1, d2, d3, d4, d5⟩ := linked_sim E hB hc cs m M hr (by omega) (by omega) o1 c2 k1 hn
        refine ⟨a', M', Q, ?_, d2, d3, d4, d5⟩
        rw [Bz.linked, if_pos ⟨by omega, by rw [R.pos, E.at' _ hg.1]; exact hg.2⟩, c1]
        exact d1
    · rename_i hg
      cases hr
      refine ⟨a + A.length, M + 1, P, rfl, R, hM, fun hlt => ?_, o⟩
      exact Classical.byContradiction fun h => hg ⟨hlt, h⟩

theorem linked_halt {C : Hung → St → R St} {a n : Nat} {p : St} (h : ¬ (p.pos < s.size ∧ byteAt s p.pos ≠ 41)) : Bz.linked s C n a p = .ok p := by
  cases n with
  | zero => rfl
  | succ n => rw [Bz.linked, if_neg h]

theorem chain_sim (E : Emb t s D) (hB : ∀ b ∈ B, b.a < A.length ∧ b.b < A.length) : ∀ n N, n ≤ N → CS A B D t (chain t n) (chain s N)
  | 0, N, _ => by intro h H p P q hr; simp [chain] at hr
  | n + 1, 0, hN => by omega
  | n + 1, N + 1, hN => by
    intro h H p P q hr o ho hh R hlt hn
    have hfit := E.fit
    have hc := chain_wf t n
    have cs := chain_sim E hB n N (by omega)
    rw [chain] at hr ⊢
    cases h1 : knot t (chain t n) h p with
    | error e => rw [h1] at hr; cases hr
    | ok x =>
      obtain ⟨a1, p1⟩ := x
      rw [h1] at hr
      simp only at hr
      obtain ⟨o1, k1, l1, l2⟩ := knot_wf hc h1 o
      obtain ⟨o2, l3, l4⟩ := linked_wf hc _ hr o1 k1
      obtain ⟨P1, c1, c2⟩ := knot_sim E hB hc cs o R hh (by omega) h1
      have hp1 := c2.pos
      obtain ⟨a', M', Q, d1, d2, d3, d4, d5⟩ := linked_sim E hB hc cs (t.size + 1) (s.size + 1) hr (by omega) (by omega) o1 c2 k1 hn
      rw [c1]
      simp only
      rw [d1]
      refine ⟨Q, linked_halt ?_, d2⟩
      rw [d2.pos, E.at' _ hlt]
      rintro ⟨_, h⟩
      exact h (d4 hlt)

/-- One text of two: what is left to be read behind it. -/
theorem part_sim (E : Emb t s D) (hB : ∀ b ∈ B, b.a < A.length ∧ b.b < A.length) {h H : Hung} (o : Ok t p) (R : Rl A B D p P) (hh : HR A.length h H) {n N F : Nat} (hN : n ≤ N) (hF : s.size - P.pos < F) (hn : A.length + q.atoms.length ≤ 24) (hr : chain t (n + 1) h p = .ok q) :
    ∃ a1 P1 a' M' Q, knot s (chain s N) H P = .ok (a1, P1) ∧ Bz.linked s (chain s N) F a1 P1 = Bz.linked s (chain s N) M' a' Q ∧ Rl A B D q Q ∧ s.size - Q.pos < M' ∧ Ok t q := by
  have hfit := E.fit
  have hc := chain_wf t n
  have cs := chain_sim E hB n N hN
  rw [chain] at hr
  cases h1 : knot t (chain t n) h p with
  | error e => rw [h1] at hr; cases hr
  | ok x =>
    obtain ⟨a1, p1⟩ := x
    rw [h1] at hr
    simp only at hr
    obtain ⟨o1, k1, l1, l2⟩ := knot_wf hc h1 o
    obtain ⟨o2, l3, l4⟩ := linked_wf hc _ hr o1 k1
    obtain ⟨P1, c1, c2⟩ := knot_sim E hB hc cs o R hh (by omega) h1
    have hp := R.pos
    have hp1 := c2.pos
    obtain ⟨a', M', Q, d1, d2, d3, _, d5⟩ := linked_sim E hB hc cs (t.size + 1) F hr (by omega) (by omega) o1 c2 k1 hn
    exact ⟨a1 + A.length, P1, a', M', Q, c1, d1, d2, d3, d5⟩
end
end Go.Proofs.YtcabaecbmkgclaaGreatDoor

namespace Go.Proofs.YtcabaecbmkgclaaGreatDoor.Bz
open Mt

/-- What is left of a text from a place on. -/
def Rest (s : ByteArray) (p : Nat) (l : List UInt8) : Prop := s.data.toList.drop p = l

theorem Rest.at {s : ByteArray} {p : Nat} {c : UInt8} {l : List UInt8} (h : Rest s p (c :: l)) : byteAt s p = (c.toNat : Int) := by
  unfold Rest at h
  have h1 : s.data.toList[p]? = some c := by
    have : (s.data.toList.drop p)[0]? = some c := by rw [h]; rfl
    rwa [List.getElem?_drop, Nat.add_zero] at this
  obtain ⟨hlt, he⟩ := List.getElem?_eq_some_iff.1 h1
  have hlt' : p < s.size := by rw [← ByteArray.size_data]; simpa using hlt
  rw [byteAt_lt s p hlt']
  congr 2
theorem Rest.lt {s : ByteArray} {p : Nat} {c : UInt8} {l : List UInt8} (h : Rest s p (c :: l)) : p < s.size := by
  unfold Rest at h
  have := congrArg List.length h
  rw [List.length_drop, List.length_cons] at this
  rw [← ByteArray.size_data, ← Array.length_toList]
  omega
theorem Rest.next {s : ByteArray} {p : Nat} {c : UInt8} {l : List UInt8} (h : Rest s p (c :: l)) : Rest s (p + 1) l := by
  unfold Rest at *
  rw [← List.drop_drop, h]
  rfl
theorem Rest.end {s : ByteArray} {p : Nat} (h : Rest s p []) : s.size ≤ p := by
  unfold Rest at h
  have := congrArg List.length h
  rw [List.length_drop, List.length_nil] at this
  rw [← ByteArray.size_data, ← Array.length_toList]
  omega
theorem Rest.zero {s : ByteArray} {p : Nat} (h : Rest s p []) : byteAt s p = 0 := byteAt_ge s p (by have := h.end; omega)
theorem Rest.len {s : ByteArray} {p : Nat} {l : List UInt8} (h : Rest s p l) (hp : p ≤ s.size) : p + l.length = s.size := by
  unfold Rest at h
  have := congrArg List.length h
  rw [List.length_drop] at this
  rw [← ByteArray.size_data, ← Array.length_toList] at hp ⊢
  omega

/-- Where nothing more hangs on: the text ends, or the next atom comes. -/
def Nx (l : List UInt8) : Prop := l = [] ∨ ∃ t, l = 99 :: t

theorem Nx.byte {s : ByteArray} {p : Nat} {l : List UInt8} (h : Nx l) (r : Rest s p l) : byteAt s p = 0 ∨ byteAt s p = 99 := by
  rcases h with rfl | ⟨t, rfl⟩
  · exact .inl r.zero
  · exact .inr r.at

theorem rings_stop {s : ByteArray} {a n : Nat} {p : St} (h : ringAhead s p = false) : ringsOf s a n p = .ok p := by
  cases n with
  | zero => rfl
  | succ n => rw [ringsOf, h]; rfl
theorem branches_stop {s : ByteArray} {ch : Hung → St → R St} {a n : Nat} {p : St} (h : byteAt s p.pos ≠ 40) : branches s ch a n p = .ok p := by
  cases n with
  | zero => rfl
  | succ n => rw [branches, if_neg h]
theorem linked_stop {s : ByteArray} {ch : Hung → St → R St} {a n : Nat} {p : St} (h : ¬ (p.pos < s.size ∧ byteAt s p.pos ≠ 41)) : linked s ch n a p = .ok p := by
  cases n with
  | zero => rfl
  | succ n => rw [linked, if_neg h]

theorem no_ring {s : ByteArray} {p : St} (h : byteAt s p.pos = 0 ∨ byteAt s p.pos = 99 ∨ byteAt s p.pos = 40 ∨ byteAt s p.pos = 41) : ringAhead s p = false := by
  unfold ringAhead isSign startsRing isDigit
  rcases h with h | h | h | h <;> rw [h] <;> rfl

def decL (d : Nat) : List UInt8 := match d with
  | 0 => []
  | 1 => [40, 67, 41]
  | 2 => [40, 79, 41]
  | 3 => [40, 67, 108, 41]
  | _ => [40, 45, 78, 41]

def decE (e : ByteArray) : Prop := e = ⟨#[67]⟩ ∨ e = ⟨#[79]⟩ ∨ e = ⟨#[67, 108]⟩ ∨ e = ⟨#[78]⟩

/-- What a thing that hangs on adds. -/
structure Hang (p q : St) (a : Nat) (e : ByteArray) (pl : Nat) : Prop where
  el : decE e
  atoms : q.atoms = p.atoms ++ [⟨e, false, 0, 0, pl, false⟩]
  bonds : q.bonds = p.bonds ++ [⟨a, p.atoms.length, 1, pl⟩]
def Hung' (p q : St) (a : Nat) : Prop := (q.atoms = p.atoms ∧ q.bonds = p.bonds) ∨ ∃ e pl, Hang p q a e pl

/-- One atom in a branch: its own chain. -/
theorem chain_one {s : ByteArray} {n : Nat} {h : Hung} {p : St} {e : ByteArray} {m a : Nat} (ha : h.atom = a) (hm : h.mark = 0 ∨ h.mark = 45) (hlt : a < p.atoms.length) (hbr : byteAt s p.pos ≠ 91) (hel : element s p.pos = some (e, false, m)) (hend : byteAt s (p.pos + m) = 41) (hf : p.atoms.length < 24) :
    chain s (n + 1) h p = .ok { p with pos := p.pos + m, atoms := p.atoms ++ [⟨e, false, 0, 0, p.pos, false⟩], bonds := p.bonds ++ [⟨a, p.atoms.length, 1, p.pos⟩] } := by
  have hat : atom s h p = .ok (p.atoms.length, { p with pos := p.pos + m, atoms := p.atoms ++ [⟨e, false, 0, 0, p.pos, false⟩], bonds := p.bonds ++ [⟨a, p.atoms.length, 1, p.pos⟩] }) := by
    unfold atom
    have hb : (byteAt s p.pos == 91) = false := by simp [hbr]
    have hfu : full p = false := by unfold full; simp; omega
    have hm58 : ¬ (h.mark = 58) := by rcases hm with h | h <;> rw [h] <;> decide
    simp only [hb, Bool.false_eq_true, if_false, hel, hfu, hm58, false_and]
    rw [if_neg (by omega)]
    unfold bind
    have hord : order { p with pos := p.pos + m, atoms := p.atoms ++ [⟨e, false, 0, 0, p.pos, false⟩] } h.mark h.atom (p.atoms.length : Int) = 1 := by
      unfold order
      rcases hm with h | h
      · rw [h]
        have : aro { p with pos := p.pos + m, atoms := p.atoms ++ [⟨e, false, 0, 0, p.pos, false⟩] } (p.atoms.length : Int) = false := by
          unfold aro
          simp
        rw [this]
        simp
      · rw [h]; rfl
    rw [hord, ha]
    simp only [Int.toNat_natCast]
    rw [Nat.min_eq_left (by omega), Nat.max_eq_right (by omega)]
  unfold chain knot
  rw [hat]
  simp only []
  rw [rings_stop (no_ring (.inr (.inr (.inr hend))))]
  simp only []
  rw [branches_stop (by simp only; rw [hend]; decide)]
  simp only []
  rw [linked_stop (by simp only; rw [hend]; simp)]

theorem branch_one {s : ByteArray} {n a x : Nat} {p : St} {h : Hung} {e : ByteArray} {m : Nat} (hl : link s a { p with pos := p.pos + 1 } = .ok (h, { p with pos := x })) (ha : h.atom = a) (hm : h.mark = 0 ∨ h.mark = 45) (hlt : a < p.atoms.length) (hf : p.atoms.length < 24) (hbr : byteAt s x ≠ 91) (hel : element s x = some (e, false, m)) (hend : byteAt s (x + m) = 41) :
    branch s (chain s (n + 1)) a { p with pos := p.pos + 1 } = .ok { p with pos := x + m + 1, atoms := p.atoms ++ [⟨e, false, 0, 0, x, false⟩], bonds := p.bonds ++ [⟨a, p.atoms.length, 1, x⟩] } := by
  have hch := chain_one (s := s) (n := n) (h := h) (p := { p with pos := x }) (e := e) (m := m) (a := a) ha hm hlt hbr hel hend hf
  unfold branch
  rw [hl]
  simp only []
  rw [hch]
  simp only []
  rw [if_pos hend]

theorem hang_one {s : ByteArray} {n a : Nat} {p : St} {d : Nat} {t : List UInt8} (hd : d ≠ 0) (r : Rest s p.pos (decL d ++ t)) (hlt : a < p.atoms.length) (hf : p.atoms.length < 24) :
    ∃ q e pl, branch s (chain s (n + 1)) a { p with pos := p.pos + 1 } = .ok q ∧ byteAt s p.pos = 40 ∧ Rest s q.pos t ∧ q.rings = p.rings ∧ Hang p q a e pl := by
  have key : ∀ {x : Nat} {h : Hung} {e : ByteArray} {m : Nat}, decE e → link s a { p with pos := p.pos + 1 } = .ok (h, { p with pos := x }) → h.atom = a → (h.mark = 0 ∨ h.mark = 45) → byteAt s x ≠ 91 → element s x = some (e, false, m) → byteAt s (x + m) = 41 → byteAt s p.pos = 40 → Rest s (x + m + 1) t →
      ∃ q e pl, branch s (chain s (n + 1)) a { p with pos := p.pos + 1 } = .ok q ∧ byteAt s p.pos = 40 ∧ Rest s q.pos t ∧ q.rings = p.rings ∧ Hang p q a e pl := by
    intro x h e m hE hl ha hm hbr hel hend h40 hr
    exact ⟨_, e, x, branch_one hl ha hm hlt hf hbr hel hend, h40, hr, rfl, ⟨hE, rfl, rfl⟩⟩
  match d, hd with
  | 1, _ =>
    have r1 := r.next
    have r2 := r1.next
    refine key (x := p.pos + 1) (h := ⟨0, 0, a⟩) (e := ⟨#[67]⟩) (m := 1) (.inl rfl) ?_ rfl (.inl rfl) (by rw [r1.at]; decide) (by unfold element; rw [r1.at, r2.at]; rfl) (by rw [r2.at]; rfl) r.at r2.next
    unfold link bondEnd
    simp only [r1.at]
    rfl
  | 2, _ =>
    have r1 := r.next
    have r2 := r1.next
    refine key (x := p.pos + 1) (h := ⟨0, 0, a⟩) (e := ⟨#[79]⟩) (m := 1) (.inr (.inl rfl)) ?_ rfl (.inl rfl) (by rw [r1.at]; decide) (by unfold element; rw [r1.at, r2.at]; rfl) (by rw [r2.at]; rfl) r.at r2.next
    unfold link bondEnd
    simp only [r1.at]
    rfl
  | 3, _ =>
    have r1 := r.next
    have r2 := r1.next
    have r3 := r2.next
    refine key (x := p.pos + 1) (h := ⟨0, 0, a⟩) (e := ⟨#[67, 108]⟩) (m := 2) (.inr (.inr (.inl rfl))) ?_ rfl (.inl rfl) (by rw [r1.at]; decide) (by unfold element; rw [r1.at, r2.at]; rfl) (by rw [show p.pos + 1 + 2 = p.pos + 1 + 1 + 1 from rfl, r3.at]; rfl) r.at r3.next
    unfold link bondEnd
    simp only [r1.at]
    rfl
  | d + 4, _ =>
    have r1 := r.next
    have r2 := r1.next
    have r3 := r2.next
    refine key (x := p.pos + 2) (h := ⟨45, p.pos + 1, a⟩) (e := ⟨#[78]⟩) (m := 1) (.inr (.inr (.inr rfl))) ?_ rfl (.inr rfl) (by rw [show p.pos + 2 = p.pos + 1 + 1 from rfl, r2.at]; decide) (by unfold element; rw [show p.pos + 2 = p.pos + 1 + 1 from rfl, r2.at, r3.at]; rfl) (by rw [show p.pos + 2 + 1 = p.pos + 1 + 1 + 1 from rfl, r3.at]; rfl) r.at r3.next
    unfold link bondEnd
    simp only [r1.at]
    rfl

/-- What hangs on an atom, all of it. -/
theorem hang_all {s : ByteArray} {n m a : Nat} {p : St} (d : Nat) {t : List UInt8} (r : Rest s p.pos (decL d ++ t)) (ht : Nx t) (hlt : a < p.atoms.length) (hf : p.atoms.length < 24) :
    ∃ q, branches s (chain s (n + 1)) a (m + 1) p = .ok q ∧ Rest s q.pos t ∧ q.rings = p.rings ∧ Hung' p q a := by
  by_cases hd : d = 0
  · subst hd
    have r' : Rest s p.pos t := r
    refine ⟨p, branches_stop ?_, r', rfl, .inl ⟨rfl, rfl⟩⟩
    rcases ht.byte r' with h | h <;> rw [h] <;> decide
  · obtain ⟨q, e, pl, h1, h2, h3, h4, h5⟩ := hang_one (n := n) hd r hlt hf
    refine ⟨q, ?_, h3, h4, .inr ⟨e, pl, h5⟩⟩
    rw [branches, if_pos h2, h1]
    simp only []
    refine branches_stop ?_
    rcases ht.byte h3 with h | h <;> rw [h] <;> decide
end Go.Proofs.YtcabaecbmkgclaaGreatDoor.Bz

namespace Go.Proofs.YtcabaecbmkgclaaGreatDoor.Bz
open Mt

def rgL (n : Nat) : List UInt8 := if n < 10 then [(48 + n).toUInt8] else [37, (48 + n / 10).toUInt8, (48 + n % 10).toUInt8]

theorem u8 (n : Nat) (h : n < 256) : n.toUInt8.toNat = n := by
  rw [Nat.toUInt8_eq, UInt8.toNat_ofNat']
  omega

theorem not_sign {c : Int} (h : c = 37 ∨ (48 ≤ c ∧ c ≤ 57)) : isSign c = false := by
  unfold isSign
  simp only [Bool.or_eq_false_iff, beq_eq_false_iff_ne, ne_eq]
  omega

theorem digit_yes {c : Int} (h : 48 ≤ c ∧ c ≤ 57) : isDigit c = true := by
  unfold isDigit
  simp [h.1, h.2]

theorem ring_num {s : ByteArray} {p : St} {n : Nat} (a : Nat) {t : List UInt8} (hn : n < 100) (r : Rest s p.pos (rgL n ++ t)) :
    ringAhead s p = true ∧ bondEnd s a p = .ok (⟨0, 0, a⟩, p) ∧ ∃ j, ringNumber s p.pos = .ok (n, j) ∧ Rest s j t := by
  unfold rgL at r
  split at r
  · rename_i h10
    have h0 : byteAt s p.pos = 48 + (n : Int) := by rw [r.at, u8 _ (by omega)]; omega
    have hs := not_sign (c := byteAt s p.pos) (by omega)
    have hd := digit_yes (c := byteAt s p.pos) (by omega)
    refine ⟨?_, ?_, p.pos + 1, ?_, r.next⟩
    · unfold ringAhead startsRing
      rw [hs, hd]
      simp
    · unfold bondEnd
      simp only [hs]
      rfl
    · unfold ringNumber
      rw [if_neg (by omega), hd]
      simp only [if_true]
      congr 2
      omega
  · rename_i h10
    have r1 := r.next
    have r2 := r1.next
    have h0 : byteAt s p.pos = 37 := r.at
    have h1 : byteAt s (p.pos + 1) = 48 + (n / 10 : Nat) := by rw [r1.at, u8 _ (by omega)]; omega
    have h2 : byteAt s (p.pos + 2) = 48 + (n % 10 : Nat) := by rw [show p.pos + 2 = p.pos + 1 + 1 from rfl, r2.at, u8 _ (by omega)]; omega
    have hs := not_sign (c := byteAt s p.pos) (by omega)
    refine ⟨?_, ?_, p.pos + 3, ?_, r2.next⟩
    · unfold ringAhead startsRing
      rw [hs, h0]
      simp
    · unfold bondEnd
      simp only [hs]
      rfl
    · unfold ringNumber
      rw [if_pos h0, digit_yes (c := byteAt s (p.pos + 1)) (by omega), digit_yes (c := byteAt s (p.pos + 2)) (by omega)]
      simp only [if_true]
      congr 2
      omega

def cA (pl : Nat) : Atm := ⟨⟨#[67]⟩, true, 0, 0, pl, false⟩

theorem elem_c {s : ByteArray} {i : Nat} (h : byteAt s i = 99) : element s i = some (⟨#[67]⟩, true, 1) := by
  unfold element
  simp only [h]
  rfl

theorem atom_first {s : ByteArray} {p : St} (h : byteAt s p.pos = 99) (hf : p.atoms.length < 24) : atom s ⟨0, 0, -1⟩ p = .ok (p.atoms.length, { p with pos := p.pos + 1, atoms := p.atoms ++ [cA p.pos] }) := by
  unfold atom
  have hb : (byteAt s p.pos == 91) = false := by rw [h]; rfl
  have hfu : full p = false := by unfold full; simp; omega
  simp only [hb, Bool.false_eq_true, if_false, elem_c h, hfu]
  rfl

theorem atom_next {s : ByteArray} {p : St} {a : Nat} (h : byteAt s p.pos = 99) (hf : p.atoms.length < 24) (ha : aro p a = true) (hlt : a < p.atoms.length) :
    atom s ⟨0, 0, a⟩ p = .ok (p.atoms.length, { p with pos := p.pos + 1, atoms := p.atoms ++ [cA p.pos], bonds := p.bonds ++ [⟨a, p.atoms.length, 4, p.pos⟩] }) := by
  unfold atom
  have hb : (byteAt s p.pos == 91) = false := by rw [h]; rfl
  have hfu : full p = false := by unfold full; simp; omega
  simp only [hb, Bool.false_eq_true, if_false, elem_c h, hfu]
  rw [if_neg (by simp), if_neg (by omega)]
  have hord : order { p with pos := p.pos + 1, atoms := p.atoms ++ [⟨⟨#[67]⟩, true, 0, 0, p.pos, false⟩] } 0 a (p.atoms.length : Int) = 4 := by
    unfold order
    have h1 : aro { p with pos := p.pos + 1, atoms := p.atoms ++ [⟨⟨#[67]⟩, true, 0, 0, p.pos, false⟩] } (a : Int) = true := by
      unfold aro at ha ⊢
      simp only [Int.toNat_natCast] at ha ⊢
      rw [List.getElem?_append_left hlt]
      exact ha
    have h2 : aro { p with pos := p.pos + 1, atoms := p.atoms ++ [⟨⟨#[67]⟩, true, 0, 0, p.pos, false⟩] } (p.atoms.length : Int) = true := by
      unfold aro
      simp
    rw [h1, h2]
    rfl
  rw [hord]
  unfold bind
  simp only [Int.toNat_natCast]
  rw [Nat.min_eq_left (by omega), Nat.max_eq_right (by omega)]
  rfl

theorem aro_at {p : St} {x : Nat} : aro p x = true ↔ ∃ a, p.atoms[x]? = some a ∧ a.aro = true := by
  unfold aro
  simp only [Int.toNat_natCast]
  cases h : p.atoms[x]? with
  | none => simp
  | some a => simp

theorem sum_snoc (l : List Bnd) (b : Bnd) (x : Nat) : sum (l ++ [b]) x = sum l x + if b.a = x ∨ b.b = x then (if b.o = 4 then 1 else b.o) else 0 := by
  unfold sum
  rw [List.map_append, List.sum_append]
  simp

theorem sum_out {l : List Bnd} {x : Nat} (h : ∀ b ∈ l, b.a < x ∧ b.b < x) : sum l x = 0 := by
  induction l with
  | nil => rfl
  | cons b l ih =>
    have h1 := h b (by simp)
    have h2 := ih fun y hy => h y (by simp [hy])
    unfold sum at h2 ⊢
    rw [List.map_cons, List.sum_cons, h2, if_neg (by omega)]
    rfl

/-- A way to give each its own mate, the last one left out where their number is odd. -/
structure Way (p : St) (m : Nat → Option Nat) (last i : Nat) : Prop where
  sym : ∀ x y, m x = some y → m y = some x
  bond : ∀ x y, m x = some y → ∃ b ∈ p.bonds, b.o = 4 ∧ ((b.a = x ∧ b.b = y) ∨ (b.a = y ∧ b.b = x))
  ar : ∀ x y : Nat, m x = some y → aro p x = true
  all : ∀ x : Nat, aro p x = true → (m x = none ↔ (i % 2 = 1 ∧ x = last))

/-- Where the reading of a ring stands: e, how many ends of its bonds an atom waits for. -/
structure An (p : St) (e : Nat → Int) (last i : Nat) : Prop where
  pos : last < p.atoms.length
  ends : ∀ b ∈ p.bonds, b.a < p.atoms.length ∧ b.b < p.atoms.length ∧ (b.o = 1 ∨ b.o = 4)
  ring : ∀ x a, p.atoms[x]? = some a → a.aro = true → a.el = ⟨#[67]⟩ ∧ a.ch = 0 ∧ a.br = false ∧ (sum p.bonds x + e x = 2 ∨ sum p.bonds x + e x = 3)
  on : ∀ x a, p.atoms[x]? = some a → a.aro = false → decE a.el ∧ a.ch = 0 ∧ a.br = false ∧ sum p.bonds x = 1
  zero : aro p (0 : Nat) = true
  la : aro p last = true
  count : cnt p.atoms.length (fun x => aro p x) = i
  way : ∃ m, Way p m last i

theorem aro_snoc {p q : St} {a : Atm} (h : q.atoms = p.atoms ++ [a]) (x : Nat) : aro q x = if x = p.atoms.length then a.aro else aro p x := by
  unfold aro
  simp only [Int.toNat_natCast]
  rw [h]
  by_cases hx : x = p.atoms.length
  · subst hx
    simp
  · rw [if_neg hx]
    by_cases hlt : x < p.atoms.length
    · rw [List.getElem?_append_left hlt]
    · rw [List.getElem?_eq_none (by simp; omega), List.getElem?_eq_none (by omega)]

theorem at_snoc {p q : St} {a b : Atm} (h : q.atoms = p.atoms ++ [a]) {x : Nat} (hx : q.atoms[x]? = some b) : (x = p.atoms.length ∧ b = a) ∨ (x < p.atoms.length ∧ p.atoms[x]? = some b) := by
  rw [h] at hx
  by_cases hlt : x < p.atoms.length
  · rw [List.getElem?_append_left hlt] at hx
    exact .inr ⟨hlt, hx⟩
  · have : x = p.atoms.length := by
      have := (List.getElem?_eq_some_iff.1 hx).1
      simp at this
      omega
    subst this
    simp at hx
    exact .inl ⟨rfl, hx.symm⟩

theorem An.hang {p q : St} {e : Nat → Int} {last i : Nat} (h : An p e last i) (h2 : sum p.bonds last + e last = 2) (H : Hung' p q last) : An q e last i := by
  rcases H with ⟨ha, hb⟩ | ⟨el, pl, hE, ha, hb⟩
  · obtain ⟨k1, k2, k3, k4, k5, k6, k7, m, k8⟩ := h
    have har : ∀ x : Int, aro q x = aro p x := fun x => by unfold aro; rw [ha]
    refine ⟨by rw [ha]; exact k1, by rw [ha, hb]; exact k2, by rw [ha, hb]; exact k3, by rw [ha, hb]; exact k4, by rw [har]; exact k5, by rw [har]; exact k6, by rw [ha]; simp only [har]; exact k7, m, k8.sym, by rw [hb]; exact k8.bond, fun x y h => by rw [har]; exact k8.ar x y h, fun x hx => k8.all x (by rw [← har]; exact hx)⟩
  · obtain ⟨k1, k2, k3, k4, k5, k6, k7, m, k8⟩ := h
    have har := aro_snoc ha
    simp only at har
    have hlen : q.atoms.length = p.atoms.length + 1 := by rw [ha]; simp
    have h0 : 0 < p.atoms.length := by omega
    have hs0 : sum p.bonds p.atoms.length = 0 := sum_out fun b hb => ⟨(k2 b hb).1, (k2 b hb).2.1⟩
    have hlo : ∀ x : Nat, aro p x = true → x < p.atoms.length := fun x hx => by
      obtain ⟨a, h1, _⟩ := aro_at.1 hx
      exact (List.getElem?_eq_some_iff.1 h1).1
    refine ⟨by omega, ?_, ?_, ?_, ?_, ?_, ?_, m, k8.sym, ?_, fun x y h => ?_, ?_⟩
    · intro b hbm
      rw [hb, List.mem_append, List.mem_singleton] at hbm
      rcases hbm with hbm | rfl
      · have := k2 b hbm
        omega
      · exact ⟨by show last < _; omega, by show p.atoms.length < _; omega, .inl rfl⟩
    · intro x a hx haa
      rcases at_snoc ha hx with ⟨rfl, rfl⟩ | ⟨hlt, hx'⟩
      · cases haa
      · have := k3 x a hx' haa
        refine ⟨this.1, this.2.1, this.2.2.1, ?_⟩
        rw [hb, sum_snoc]
        simp only
        by_cases hxl : last = x
        · subst hxl
          simp
          omega
        · rw [if_neg (by omega)]
          have := this.2.2.2
          omega
    · intro x a hx haa
      rcases at_snoc ha hx with ⟨rfl, rfl⟩ | ⟨hlt, hx'⟩
      · refine ⟨hE, rfl, rfl, ?_⟩
        rw [hb, sum_snoc, hs0]
        simp
      · have := k4 x a hx' haa
        refine ⟨this.1, this.2.1, this.2.2.1, ?_⟩
        have hne : last ≠ x := by
          rintro rfl
          obtain ⟨a', h1, h2⟩ := aro_at.1 k6
          rw [hx'] at h1
          cases h1
          rw [haa] at h2
          cases h2
        rw [hb, sum_snoc]
        simp only
        rw [if_neg (by omega), this.2.2.2]
        rfl
    · rw [har, if_neg (by omega)]; exact k5
    · rw [har, if_neg (by omega)]; exact k6
    · rw [hlen, cnt, har]
      simp only [if_true, Bool.false_eq_true, if_false, Nat.add_zero]
      rw [← k7]
      exact cnt_congr fun k hk => by rw [har, if_neg (by omega)]
    · intro x y hxy
      obtain ⟨b, h1, h2⟩ := k8.bond x y hxy
      exact ⟨b, by rw [hb]; simp [h1], h2⟩
    · have := hlo x (k8.ar x y h)
      rw [har, if_neg (by omega)]
      exact k8.ar x y h
    · intro x hx
      rw [har] at hx
      split at hx
      · cases hx
      · exact k8.all x hx

/-- The next atom of the ring. -/
theorem An.atom {p q : St} {e : Nat → Int} {last i pl pl' : Nat} (h : An p e last i) (hel : 1 ≤ e last) (ha : q.atoms = p.atoms ++ [cA pl]) (hb : q.bonds = p.bonds ++ [⟨last, p.atoms.length, 4, pl'⟩]) :
    An q (fun x => if x = p.atoms.length then 1 else if x = last then e x - 1 else e x) p.atoms.length (i + 1) ∧ sum q.bonds p.atoms.length = 1 := by
  obtain ⟨k1, k2, k3, k4, k5, k6, k7, m, k8⟩ := h
  have har := aro_snoc ha
  have hlen : q.atoms.length = p.atoms.length + 1 := by rw [ha]; simp
  have h0 : 0 < p.atoms.length := by omega
  have hs0 : sum p.bonds p.atoms.length = 0 := sum_out fun b hb => ⟨(k2 b hb).1, (k2 b hb).2.1⟩
  have hs1 : sum q.bonds p.atoms.length = 1 := by rw [hb, sum_snoc, hs0]; simp
  have hin : ∀ x y, m x = some y → x < p.atoms.length ∧ y < p.atoms.length := fun x y hxy => by
    obtain ⟨b, h1, h2, h3⟩ := k8.bond x y hxy
    have := k2 b h1
    omega
  refine ⟨⟨by omega, ?_, ?_, ?_, ?_, ?_, ?_, ?_⟩, hs1⟩
  · intro b hbm
    rw [hb, List.mem_append, List.mem_singleton] at hbm
    rcases hbm with hbm | rfl
    · have := k2 b hbm
      omega
    · exact ⟨by show last < _; omega, by show p.atoms.length < _; omega, .inr rfl⟩
  · intro x a hx haa
    rcases at_snoc ha hx with ⟨rfl, rfl⟩ | ⟨hlt, hx'⟩
    · refine ⟨rfl, rfl, rfl, ?_⟩
      rw [hs1]
      simp
    · have := k3 x a hx' haa
      refine ⟨this.1, this.2.1, this.2.2.1, ?_⟩
      rw [hb, sum_snoc]
      simp only
      rw [if_neg (show ¬ x = p.atoms.length by omega)]
      have := this.2.2.2
      by_cases hxl : last = x
      · subst hxl
        simp
        omega
      · rw [if_neg (by omega), if_neg (by omega)]
        omega
  · intro x a hx haa
    rcases at_snoc ha hx with ⟨rfl, rfl⟩ | ⟨hlt, hx'⟩
    · cases haa
    · have := k4 x a hx' haa
      refine ⟨this.1, this.2.1, this.2.2.1, ?_⟩
      have hne : last ≠ x := by
        rintro rfl
        obtain ⟨a', h1, h2⟩ := aro_at.1 k6
        rw [hx'] at h1
        cases h1
        rw [haa] at h2
        cases h2
      rw [hb, sum_snoc]
      simp only
      rw [if_neg (by omega), this.2.2.2]
      rfl
  · rw [har, if_neg (by omega)]; exact k5
  · rw [har, if_pos rfl]; rfl
  · rw [hlen, cnt, har, if_pos rfl]
    simp only [cA, if_true]
    rw [← k7]
    congr 1
    exact cnt_congr fun k hk => by rw [har, if_neg (by omega)]
  · have hold : ∀ x : Nat, aro q x = true → x ≠ p.atoms.length → aro p x = true := fun x hx hne => by rwa [har, if_neg hne] at hx
    have hnew : m p.atoms.length = none := by
      cases hm : m p.atoms.length with
      | none => rfl
      | some y => have := (hin _ _ hm).1; omega
    have hbm : ∀ b ∈ p.bonds, b ∈ q.bonds := fun b h => by rw [hb]; simp [h]
    have hnq : ∀ x : Nat, aro p x = true → aro q x = true := fun x hx => by
      obtain ⟨a, h1, _⟩ := aro_at.1 hx
      have := (List.getElem?_eq_some_iff.1 h1).1
      rw [har, if_neg (by omega)]
      exact hx
    have hqn : aro q (p.atoms.length : Nat) = true := by rw [har, if_pos rfl]; rfl
    by_cases hi : i % 2 = 1
    · have hln : m last = none := (k8.all last k6).2 ⟨hi, rfl⟩
      refine ⟨fun x => if x = last then some p.atoms.length else if x = p.atoms.length then some last else m x, ?_, ?_, ?_, ?_⟩
      · intro x y hxy
        split at hxy
        · rename_i hx
          cases hxy
          rw [if_neg (by omega), if_pos rfl, hx]
        · rename_i hx
          split at hxy
          · rename_i hx2
            cases hxy
            rw [if_pos rfl, hx2]
          · rename_i hx2
            have hy := k8.sym x y hxy
            have h1 : y ≠ last := by rintro rfl; rw [hln] at hy; cases hy
            have h2 : y ≠ p.atoms.length := by rintro rfl; rw [hnew] at hy; cases hy
            rw [if_neg h1, if_neg h2, hy]
      · intro x y hxy
        split at hxy
        · rename_i hx
          cases hxy
          exact ⟨⟨last, p.atoms.length, 4, pl'⟩, by rw [hb]; simp, rfl, .inl ⟨hx.symm, rfl⟩⟩
        · split at hxy
          · rename_i hx2
            cases hxy
            exact ⟨⟨last, p.atoms.length, 4, pl'⟩, by rw [hb]; simp, rfl, .inr ⟨rfl, hx2.symm⟩⟩
          · obtain ⟨b, h1, h2⟩ := k8.bond x y hxy
            exact ⟨b, hbm b h1, h2⟩
      · intro x y hxy
        split at hxy
        · rename_i hx
          rw [hx]
          exact hnq _ k6
        · split at hxy
          · rename_i hx2
            rw [hx2]
            exact hqn
          · exact hnq _ (k8.ar x y hxy)
      · intro x hx
        refine ⟨fun hn => ?_, fun hn => by omega⟩
        split at hn
        · cases hn
        · split at hn
          · cases hn
          · rename_i h1 h2
            have := ((k8.all x (hold x hx h2)).1 hn).2
            exact absurd this h1
    · refine ⟨m, k8.sym, fun x y hxy => ?_, fun x y h => hnq _ (k8.ar x y h), fun x hx => ?_⟩
      · obtain ⟨b, h1, h2⟩ := k8.bond x y hxy
        exact ⟨b, hbm b h1, h2⟩
      · by_cases hxl : x = p.atoms.length
        · subst hxl
          rw [hnew]
          simp
          omega
        · have := k8.all x (hold x hx hxl)
          rw [this]
          constructor
          · intro h; omega
          · intro h; omega

/-- The ring is closed. -/
theorem An.close {p q : St} {e : Nat → Int} {last i pl : Nat} (h : An p e last i) (h0 : e 0 = 1) (hl : e last = 1) (hne : last ≠ 0) (ha : q.atoms = p.atoms) (hb : q.bonds = p.bonds ++ [⟨0, last, 4, pl⟩]) :
    An q (fun x => if x = 0 ∨ x = last then 0 else e x) last i ∧ sum q.bonds last = sum p.bonds last + 1 := by
  obtain ⟨k1, k2, k3, k4, k5, k6, k7, m, k8⟩ := h
  have har : ∀ x : Int, aro q x = aro p x := fun x => by unfold aro; rw [ha]
  refine ⟨⟨by rw [ha]; exact k1, ?_, ?_, ?_, by rw [har]; exact k5, by rw [har]; exact k6, by rw [ha]; simp only [har]; exact k7, m, k8.sym, ?_, fun x y h => by rw [har]; exact k8.ar x y h, fun x hx => k8.all x (by rw [← har]; exact hx)⟩, ?_⟩
  · intro b hbm
    rw [ha]
    rw [hb, List.mem_append, List.mem_singleton] at hbm
    rcases hbm with hbm | rfl
    · exact k2 b hbm
    · exact ⟨by show 0 < _; omega, by show last < _; omega, .inr rfl⟩
  · intro x a hx haa
    rw [ha] at hx
    have := k3 x a hx haa
    refine ⟨this.1, this.2.1, this.2.2.1, ?_⟩
    have := this.2.2.2
    rw [hb, sum_snoc]
    simp only
    by_cases hx0 : x = 0 ∨ x = last
    · rw [if_pos (by omega), if_pos hx0]
      rcases hx0 with rfl | rfl
      · simp; omega
      · simp; omega
    · rw [if_neg (by omega), if_neg hx0]
      omega
  · intro x a hx haa
    rw [ha] at hx
    have := k4 x a hx haa
    refine ⟨this.1, this.2.1, this.2.2.1, ?_⟩
    have hne : ∀ y, aro p (y : Nat) = true → y ≠ x := by
      rintro y hy rfl
      obtain ⟨a', h1, h2⟩ := aro_at.1 hy
      rw [hx] at h1
      cases h1
      rw [haa] at h2
      cases h2
    rw [hb, sum_snoc]
    simp only
    rw [if_neg (by have := hne _ k5; have := hne _ k6; omega), this.2.2.2]
    rfl
  · intro x y hxy
    obtain ⟨b, h1, h2⟩ := k8.bond x y hxy
    exact ⟨b, by rw [hb]; simp [h1], h2⟩
  · rw [hb, sum_snoc]
    simp
end Go.Proofs.YtcabaecbmkgclaaGreatDoor.Bz
