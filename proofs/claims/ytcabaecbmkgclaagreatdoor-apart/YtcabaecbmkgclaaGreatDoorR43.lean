/-
  A text within another text: it is read as by itself, with all numbers moved on (no program).
  A text within another text: rings, branches, chains.
  Two texts with a dot between: the one's atoms and bonds, and then the other's.
-/
import Derived.Test.YtcabaecbmkgclaaGreatDoorR06
import Derived.Test.YtcabaecbmkgclaaGreatDoorR41
namespace Go.Proofs.YtcabaecbmkgclaaGreatDoor
open Bz
/-- The text t lies in s from D on; behind it there is a dot, or the end. -/
structure Emb (t s : ByteArray) (D : Nat) : Prop where
  at' : ∀ i, i < t.size → byteAt s (D + i) = byteAt t i
  stop : byteAt s (D + t.size) = 46 ∨ D + t.size = s.size
  fit : D + t.size ≤ s.size

theorem Emb.last {t s : ByteArray} {D : Nat} (h : Emb t s D) : byteAt s (D + t.size) = 46 ∨ byteAt s (D + t.size) = 0 := by
  rcases h.stop with k | k
  · exact .inl k
  · exact .inr (byteAt_ge s _ (by omega))

/-- Any test that tells a dot from nothing else but the end falls out alike. -/
theorem Emb.same {t s : ByteArray} {D i : Nat} {α : Type} (h : Emb t s D) (hi : i ≤ t.size) (f : Int → α) (hf : f 46 = f 0) : f (byteAt s (D + i)) = f (byteAt t i) := by
  by_cases hlt : i < t.size
  · rw [h.at' i hlt]
  · have hi' : i = t.size := by omega
    rw [hi', byteAt_ge t t.size (by omega)]
    rcases h.last with k | k <;> rw [k]
    exact hf

def shA (D : Nat) (a : Atm) : Atm := { a with pl := D + a.pl }
def shB (n D : Nat) (b : Bnd) : Bnd := ⟨b.a + n, b.b + n, b.o, D + b.pl⟩

/-- The same end of a bond, its atom moved on by n. -/
structure HR (n : Nat) (h H : Hung) : Prop where
  mark : H.mark = h.mark
  atom : (h.atom = -1 ∧ H.atom = -1) ∨ ∃ a : Nat, h.atom = a ∧ H.atom = ((a + n : Nat) : Int)

/-- The same state, moved on. -/
structure Rl (A : List Atm) (B : List Bnd) (D : Nat) (p P : St) : Prop where
  pos : P.pos = D + p.pos
  atoms : P.atoms = A ++ p.atoms.map (shA D)
  bonds : P.bonds = B ++ p.bonds.map (shB A.length D)
  rings : ∀ k, (p.rings k = none ∧ P.rings k = none) ∨ ∃ o O, p.rings k = some o ∧ P.rings k = some O ∧ HR A.length o.hung O.hung

section
variable {A : List Atm} {B : List Bnd} {D : Nat} {p P q : St} {t s : ByteArray}
theorem Rl.len (h : Rl A B D p P) : P.atoms.length = A.length + p.atoms.length := by rw [h.atoms]; simp

theorem Rl.aro (h : Rl A B D p P) (a : Nat) : aro P ((a + A.length : Nat) : Int) = aro p a := by
  unfold Bz.aro
  simp only [Int.toNat_natCast]
  rw [h.atoms, List.getElem?_append_right (by omega), List.getElem?_map, Nat.add_sub_cancel]
  cases p.atoms[a]? <;> rfl

theorem Rl.order (h : Rl A B D p P) (m : Int) (a b : Nat) : order P m ((a + A.length : Nat) : Int) ((b + A.length : Nat) : Int) = order p m a b := by
  unfold Bz.order
  rw [h.aro, h.aro]

theorem Rl.bonded (h : Rl A B D p P) (hB : ∀ b ∈ B, b.a < A.length ∧ b.b < A.length) (a b : Nat) : bonded P.bonds (a + A.length) (b + A.length) = bonded p.bonds a b := by
  unfold Bz.bonded
  rw [h.bonds, List.any_append]
  have h1 : B.any (fun x => (x.a == a + A.length && x.b == b + A.length) || (x.a == b + A.length && x.b == a + A.length)) = false := by
    rw [List.any_eq_false]
    intro x hx
    have := hB x hx
    simp only [Bool.or_eq_true, Bool.and_eq_true, beq_iff_eq]
    omega
  rw [h1, Bool.false_or, List.any_map]
  congr 1
  funext x
  have e : ∀ u v : Nat, (u + A.length == v + A.length) = (u == v) := fun u v => by
    rw [Bool.eq_iff_iff, beq_iff_eq, beq_iff_eq]
    omega
  simp only [Function.comp, shB, e]

theorem Rl.bind (h : Rl A B D p P) {a b pl : Nat} {o : Int} : Rl A B D (bind p a b o pl) (bind P (a + A.length) (b + A.length) o (D + pl)) := by
  refine ⟨h.pos, h.atoms, ?_, h.rings⟩
  unfold Bz.bind
  simp only
  rw [h.bonds, List.map_append, List.append_assoc]
  congr 2
  simp only [List.map_cons, List.map_nil, shB]
  congr 2 <;> omega

theorem Rl.move (h : Rl A B D p P) {j J : Nat} (hj : J = D + j) : Rl A B D { p with pos := j } { P with pos := J } := ⟨hj, h.atoms, h.bonds, h.rings⟩

theorem Rl.setR (h : Rl A B D p P) (k : Nat) {o O : Option Opn} (ho : (o = none ∧ O = none) ∨ ∃ x X, o = some x ∧ O = some X ∧ HR A.length x.hung X.hung) : Rl A B D { p with rings := setRing p.rings k o } { P with rings := setRing P.rings k O } := by
  refine ⟨h.pos, h.atoms, h.bonds, fun j => ?_⟩
  unfold setRing
  simp only
  by_cases hj : j = k
  · rw [if_pos hj, if_pos hj]; exact ho
  · rw [if_neg hj, if_neg hj]; exact h.rings j

theorem elem_sim (E : Emb t s D) {i : Nat} {x : ByteArray × Bool × Nat} (h : element t i = some x) : element s (D + i) = some x ∧ i < t.size := by
  have hne : byteAt t i ≠ 0 := by
    intro h0
    unfold element at h
    rw [h0] at h
    simp at h
  have hlt := lt_of_byteAt hne
  refine ⟨?_, hlt⟩
  rw [← h]
  unfold element
  have h1 : (byteAt s (D + i + 1) = 108) = (byteAt t (i + 1) = 108) := E.same (i := i + 1) (by omega) (fun c => c = 108) (by simp)
  have h2 : (byteAt s (D + i + 1) = 114) = (byteAt t (i + 1) = 114) := E.same (i := i + 1) (by omega) (fun c => c = 114) (by simp)
  simp only [E.at' i hlt, h1, h2]

theorem hydro_sim (E : Emb t s D) {i : Nat} (hi : i ≤ t.size) : hydro s (D + i) = ((hydro t i).1, D + (hydro t i).2) ∧ (hydro t i).2 ≤ t.size := by
  have h0 : (byteAt s (D + i) = 72) = (byteAt t i = 72) := E.same hi (fun c => c = 72) (by simp)
  unfold hydro
  by_cases h : byteAt t i = 72
  · have hlt : i < t.size := lt_of_byteAt (by omega)
    have hd : (49 ≤ byteAt s (D + i + 1) ∧ byteAt s (D + i + 1) ≤ 52) = (49 ≤ byteAt t (i + 1) ∧ byteAt t (i + 1) ≤ 52) := E.same (i := i + 1) (by omega) (fun c => 49 ≤ c ∧ c ≤ 52) (by simp)
    rw [if_pos h, if_pos (h0.mpr h)]
    by_cases hd2 : 49 ≤ byteAt t (i + 1) ∧ byteAt t (i + 1) ≤ 52
    · have hlt2 : i + 1 < t.size := lt_of_byteAt (by omega)
      rw [if_pos hd2, if_pos (hd.mpr hd2)]
      have : byteAt s (D + i + 1) = byteAt t (i + 1) := E.at' (i + 1) hlt2
      rw [this]
      exact ⟨rfl, hlt2⟩
    · rw [if_neg hd2, if_neg (fun h => hd2 (hd.mp h))]
      exact ⟨rfl, hlt⟩
  · rw [if_neg h, if_neg (fun k => h (h0.mp k))]
    exact ⟨rfl, hi⟩

theorem charge_sim (E : Emb t s D) {i : Nat} (hi : i ≤ t.size) : charge s (D + i) = ((charge t i).1, D + (charge t i).2) ∧ (charge t i).2 ≤ t.size := by
  have h0 : (byteAt s (D + i) = 43) = (byteAt t i = 43) := E.same hi (fun c => c = 43) (by simp)
  have h1 : (byteAt s (D + i) = 45) = (byteAt t i = 45) := E.same hi (fun c => c = 45) (by simp)
  unfold charge
  simp only [h0, h1]
  split
  · rename_i h
    exact ⟨rfl, lt_of_byteAt (by omega)⟩
  · split
    · rename_i h
      exact ⟨rfl, lt_of_byteAt (by omega)⟩
    · exact ⟨rfl, hi⟩

theorem bracket_sim (E : Emb t s D) {i : Nat} {c y : Int} {j : Nat} (hi : i ≤ t.size) (h : bracket t i = .ok (c, y, j)) : bracket s (D + i) = .ok (c, y, D + j) := by
  obtain ⟨e1, e2⟩ := hydro_sim E hi
  obtain ⟨e3, e4⟩ := charge_sim E e2
  have h0 : (byteAt s (D + (charge t (hydro t i).2).2) = 93) = (byteAt t (charge t (hydro t i).2).2 = 93) := E.same e4 (fun c => c = 93) (by simp)
  unfold bracket at h ⊢
  simp only [e1, e3, h0] at h ⊢
  split at h
  · rename_i hh
    cases h
    rw [if_pos hh]
    rfl
  · cases h

theorem HR.m1 {n : Nat} {h H : Hung} (x : HR n h H) : (H.atom = -1) = (h.atom = -1) := by
  rcases x.atom with ⟨a, b⟩ | ⟨a, b, c⟩
  · rw [a, b]
  · rw [b, c]
    apply propext
    omega

theorem atom_put (R : Rl A B D p P) {h H : Hung} (hh : HR A.length h H) (x : Atm) (j : Nat) :
    Rl A B D (if h.atom = -1 then { p with pos := j, atoms := p.atoms ++ [x] } else Bz.bind { p with pos := j, atoms := p.atoms ++ [x] } h.atom.toNat p.atoms.length (order { p with pos := j, atoms := p.atoms ++ [x] } h.mark h.atom p.atoms.length) p.pos)
      (if H.atom = -1 then { P with pos := D + j, atoms := P.atoms ++ [shA D x] } else Bz.bind { P with pos := D + j, atoms := P.atoms ++ [shA D x] } H.atom.toNat P.atoms.length (order { P with pos := D + j, atoms := P.atoms ++ [shA D x] } H.mark H.atom P.atoms.length) P.pos) := by
  have R0 : Rl A B D { p with pos := j, atoms := p.atoms ++ [x] } { P with pos := D + j, atoms := P.atoms ++ [shA D x] } := by
    refine ⟨rfl, ?_, R.bonds, R.rings⟩
    simp only
    rw [R.atoms, List.map_append, List.append_assoc]
    rfl
  rcases hh.atom with ⟨e1, e2⟩ | ⟨a, e1, e2⟩
  · rw [if_pos e1, if_pos e2]; exact R0
  · rw [if_neg (by omega), if_neg (by omega), e1, e2, hh.mark, R.len, Nat.add_comm A.length, R0.order, R.pos]
    simp only [Int.toNat_natCast]
    exact R0.bind

theorem atom_sim (E : Emb t s D) (R : Rl A B D p P) {h H : Hung} (hh : HR A.length h H) {a : Nat} (hp : p.pos ≤ t.size) (hn : A.length + q.atoms.length ≤ 24) (hr : atom t h p = .ok (a, q)) :
    ∃ Q, atom s H P = .ok (a + A.length, Q) ∧ Rl A B D q Q := by
  have hbr : (byteAt s (D + p.pos) == 91) = (byteAt t p.pos == 91) := E.same hp (fun c => c == 91) (by simp)
  have hin : byteAt t p.pos = 91 → p.pos < t.size := fun h => lt_of_byteAt (by omega)
  unfold atom at hr ⊢
  rw [R.pos]
  simp only [hbr]
  cases hel : element t (if (byteAt t p.pos == 91) = true then p.pos + 1 else p.pos) with
  | none => simp only [hel] at hr; split at hr <;> cases hr
  | some x =>
    obtain ⟨el, ar, m⟩ := x
    simp only [hel] at hr
    obtain ⟨hel2, hlt⟩ := elem_sim E hel
    have ei : (D + if (byteAt t p.pos == 91) = true then p.pos + 1 else p.pos) = if (byteAt t p.pos == 91) = true then D + p.pos + 1 else D + p.pos := by split <;> omega
    rw [ei] at hel2
    simp only [hel2]
    by_cases h58 : h.mark = 58 ∧ ar = false
    · rw [if_pos h58] at hr; cases hr
    rw [if_neg h58] at hr
    rw [hh.mark, if_neg h58]
    cases hf : full p with
    | true => rw [hf] at hr; simp at hr
    | false =>
      rw [hf] at hr
      simp only [Bool.false_eq_true, if_false] at hr
      have fin : ∀ (c y : Int) (j : Nat), Except.ok (ε := Int × Int) (p.atoms.length, if h.atom = -1 then { p with pos := j, atoms := p.atoms ++ [⟨el, ar, c, y, p.pos, byteAt t p.pos == 91⟩] } else Bz.bind { p with pos := j, atoms := p.atoms ++ [⟨el, ar, c, y, p.pos, byteAt t p.pos == 91⟩] } h.atom.toNat p.atoms.length (order { p with pos := j, atoms := p.atoms ++ [⟨el, ar, c, y, p.pos, byteAt t p.pos == 91⟩] } h.mark h.atom p.atoms.length) p.pos) = .ok (a, q) → full P = false ∧
          ∃ Q, Except.ok (ε := Int × Int) (P.atoms.length, if H.atom = -1 then { P with pos := D + j, atoms := P.atoms ++ [⟨el, ar, c, y, D + p.pos, byteAt t p.pos == 91⟩] } else Bz.bind { P with pos := D + j, atoms := P.atoms ++ [⟨el, ar, c, y, D + p.pos, byteAt t p.pos == 91⟩] } H.atom.toNat P.atoms.length (order { P with pos := D + j, atoms := P.atoms ++ [⟨el, ar, c, y, D + p.pos, byteAt t p.pos == 91⟩] } h.mark H.atom P.atoms.length) (D + p.pos)) = .ok (a + A.length, Q) ∧ Rl A B D q Q := by
        intro c y j e
        simp only [Except.ok.injEq, Prod.mk.injEq] at e
        obtain ⟨e1, e2⟩ := e
        have hpl : q.atoms.length = p.atoms.length + 1 := by
          rw [← e2]
          split
          · simp
          · unfold Bz.bind; simp
        have := atom_put R hh ⟨el, ar, c, y, p.pos, byteAt t p.pos == 91⟩ j
        rw [R.pos, hh.mark, e2] at this
        refine ⟨?_, _, congrArg (fun z => Except.ok (z, _)) ?_, this⟩
        · unfold full
          rw [R.len]
          simp
          omega
        · rw [R.len, ← e1, Nat.add_comm A.length]
      cases hb : (byteAt t p.pos == 91) with
      | true =>
        rw [hb] at hr fin hlt
        simp only [if_true] at hr hlt ⊢
        cases hk : bracket t (p.pos + 1 + m) with
        | error e => rw [hk] at hr; cases hr
        | ok x =>
          obtain ⟨c, y, j⟩ := x
          rw [hk] at hr
          obtain ⟨f1, Q, f2, f3⟩ := fin c y j hr
          have hle : p.pos + 1 + m ≤ t.size := by
            have : m = 1 ∨ (m = 2 ∧ byteAt t (p.pos + 1 + 1) ≠ 0) := by
              rw [hb] at hel
              simp only [if_true] at hel
              unfold element at hel
              simp only at hel
              split at hel
              · rename_i h; cases hel; exact .inr ⟨rfl, by omega⟩
              split at hel
              · rename_i h; cases hel; exact .inr ⟨rfl, by omega⟩
              split at hel
              · cases hel; exact .inl rfl
              split at hel
              · cases hel; exact .inl rfl
              · cases hel
            rcases this with rfl | ⟨rfl, h⟩
            · exact hlt
            · exact lt_of_byteAt h
          have hk2 := bracket_sim E hle hk
          rw [show D + (p.pos + 1 + m) = D + p.pos + 1 + m by omega] at hk2
          refine ⟨Q, ?_, f3⟩
          rw [hk2, f1]
          exact f2
      | false =>
        rw [hb] at hr fin
        simp only [Bool.false_eq_true, if_false] at hr ⊢
        obtain ⟨f1, Q, f2, f3⟩ := fin 0 0 (p.pos + m) hr
        refine ⟨Q, ?_, f3⟩
        rw [f1]
        simp only [Bool.false_eq_true, if_false]
        rw [← f2, Nat.add_assoc]

theorem bondEnd_sim (E : Emb t s D) (R : Rl A B D p P) {a : Nat} {h : Hung} (hp : p.pos ≤ t.size) (hr : bondEnd t a p = .ok (h, q)) : ∃ H Q, bondEnd s (a + A.length) P = .ok (H, Q) ∧ HR A.length h H ∧ Rl A B D q Q := by
  unfold bondEnd at hr ⊢
  have hs : isSign (byteAt s (D + p.pos)) = isSign (byteAt t p.pos) := E.same hp isSign (by rfl)
  rw [R.pos]
  simp only [hs]
  cases hb : isSign (byteAt t p.pos)
  · simp only [hb, Bool.false_eq_true, if_false] at hr ⊢
    cases hr
    exact ⟨_, _, rfl, ⟨rfl, .inr ⟨a, rfl, rfl⟩⟩, R⟩
  · have hlt : p.pos < t.size := lt_of_byteAt (by intro h; rw [h] at hb; cases hb)
    simp only [hb, if_true] at hr ⊢
    rw [R.aro, E.at' _ hlt]
    split at hr
    · cases hr
    · rename_i h58
      cases hr
      rw [if_neg h58]
      exact ⟨_, _, rfl, ⟨rfl, .inr ⟨a, rfl, rfl⟩⟩, R.move (by omega)⟩

theorem link_sim (E : Emb t s D) (R : Rl A B D p P) {a : Nat} {h : Hung} (hp : p.pos < t.size) (hr : link t a p = .ok (h, q)) : ∃ H Q, link s (a + A.length) P = .ok (H, Q) ∧ HR A.length h H ∧ Rl A B D q Q := by
  unfold link at hr ⊢
  rw [R.pos, E.at' _ hp]
  split at hr
  · rename_i h46
    cases hr
    rw [if_pos h46]
    exact ⟨_, _, rfl, ⟨rfl, .inl ⟨rfl, rfl⟩⟩, R.move (by omega)⟩
  · rename_i h46
    rw [if_neg h46]
    exact bondEnd_sim E R (by omega) hr

theorem number_sim (E : Emb t s D) {i k j : Nat} (hi : i ≤ t.size) (hr : ringNumber t i = .ok (k, j)) : ringNumber s (D + i) = .ok (k, D + j) := by
  unfold ringNumber at hr ⊢
  have h0 : (byteAt s (D + i) = 37) = (byteAt t i = 37) := E.same hi (fun c => c = 37) (by simp)
  have h1 : isDigit (byteAt s (D + i)) = isDigit (byteAt t i) := E.same hi isDigit rfl
  simp only [h0]
  split at hr
  · rename_i h37
    have hlt : i < t.size := lt_of_byteAt (by omega)
    rw [if_pos h37]
    have hd1 : isDigit (byteAt s (D + i + 1)) = isDigit (byteAt t (i + 1)) := E.same (i := i + 1) (by omega) isDigit rfl
    rw [hd1]
    split at hr
    · rename_i hy
      have hlt1 : i + 1 < t.size := lt_of_byteAt (by intro h; rw [h] at hy; cases hy)
      have hd2 : isDigit (byteAt s (D + i + 2)) = isDigit (byteAt t (i + 2)) := E.same (i := i + 2) (by omega) isDigit rfl
      rw [if_pos hy, hd2]
      split at hr
      · rename_i hy2
        have hlt2 : i + 2 < t.size := lt_of_byteAt (by intro h; rw [h] at hy2; cases hy2)
        rw [if_pos hy2]
        have e1 : byteAt s (D + i + 1) = byteAt t (i + 1) := E.at' (i + 1) hlt1
        have e2 : byteAt s (D + i + 2) = byteAt t (i + 2) := E.at' (i + 2) hlt2
        rw [e1, e2]
        cases hr
        rfl
      · cases hr
    · cases hr
  · rename_i h37
    rw [if_neg h37, h1]
    split at hr
    · rename_i hy
      have hlt : i < t.size := lt_of_byteAt (by intro h; rw [h] at hy; cases hy)
      rw [if_pos hy, E.at' _ hlt]
      cases hr
      rfl
    · cases hr

theorem close_sim (R : Rl A B D p P) (hB : ∀ b ∈ B, b.a < A.length ∧ b.b < A.length) {f F l L : Hung} (hf : HR A.length f F) (hl : HR A.length l L) {fa la : Nat} (ef : f.atom = fa) (el : l.atom = la) {pl : Nat} (hr : closeRing f l pl p = .ok q) : ∃ Q, closeRing F L (D + pl) P = .ok Q ∧ Rl A B D q Q := by
  have eF : F.atom = ((fa + A.length : Nat) : Int) := by
    rcases hf.atom with ⟨a, _⟩ | ⟨x, a, b⟩
    · omega
    · rw [b]; omega
  have eL : L.atom = ((la + A.length : Nat) : Int) := by
    rcases hl.atom with ⟨a, _⟩ | ⟨x, a, b⟩
    · omega
    · rw [b]; omega
  unfold closeRing at hr ⊢
  have hq : (((fa + A.length : Nat) : Int) = ((la + A.length : Nat) : Int)) = ((fa : Int) = (la : Int)) := by
    apply propext
    omega
  rw [eF, eL, hf.mark, hl.mark]
  rw [ef, el] at hr
  simp only [R.aro, R.order, hq, Int.toNat_natCast, R.bonded hB] at hr ⊢
  split at hr
  · cases hr
  rename_i c1
  rw [if_neg c1]
  split at hr
  · cases hr
  rename_i c2
  rw [if_neg c2]
  split at hr
  · cases hr
  rename_i c3
  rw [if_neg c3]
  cases hr
  exact ⟨_, rfl, R.bind⟩
end
section
variable {A : List Atm} {B : List Bnd} {D : Nat} {p P q : St} {t s : ByteArray}
theorem ring_sim (E : Emb t s D) (hB : ∀ b ∈ B, b.a < A.length ∧ b.b < A.length) (o : Ok t p) (R : Rl A B D p P) {a : Nat} (ha : a < p.atoms.length) (hr : ring t a p = .ok q) : ∃ Q, ring s (a + A.length) P = .ok Q ∧ Rl A B D q Q := by
  unfold ring at hr ⊢
  cases he : bondEnd t a p with
  | error e => rw [he] at hr; cases hr
  | ok x =>
    obtain ⟨g, p1⟩ := x
    rw [he] at hr
    simp only at hr
    obtain ⟨G, P1, b1, b2, b3⟩ := bondEnd_sim E R o.pos he
    obtain ⟨o1, go1, ea, _⟩ := bondEnd_wf he o ha
    have hg : g.atom = (a : Int) := by
      unfold bondEnd at he
      simp only at he
      split at he
      · split at he
        · cases he
        · cases he; rfl
      · cases he; rfl
    rw [b1]
    simp only
    cases hn : ringNumber t p1.pos with
    | error e => rw [hn] at hr; cases hr
    | ok x =>
      obtain ⟨k, j⟩ := x
      rw [hn] at hr
      simp only at hr
      rw [b3.pos, number_sim E o1.pos hn]
      simp only
      rcases b3.rings k with ⟨r1, r2⟩ | ⟨x, X, r1, r2, r3⟩
      · rw [r1] at hr
        rw [r2]
        simp only [Except.ok.injEq] at hr ⊢
        subst hr
        exact ⟨_, rfl, (b3.move rfl).setR k (.inr ⟨_, _, rfl, rfl, b2⟩)⟩
      · rw [r1] at hr
        rw [r2]
        simp only at hr ⊢
        obtain ⟨fa, ef, _⟩ := o1.rings k x r1
        exact close_sim ((b3.move rfl).setR k (.inl ⟨rfl, rfl⟩)) hB r3 b2 ef hg hr

theorem ahead_sim (E : Emb t s D) (R : Rl A B D p P) (hp : p.pos ≤ t.size) : ringAhead s P = ringAhead t p := by
  unfold ringAhead
  rw [R.pos]
  have h1 : isSign (byteAt s (D + p.pos)) = isSign (byteAt t p.pos) := E.same hp isSign rfl
  have h2 : startsRing (byteAt s (D + p.pos)) = startsRing (byteAt t p.pos) := E.same hp startsRing rfl
  rw [h1, h2]
  cases hs : isSign (byteAt t p.pos)
  · rfl
  · have hlt : p.pos < t.size := lt_of_byteAt (by intro h; rw [h] at hs; cases hs)
    have h3 : startsRing (byteAt s (D + p.pos + 1)) = startsRing (byteAt t (p.pos + 1)) := E.same (i := p.pos + 1) (by omega) startsRing rfl
    rw [h3]

theorem ahead_lt (h : ringAhead t p = true) : p.pos < t.size := by
  refine lt_of_byteAt fun h0 => ?_
  unfold ringAhead at h
  rw [h0] at h
  cases h

theorem rings_sim (E : Emb t s D) (hB : ∀ b ∈ B, b.a < A.length ∧ b.b < A.length) {a : Nat} : ∀ (m M : Nat) {p P q : St}, ringsOf t a m p = .ok q → t.size - p.pos < m → t.size - p.pos < M → Ok t p → Rl A B D p P → a < p.atoms.length → ∃ Q, ringsOf s (a + A.length) M P = .ok Q ∧ Rl A B D q Q
  | 0, M, p, P, q, _, hm, _, _, _, _ => by omega
  | m + 1, 0, p, P, q, _, _, hm, _, _, _ => by omega
  | m + 1, M + 1, p, P, q, hr, hm, hM, o, R, ha => by
    rw [ringsOf] at hr ⊢
    rw [ahead_sim E R o.pos]
    cases hah : ringAhead t p
    · rw [hah] at hr
      simp only [Bool.false_eq_true, if_false, Except.ok.injEq] at hr ⊢
      subst hr
      exact ⟨P, rfl, R⟩
    · rw [hah] at hr
      simp only [if_true] at hr ⊢
      have hlt := ahead_lt hah
      cases h1 : ring t a p with
      | error e => rw [h1] at hr; cases hr
      | ok p1 =>
        rw [h1] at hr
        simp only at hr
        obtain ⟨P1, c1, c2⟩ := ring_sim E hB o R ha h1
        obtain ⟨o1, l1, l2⟩ := ring_wf h1 o ha
        rw [c1]
        simp only
        exact rings_sim E hB m M hr (by omega) (by omega) o1 c2 (by omega)

/-- Chains of the one text and of the other, that end within it. -/
def CS (A : List Atm) (B : List Bnd) (D : Nat) (t : ByteArray) (c C : Hung → St → R St) : Prop :=
  ∀ h H p P q, c h p = .ok q → Ok t p → HungOk h p → HR A.length h H → Rl A B D p P → q.pos < t.size → A.length + q.atoms.length ≤ 24 → ∃ Q, C H P = .ok Q ∧ Rl A B D q Q

theorem branch_sim (E : Emb t s D) {c C : Hung → St → R St} (hc : ChainOk t c) (cs : CS A B D t c C) (o : Ok t p) (R : Rl A B D p P) {a : Nat} (ha : a < p.atoms.length) (hn : A.length + q.atoms.length ≤ 24) (hr : branch t c a p = .ok q) : ∃ Q, branch s C (a + A.length) P = .ok Q ∧ Rl A B D q Q := by
  unfold branch at hr ⊢
  cases hl : link t a p with
  | error e => rw [hl] at hr; cases hr
  | ok x =>
    obtain ⟨g, p1⟩ := x
    rw [hl] at hr
    simp only at hr
    obtain ⟨o1, g1, ea, l1⟩ := link_wf hl o ha
    cases h2 : c g p1 with
    | error e => rw [h2] at hr; cases hr
    | ok p2 =>
      rw [h2] at hr
      simp only at hr
      obtain ⟨o2, l2, l3⟩ := hc g p1 p2 o1 g1 h2
      have := o2.pos
      split at hr
      · rename_i h41
        cases hr
        have hlt : p2.pos < t.size := lt_of_byteAt (by omega)
        obtain ⟨G, P1, b1, b2, b3⟩ := link_sim E R (by omega) hl
        obtain ⟨P2, c1, c2⟩ := cs g G p1 P1 p2 h2 o1 g1 b2 b3 hlt hn
        rw [b1]
        simp only
        rw [c1]
        simp only
        rw [c2.pos, E.at' _ hlt, if_pos h41]
        exact ⟨_, rfl, c2.move (by omega)⟩
      · cases hr

theorem branches_sim (E : Emb t s D) {c C : Hung → St → R St} (hc : ChainOk t c) (cs : CS A B D t c C) {a : Nat} : ∀ (m M : Nat) {p P q : St}, branches t c a m p = .ok q → t.size - p.pos < m → t.size - p.pos < M → Ok t p → Rl A B D p P → a < p.atoms.length → A.length + q.atoms.length ≤ 24 → ∃ Q, branches s C (a + A.length) M P = .ok Q ∧ Rl A B D q Q
  | 0, M, p, P, q, _, hm, _, _, _, _, _ => by omega
  | m + 1, 0, p, P, q, _, _, hm, _, _, _, _ => by omega
  | m + 1, M + 1, p, P, q, hr, hm, hM, o, R, ha, hn => by
    rw [branches] at hr ⊢
    have h40 : (byteAt s (D + p.pos) = 40) = (byteAt t p.pos = 40) := E.same o.pos (fun c => c = 40) (by simp)
    rw [R.pos]
    simp only [h40]
    split at hr
    · rename_i hb
      have hlt : p.pos < t.size := lt_of_byteAt (by omega)
      rw [if_pos hb]
      cases h1 : branch t c a { p with pos := p.pos + 1 } with
      | error e => rw [h1] at hr; cases hr
      | ok p1 =>
        rw [h1] at hr
        simp only at hr
        obtain ⟨o1, l1, l2⟩ := branch_wf hc h1 (o.step hlt) ha
        simp only at l1 l2
        obtain ⟨o2, l3, l4⟩ := branches_wf hc m hr o1 (by omega)
        obtain ⟨P1, c1, c2⟩ := branch_sim (P := { P with pos := D + p.pos + 1 }) E hc cs (o.step hlt) (R.move (by omega)) ha (by omega) h1
        rw [c1]
        simp only
        exact branches_sim E hc cs m M hr (by omega) (by omega) o1 c2 (by omega) hn
    · rename_i hb
      rw [if_neg hb]
      cases hr
      exact ⟨P, rfl, R⟩

theorem knot_sim (E : Emb t s D) (hB : ∀ b ∈ B, b.a < A.length ∧ b.b < A.length) {c C : Hung → St → R St} (hc : ChainOk t c) (cs : CS A B D t c C) (o : Ok t p) (R : Rl A B D p P) {h H : Hung} (hh : HR A.length h H) {a : Nat} (hn : A.length + q.atoms.length ≤ 24) (hr : knot t c h p = .ok (a, q)) : ∃ Q, knot s C H P = .ok (a + A.length, Q) ∧ Rl A B D q Q := by
  have hfit := E.fit
  unfold knot at hr ⊢
  cases h1 : atom t h p with
  | error e => rw [h1] at hr; cases hr
  | ok x =>
    obtain ⟨a1, p1⟩ := x
    rw [h1] at hr
    simp only at hr
    obtain ⟨o1, k1, l1, m1⟩ := atom_wf h1 o
    cases h2 : ringsOf t a1 (t.size + 1) p1 with
    | error e => rw [h2] at hr; cases hr
    | ok p2 =>
      rw [h2] at hr
      simp only at hr
      obtain ⟨o2, l2, m2⟩ := ringsOf_wf _ h2 o1 k1
      cases h3 : branches t c a1 (t.size + 1) p2 with
      | error e => rw [h3] at hr; cases hr
      | ok p3 =>
        rw [h3] at hr
        simp only [Except.ok.injEq, Prod.mk.injEq] at hr
        obtain ⟨rfl, rfl⟩ := hr
        obtain ⟨o3, l3, m3⟩ := branches_wf hc _ h3 o2 (by omega)
        obtain ⟨P1, c1, c2⟩ := atom_sim E R hh o.pos (by omega) h1
        obtain ⟨P2, d1, d2⟩ := rings_sim E hB (t.size + 1) (s.size + 1) h2 (by omega) (by omega) o1 c2 k1
        obtain ⟨P3, e1, e2⟩ := branches_sim E hc cs (t.size + 1) (s.size + 1) h3 (by omega) (by omega) o2 d2 (by omega) hn
        rw [c1]
        simp only
        rw [d1]
        simp only
        rw [e1]
        exact ⟨P3, rfl, e2⟩

/-- How far the one runs beside the other: to where the text t stops. -/
theorem linked_sim (E : Emb t s D) (hB : ∀ b ∈ B, b.a < A.length ∧ b.b < A.length) {c C : Hung → St → R St} (hc : ChainOk t c) (cs : CS A B D t c C) : ∀ (m M : Nat) {a : Nat} {p P q : St}, Bz.linked t c m a p = .ok q → t.size - p.pos < m → s.size - P.pos < M → Ok t p → Rl A B D p P → a < p.atoms.length → A.length + q.atoms.length ≤ 24 →
    ∃ a' M' Q, Bz.linked s C M (a + A.length) P = Bz.linked s C M' a' Q ∧ Rl A B D q Q ∧ s.size - Q.pos < M' ∧ (q.pos < t.size → byteAt t q.pos = 41) ∧ Ok t q
  | 0, M, a, p, P, q, _, hm, _, _, _, _, _ => by omega
  | m + 1, 0, a, p, P, q, _, _, hm, _, _, _, _ => by omega
  | m + 1, M + 1, a, p, P, q, hr, hm, hM, o, R, ha, hn => by
    have hfit := E.fit
    rw [Bz.linked] at hr
    split at hr
    · rename_i hg
      cases h1 : linkedKnot t c a p with
      | error e => rw [h1] at hr; cases hr
      | ok x =>
        obtain ⟨a1, p1⟩ := x
        rw [h1] at hr
        simp only at hr
        obtain ⟨o1, k1, l1, l2⟩ := linkedKnot_wf hc h1 o ha
        obtain ⟨o2, l3, l4⟩ := linked_wf hc m hr o1 k1
        have hk : ∃ P1, linkedKnot s C (a + A.length) P = .ok (a1 + A.length, P1) ∧ Rl A B D p1 P1 := by
          unfold linkedKnot at h1 ⊢
          cases h2 : link t a p with
          | error e => rw [h2] at h1; cases h1
          | ok x =>
            obtain ⟨g, p0⟩ := x
            rw [h2] at h1
            simp only at h1
            obtain ⟨o0, _, _, _⟩ := link_wf h2 o ha
            obtain ⟨G, P0, b1, b2, b3⟩ := link_sim E R hg.1 h2
            rw [b1]
            exact knot_sim E hB hc cs o0 b3 b2 (by omega) h1
        obtain ⟨P1, c1, c2⟩ := hk
        have hp := R.pos
        have hp1 := c2.pos
        have ho1 := o1.pos
        obtain ⟨a', M', Q, d1, d2, d3, d4, d5⟩ := linked_sim E hB hc cs m M hr (by omega) (by omega) o1 c2 k1 hn
        refine ⟨a', M', Q, ?_, d2, d3, d4, d5⟩
        rw [Bz.linked, if_pos ⟨by omega, by rw [R.pos, E.at' _ hg.1]; exact hg.2⟩, c1]
        exact d1
    · rename_i hg
      cases hr
      refine ⟨a + A.length, M + 1, P, rfl, R, hM, fun hlt => ?_, o⟩
      exact Classical.byContradiction fun h => hg ⟨hlt, h⟩

theorem linked_halt {C : Hung → St → R St} {a n : Nat} {p : St} (h : ¬ (p.pos < s.size ∧ byteAt s p.pos ≠ 41)) : Bz.linked s C n a p = .ok p := by
  cases n with
  | zero => rfl
  | succ n => rw [Bz.linked, if_neg h]

theorem chain_sim (E : Emb t s D) (hB : ∀ b ∈ B, b.a < A.length ∧ b.b < A.length) : ∀ n N, n ≤ N → CS A B D t (chain t n) (chain s N)
  | 0, N, _ => by intro h H p P q hr; simp [chain] at hr
  | n + 1, 0, hN => by omega
  | n + 1, N + 1, hN => by
    intro h H p P q hr o ho hh R hlt hn
    have hfit := E.fit
    have hc := chain_wf t n
    have cs := chain_sim E hB n N (by omega)
    rw [chain] at hr ⊢
    cases h1 : knot t (chain t n) h p with
    | error e => rw [h1] at hr; cases hr
    | ok x =>
      obtain ⟨a1, p1⟩ := x
      rw [h1] at hr
      simp only at hr
      obtain ⟨o1, k1, l1, l2⟩ := knot_wf hc h1 o
      obtain ⟨o2, l3, l4⟩ := linked_wf hc _ hr o1 k1
      obtain ⟨P1, c1, c2⟩ := knot_sim E hB hc cs o R hh (by omega) h1
      have hp1 := c2.pos
      obtain ⟨a', M', Q, d1, d2, d3, d4, d5⟩ := linked_sim E hB hc cs (t.size + 1) (s.size + 1) hr (by omega) (by omega) o1 c2 k1 hn
      rw [c1]
      simp only
      rw [d1]
      refine ⟨Q, linked_halt ?_, d2⟩
      rw [d2.pos, E.at' _ hlt]
      rintro ⟨_, h⟩
      exact h (d4 hlt)

/-- One text of two: what is left to be read behind it. -/
theorem part_sim (E : Emb t s D) (hB : ∀ b ∈ B, b.a < A.length ∧ b.b < A.length) {h H : Hung} (o : Ok t p) (R : Rl A B D p P) (hh : HR A.length h H) {n N F : Nat} (hN : n ≤ N) (hF : s.size - P.pos < F) (hn : A.length + q.atoms.length ≤ 24) (hr : chain t (n + 1) h p = .ok q) :
    ∃ a1 P1 a' M' Q, knot s (chain s N) H P = .ok (a1, P1) ∧ Bz.linked s (chain s N) F a1 P1 = Bz.linked s (chain s N) M' a' Q ∧ Rl A B D q Q ∧ s.size - Q.pos < M' ∧ Ok t q := by
  have hfit := E.fit
  have hc := chain_wf t n
  have cs := chain_sim E hB n N hN
  rw [chain] at hr
  cases h1 : knot t (chain t n) h p with
  | error e => rw [h1] at hr; cases hr
  | ok x =>
    obtain ⟨a1, p1⟩ := x
    rw [h1] at hr
    simp only at hr
    obtain ⟨o1, k1, l1, l2⟩ := knot_wf hc h1 o
    obtain ⟨o2, l3, l4⟩ := linked_wf hc _ hr o1 k1
    obtain ⟨P1, c1, c2⟩ := knot_sim E hB hc cs o R hh (by omega) h1
    have hp := R.pos
    have hp1 := c2.pos
    obtain ⟨a', M', Q, d1, d2, d3, _, d5⟩ := linked_sim E hB hc cs (t.size + 1) F hr (by omega) (by omega) o1 c2 k1 hn
    exact ⟨a1 + A.length, P1, a', M', Q, c1, d1, d2, d3, d5⟩
end
/-- The ring numbers that are open. -/
def RI (t : ByteArray) (p : St) : Prop := ∀ k o, p.rings k = some o → k < 100 ∧ o.place < t.size

section
variable {t : ByteArray} {p q : St}
theorem number_lt {i k j : Nat} (h : ringNumber t i = .ok (k, j)) : k < 100 ∧ i < t.size := by
  unfold ringNumber at h
  have dig : ∀ {c : Int}, isDigit c = true → 48 ≤ c ∧ c ≤ 57 := fun {c} h => by
    unfold isDigit at h
    simpa using h
  split at h
  · rename_i h37
    have hlt : i < t.size := lt_of_byteAt (by omega)
    split at h
    · rename_i hd
      split at h
      · rename_i hd2
        have := dig hd
        have := dig hd2
        cases h
        exact ⟨by omega, hlt⟩
      · cases h
    · cases h
  · split at h
    · rename_i hd
      have := dig hd
      cases h
      exact ⟨by omega, lt_of_byteAt (by omega)⟩
    · cases h

theorem bondEnd_ri {a : Nat} {g : Hung} (h : bondEnd t a p = .ok (g, q)) (r : RI t p) : RI t q := by
  unfold bondEnd at h
  simp only at h
  split at h
  · split at h
    · cases h
    · cases h; exact r
  · cases h; exact r

theorem link_ri {a : Nat} {g : Hung} (h : link t a p = .ok (g, q)) (r : RI t p) : RI t q := by
  unfold link at h
  split at h
  · cases h; exact r
  · exact bondEnd_ri h r

theorem atom_ri {a : Nat} {g : Hung} (h : atom t g p = .ok (a, q)) (r : RI t p) : RI t q := by
  unfold atom at h
  simp only at h
  split at h
  · split at h <;> cases h
  split at h
  · cases h
  split at h
  · cases h
  split at h
  · cases h
  simp only [Except.ok.injEq, Prod.mk.injEq] at h
  rw [← h.2]
  split
  · exact r
  · exact r

theorem close_ri {f l : Hung} {pl : Nat} (h : closeRing f l pl p = .ok q) (r : RI t p) : RI t q := by
  unfold closeRing at h
  simp only at h
  split at h
  · cases h
  split at h
  · cases h
  split at h
  · cases h
  cases h
  exact r

theorem ring_ri {a : Nat} (h : ring t a p = .ok q) (r : RI t p) : RI t q := by
  unfold ring at h
  split at h
  · cases h
  rename_i g p1 he
  have r1 := bondEnd_ri he r
  split at h
  · cases h
  rename_i k j hn
  obtain ⟨k1, k2⟩ := number_lt hn
  split at h
  · cases h
    intro x o hx
    simp only [setRing] at hx
    split at hx
    · rename_i e
      cases hx
      exact ⟨by omega, k2⟩
    · exact r1 x o hx
  · refine close_ri h ?_
    intro x o hx
    simp only [setRing] at hx
    split at hx
    · cases hx
    · exact r1 x o hx

theorem rings_ri {a : Nat} : ∀ (n : Nat) {p q : St}, ringsOf t a n p = .ok q → RI t p → RI t q
  | 0, p, q, h, r => by simp only [ringsOf, Except.ok.injEq] at h; subst h; exact r
  | n + 1, p, q, h, r => by
    rw [ringsOf] at h
    split at h
    · split at h
      · cases h
      · rename_i hk
        exact rings_ri n h (ring_ri hk r)
    · cases h; exact r

def CRI (t : ByteArray) (c : Hung → St → R St) : Prop := ∀ h p q, c h p = .ok q → RI t p → RI t q

theorem branch_ri {c : Hung → St → R St} (hc : CRI t c) {a : Nat} (h : branch t c a p = .ok q) (r : RI t p) : RI t q := by
  unfold branch at h
  split at h
  · cases h
  rename_i hl
  split at h
  · cases h
  rename_i hk
  split at h
  · cases h
    have := hc _ _ _ hk (link_ri hl r)
    exact this
  · cases h

theorem branches_ri {c : Hung → St → R St} (hc : CRI t c) {a : Nat} : ∀ (n : Nat) {p q : St}, branches t c a n p = .ok q → RI t p → RI t q
  | 0, p, q, h, r => by simp only [branches, Except.ok.injEq] at h; subst h; exact r
  | n + 1, p, q, h, r => by
    rw [branches] at h
    split at h
    · split at h
      · cases h
      · rename_i hk
        exact branches_ri hc n h (branch_ri hc hk r)
    · cases h; exact r

theorem knot_ri {c : Hung → St → R St} (hc : CRI t c) {g : Hung} {a : Nat} (h : knot t c g p = .ok (a, q)) (r : RI t p) : RI t q := by
  unfold knot at h
  split at h
  · cases h
  rename_i h1
  split at h
  · cases h
  rename_i h2
  split at h
  · cases h
  rename_i h3
  cases h
  exact branches_ri hc _ h3 (rings_ri _ h2 (atom_ri h1 r))

theorem linked_ri {c : Hung → St → R St} (hc : CRI t c) : ∀ (n : Nat) {a : Nat} {p q : St}, Bz.linked t c n a p = .ok q → RI t p → RI t q
  | 0, a, p, q, h, r => by simp only [Bz.linked, Except.ok.injEq] at h; subst h; exact r
  | n + 1, a, p, q, h, r => by
    rw [Bz.linked] at h
    split at h
    · split at h
      · cases h
      · rename_i hk
        refine linked_ri hc n h ?_
        unfold linkedKnot at hk
        split at hk
        · cases hk
        · rename_i hl
          exact knot_ri hc hk (link_ri hl r)
    · cases h; exact r

theorem chain_ri : ∀ n, CRI t (chain t n)
  | 0 => by intro h p q hr; simp [chain] at hr
  | n + 1 => by
    intro h p q hr r
    rw [chain] at hr
    split at hr
    · cases hr
    · rename_i hk
      exact linked_ri (chain_ri n) _ hr (knot_ri (chain_ri n) hk r)
end
theorem left_le {f : Nat → Option Opn} {d : Nat} : ∀ {n k : Nat} {o : Opn}, k < n → f k = some o → leftmost f d n ≤ o.place
  | 0, k, o, hk, _ => by omega
  | n + 1, k, o, hk, h => by
    by_cases hkn : k = n
    · subst hkn
      rw [leftmost, h]
      exact Nat.min_le_right _ _
    · have := left_le (d := d) (n := n) (by omega) h
      rw [leftmost]
      split
      · exact Nat.le_trans (Nat.min_le_left _ _) this
      · exact this

theorem none_wrong {b : List Bnd} : ∀ {l : List Atm} {i : Nat}, firstWrong b i l = none → ∀ j a, l[j]? = some a → wrong b (i + j) a = false
  | [], _, _, j, a, h => by simp at h
  | x :: l, i, h, j, a, hj => by
    rw [firstWrong] at h
    split at h
    · cases h
    · rename_i hw
      match j, hj with
      | 0, hj =>
        simp at hj
        subst hj
        simpa using hw
      | j + 1, hj =>
        have := none_wrong h j a (by simpa using hj)
        rwa [show i + (j + 1) = i + 1 + j by omega]

/-- What a reading that comes to an end came to. -/
structure Came (t : ByteArray) (ats : List Atm) (l : List Bnd) (q : St) : Prop where
  size : t.size ≤ 160
  run : chain t (t.size + 1) ⟨0, 0, -1⟩ Bz.start = .ok q
  pos : t.size ≤ q.pos
  rings : ∀ k, q.rings k = none
  atoms : ats = q.atoms.mapIdx (withHydrogens q.bonds)
  bonds : l = q.bonds
  right : ∀ j a, ats[j]? = some a → wrong l j a = false

theorem came {t : ByteArray} {ats : List Atm} {l : List Bnd} (h : parse t = .ok (ats, l)) : ∃ q, Came t ats l q := by
  unfold parse at h
  split at h
  · cases h
  rename_i hs
  split at h
  · cases h
  rename_i q hq
  split at h
  · cases h
  rename_i hp
  split at h
  · cases h
  rename_i hl
  simp only at h
  split at h
  · cases h
  rename_i hw
  simp only [Except.ok.injEq, Prod.mk.injEq] at h
  obtain ⟨h1, h2⟩ := h
  refine ⟨q, by omega, hq, by omega, fun k => ?_, h1.symm, h2.symm, ?_⟩
  · cases hk : q.rings k with
    | none => rfl
    | some o =>
      have := chain_ri (t := t) _ _ _ _ hq (fun _ _ h => by cases h) k o hk
      have := left_le (d := t.size) this.1 hk
      omega
  · intro j a hj
    rw [← h1] at hj
    rw [← h2]
    have := none_wrong hw j a hj
    rwa [Nat.zero_add] at this

theorem sum_app (l m : List Bnd) (x : Nat) : sum (l ++ m) x = sum l x + sum m x := by
  unfold sum
  rw [List.map_append, List.sum_append]

theorem sum_shift (l : List Bnd) (n D x : Nat) : sum (l.map (shB n D)) (x + n) = sum l x := by
  unfold sum
  rw [List.map_map]
  congr 1
  apply List.map_congr_left
  intro b _
  show (if b.a + n = x + n ∨ b.b + n = x + n then (if b.o = 4 then 1 else b.o) else 0) = _
  by_cases h : b.a = x ∨ b.b = x
  · rw [if_pos h, if_pos (by omega)]
  · rw [if_neg h, if_neg (by omega)]

theorem sum_low (l : List Bnd) (n D x : Nat) (h : x < n) : sum (l.map (shB n D)) x = 0 := by
  induction l with
  | nil => rfl
  | cons b l ih =>
    unfold sum at ih ⊢
    rw [List.map_cons, List.map_cons, List.sum_cons, ih]
    show (if b.a + n = x ∨ b.b + n = x then (if b.o = 4 then 1 else b.o) else 0) + 0 = 0
    rw [if_neg (by omega)]
    rfl

theorem wrong_sh (l m : List Bnd) (i j D : Nat) (a : Atm) (h : sum l i = sum m j) : wrong l i (shA D a) = wrong m j a := by
  unfold wrong shA
  simp only [h]
theorem wrong_eq (l m : List Bnd) (i j : Nat) (a : Atm) (h : sum l i = sum m j) : wrong l i a = wrong m j a := by
  unfold wrong
  simp only [h]
theorem hyd_sh (l m : List Bnd) (i j D : Nat) (a : Atm) (h : sum l i = sum m j) : withHydrogens l i (shA D a) = shA D (withHydrogens m j a) := by
  unfold withHydrogens shA
  simp only [h]
  split <;> rfl
theorem hyd_eq (l m : List Bnd) (i j : Nat) (a : Atm) (h : sum l i = sum m j) : withHydrogens l i a = withHydrogens m j a := by
  unfold withHydrogens
  simp only [h]

theorem ok0 (t : ByteArray) : Ok t Bz.start := ⟨Nat.zero_le _, by simp [Bz.start], by simp [Bz.start], (fun n o h => by simp [Bz.start] at h), by simp [Bz.start], by simp [Bz.start], by simp [Bz.start]⟩

theorem shA_zero (a : Atm) : shA 0 a = a := by unfold shA; simp
theorem shB_zero (b : Bnd) : shB 0 0 b = b := by unfold shB; simp

/-- TWO THAT ARE APART are read one behind the other. -/
theorem apart_parse {t1 t2 s : ByteArray} {a1 a2 : List Atm} {l1 l2 : List Bnd} (E1 : Emb t1 s 0) (h46 : byteAt s t1.size = 46) (E2 : Emb t2 s (t1.size + 1)) (hsz : s.size = t1.size + 1 + t2.size) (hs : s.size ≤ 160) (hn : a1.length + a2.length ≤ 24) (hB : ∀ b ∈ l1, b.a < a1.length ∧ b.b < a1.length) (h1 : parse t1 = .ok (a1, l1)) (h2 : parse t2 = .ok (a2, l2)) :
    parse s = .ok (a1 ++ a2.map (shA (t1.size + 1)), l1 ++ l2.map (shB a1.length (t1.size + 1))) := by
  obtain ⟨q1, c1⟩ := came h1
  obtain ⟨q2, c2⟩ := came h2
  have ea1 : a1.length = q1.atoms.length := by rw [c1.atoms, List.length_mapIdx]
  have ea2 : a2.length = q2.atoms.length := by rw [c2.atoms, List.length_mapIdx]
  obtain ⟨x1, P1, y1, M1, Q1, f1, f2, f3, f4, f5⟩ := part_sim (A := []) (B := []) (D := 0) (P := Bz.start) (H := ⟨0, 0, -1⟩) (N := s.size) (F := s.size + 1) E1 (by simp) (ok0 t1) ⟨rfl, rfl, rfl, fun k => .inl ⟨rfl, rfl⟩⟩ ⟨rfl, .inl ⟨rfl, rfl⟩⟩ (by omega) (by omega) (by simp; omega) c1.run
  have hq1 : q1.pos = t1.size := Nat.le_antisymm f5.pos c1.pos
  have hQ1p : Q1.pos = t1.size := by rw [f3.pos, hq1]; omega
  have hQ1a : Q1.atoms = q1.atoms := by
    rw [f3.atoms, List.nil_append]
    exact (List.map_congr_left fun a _ => shA_zero a).trans (List.map_id' _)
  have hQ1b : Q1.bonds = q1.bonds := by
    rw [f3.bonds, List.nil_append]
    exact (List.map_congr_left fun a _ => shB_zero a).trans (List.map_id' _)
  have hQ1r : ∀ k, Q1.rings k = none := fun k => by
    rcases f3.rings k with ⟨_, h⟩ | ⟨o, O, h, _⟩
    · exact h
    · rw [c1.rings k] at h; cases h
  match M1, f4, f2 with
  | M1 + 1, f4, f2 =>
  have hB' : ∀ b ∈ q1.bonds, b.a < q1.atoms.length ∧ b.b < q1.atoms.length := by rw [← c1.bonds, ← ea1]; exact hB
  obtain ⟨x2, P2, y2, M2, Q2, g1, g2, g3, g4, g5⟩ := part_sim (A := q1.atoms) (B := q1.bonds) (D := t1.size + 1) (P := { Q1 with pos := t1.size + 1 }) (H := ⟨0, 0, -1⟩) (N := s.size) (F := M1) E2 hB' (ok0 t2) ⟨rfl, by simp only [hQ1a]; simp [Bz.start], by simp only [hQ1b]; simp [Bz.start], fun k => .inl ⟨rfl, hQ1r k⟩⟩ ⟨rfl, .inl ⟨rfl, rfl⟩⟩ (by omega) (by simp only; omega) (by omega) c2.run
  have hq2 : q2.pos = t2.size := Nat.le_antisymm g5.pos c2.pos
  have hQ2p : Q2.pos = s.size := by rw [g3.pos, hq2]; omega
  have hQ2r : ∀ k, Q2.rings k = none := fun k => by
    rcases g3.rings k with ⟨_, h⟩ | ⟨o, O, h, _⟩
    · exact h
    · rw [c2.rings k] at h; cases h
  have hrun : chain s (s.size + 1) ⟨0, 0, -1⟩ Bz.start = .ok Q2 := by
    rw [chain, f1]
    simp only
    rw [f2, Bz.linked, if_pos ⟨by omega, by rw [hQ1p, h46]; decide⟩]
    have hk : linkedKnot s (chain s s.size) y1 Q1 = .ok (x2, P2) := by
      unfold linkedKnot link
      rw [hQ1p, if_pos h46]
      exact g1
    rw [hk]
    simp only
    rw [g2]
    exact linked_halt (by omega)
  have s1 : ∀ i, i < q1.atoms.length → sum Q2.bonds i = sum q1.bonds i := fun i hi => by
    rw [g3.bonds, sum_app, sum_low _ _ _ _ hi]
    omega
  have s2 : ∀ i, sum Q2.bonds (i + q1.atoms.length) = sum q2.bonds i := fun i => by
    rw [g3.bonds, sum_app, sum_shift]
    have : sum q1.bonds (i + q1.atoms.length) = 0 := sum_out fun b hb => by have := hB' b hb; omega
    omega
  have hat : Q2.atoms.mapIdx (withHydrogens Q2.bonds) = a1 ++ a2.map (shA (t1.size + 1)) := by
    rw [g3.atoms, List.mapIdx_append]
    congr 1
    · rw [c1.atoms]
      apply List.ext_getElem?
      intro i
      rw [List.getElem?_mapIdx, List.getElem?_mapIdx]
      cases hi : q1.atoms[i]? with
      | none => rfl
      | some a => simp only [Option.map_some]; rw [hyd_eq _ _ _ _ _ (s1 i (List.getElem?_eq_some_iff.1 hi).1)]
    · rw [c2.atoms]
      apply List.ext_getElem?
      intro i
      rw [List.getElem?_mapIdx, List.getElem?_map, List.getElem?_map, List.getElem?_mapIdx]
      cases hi : q2.atoms[i]? with
      | none => rfl
      | some a => simp only [Option.map_some]; rw [hyd_sh _ _ _ _ _ _ (s2 i)]
  have hbo : Q2.bonds = l1 ++ l2.map (shB a1.length (t1.size + 1)) := by rw [g3.bonds, c1.bonds, c2.bonds, ea1]
  have hwr : firstWrong Q2.bonds 0 (a1 ++ a2.map (shA (t1.size + 1))) = none := by
    refine wrong_none (i := 0) fun j a hj => ?_
    rw [Nat.zero_add]
    by_cases hlt : j < a1.length
    · rw [List.getElem?_append_left hlt] at hj
      rw [wrong_eq _ q1.bonds _ j _ (s1 j (by omega)), ← c1.bonds]
      exact c1.right j a hj
    · rw [List.getElem?_append_right (by omega), List.getElem?_map] at hj
      cases hx : a2[j - a1.length]? with
      | none => rw [hx] at hj; cases hj
      | some b =>
        rw [hx] at hj
        cases hj
        have := s2 (j - a1.length)
        rw [show j - a1.length + q1.atoms.length = j by omega] at this
        rw [wrong_sh _ q2.bonds _ (j - a1.length) _ _ this, ← c2.bonds]
        exact c2.right _ b hx
  unfold parse
  rw [if_neg (by omega), hrun]
  simp only
  rw [if_neg (by omega), left_none hQ2r, if_neg (by omega), hat, hwr, hbo]
end Go.Proofs.YtcabaecbmkgclaaGreatDoor
