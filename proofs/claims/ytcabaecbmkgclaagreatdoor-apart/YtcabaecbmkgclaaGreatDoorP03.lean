/-
  Of the bonds that the plain reader lays: both ends are there, the first below the second; no two join the same atoms; they stand by rising places.
  A text that can be read has signs below 128 alone.
  What the molecule's Sum and filled do.
  What valencesOf, missing, Contains, impliedHydrogens and firstValence do.
  What Index, Contains, firstValence, impliedHydrogens, filled, candidate and finished do.
  What filled, candidate, finished and wrong do.
-/
import Derived.Test.YtcabaecbmkgclaaGreatDoorP02
import Derived.Deep.LoopGhost

namespace Go.Proofs.YtcabaecbmkgclaaGreatDoor
open Go.RowKit Bz

structure En (n : Nat) (l : List Bnd) (pos : Nat) : Prop where
  ends : ∀ b ∈ l, b.a < b.b ∧ b.b < n
  dist : l.Pairwise fun x y => ¬ (x.a = y.a ∧ x.b = y.b)
  rise : l.Pairwise fun x y => x.pl < y.pl
  plt : ∀ b ∈ l, b.pl < pos

theorem En.mono {n n' pos pos' : Nat} {l : List Bnd} (h : En n l pos) (hn : n ≤ n') (hp : pos ≤ pos') : En n' l pos' :=
  ⟨fun b hb => ⟨(h.ends b hb).1, Nat.lt_of_lt_of_le (h.ends b hb).2 hn⟩, h.dist, h.rise, fun b hb => Nat.lt_of_lt_of_le (h.plt b hb) hp⟩

theorem En.snoc {n pos pos' : Nat} {l : List Bnd} (h : En n l pos) {a b pl : Nat} (o : Int) (hab : a < b) (hb : b < n) (hd : ∀ x ∈ l, ¬ (x.a = a ∧ x.b = b)) (hp : pos ≤ pl) (hp' : pl < pos') : En n (l ++ [⟨a, b, o, pl⟩]) pos' := by
  refine ⟨fun x hx => ?_, ?_, ?_, fun x hx => ?_⟩
  · rcases List.mem_append.1 hx with hx | hx
    · exact h.ends x hx
    · simp at hx; subst hx; exact ⟨hab, hb⟩
  · rw [List.pairwise_append]
    refine ⟨h.dist, by simp, fun x hx y hy => ?_⟩
    simp at hy; subst hy; exact hd x hx
  · rw [List.pairwise_append]
    refine ⟨h.rise, by simp, fun x hx y hy => ?_⟩
    simp at hy; subst hy
    have := h.plt x hx
    simp only
    omega
  · rcases List.mem_append.1 hx with hx | hx
    · have := h.plt x hx; omega
    · simp at hx; subst hx; exact hp'

def Eo (p : St) : Prop := En p.atoms.length p.bonds p.pos

theorem bondEnd_en {s : ByteArray} {a : Nat} {p q : St} {g : Hung} (h : bondEnd s a p = .ok (g, q)) (o : Ok s p) (e : Eo p) : Eo q := by
  obtain ⟨h1, h2, h3, h4, h5, h6⟩ := bondEnd_ok h o.pos
  unfold Eo
  rw [h1, h2]
  exact En.mono e (Nat.le_refl _) (by omega)

theorem link_en {s : ByteArray} {a : Nat} {p q : St} {g : Hung} (h : link s a p = .ok (g, q)) (o : Ok s p) (e : Eo p) : Eo q := by
  unfold link at h
  split at h
  · simp only [Except.ok.injEq, Prod.mk.injEq] at h
    obtain ⟨rfl, rfl⟩ := h
    exact En.mono e (Nat.le_refl _) (by simp)
  · exact bondEnd_en h o e

theorem head_pl {s : ByteArray} {p : St} {g : Hung} {a : Atm} {j : Nat} (h : atomHead s g p = .ok (a, j)) : a.pl = p.pos := by
  unfold atomHead at h
  split at h
  · split at h <;> cases h
  · split at h
    · cases h
    · split at h
      · cases h
      · split at h
        · cases h
        · simp only [Except.ok.injEq, Prod.mk.injEq] at h
          obtain ⟨rfl, rfl⟩ := h
          rfl

theorem atom_en {s : ByteArray} {p q : St} {g : Hung} {k : Nat} (h : atom s g p = .ok (k, q)) (hg : HungOk g p) (e : Eo p) : Eo q := by
  rw [atom_eq] at h
  cases hh : atomHead s g p with
  | error e => rw [hh] at h; cases h
  | ok x =>
    obtain ⟨a, j⟩ := x
    rw [hh] at h
    simp only [Except.ok.injEq] at h
    have hj := head_pos hh
    unfold atomTail at h
    simp only [Prod.mk.injEq] at h
    obtain ⟨rfl, rfl⟩ := h
    split
    · exact En.mono e (by simp) (by simp; omega)
    · rename_i hne
      rcases hg with hg | ⟨fa, hf, hl⟩
      · exact absurd hg hne
      · unfold Eo Bz.bind
        simp only [hf, Int.toNat_natCast]
        have e1 : min fa p.atoms.length = fa := by omega
        have e2 : max fa p.atoms.length = p.atoms.length := by omega
        rw [e1, e2, head_pl hh]
        refine En.snoc (pos := p.pos) (En.mono e (by simp) (Nat.le_refl _)) _ hl (by simp) (fun x hx => ?_) (Nat.le_refl _) hj.1
        have := (e.ends x hx).2
        omega

theorem bonded_no {l : List Bnd} {a b : Nat} (h : bonded l a b = false) : ∀ x ∈ l, ¬ (x.a = min a b ∧ x.b = max a b) := by
  intro x hx hc
  unfold bonded at h
  have := List.any_eq_false.1 h x hx
  simp at this
  rcases Nat.le_total a b with k | k
  · rw [Nat.min_eq_left k, Nat.max_eq_right k] at hc
    exact this.1 hc.1 hc.2
  · rw [Nat.min_eq_right k, Nat.max_eq_left k] at hc
    exact this.2 hc.1 hc.2

theorem ring_en {s : ByteArray} {a : Nat} {p q : St} (h : ring s a p = .ok q) (o : Ok s p) (ha : a < p.atoms.length) (e : Eo p) : Eo q := by
  unfold ring at h
  split at h
  · cases h
  · rename_i g p1 hbe
    obtain ⟨o1, hg, ha1, hp1⟩ := bondEnd_wf hbe o ha
    have e1 := bondEnd_en hbe o e
    obtain ⟨_, _, _, _, _, h6⟩ := bondEnd_ok hbe o.pos
    split at h
    · cases h
    · rename_i n j hrn
      obtain ⟨h1, h2⟩ := ringNumber_pos hrn
      split at h
      · simp only [Except.ok.injEq] at h
        subst h
        exact En.mono e1 (Nat.le_refl _) (by simp; omega)
      · rename_i op hop
        obtain ⟨fa, hfa, hfl⟩ := o1.rings n op hop
        unfold closeRing at h
        simp only at h
        split at h
        · cases h
        · split at h
          · cases h
          · split at h
            · cases h
            · rename_i hno
              simp only [Except.ok.injEq] at h
              subst h
              simp only [not_or] at hno
              obtain ⟨n1, n2, _⟩ := hno
              have n2' : bonded p1.bonds op.hung.atom.toNat g.atom.toNat = false := by simpa using n2
              rw [hfa, h6] at n1 n2'
              simp only [Int.toNat_natCast] at n2'
              unfold Eo Bz.bind
              simp only [hfa, h6, Int.toNat_natCast]
              have hal : a < p1.atoms.length := by rw [ha1]; exact ha
              refine En.snoc (pos := p1.pos) e1 _ (by omega) (by omega) (bonded_no n2') (Nat.le_refl _) (by omega)

theorem ringsOf_en {s : ByteArray} {a : Nat} : ∀ (n : Nat) {p q : St}, ringsOf s a n p = .ok q → Ok s p → a < p.atoms.length → Eo p → Eo q
  | 0, p, q, h, _, _, e => by simp only [ringsOf, Except.ok.injEq] at h; subst h; exact e
  | n + 1, p, q, h, o, ha, e => by
    unfold ringsOf at h
    split at h
    · split at h
      · cases h
      · rename_i p1 hr
        obtain ⟨o1, h1, h2⟩ := ring_wf hr o ha
        exact ringsOf_en n h o1 (by omega) (ring_en hr o ha e)
    · simp only [Except.ok.injEq] at h; subst h; exact e

def ChainEn (s : ByteArray) (c : Hung → St → R St) : Prop := ∀ g q q', Ok s q → HungOk g q → Eo q → c g q = .ok q' → Eo q'

theorem branch_en {s : ByteArray} {c : Hung → St → R St} (hc : ChainEn s c) {a : Nat} {p q : St} (h : branch s c a p = .ok q) (o : Ok s p) (ha : a < p.atoms.length) (e : Eo p) : Eo q := by
  unfold branch at h
  split at h
  · cases h
  · rename_i g p1 hl
    obtain ⟨o1, hg, ha1, hp1⟩ := link_wf hl o ha
    have e1 := link_en hl o e
    split at h
    · cases h
    · rename_i p2 hch
      have e2 := hc g p1 p2 o1 hg e1 hch
      split at h
      · simp only [Except.ok.injEq] at h
        subst h
        exact En.mono e2 (Nat.le_refl _) (by simp)
      · cases h

theorem branches_en {s : ByteArray} {c : Hung → St → R St} (hk : ChainOk s c) (hc : ChainEn s c) {a : Nat} : ∀ (n : Nat) {p q : St}, branches s c a n p = .ok q → Ok s p → a < p.atoms.length → Eo p → Eo q
  | 0, p, q, h, _, _, e => by simp only [branches, Except.ok.injEq] at h; subst h; exact e
  | n + 1, p, q, h, o, ha, e => by
    unfold branches at h
    split at h
    · rename_i eb
      split at h
      · cases h
      · rename_i p1 hr
        have os := o.step (byte_lt eb (by decide))
        have es : Eo { p with pos := p.pos + 1 } := En.mono e (Nat.le_refl _) (by simp)
        obtain ⟨o1, h1, h2⟩ := branch_wf hk hr os ha
        simp only at h1 h2
        exact branches_en hk hc n h o1 (by omega) (branch_en hc hr os ha es)
    · simp only [Except.ok.injEq] at h; subst h; exact e

theorem knot_en {s : ByteArray} {c : Hung → St → R St} (hk : ChainOk s c) (hc : ChainEn s c) {g : Hung} {p q : St} {k : Nat} (h : knot s c g p = .ok (k, q)) (o : Ok s p) (hg : HungOk g p) (e : Eo p) : Eo q := by
  unfold knot at h
  split at h
  · cases h
  · rename_i k1 p1 ha
    obtain ⟨o1, h1, h2, h3⟩ := atom_wf ha o
    have e1 := atom_en ha hg e
    split at h
    · cases h
    · rename_i p2 hr
      obtain ⟨o2, h4, h5⟩ := ringsOf_wf _ hr o1 h1
      have e2 := ringsOf_en _ hr o1 h1 e1
      split at h
      · cases h
      · rename_i p3 hb
        simp only [Except.ok.injEq, Prod.mk.injEq] at h
        obtain ⟨rfl, rfl⟩ := h
        exact branches_en hk hc _ hb o2 (by omega) e2

theorem linkedKnot_en {s : ByteArray} {c : Hung → St → R St} (hk : ChainOk s c) (hc : ChainEn s c) {a : Nat} {p q : St} {k : Nat} (h : linkedKnot s c a p = .ok (k, q)) (o : Ok s p) (ha : a < p.atoms.length) (e : Eo p) : Eo q := by
  unfold linkedKnot at h
  split at h
  · cases h
  · rename_i g p1 hl
    obtain ⟨o1, hg, ha1, hp1⟩ := link_wf hl o ha
    exact knot_en hk hc h o1 hg (link_en hl o e)

theorem linked_en {s : ByteArray} {c : Hung → St → R St} (hk : ChainOk s c) (hc : ChainEn s c) : ∀ (n : Nat) {a : Nat} {p q : St}, Bz.linked s c n a p = .ok q → Ok s p → a < p.atoms.length → Eo p → Eo q
  | 0, a, p, q, h, _, _, e => by simp only [Bz.linked, Except.ok.injEq] at h; subst h; exact e
  | n + 1, a, p, q, h, o, ha, e => by
    unfold Bz.linked at h
    split at h
    · split at h
      · cases h
      · rename_i k1 p1 hr
        obtain ⟨o1, h1, h2, h3⟩ := linkedKnot_wf hk hr o ha
        exact linked_en hk hc n h o1 h1 (linkedKnot_en hk hc hr o ha e)
    · simp only [Except.ok.injEq] at h; subst h; exact e

theorem chain_en (s : ByteArray) : ∀ n, ChainEn s (chain s n)
  | 0 => by intro g q q' _ _ _ h; simp [chain] at h
  | n + 1 => by
    intro g q q' o hg e h
    unfold chain at h
    split at h
    · cases h
    · rename_i k p1 hk
      obtain ⟨o1, h1, h2, h3⟩ := knot_wf (chain_wf s n) hk o
      exact linked_en (chain_wf s n) (chain_en s n) _ h o1 h1 (knot_en (chain_wf s n) (chain_en s n) hk o hg e)
end Go.Proofs.YtcabaecbmkgclaaGreatDoor

namespace Go.Proofs.YtcabaecbmkgclaaGreatDoor
open Go.RowKit Bz

def Asc (s : ByteArray) (k : Nat) : Prop := ∀ i, i < k → byteAt s i < 128

theorem Asc.succ {s : ByteArray} {k : Nat} (h : Asc s k) (hk : byteAt s k < 128) : Asc s (k + 1) := fun i hi => by
  rcases Nat.lt_or_ge i k with hl | hl
  · exact h i hl
  · have : i = k := by omega
    subst this
    exact hk

theorem isSign_lt {c : Int} (h : isSign c = true) : c < 128 := by
  unfold isSign at h
  simp only [Bool.or_eq_true, beq_iff_eq] at h
  omega

theorem element_ac {s : ByteArray} {i : Nat} {el : ByteArray} {ar : Bool} {n : Nat} (h : element s i = some (el, ar, n)) (a : Asc s i) : Asc s (i + n) := by
  unfold element at h
  simp only at h
  split at h
  · rename_i hc
    simp only [Option.some.injEq, Prod.mk.injEq] at h
    obtain ⟨_, _, rfl⟩ := h
    exact (a.succ (by omega)).succ (by omega)
  · split at h
    · rename_i hc
      simp only [Option.some.injEq, Prod.mk.injEq] at h
      obtain ⟨_, _, rfl⟩ := h
      exact (a.succ (by omega)).succ (by omega)
    · split at h
      · rename_i hc
        simp only [Option.some.injEq, Prod.mk.injEq] at h
        obtain ⟨_, _, rfl⟩ := h
        exact a.succ (by omega)
      · split at h
        · rename_i hc
          simp only [Option.some.injEq, Prod.mk.injEq] at h
          obtain ⟨_, _, rfl⟩ := h
          exact a.succ (by omega)
        · cases h

theorem hydro_ac {s : ByteArray} {i : Nat} (a : Asc s i) : Asc s (hydro s i).2 := by
  unfold hydro
  split
  · split
    · exact (a.succ (by omega)).succ (by omega)
    · exact a.succ (by omega)
  · exact a

theorem charge_ac {s : ByteArray} {i : Nat} (a : Asc s i) : Asc s (charge s i).2 := by
  unfold charge
  split
  · exact a.succ (by omega)
  · split
    · exact a.succ (by omega)
    · exact a

theorem bracket_ac {s : ByteArray} {i : Nat} {x : Int × Int × Nat} (h : bracket s i = .ok x) (a : Asc s i) : Asc s x.2.2 := by
  unfold bracket at h
  simp only at h
  split at h
  · rename_i hc
    simp only [Except.ok.injEq] at h
    subst h
    exact (charge_ac (hydro_ac a)).succ (by omega)
  · cases h

theorem head_ac {s : ByteArray} {p : St} {g : Hung} {at_ : Atm} {j : Nat} (h : atomHead s g p = .ok (at_, j)) (a : Asc s p.pos) : Asc s j := by
  unfold atomHead at h
  split at h
  · split at h <;> cases h
  · rename_i el ar n he
    have a1 : Asc s (if (byteAt s p.pos == 91) = true then p.pos + 1 else p.pos) := by
      split
      · rename_i hb
        simp only [beq_iff_eq] at hb
        exact a.succ (by omega)
      · exact a
    have a2 := element_ac he a1
    split at h
    · cases h
    · split at h
      · cases h
      · split at h
        · cases h
        · rename_i ch hy j' hb
          simp only [Except.ok.injEq, Prod.mk.injEq] at h
          obtain ⟨_, rfl⟩ := h
          split at hb
          · rename_i hq
            rw [if_pos hq] at a2
            have := bracket_ac hb a2
            exact this
          · rename_i hq
            rw [if_neg hq] at a2
            simp only [Except.ok.injEq, Prod.mk.injEq] at hb
            obtain ⟨_, _, rfl⟩ := hb
            exact a2

theorem bondEnd_ac {s : ByteArray} {a : Nat} {p q : St} {g : Hung} (h : bondEnd s a p = .ok (g, q)) (e : Asc s p.pos) : Asc s q.pos := by
  unfold bondEnd at h
  simp only at h
  split at h
  · rename_i hs
    split at h
    · cases h
    · simp only [Except.ok.injEq, Prod.mk.injEq] at h
      obtain ⟨_, rfl⟩ := h
      exact e.succ (isSign_lt hs)
  · simp only [Except.ok.injEq, Prod.mk.injEq] at h
    obtain ⟨_, rfl⟩ := h
    exact e

theorem link_ac {s : ByteArray} {a : Nat} {p q : St} {g : Hung} (h : link s a p = .ok (g, q)) (e : Asc s p.pos) : Asc s q.pos := by
  unfold link at h
  split at h
  · simp only [Except.ok.injEq, Prod.mk.injEq] at h
    obtain ⟨_, rfl⟩ := h
    exact e.succ (by omega)
  · exact bondEnd_ac h e

theorem atom_ac {s : ByteArray} {p q : St} {g : Hung} {k : Nat} (h : atom s g p = .ok (k, q)) (e : Asc s p.pos) : Asc s q.pos := by
  rw [atom_eq] at h
  cases hh : atomHead s g p with
  | error e => rw [hh] at h; cases h
  | ok x =>
    obtain ⟨a, j⟩ := x
    rw [hh] at h
    simp only [Except.ok.injEq] at h
    have hj := head_ac hh e
    unfold atomTail at h
    simp only [Prod.mk.injEq] at h
    obtain ⟨_, rfl⟩ := h
    split
    · exact hj
    · exact hj

theorem digit_lt128 {c : Int} (h : isDigit c = true) : c < 128 := by
  unfold isDigit at h
  simp only [Bool.and_eq_true, decide_eq_true_eq] at h
  omega

theorem ringNumber_ac {s : ByteArray} {i n j : Nat} (h : ringNumber s i = .ok (n, j)) (e : Asc s i) : Asc s j := by
  unfold ringNumber at h
  split at h
  · rename_i h0
    split at h
    · split at h
      · rename_i h1 h2
        simp only [Except.ok.injEq, Prod.mk.injEq] at h
        obtain ⟨_, rfl⟩ := h
        exact ((e.succ (by omega)).succ (digit_lt128 h1)).succ (digit_lt128 h2)
      · cases h
    · cases h
  · split at h
    · rename_i h1
      simp only [Except.ok.injEq, Prod.mk.injEq] at h
      obtain ⟨_, rfl⟩ := h
      exact e.succ (digit_lt128 h1)
    · cases h

theorem ring_ac {s : ByteArray} {a : Nat} {p q : St} (h : ring s a p = .ok q) (e : Asc s p.pos) : Asc s q.pos := by
  unfold ring at h
  split at h
  · cases h
  · rename_i g p1 hbe
    have e1 := bondEnd_ac hbe e
    split at h
    · cases h
    · rename_i n j hrn
      have e2 := ringNumber_ac hrn e1
      split at h
      · simp only [Except.ok.injEq] at h
        subst h
        exact e2
      · unfold closeRing at h
        simp only at h
        split at h
        · cases h
        · split at h
          · cases h
          · split at h
            · cases h
            · simp only [Except.ok.injEq] at h
              subst h
              exact e2

theorem ringsOf_ac {s : ByteArray} {a : Nat} : ∀ (n : Nat) {p q : St}, ringsOf s a n p = .ok q → Asc s p.pos → Asc s q.pos
  | 0, p, q, h, e => by simp only [ringsOf, Except.ok.injEq] at h; subst h; exact e
  | n + 1, p, q, h, e => by
    unfold ringsOf at h
    split at h
    · split at h
      · cases h
      · rename_i p1 hr
        exact ringsOf_ac n h (ring_ac hr e)
    · simp only [Except.ok.injEq] at h; subst h; exact e

def ChainAc (s : ByteArray) (c : Hung → St → R St) : Prop := ∀ g q q', Asc s q.pos → c g q = .ok q' → Asc s q'.pos

theorem branch_ac {s : ByteArray} {c : Hung → St → R St} (hc : ChainAc s c) {a : Nat} {p q : St} (h : branch s c a p = .ok q) (e : Asc s p.pos) : Asc s q.pos := by
  unfold branch at h
  split at h
  · cases h
  · rename_i g p1 hl
    have e1 := link_ac hl e
    split at h
    · cases h
    · rename_i p2 hch
      have e2 := hc g p1 p2 e1 hch
      split at h
      · rename_i hb
        simp only [Except.ok.injEq] at h
        subst h
        exact e2.succ (by omega)
      · cases h

theorem branches_ac {s : ByteArray} {c : Hung → St → R St} (hc : ChainAc s c) {a : Nat} : ∀ (n : Nat) {p q : St}, branches s c a n p = .ok q → Asc s p.pos → Asc s q.pos
  | 0, p, q, h, e => by simp only [branches, Except.ok.injEq] at h; subst h; exact e
  | n + 1, p, q, h, e => by
    unfold branches at h
    split at h
    · rename_i eb
      split at h
      · cases h
      · rename_i p1 hr
        exact branches_ac hc n h (branch_ac hc hr (e.succ (by omega)))
    · simp only [Except.ok.injEq] at h; subst h; exact e

theorem knot_ac {s : ByteArray} {c : Hung → St → R St} (hc : ChainAc s c) {g : Hung} {p q : St} {k : Nat} (h : knot s c g p = .ok (k, q)) (e : Asc s p.pos) : Asc s q.pos := by
  unfold knot at h
  split at h
  · cases h
  · rename_i k1 p1 ha
    have e1 := atom_ac ha e
    split at h
    · cases h
    · rename_i p2 hr
      have e2 := ringsOf_ac _ hr e1
      split at h
      · cases h
      · rename_i p3 hb
        simp only [Except.ok.injEq, Prod.mk.injEq] at h
        obtain ⟨_, rfl⟩ := h
        exact branches_ac hc _ hb e2

theorem linked_ac {s : ByteArray} {c : Hung → St → R St} (hc : ChainAc s c) : ∀ (n : Nat) {a : Nat} {p q : St}, Bz.linked s c n a p = .ok q → Asc s p.pos → Asc s q.pos
  | 0, a, p, q, h, e => by simp only [Bz.linked, Except.ok.injEq] at h; subst h; exact e
  | n + 1, a, p, q, h, e => by
    unfold Bz.linked at h
    split at h
    · split at h
      · cases h
      · rename_i k1 p1 hr
        unfold linkedKnot at hr
        split at hr
        · cases hr
        · rename_i g p0 hl
          exact linked_ac hc n h (knot_ac hc hr (link_ac hl e))
    · simp only [Except.ok.injEq] at h; subst h; exact e

theorem chain_ac (s : ByteArray) : ∀ n, ChainAc s (chain s n)
  | 0 => by intro g q q' _ h; simp [chain] at h
  | n + 1 => by
    intro g q q' e h
    unfold chain at h
    split at h
    · cases h
    · rename_i k p1 hk
      exact linked_ac (chain_ac s n) _ h (knot_ac (chain_ac s n) hk e)

theorem parse_ac {s : ByteArray} {ats : List Atm} {l : List Bnd} (h : Bz.parse s = .ok (ats, l)) : ∀ b ∈ s.data.toList, b.toNat < 128 := by
  have key : Asc s s.size := by
    unfold Bz.parse at h
    split at h
    · cases h
    · split at h
      · cases h
      · rename_i p hc
        have he := chain_ac s (s.size + 1) _ _ _ (fun i hi => absurd hi (Nat.not_lt_zero i)) hc
        split at h
        · cases h
        · rename_i hp
          exact fun i hi => he i (by omega)
  intro b hb
  obtain ⟨i, hi, rfl⟩ := List.getElem_of_mem hb
  have hi' : i < s.size := by simpa using hi
  have := key i hi'
  rw [byteAt_lt s i hi'] at this
  have e : s.data.toList[i] = s[i] := rfl
  rw [e]
  omega
end Go.Proofs.YtcabaecbmkgclaaGreatDoor

namespace Go.Proofs.YtcabaecbmkgclaaGreatDoor
open Go.RowKit Bz

def part (a : Nat) (b : Bnd) : Int := if b.a = a ∨ b.b = a then (if b.o = 4 then 1 else b.o) else 0

theorem sum_take (l : List Bnd) (a k : Nat) (h : k < l.length) : Bz.sum (l.take (k + 1)) a = Bz.sum (l.take k) a + part a l[k] := by
  unfold Bz.sum
  rw [List.take_succ_eq_append_getElem h, List.map_append, List.sum_append]
  simp [part]

theorem part_bd (a : Nat) (b : Bnd) (h : 1 ≤ b.o ∧ b.o ≤ 4) : 0 ≤ part a b ∧ part a b ≤ 4 := by
  unfold part
  split
  · split <;> omega
  · omega

theorem sum_bd (l : List Bnd) (a : Nat) (h : ∀ b ∈ l, 1 ≤ b.o ∧ b.o ≤ 4) : ∀ k, k ≤ l.length → 0 ≤ Bz.sum (l.take k) a ∧ Bz.sum (l.take k) a ≤ 4 * k
  | 0, _ => by simp [Bz.sum]
  | k + 1, hk => by
    rw [sum_take l a k (by omega)]
    have h1 := sum_bd l a h k (by omega)
    have h2 := part_bd a l[k] (h _ (List.getElem_mem _))
    omega

section
variable {w : World} {B : Nat} {s : ByteArray} {p : St}

theorem Rd.bondsLen (h : Rd w B s p) : ∃ ao cap, w.cell? ⟨B, 27, none⟩ = some (.slice ao p.bonds.length cap) := by
  obtain ⟨v, hv, ho⟩ := h.bonds
  obtain ⟨ao, cap, rfl⟩ := ownsRow_shape ho
  exact ⟨ao, cap, hv⟩

/-- One round. -/
def SumAt (w : World) (l : List Bnd) (a : Nat) (k : Nat) (vs vi : Value) (wr : World) : Prop :=
  ∃ i : Nat, i ≤ l.length ∧ l.length - i ≤ k ∧ vi = .int .i64 i ∧ vs = .int .i64 (Bz.sum (l.take i) a) ∧ Below w.heap.size w wr

set_option maxRecDepth 100000 in
set_option maxHeartbeats 2000000 in
theorem sum_any (h : Rd w B s p) (a : Nat) (hb : p.bonds.length ≤ 1000) (ho : ∀ b ∈ p.bonds, 1 ≤ b.o ∧ b.o ≤ 4) :
    Calls Tryz.prog 84 #[.pointer (some ⟨B, 2, none⟩), .int .i64 a] w fun e w' => e = .returned (.int .i64 (Bz.sum p.bonds a)) ∧ Below w.heap.size w w' := by
  have hsb := sum_bd p.bonds a ho
  by_cases hl : p.bonds.length = 0
  · obtain ⟨ao, cap, hc⟩ := h.bondsLen
    rw [hl] at hc
    have he : Hid (Bz.sum p.bonds a = 0) := by unfold Hid; rw [List.eq_nil_of_length_eq_zero hl]; rfl
    clear hsb hl ho
    go_enter Tryz.func84, Tryz.ntmps84
    go_wp2_with fail
    refine wp_loop_rounds 1 ?_
    rw [rounds_succ]
    go_wp2_with fail
    go_ret
    exact ⟨ret_int he.out.symm, Below.refl _ _⟩
  · obtain ⟨g, cap, hv, hc, _, hBg, hgl⟩ := h.bondsAt (by omega)
    have HC : Hid _ := hc
    have HO : Hid _ := ho
    have HS : Hid _ := hsb
    clear hc ho hsb
    go_enter Tryz.func84, Tryz.ntmps84
    go_wp2_with fail
    go_loopg [5, 13] (p.bonds.length + 1) (fun k vs vi wr => SumAt w p.bonds a k vs vi wr)
    case atStart => exact ⟨0, by omega, by omega, rfl, by simp [Bz.sum], Below.refl _ _⟩
    case round =>
      obtain ⟨i, hi, hk, rfl, rfl, hbel⟩ := hrel
      by_cases hlt : i < p.bonds.length
      · have hsi := HS.out i hi
        have hst := sum_take p.bonds a i hlt
        have hbo := HO.out p.bonds[i] (List.getElem_mem _)
        have gi := List.getElem?_eq_getElem hlt
        have c0 := (hbel.cell (p := ⟨g, i * 4, none⟩) hgl).trans (HC.out i _ 0 _ gi rfl)
        have c1 := (hbel.cell (p := ⟨g, i * 4 + 1, none⟩) hgl).trans (HC.out i _ 1 _ gi rfl)
        have c2 := (hbel.cell (p := ⟨g, i * 4 + 2, none⟩) hgl).trans (HC.out i _ 2 _ gi rfl)
        have c3 := (hbel.cell (p := ⟨g, i * 4 + 3, none⟩) hgl).trans (HC.out i _ 3 _ gi rfl)
        have hsz := hbel.size
        have hlt' : (i : Int) < (p.bonds.length : Int) := by omega
        generalize p.bonds[i] = b at *
        obtain ⟨ba, bb, bo, bpl⟩ := b
        simp only at c0 c1 c2 c3 hbo
        have HST : Hid _ := hst
        clear hst gi
        generalize Bz.sum (p.bonds.take i) a = sm at *
        have t4 : (bo == 4) = true ∨ (bo == 4) = false := by cases (bo == 4) <;> simp
        have fin : ∀ wx, Below w.heap.size w wx → ∀ u : Int, u = sm + part a ⟨ba, bb, bo, bpl⟩ → SumAt w p.bonds a (p.bonds.length - (i + 1)) (.int .i64 u) (.int .i64 ((i : Int) + 1)) wx := by
          intro wx hx u hu
          exact ⟨i + 1, by omega, Nat.le_refl _, by go_num, by rw [HST.out, hu], hx⟩
        have FIN : Hid _ := fin
        clear fin
        by_cases hin : ba = a ∨ bb = a
        · have tin : ((ba : Int) != (a : Int)) = false ∨ ((ba : Int) != (a : Int)) = true ∧ ((bb : Int) != (a : Int)) = false := by
            by_cases e : ba = a
            · left; simp [e]
            · right
              have e2 : bb = a := by omega
              exact ⟨by simp; omega, by simp [e2]⟩
          have HP : Hid (part a ⟨ba, bb, bo, bpl⟩ = if bo = 4 then 1 else bo) := by unfold Hid part; rw [if_pos hin]
          clear hin
          rcases t4 with t4 | t4
          · have hp : Hid (part a ⟨ba, bb, bo, bpl⟩ = 1) := by unfold Hid; rw [HP.out, if_pos (by simpa using t4)]
            rcases tin with tin | ⟨tin, tin2⟩
            all_goals
              go_wp2_with fail
              go_roundg (p.bonds.length - (i + 1))
              case measure => omega
              case rel => exact FIN.out _ (hbel.alloc hsz _) _ (by rw [hp.out])
          · have hp : Hid (part a ⟨ba, bb, bo, bpl⟩ = bo) := by unfold Hid; rw [HP.out, if_neg (by simpa using t4)]
            rcases tin with tin | ⟨tin, tin2⟩
            all_goals
              go_wp2_with fail
              go_roundg (p.bonds.length - (i + 1))
              case measure => omega
              case rel => exact FIN.out _ (hbel.alloc hsz _) _ (by rw [hp.out])
        · have hp : Hid (part a ⟨ba, bb, bo, bpl⟩ = 0) := by unfold Hid part; rw [if_neg hin]
          have tin : ((ba : Int) != (a : Int)) = true := by simp; omega
          have tin2 : ((bb : Int) != (a : Int)) = true := by simp; omega
          clear hin t4
          go_wp2_with fail
          go_roundg (p.bonds.length - (i + 1))
          case measure => omega
          case rel => exact FIN.out _ (hbel.alloc hsz _) _ (by rw [hp.out]; omega)
      · have hi' : i = p.bonds.length := by omega
        have he : Hid (Bz.sum (p.bonds.take i) a = Bz.sum p.bonds a) := by unfold Hid; rw [hi', List.take_length]
        have hlt' : ¬ (i : Int) < (p.bonds.length : Int) := by omega
        clear hi'
        go_wp2_with fail
        go_ret
        exact ⟨ret_int he.out, hbel⟩
end
end Go.Proofs.YtcabaecbmkgclaaGreatDoor

namespace Go.Proofs.YtcabaecbmkgclaaGreatDoor
open Go.RowKit Bz

/-- A list of numbers lies in memory. -/
def IntsAt (w : World) (v : Value) (l : List Int) : Prop :=
  (l = [] ∧ v = .slice none 0 0) ∨ ∃ g cap, v = .slice (some ⟨g, 0, none⟩) l.length cap ∧ ∀ j x, l[j]? = some x → w.cell? ⟨g, j, none⟩ = some (.int .i64 x)

def ValPost (w : World) (l : List Int) (e : Ending) (w' : World) : Prop := ∃ v, e = .returned v ∧ IntsAt w' v l ∧ Below w.heap.size w w'

theorem valences_pick (el : ByteArray) (ch : Int) : ∃ a b c : List Int, valences el ch = (if ch > 0 then b else if ch < 0 then c else a) ∧
    ((el = ⟨#[66]⟩ ∧ a = [3] ∧ b = [] ∧ c = [4]) ∨ (el = ⟨#[67]⟩ ∧ a = [4] ∧ b = [3] ∧ c = [3]) ∨ ((el = ⟨#[78]⟩ ∨ el = ⟨#[80]⟩) ∧ a = [3, 5] ∧ b = [4] ∧ c = [2]) ∨
     (el = ⟨#[79]⟩ ∧ a = [2] ∧ b = [3] ∧ c = [1]) ∨ (el = ⟨#[83]⟩ ∧ a = [2, 4, 6] ∧ b = [3, 5] ∧ c = [1]) ∨
     ((el ≠ ⟨#[66]⟩ ∧ el ≠ ⟨#[67]⟩ ∧ el ≠ ⟨#[78]⟩ ∧ el ≠ ⟨#[80]⟩ ∧ el ≠ ⟨#[79]⟩ ∧ el ≠ ⟨#[83]⟩) ∧ a = [1] ∧ b = [2] ∧ c = [0])) := by
  by_cases h1 : el = ⟨#[66]⟩
  · exact ⟨_, _, _, by unfold valences; rw [if_pos h1], .inl ⟨h1, rfl, rfl, rfl⟩⟩
  by_cases h2 : el = ⟨#[67]⟩
  · exact ⟨_, _, _, by unfold valences; simp only; rw [if_neg h1, if_pos h2], .inr (.inl ⟨h2, rfl, rfl, rfl⟩)⟩
  by_cases h3 : el = ⟨#[78]⟩ ∨ el = ⟨#[80]⟩
  · exact ⟨_, _, _, by unfold valences; simp only; rw [if_neg h1, if_neg h2, if_pos h3], .inr (.inr (.inl ⟨h3, rfl, rfl, rfl⟩))⟩
  by_cases h4 : el = ⟨#[79]⟩
  · exact ⟨_, _, _, by unfold valences; simp only; rw [if_neg h1, if_neg h2, if_neg h3, if_pos h4], .inr (.inr (.inr (.inl ⟨h4, rfl, rfl, rfl⟩)))⟩
  by_cases h5 : el = ⟨#[83]⟩
  · exact ⟨_, _, _, by unfold valences; simp only; rw [if_neg h1, if_neg h2, if_neg h3, if_neg h4, if_pos h5], .inr (.inr (.inr (.inr (.inl ⟨h5, rfl, rfl, rfl⟩))))⟩
  · exact ⟨_, _, _, by unfold valences; simp only; rw [if_neg h1, if_neg h2, if_neg h3, if_neg h4, if_neg h5], .inr (.inr (.inr (.inr (.inr ⟨⟨h1, h2, fun e => h3 (.inl e), fun e => h3 (.inr e), h4, h5⟩, rfl, rfl, rfl⟩))))⟩

/-- The charge's list. -/
def picked (ch : Int) (n p m : Value) : Value := if ch > 0 then p else if ch < 0 then m else n

set_option maxHeartbeats 400000 in
theorem byCharge_any (ch : Int) (an bn cn ap bp cp : Nat) (a b c : Option Addr) (w : World) :
    Calls Tryz.prog 110 #[.int .i64 ch, .slice a an ap, .slice b bn bp, .slice c cn cp] w fun e w' => e = .returned (picked ch (.slice a an ap) (.slice b bn bp) (.slice c cn cp)) ∧ w' = w := by
  by_cases h1 : 0 < ch
  · have e : picked ch (.slice a an ap) (.slice b bn bp) (.slice c cn cp) = .slice b bn bp := by unfold picked; rw [if_pos h1]
    rw [e]
    clear e
    go_enter Tryz.func110, Tryz.ntmps110
    go_wp2
    go_ret
    exact ⟨rfl, rfl⟩
  · by_cases h2 : ch < 0
    · have e : picked ch (.slice a an ap) (.slice b bn bp) (.slice c cn cp) = .slice c cn cp := by unfold picked; rw [if_neg h1, if_pos h2]
      rw [e]
      clear e
      go_enter Tryz.func110, Tryz.ntmps110
      go_wp2
      go_ret
      exact ⟨rfl, rfl⟩
    · have e : picked ch (.slice a an ap) (.slice b bn bp) (.slice c cn cp) = .slice a an ap := by unfold picked; rw [if_neg h1, if_neg h2]
      rw [e]
      clear e
      go_enter Tryz.func110, Tryz.ntmps110
      go_wp2
      go_ret
      exact ⟨rfl, rfl⟩

theorem picked_ints {w : World} {ch : Int} {n p m : Value} {a b c l : List Int} (hl : l = (if ch > 0 then b else if ch < 0 then c else a)) (hn : IntsAt w n a) (hp : IntsAt w p b) (hm : IntsAt w m c) : IntsAt w (picked ch n p m) l := by
  subst hl
  unfold picked
  split
  · exact hp
  · split
    · exact hm
    · exact hn

theorem intsAt_nil (w : World) : IntsAt w (.slice none 0 0) [] := .inl ⟨rfl, rfl⟩
theorem intsAt_mk {w : World} {g : Nat} {l : List Int} {cap : Nat} (h : ∀ j x, l[j]? = some x → w.cell? ⟨g, j, none⟩ = some (.int .i64 x)) : IntsAt w (.slice (some ⟨g, 0, none⟩) l.length cap) l := .inr ⟨g, cap, rfl, h⟩
theorem intsAt1 {w : World} {g : Nat} {x : Int} {cap : Nat} (h : w.cell? ⟨g, 0, none⟩ = some (.int .i64 x)) : IntsAt w (.slice (some ⟨g, 0, none⟩) 1 cap) [x] := intsAt_mk (l := [x]) (by
  intro j y hj
  match j, hj with
  | 0, hj => simp at hj; subst hj; exact h)
theorem intsAt2 {w : World} {g : Nat} {x y : Int} {cap : Nat} (h : w.cell? ⟨g, 0, none⟩ = some (.int .i64 x)) (h1 : w.cell? ⟨g, 1, none⟩ = some (.int .i64 y)) : IntsAt w (.slice (some ⟨g, 0, none⟩) 2 cap) [x, y] := intsAt_mk (l := [x, y]) (by
  intro j z hj
  match j, hj with
  | 0, hj => simp at hj; subst hj; exact h
  | 1, hj => simp at hj; subst hj; exact h1)
theorem intsAt3 {w : World} {g : Nat} {x y z : Int} {cap : Nat} (h : w.cell? ⟨g, 0, none⟩ = some (.int .i64 x)) (h1 : w.cell? ⟨g, 1, none⟩ = some (.int .i64 y)) (h2 : w.cell? ⟨g, 2, none⟩ = some (.int .i64 z)) : IntsAt w (.slice (some ⟨g, 0, none⟩) 3 cap) [x, y, z] := intsAt_mk (l := [x, y, z]) (by
  intro j u hj
  match j, hj with
  | 0, hj => simp at hj; subst hj; exact h
  | 1, hj => simp at hj; subst hj; exact h1
  | 2, hj => simp at hj; subst hj; exact h2)

theorem str_ne {el : ByteArray} {c : UInt8} (h : el ≠ ⟨#[c]⟩) : (el.toList == [c]) = false := by
  rw [ByteArray.toList_eq]
  simp
  intro e
  apply h
  cases el with
  | mk d => simp at e; rw [show d = #[c] from Array.toList_inj.1 e]

set_option maxRecDepth 100000 in
set_option maxHeartbeats 2000000 in
theorem valencesOf_any (el : ByteArray) (ch : Int) (w : World) : Calls Tryz.prog 85 #[.string el, .int .i64 ch] w (ValPost w (valences el ch)) := by
  obtain ⟨a, b, c, hl, hcase⟩ := valences_pick el ch
  have HL : Hid _ := hl
  clear hl
  rcases hcase with ⟨h, rfl, rfl, rfl⟩ | ⟨h, rfl, rfl, rfl⟩ | ⟨h | h, rfl, rfl, rfl⟩ | ⟨h, rfl, rfl, rfl⟩ | ⟨h, rfl, rfl, rfl⟩ | ⟨⟨h1, h2, h3, h4, h5, h6⟩, rfl, rfl, rfl⟩
  · subst h
    go_enter Tryz.func85, Tryz.ntmps85
    go_wp2_with fail
    refine (byCharge_any _ _ _ _ _ _ _ _ _ _ _).mono ?_
    rintro e w' ⟨rfl, rfl⟩
    go_wp2_with fail
    go_ret
    refine ⟨_, rfl, picked_ints HL.out (intsAt1 (by simp [go_sem])) (intsAt_nil _) (intsAt1 (by simp [go_sem])), ?_⟩
    exact (by repeat (first | with_reducible exact Below.refl _ _ | with_reducible refine below_drewN ?_ _ | with_reducible refine Below.drew ?_ | with_reducible refine Below.setCell ?_ (by simp) _ | with_reducible refine Below.alloc ?_ (by simp; try omega) _))
  · subst h
    go_enter Tryz.func85, Tryz.ntmps85
    go_wp2_with fail
    refine (byCharge_any _ _ _ _ _ _ _ _ _ _ _).mono ?_
    rintro e w' ⟨rfl, rfl⟩
    go_wp2_with fail
    go_ret
    refine ⟨_, rfl, picked_ints HL.out (intsAt1 (by simp [go_sem])) (intsAt1 (by simp [go_sem])) (intsAt1 (by simp [go_sem])), ?_⟩
    exact (by repeat (first | with_reducible exact Below.refl _ _ | with_reducible refine below_drewN ?_ _ | with_reducible refine Below.drew ?_ | with_reducible refine Below.setCell ?_ (by simp) _ | with_reducible refine Below.alloc ?_ (by simp; try omega) _))
  · subst h
    go_enter Tryz.func85, Tryz.ntmps85
    go_wp2_with fail
    refine (byCharge_any _ _ _ _ _ _ _ _ _ _ _).mono ?_
    rintro e w' ⟨rfl, rfl⟩
    go_wp2_with fail
    go_ret
    refine ⟨_, rfl, picked_ints HL.out (intsAt2 (by simp [go_sem]) (by simp [go_sem])) (intsAt1 (by simp [go_sem])) (intsAt1 (by simp [go_sem])), ?_⟩
    exact (by repeat (first | with_reducible exact Below.refl _ _ | with_reducible refine below_drewN ?_ _ | with_reducible refine Below.drew ?_ | with_reducible refine Below.setCell ?_ (by simp) _ | with_reducible refine Below.alloc ?_ (by simp; try omega) _))
  · subst h
    go_enter Tryz.func85, Tryz.ntmps85
    go_wp2_with fail
    refine (byCharge_any _ _ _ _ _ _ _ _ _ _ _).mono ?_
    rintro e w' ⟨rfl, rfl⟩
    go_wp2_with fail
    go_ret
    refine ⟨_, rfl, picked_ints HL.out (intsAt2 (by simp [go_sem]) (by simp [go_sem])) (intsAt1 (by simp [go_sem])) (intsAt1 (by simp [go_sem])), ?_⟩
    exact (by repeat (first | with_reducible exact Below.refl _ _ | with_reducible refine below_drewN ?_ _ | with_reducible refine Below.drew ?_ | with_reducible refine Below.setCell ?_ (by simp) _ | with_reducible refine Below.alloc ?_ (by simp; try omega) _))
  · subst h
    go_enter Tryz.func85, Tryz.ntmps85
    go_wp2_with fail
    refine (byCharge_any _ _ _ _ _ _ _ _ _ _ _).mono ?_
    rintro e w' ⟨rfl, rfl⟩
    go_wp2_with fail
    go_ret
    refine ⟨_, rfl, picked_ints HL.out (intsAt1 (by simp [go_sem])) (intsAt1 (by simp [go_sem])) (intsAt1 (by simp [go_sem])), ?_⟩
    exact (by repeat (first | with_reducible exact Below.refl _ _ | with_reducible refine below_drewN ?_ _ | with_reducible refine Below.drew ?_ | with_reducible refine Below.setCell ?_ (by simp) _ | with_reducible refine Below.alloc ?_ (by simp; try omega) _))
  · subst h
    go_enter Tryz.func85, Tryz.ntmps85
    go_wp2_with fail
    refine (byCharge_any _ _ _ _ _ _ _ _ _ _ _).mono ?_
    rintro e w' ⟨rfl, rfl⟩
    go_wp2_with fail
    go_ret
    refine ⟨_, rfl, picked_ints HL.out (intsAt3 (by simp [go_sem]) (by simp [go_sem]) (by simp [go_sem])) (intsAt2 (by simp [go_sem]) (by simp [go_sem])) (intsAt1 (by simp [go_sem])), ?_⟩
    exact (by repeat (first | with_reducible exact Below.refl _ _ | with_reducible refine below_drewN ?_ _ | with_reducible refine Below.drew ?_ | with_reducible refine Below.setCell ?_ (by simp) _ | with_reducible refine Below.alloc ?_ (by simp; try omega) _))
  · have t1 := str_ne h1
    have t2 := str_ne h2
    have t3 := str_ne h3
    have t4 := str_ne h4
    have t5 := str_ne h5
    have t6 := str_ne h6
    clear h1 h2 h3 h4 h5 h6
    go_enter Tryz.func85, Tryz.ntmps85
    go_wp2_with fail
    refine (byCharge_any _ _ _ _ _ _ _ _ _ _ _).mono ?_
    rintro e w' ⟨rfl, rfl⟩
    go_wp2_with fail
    go_ret
    refine ⟨_, rfl, picked_ints HL.out (intsAt1 (by simp [go_sem])) (intsAt1 (by simp [go_sem])) (intsAt1 (by simp [go_sem])), ?_⟩
    exact (by repeat (first | with_reducible exact Below.refl _ _ | with_reducible refine below_drewN ?_ _ | with_reducible refine Below.drew ?_ | with_reducible refine Below.setCell ?_ (by simp) _ | with_reducible refine Below.alloc ?_ (by simp; try omega) _))

theorem missing_cons (v : Int) (l : List Int) (n : Int) : missing (v :: l) n = if n ≤ v then v - n else missing l n := by
  unfold missing
  rw [List.find?_cons]
  by_cases h : n ≤ v <;> simp [h]

theorem intsAt_below {w w' : World} {v : Value} {l : List Int} (h : IntsAt w v l) (hb : Below w.heap.size w w') : IntsAt w' v l := by
  rcases h with ⟨rfl, rfl⟩ | ⟨g, cap, rfl, hc⟩
  · exact .inl ⟨rfl, rfl⟩
  · refine .inr ⟨g, cap, rfl, fun j x hj => ?_⟩
    have := hc j x hj
    rw [hb.cell (p := ⟨g, j, none⟩) (World.block_lt_of_cell? w _ this)]
    exact this

theorem drop_cons {l : List Int} {i : Nat} {x : Int} (h : l[i]? = some x) : l.drop i = x :: l.drop (i + 1) := by
  obtain ⟨h1, h2⟩ := List.getElem?_eq_some_iff.1 h
  rw [List.drop_eq_getElem_cons h1, h2]

set_option maxRecDepth 100000 in
set_option maxHeartbeats 2000000 in
theorem missing_any (w : World) (v : Value) (l : List Int) (n : Int) (hv : IntsAt w v l) (hl : l.length ≤ 10) (hn : 0 ≤ n ∧ n ≤ 100000) (hx : ∀ x ∈ l, 0 ≤ x ∧ x ≤ 9) :
    Calls Tryz.prog 137 #[v, .int .i64 n] w fun e w' => e = .returned (.int .i64 (missing l n)) ∧ w' = w := by
  rcases hv with ⟨rfl, rfl⟩ | ⟨g, cap, rfl, hc⟩
  · have he : Hid (missing [] n = 0) := rfl
    go_enter Tryz.func137, Tryz.ntmps137
    go_wp2_with fail
    refine wp_loop_rounds 1 ?_
    rw [rounds_succ]
    go_wp2_with fail
    go_ret
    exact ⟨ret_int he.out.symm, rfl⟩
  · have HC : Hid _ := hc
    have HX : Hid _ := hx
    clear hc hx
    go_enter Tryz.func137, Tryz.ntmps137
    go_wp2_with fail
    go_loopg [9] (l.length + 1) (fun k vi wr => ∃ i : Nat, i ≤ l.length ∧ l.length - i ≤ k ∧ vi = .int .i64 i ∧ missing l n = missing (l.drop i) n ∧ wr = w)
    case atStart => exact ⟨0, by omega, by omega, rfl, by simp, rfl⟩
    case round =>
      obtain ⟨i, hi, hk, rfl, hm, rfl⟩ := hrel
      have HM : Hid _ := hm
      clear hm
      by_cases hlt : i < l.length
      · have gi := List.getElem?_eq_getElem hlt
        have c0 := HC.out i _ gi
        have hxi := HX.out l[i] (List.getElem_mem _)
        have hd := drop_cons gi
        have hmc := missing_cons l[i] (l.drop (i + 1)) n
        rw [← hd] at hmc
        have HMC : Hid _ := HM.out.trans hmc
        have hlt' : (i : Int) < (l.length : Int) := by omega
        clear hd hmc gi
        generalize l[i] = x at *
        by_cases hxn : n ≤ x
        · rw [if_pos hxn] at HMC
          go_wp2_with fail
          go_ret
          exact ⟨ret_int HMC.out.symm, rfl⟩
        · rw [if_neg hxn] at HMC
          go_wp2_with fail
          go_roundg (l.length - (i + 1))
          case measure => omega
          case rel => exact ⟨i + 1, by omega, Nat.le_refl _, by go_num, HMC.out, rfl⟩
      · have hlt' : ¬ (i : Int) < (l.length : Int) := by omega
        have he : Hid (missing (l.drop i) n = 0) := by unfold Hid; rw [List.drop_eq_nil_of_le (by omega)]; rfl
        go_wp2_with fail
        go_ret
        exact ⟨ret_int (HM.out.trans he.out).symm, rfl⟩

end Go.Proofs.YtcabaecbmkgclaaGreatDoor

namespace Go.Proofs.YtcabaecbmkgclaaGreatDoor
open Go.RowKit Bz

def IdxOk (l : List Int) (n r : Int) : Prop := decide (0 ≤ r) = l.contains n

set_option maxRecDepth 100000 in
set_option maxHeartbeats 2000000 in
theorem index_any (w : World) (v : Value) (l : List Int) (n : Int) (hv : IntsAt w v l) (hl : l.length ≤ 10) :
    Calls Tryz.prog 158 #[v, .int .i64 n] w fun e w' => ∃ r : Int, e = .returned (.int .i64 r) ∧ IdxOk l n r ∧ w' = w := by
  rcases hv with ⟨rfl, rfl⟩ | ⟨g, cap, rfl, hc⟩
  · go_enter Tryz.func158, Tryz.ntmps158
    go_wp2_with fail
    refine wp_loop_rounds 1 ?_
    rw [rounds_succ]
    go_wp2_with fail
    go_ret
    exact ⟨-1, rfl, by unfold IdxOk; simp, rfl⟩
  · have HC : Hid _ := hc
    clear hc
    go_enter Tryz.func158, Tryz.ntmps158
    go_wp2_with fail
    go_loopg [8] (l.length + 1) (fun k vi wr => ∃ i : Nat, i ≤ l.length ∧ l.length - i ≤ k ∧ vi = .int .i64 i ∧ l.contains n = (l.drop i).contains n ∧ wr = w)
    case atStart => exact ⟨0, by omega, by omega, rfl, by simp, rfl⟩
    case round =>
      obtain ⟨i, hi, hk, rfl, hm, rfl⟩ := hrel
      have HM : Hid _ := hm
      clear hm
      by_cases hlt : i < l.length
      · have gi := List.getElem?_eq_getElem hlt
        have c0 := HC.out i _ gi
        have hd := drop_cons gi
        have hlt' : (i : Int) < (l.length : Int) := by omega
        have HD : Hid _ := hd
        clear hd gi
        generalize l[i] = x at *
        by_cases hxn : n = x
        · have tx : (n == x) = true := by simpa using hxn
          have he : Hid (l.contains n = true) := by unfold Hid; rw [HM.out, HD.out, hxn]; simp
          clear hxn
          go_wp2_with fail
          go_ret
          exact ⟨_, rfl, by unfold IdxOk; rw [he.out]; simp, rfl⟩
        · have tx : (n == x) = false := by simpa using hxn
          have he : Hid (l.contains n = (l.drop (i + 1)).contains n) := by unfold Hid; rw [HM.out, HD.out, List.contains_cons, tx, Bool.false_or]
          clear hxn
          go_wp2_with fail
          go_roundg (l.length - (i + 1))
          case measure => omega
          case rel => exact ⟨i + 1, by omega, Nat.le_refl _, by go_num, he.out, rfl⟩
      · have hlt' : ¬ (i : Int) < (l.length : Int) := by omega
        have he : Hid (l.contains n = false) := by unfold Hid; rw [HM.out, List.drop_eq_nil_of_le (by omega)]; rfl
        go_wp2_with fail
        go_ret
        exact ⟨-1, rfl, by unfold IdxOk; rw [he.out]; rfl, rfl⟩

set_option maxHeartbeats 400000 in
theorem contains_any (w : World) (v : Value) (l : List Int) (n : Int) (hv : IntsAt w v l) (hl : l.length ≤ 10) :
    Calls Tryz.prog 139 #[v, .int .i64 n] w fun e w' => e = .returned (.bool (l.contains n)) ∧ w' = w := by
  have hI := index_any w v l n hv hl
  go_enter Tryz.func139, Tryz.ntmps139
  go_wp2_with fail
  refine hI.mono ?_
  rintro e w' ⟨r, rfl, hr, rfl⟩
  have HR : Hid _ := hr
  clear hr
  go_wp2_with fail
  go_ret
  exact ⟨ret_bool HR.out, rfl⟩

def aV (a : Atm) : Value := .agg #[.string a.el, .bool a.aro, .int .i64 a.ch, .int .i64 a.hy]

theorem valences_len (el : ByteArray) (ch : Int) : (valences el ch).length ≤ 3 ∧ ∀ x ∈ valences el ch, 0 ≤ x ∧ x ≤ 9 := by
  obtain ⟨a, b, c, hl, hc⟩ := valences_pick el ch
  rw [hl]
  rcases hc with ⟨_, rfl, rfl, rfl⟩ | ⟨_, rfl, rfl, rfl⟩ | ⟨_, rfl, rfl, rfl⟩ | ⟨_, rfl, rfl, rfl⟩ | ⟨_, rfl, rfl, rfl⟩ | ⟨_, rfl, rfl, rfl⟩
  all_goals
    split
    · simp
    · split <;> simp

set_option maxHeartbeats 1000000 in
theorem firstValence_any (a : Atm) (x : Int) (r : List Int) (hx : valences a.el a.ch = x :: r) (w : World) :
    Calls Tryz.prog 61 #[aV a] w fun e w' => e = .returned (.int .i64 x) ∧ Below w.heap.size w w' := by
  unfold aV
  go_enter Tryz.func61, Tryz.ntmps61
  go_wp2_with fail
  refine (valencesOf_any _ _ _).mono ?_
  rintro e w1 ⟨v, rfl, hv, hb⟩
  rw [hx] at hv
  rcases hv with ⟨h, _⟩ | ⟨g, cap, rfl, hc⟩
  · cases h
  · have c0 := hc 0 x rfl
    have hl : (x :: r).length = r.length + 1 := rfl
    rw [hl]
    clear hx hc hl
    go_wp2_with fail
    go_ret
    exact ⟨rfl, ((Below.refl _ _).alloc (Nat.le_refl _) _).trans (hb.mono (by simp))⟩

set_option maxHeartbeats 1000000 in
theorem implied_any (a : Atm) (n : Int) (hn : 0 ≤ n ∧ n ≤ 100000) (w : World) :
    Calls Tryz.prog 108 #[aV a, .int .i64 n] w fun e w' => e = .returned (.int .i64 (implied a n)) ∧ Below w.heap.size w w' := by
  unfold aV
  cases ha : a.aro
  · have HI : Hid (implied a n = missing (valences a.el a.ch) n) := by unfold Hid implied; rw [ha]; rfl
    clear ha
    go_enter Tryz.func108, Tryz.ntmps108
    go_wp2_with fail
    refine (valencesOf_any _ _ _).mono ?_
    rintro e w1 ⟨v, rfl, hv, hb⟩
    have hM := missing_any w1 v _ n hv (by have := (valences_len a.el a.ch).1; omega) hn (valences_len a.el a.ch).2
    clear hv
    go_wp2_with fail
    refine hM.mono ?_
    rintro e w2 ⟨rfl, rfl⟩
    go_wp2_with fail
    go_ret
    exact ⟨ret_int HI.out.symm, ((Below.refl _ _).alloc (Nat.le_refl _) _).trans (hb.mono (by simp))⟩
  · obtain ⟨n0, n1⟩ := hn
    by_cases hc : a.el = ⟨#[67]⟩
    · have HI : Hid (implied a n = max (3 - n) 0) := by unfold Hid implied; rw [ha, if_pos rfl, if_pos hc]
      rw [hc]
      clear ha hc
      by_cases h3 : n ≤ 3
      · have e : Hid (max (3 - n) 0 = 3 - n) := by unfold Hid; omega
        go_enter Tryz.func108, Tryz.ntmps108
        go_wp2_with fail
        go_ret
        exact ⟨ret_int (HI.out.trans e.out).symm, (Below.refl _ _).alloc (Nat.le_refl _) _⟩
      · have e : Hid (max (3 - n) 0 = 0) := by unfold Hid; omega
        go_enter Tryz.func108, Tryz.ntmps108
        go_wp2_with fail
        go_ret
        exact ⟨ret_int (HI.out.trans e.out).symm, (Below.refl _ _).alloc (Nat.le_refl _) _⟩
    · have HI : Hid (implied a n = 0) := by unfold Hid implied; rw [ha, if_pos rfl, if_neg hc]
      have tc := str_ne hc
      clear ha hc
      go_enter Tryz.func108, Tryz.ntmps108
      go_wp2_with fail
      go_ret
      exact ⟨ret_int HI.out.symm, (Below.refl _ _).alloc (Nat.le_refl _) _⟩
end Go.Proofs.YtcabaecbmkgclaaGreatDoor

namespace Go.Proofs.YtcabaecbmkgclaaGreatDoor
open Go.RowKit Bz

section
variable {w : World} {B : Nat} {s : ByteArray} {p : St}

/-- Atom i in the list: where its six cells lie. -/
structure AtI (w : World) (B g cap n i : Nat) (a : Atm) : Prop where
  sl : w.cell? ⟨B, 26, none⟩ = some (.slice (some ⟨g, 0, none⟩) n cap)
  c0 : w.cell? ⟨g, i * 6, none⟩ = some (.string a.el)
  c1 : w.cell? ⟨g, i * 6 + 1, none⟩ = some (.bool a.aro)
  c2 : w.cell? ⟨g, i * 6 + 2, none⟩ = some (.int .i64 a.ch)
  c3 : w.cell? ⟨g, i * 6 + 3, none⟩ = some (.int .i64 a.hy)
  c4 : w.cell? ⟨g, i * 6 + 4, none⟩ = some (.int .i64 a.pl)
  c5 : w.cell? ⟨g, i * 6 + 5, none⟩ = some (.bool a.br)

theorem Rd.atI (h : Rd w B s p) {i : Nat} {a : Atm} (hi : p.atoms[i]? = some a) : ∃ g cap, AtI w B g cap p.atoms.length i a ∧ g < w.heap.size := by
  have hl : i < p.atoms.length := (List.getElem?_eq_some_iff.1 hi).1
  obtain ⟨g, cap, hv, hc, _, _, hg⟩ := h.atomsAt (by omega)
  exact ⟨g, cap, ⟨hv, hc i a 0 _ hi rfl, hc i a 1 _ hi rfl, hc i a 2 _ hi rfl, hc i a 3 _ hi rfl, hc i a 4 _ hi rfl, hc i a 5 _ hi rfl⟩, hg⟩

theorem AtI.below {w' : World} {g cap n i : Nat} {a : Atm} (h : AtI w B g cap n i a) (hB : B < w.heap.size) (hg : g < w.heap.size) (hb : Below w.heap.size w w') : AtI w' B g cap n i a :=
  ⟨(hb.cell (p := ⟨B, 26, none⟩) hB).trans h.sl, (hb.cell (p := ⟨g, i * 6, none⟩) hg).trans h.c0, (hb.cell (p := ⟨g, i * 6 + 1, none⟩) hg).trans h.c1, (hb.cell (p := ⟨g, i * 6 + 2, none⟩) hg).trans h.c2,
    (hb.cell (p := ⟨g, i * 6 + 3, none⟩) hg).trans h.c3, (hb.cell (p := ⟨g, i * 6 + 4, none⟩) hg).trans h.c4, (hb.cell (p := ⟨g, i * 6 + 5, none⟩) hg).trans h.c5⟩

theorem sum_bound (o : Ok s p) (hs : s.size ≤ 160) (i : Nat) : 0 ≤ Bz.sum p.bonds i ∧ Bz.sum p.bonds i ≤ 1000 := by
  have h := sum_bd p.bonds i o.ords p.bonds.length (Nat.le_refl _)
  rw [List.take_length] at h
  have := o.bonds
  have := o.pos
  omega

def fill (p : St) (i : Nat) (a : Atm) : Int := Bz.sum p.bonds i + a.hy

set_option maxRecDepth 100000 in
set_option maxHeartbeats 2000000 in
theorem filled_any (h : Rd w B s p) (o : Ok s p) (hs : s.size ≤ 160) (i : Nat) (a : Atm) (hi : p.atoms[i]? = some a) :
    Calls Tryz.prog 60 #[.pointer (some ⟨B, 2, none⟩), .int .i64 i] w fun e w' => e = .returned (.int .i64 (fill p i a)) ∧ Below w.heap.size w w' := by
  obtain ⟨g, cap, hA, hg⟩ := h.atI hi
  have hB := h.lt
  have hl : i < p.atoms.length := (List.getElem?_eq_some_iff.1 hi).1
  have hl' : (i : Int) < (p.atoms.length : Int) := by omega
  have hn := o.atoms
  have hsb := sum_bound o hs i
  have hhy := o.hys a (List.mem_of_getElem? hi)
  have hS : Calls Tryz.prog 84 #[.pointer (some ⟨B, 2, none⟩), .int .i64 i] w.drew fun e w' => e = .returned (.int .i64 (Bz.sum p.bonds i)) ∧ Below w.heap.size w w' ∧ w'.cell? ⟨B, 26, none⟩ = some (.slice (some ⟨g, 0, none⟩) p.atoms.length cap) ∧ w'.cell? ⟨g, i * 6 + 3, none⟩ = some (.int .i64 a.hy) := by
    refine (sum_any h.drew i (by have := o.bonds; have := o.pos; omega) o.ords).mono ?_
    rintro e w' ⟨he, hb⟩
    have hb' : Below w.heap.size w w' := (Below.refl _ _).drew.trans hb
    have hA' := hA.below hB hg hb'
    exact ⟨he, hb', hA'.sl, hA'.c3⟩
  have HF : Hid (fill p i a = Bz.sum p.bonds i + a.hy) := rfl
  have q0 := hA.sl
  have q1 := hA.c3
  clear hA
  generalize Bz.sum p.bonds i = sm at *
  generalize a.hy = hy at *
  go_enter Tryz.func60, Tryz.ntmps60
  go_wp2_with fail
  go_region_held3 (fun w' => w'.cell? ⟨B, 26, none⟩ = some (.slice (some ⟨g, 0, none⟩) p.atoms.length cap) ∧ w'.cell? ⟨g, i * 6 + 3, none⟩ = some (.int .i64 hy)) (go_keep) (first | (go_at_call 84; refine hS.mono ?_; rintro e w' ⟨rfl, hb, i0, i1⟩))
  all_goals
    go_wp2_with fail
    go_ret
    exact ⟨ret_int (by first | exact HF.out.symm | (rw [HF.out, IntKind.wrap_i64]; omega)), hb⟩

/-- The atom in candidate's own box. -/
structure CandAt (w wx : World) (a : Atm) : Prop where
  c0 : wx.cell? ⟨w.heap.size, 0, none⟩ = some (.string a.el)
  c1 : wx.cell? ⟨w.heap.size, 1, none⟩ = some (.bool a.aro)
  c2 : wx.cell? ⟨w.heap.size, 2, none⟩ = some (.int .i64 a.ch)
  c3 : wx.cell? ⟨w.heap.size, 3, none⟩ = some (.int .i64 a.hy)
  below : Below w.heap.size w wx

theorem CandAt.step {wx w' : World} {a : Atm} (h : CandAt w wx a) (hb : Below wx.heap.size wx w') : CandAt w w' a := by
  have hl : w.heap.size < wx.heap.size := World.block_lt_of_cell? wx ⟨w.heap.size, 0, none⟩ h.c0
  exact ⟨(hb.cell (p := ⟨w.heap.size, 0, none⟩) hl).trans h.c0, (hb.cell (p := ⟨w.heap.size, 1, none⟩) hl).trans h.c1, (hb.cell (p := ⟨w.heap.size, 2, none⟩) hl).trans h.c2, (hb.cell (p := ⟨w.heap.size, 3, none⟩) hl).trans h.c3, h.below.trans (hb.mono h.below.size)⟩

set_option maxRecDepth 100000 in
set_option maxHeartbeats 2000000 in
theorem candidate_yes (h : Rd w B s p) (o : Ok s p) (hs : s.size ≤ 160) (i : Nat) (a : Atm) (hi : p.atoms[i]? = some a) (ha : a.aro = true) (x : Int) (r : List Int) (hx : valences a.el a.ch = x :: r) :
    Calls Tryz.prog 32 #[.pointer (some ⟨B, 2, none⟩), .int .i64 i] w fun e w' => e = .returned (.bool (fill p i a == x - 1)) ∧ Below w.heap.size w w' := by
  obtain ⟨g, cap, hA, hg⟩ := h.atI hi
  have hB := h.lt
  have hl : i < p.atoms.length := (List.getElem?_eq_some_iff.1 hi).1
  have hl' : (i : Int) < (p.atoms.length : Int) := by omega
  have hn := o.atoms
  have hx9 := (valences_len a.el a.ch).2 x (by rw [hx]; simp)
  have HW : Hid (∀ wx, CandAt w wx a → Calls Tryz.prog 60 #[.pointer (some ⟨B, 2, none⟩), .int .i64 i] wx fun e w' => e = .returned (.int .i64 (fill p i a)) ∧ CandAt w w' a ∧ w'.cell? ⟨w.heap.size, 0, none⟩ = some (.string a.el) ∧
      w'.cell? ⟨w.heap.size, 1, none⟩ = some (.bool true) ∧ w'.cell? ⟨w.heap.size, 2, none⟩ = some (.int .i64 a.ch) ∧ w'.cell? ⟨w.heap.size, 3, none⟩ = some (.int .i64 a.hy)) := by
    intro wx hwx
    refine (filled_any (h.below hwx.below) o hs i a hi).mono ?_
    rintro e w' ⟨he, hb⟩
    have hc := hwx.step hb
    exact ⟨he, hc, hc.c0, ha ▸ hc.c1, hc.c2, hc.c3⟩
  have HV : Hid (∀ wx, CandAt w wx a → Calls Tryz.prog 61 #[.agg #[.string a.el, .bool true, .int .i64 a.ch, .int .i64 a.hy]] wx fun e w' => e = .returned (.int .i64 x) ∧ CandAt w w' a ∧ w'.cell? ⟨w.heap.size, 0, none⟩ = some (.string a.el) ∧
      w'.cell? ⟨w.heap.size, 1, none⟩ = some (.bool true) ∧ w'.cell? ⟨w.heap.size, 2, none⟩ = some (.int .i64 a.ch) ∧ w'.cell? ⟨w.heap.size, 3, none⟩ = some (.int .i64 a.hy)) := by
    intro wx hwx
    have hfv := firstValence_any a x r hx wx
    unfold aV at hfv
    rw [ha] at hfv
    refine hfv.mono ?_
    rintro e w' ⟨he, hb⟩
    have hc := hwx.step hb
    exact ⟨he, hc, hc.c0, ha ▸ hc.c1, hc.c2, hc.c3⟩
  have q0 := hA.sl
  have q1 := hA.c0
  have q2 := hA.c1
  rw [ha] at q2
  have q3 := hA.c2
  have q4 := hA.c3
  have hb0 : CandAt w ((w.alloc (.cells #[.string a.el, .bool true, .int .i64 a.ch, .int .i64 a.hy] 50)).drew) a := ⟨by simp [go_sem], by rw [ha]; simp [go_sem], by simp [go_sem], by simp [go_sem], ((Below.refl _ _).alloc (Nat.le_refl _) _).drew⟩
  have HX : Hid (0 ≤ x ∧ x ≤ 9) := hx9
  clear hA hx hx9 ha
  generalize fill p i a = fl at *
  go_enter Tryz.func32, Tryz.ntmps32
  go_wp2_with fail
  go_region_held3 (fun w' => w'.cell? ⟨w.heap.size, 0, none⟩ = some (.string a.el) ∧ w'.cell? ⟨w.heap.size, 1, none⟩ = some (.bool true) ∧ w'.cell? ⟨w.heap.size, 2, none⟩ = some (.int .i64 a.ch) ∧ w'.cell? ⟨w.heap.size, 3, none⟩ = some (.int .i64 a.hy)) (go_keep) (first | (go_at_call 60; refine (HW.out _ (by assumption)).mono ?_; rintro e w' ⟨rfl, hb, i0, i1, i2, i3⟩) | (go_at_call 61; refine (HV.out _ (by assumption)).mono ?_; rintro e w' ⟨rfl, hb', j0, j1, j2, j3⟩))
  all_goals
    go_wp2_with fail
    go_ret
    exact ⟨ret_bool (by have := HX.out; first | rfl | (rw [IntKind.wrap_i64, show (x - 1 + 9223372036854775808) % 18446744073709551616 - 9223372036854775808 = x - 1 from by omega])), (show CandAt w _ a by assumption).below⟩

set_option maxRecDepth 100000 in
set_option maxHeartbeats 2000000 in
theorem candidate_no (h : Rd w B s p) (i : Nat) (a : Atm) (hi : p.atoms[i]? = some a) (ha : a.aro = false) :
    Calls Tryz.prog 32 #[.pointer (some ⟨B, 2, none⟩), .int .i64 i] w fun e w' => e = .returned (.bool false) ∧ Below w.heap.size w w' := by
  obtain ⟨g, cap, hA, hg⟩ := h.atI hi
  have hB := h.lt
  have hl : i < p.atoms.length := (List.getElem?_eq_some_iff.1 hi).1
  have hl' : (i : Int) < (p.atoms.length : Int) := by omega
  have q0 := hA.sl
  have q1 := hA.c0
  have q2 := hA.c1
  rw [ha] at q2
  have q3 := hA.c2
  have q4 := hA.c3
  have HB : Hid (∀ n, Below w.heap.size w ((w.alloc (.cells #[.string a.el, .bool false, .int .i64 a.ch, .int .i64 a.hy] 50)).drewN n)) := fun n => below_drewN ((Below.refl _ _).alloc (Nat.le_refl _) _) n
  clear hA ha
  go_enter Tryz.func32, Tryz.ntmps32
  go_wp2_with fail
  go_quiet (fail)
  go_wp2_with fail
  go_ret
  exact ⟨rfl, HB.out _⟩

set_option maxRecDepth 100000 in
set_option maxHeartbeats 2000000 in
theorem finished_any (h : Rd w B s p) (o : Ok s p) (hs : s.size ≤ 160) (i : Nat) (a : Atm) (hi : p.atoms[i]? = some a) (x : Int) (r : List Int) (hx : valences a.el a.ch = x :: r) :
    Calls Tryz.prog 138 #[.pointer (some ⟨B, 2, none⟩), .int .i64 i] w fun e w' => e = .returned (.bool (fill p i a == x)) ∧ Below w.heap.size w w' := by
  obtain ⟨g, cap, hA, hg⟩ := h.atI hi
  have hB := h.lt
  have hl : i < p.atoms.length := (List.getElem?_eq_some_iff.1 hi).1
  have hl' : (i : Int) < (p.atoms.length : Int) := by omega
  have hn := o.atoms
  have hx9 := (valences_len a.el a.ch).2 x (by rw [hx]; simp)
  have HW : Hid (∀ wx, Below w.heap.size w wx → Calls Tryz.prog 60 #[.pointer (some ⟨B, 2, none⟩), .int .i64 i] wx fun e w' => e = .returned (.int .i64 (fill p i a)) ∧ Below w.heap.size w w' ∧ w'.cell? ⟨B, 26, none⟩ = some (.slice (some ⟨g, 0, none⟩) p.atoms.length cap) ∧ w'.cell? ⟨g, i * 6, none⟩ = some (.string a.el) ∧
      w'.cell? ⟨g, i * 6 + 1, none⟩ = some (.bool a.aro) ∧ w'.cell? ⟨g, i * 6 + 2, none⟩ = some (.int .i64 a.ch) ∧ w'.cell? ⟨g, i * 6 + 3, none⟩ = some (.int .i64 a.hy)) := by
    intro wx hwx
    refine (filled_any (h.below hwx) o hs i a hi).mono ?_
    rintro e w' ⟨he, hb⟩
    have hb' : Below w.heap.size w w' := hwx.trans (hb.mono hwx.size)
    have hA' := hA.below hB hg hb'
    exact ⟨he, hb', hA'.sl, hA'.c0, hA'.c1, hA'.c2, hA'.c3⟩
  have HV : Hid (∀ wx, Below w.heap.size w wx → Calls Tryz.prog 61 #[.agg #[.string a.el, .bool a.aro, .int .i64 a.ch, .int .i64 a.hy]] wx fun e w' => e = .returned (.int .i64 x) ∧ Below w.heap.size w w' ∧ w'.cell? ⟨B, 26, none⟩ = some (.slice (some ⟨g, 0, none⟩) p.atoms.length cap) ∧ w'.cell? ⟨g, i * 6, none⟩ = some (.string a.el) ∧
      w'.cell? ⟨g, i * 6 + 1, none⟩ = some (.bool a.aro) ∧ w'.cell? ⟨g, i * 6 + 2, none⟩ = some (.int .i64 a.ch) ∧ w'.cell? ⟨g, i * 6 + 3, none⟩ = some (.int .i64 a.hy)) := by
    intro wx hwx
    refine (firstValence_any a x r hx wx).mono ?_
    rintro e w' ⟨he, hb⟩
    have hb' : Below w.heap.size w w' := hwx.trans (hb.mono hwx.size)
    have hA' := hA.below hB hg hb'
    exact ⟨he, hb', hA'.sl, hA'.c0, hA'.c1, hA'.c2, hA'.c3⟩
  have q0 := hA.sl
  have q1 := hA.c0
  have q2 := hA.c1
  have q3 := hA.c2
  have q4 := hA.c3
  have hb0 : Below w.heap.size w w.drew := (Below.refl _ _).drew
  clear hA hx
  generalize fill p i a = fl at *
  go_enter Tryz.func138, Tryz.ntmps138
  go_wp2_with fail
  go_region_held3 (fun w' => w'.cell? ⟨B, 26, none⟩ = some (.slice (some ⟨g, 0, none⟩) p.atoms.length cap) ∧ w'.cell? ⟨g, i * 6, none⟩ = some (.string a.el) ∧ w'.cell? ⟨g, i * 6 + 1, none⟩ = some (.bool a.aro) ∧ w'.cell? ⟨g, i * 6 + 2, none⟩ = some (.int .i64 a.ch) ∧ w'.cell? ⟨g, i * 6 + 3, none⟩ = some (.int .i64 a.hy)) (go_keep) (first | (go_at_call 60; refine (HW.out _ (by assumption)).mono ?_; rintro e w' ⟨rfl, hb, i0, i1, i2, i3, i4⟩) | (go_at_call 61; refine (HV.out _ (by assumption)).mono ?_; rintro e w' ⟨rfl, hb', j0, j1, j2, j3, j4⟩))
  all_goals
    go_wp2_with fail
    go_ret
    exact ⟨ret_bool (by first | rfl | rfl), by assumption⟩
end
end Go.Proofs.YtcabaecbmkgclaaGreatDoor
