/-
  A text that is written again in capitals: rings, branches, chains (no program).
-/
import Derived.Test.YtcabaecbmkgclaaGreatDoorR45
namespace Go.Proofs.YtcabaecbmkgclaaGreatDoor
open Bz
/-- Ahead of which places there is a sign of a double bond: those of the aromatic bonds that e tells. -/
def dOf (L : List Bnd) (e : Bnd → Bool) (x : Nat) : Bool := L.any fun b => b.pl == x && (b.o == 4 && e b)

theorem dOf_mem {L : List Bnd} {e : Bnd → Bool} {x : Nat} : dOf L e x = true ↔ ∃ b ∈ L, b.pl = x ∧ b.o = 4 ∧ e b = true := by
  unfold dOf
  rw [List.any_eq_true]
  simp only [Bool.and_eq_true, beq_iff_eq]

/-- All bonds so far lie ahead. -/
def Pre (p : St) : Prop := ∀ b ∈ p.bonds, b.pl < p.pos
/-- All bonds to come lie behind. -/
def Rem (L : List Bnd) (q : St) : Prop := ∃ r, L = q.bonds ++ r ∧ ∀ b ∈ r, q.pos ≤ b.pl

section
variable {L : List Bnd} {e : Bnd → Bool} {s W : ByteArray} {p P q : St}
theorem Pre.on (h : Pre p) (g : Gon s p q) : Pre q := by
  obtain ⟨h1, ⟨n, h2, h3⟩, _⟩ := g
  intro b hb
  rw [h2, List.mem_append] at hb
  rcases hb with hb | hb
  · have := h b hb; omega
  · exact (h3 b hb).2.1
theorem Rem.back (h : Rem L q) (g : Gon s p q) : Rem L p := by
  obtain ⟨h1, ⟨n, h2, h3⟩, _⟩ := g
  obtain ⟨r, k1, k2⟩ := h
  refine ⟨n ++ r, by rw [k1, h2, List.append_assoc], fun b hb => ?_⟩
  rw [List.mem_append] at hb
  rcases hb with hb | hb
  · exact (h3 b hb).1
  · have := k2 b hb; omega

theorem d_new {new : List Bnd} (hp : Pre p) (hq : Rem L q) (hn : q.bonds = p.bonds ++ new) {y : Nat} (h1 : p.pos ≤ y) (h2 : y < q.pos) (hd : dOf L e y = true) : ∃ b ∈ new, b.pl = y ∧ b.o = 4 := by
  obtain ⟨b, hb, k1, k2, _⟩ := dOf_mem.1 hd
  obtain ⟨r, r1, r2⟩ := hq
  rw [r1, hn, List.mem_append, List.mem_append] at hb
  rcases hb with (hb | hb) | hb
  · have := hp b hb; omega
  · exact ⟨b, hb, k1, k2⟩
  · have := r2 b hb; omega

theorem d_gap {new : List Bnd} (hp : Pre p) (hq : Rem L q) (hn : q.bonds = p.bonds ++ new) {y : Nat} (h1 : p.pos ≤ y) (h2 : y < q.pos) (hy : ∀ b ∈ new, b.pl = y → b.o ≠ 4) : dOf L e y = false := by
  cases hd : dOf L e y
  · rfl
  · obtain ⟨b, hb, k1, k2⟩ := d_new hp hq hn h1 h2 hd
    exact absurd k2 (hy b hb k1)

/-- What an atom adds. -/
theorem atom_new {a : Nat} {g : Hung} (h : atom s g p = .ok (a, q)) : (g.atom = -1 ∧ q.bonds = p.bonds ++ []) ∨ (g.atom ≠ -1 ∧ ∃ b, q.bonds = p.bonds ++ [b] ∧ b.pl = p.pos ∧ (g.mark = 45 ∨ g.mark = 61 ∨ g.mark = 35 → b.o ≠ 4)) := by
  unfold atom at h
  simp only at h
  split at h
  · split at h <;> cases h
  split at h
  · cases h
  split at h
  · cases h
  split at h
  · cases h
  simp only [Except.ok.injEq, Prod.mk.injEq] at h
  rw [← h.2]
  split
  · rename_i h1
    exact .inl ⟨h1, by simp⟩
  · rename_i h1
    refine .inr ⟨h1, _, rfl, rfl, fun hm => ?_⟩
    show order _ g.mark _ _ ≠ 4
    unfold order
    rcases hm with hm | hm | hm <;> rw [hm] <;> simp

theorem atom_d (hp : Pre p) (e0 : Lx s p.pos) {a : Nat} {g : Hung} (h : atom s g p = .ok (a, q)) (hq : Rem L q) :
    (∀ y, p.pos < y → y < q.pos → dOf L e y = false) ∧ (dOf L e p.pos = true → ∃ b, q.bonds = p.bonds ++ [b] ∧ b.o = 4) ∧ (g.mark = 45 ∨ g.mark = 61 ∨ g.mark = 35 → dOf L e p.pos = false) ∧ (g.atom = -1 → dOf L e p.pos = false) := by
  obtain ⟨_, go⟩ := atom_lx h e0
  have hlt : p.pos < q.pos := by
    unfold atom at h
    simp only at h
    split at h
    · split at h <;> cases h
    rename_i el ar n hel
    split at h
    · cases h
    split at h
    · cases h
    split at h
    · cases h
    rename_i ch hy j hb
    have hj : q.pos = j := by
      simp only [Except.ok.injEq, Prod.mk.injEq] at h
      rw [← h.2]
      split <;> rfl
    rw [hj]
    cases h91 : (byteAt s p.pos == 91)
    · rw [h91] at hel hb
      simp only [Bool.false_eq_true, if_false, Except.ok.injEq, Prod.mk.injEq] at hel hb
      have := (elem_lx hel e0).2.2
      omega
    · rw [h91] at hel hb
      simp only [if_true] at hel hb
      have := (bracket_pos hb).1
      simp only at this
      omega
  rcases atom_new h with ⟨h1, h2⟩ | ⟨h1, b, h2, h3, h4⟩
  · refine ⟨fun y y1 y2 => d_gap hp hq h2 (by omega) y2 (by simp), fun hd => ?_, fun _ => d_gap hp hq h2 (by omega) hlt (by simp), fun _ => d_gap hp hq h2 (by omega) hlt (by simp)⟩
    obtain ⟨b, hb, _⟩ := d_new hp hq h2 (by omega) hlt hd
    simp at hb
  · refine ⟨fun y y1 y2 => d_gap hp hq h2 (by omega) y2 (by simp; omega), fun hd => ?_, fun hm => d_gap hp hq h2 (by omega) hlt (by simp only [List.mem_singleton]; rintro b rfl _; exact h4 hm), fun h => absurd h h1⟩
    obtain ⟨b', hb, _, k2⟩ := d_new hp hq h2 (by omega) hlt hd
    rw [List.mem_singleton] at hb
    subst hb
    exact ⟨_, h2, k2⟩

theorem clash_iff {a b : Int} : clash a b = true ↔ a ≠ 0 ∧ b ≠ 0 ∧ a ≠ b := by
  unfold clash
  simp only [Bool.and_eq_true, bne_iff_ne, ne_eq, and_assoc]

theorem close_w {d : Nat → Bool} (R : Wl d p P) {f F l K : Hung} {x pl : Nat} (hfa : F.atom = f.atom) (hfm : F.mark = m58 f.mark) (hfo : MkOk f.mark) (hl : HW d x l K) (hr : closeRing f l x p = .ok q) (hd : d x = true → ∃ b, q.bonds = p.bonds ++ [b] ∧ b.o = 4) :
    ∃ Q, closeRing F K pl P = .ok Q ∧ Wl d q Q ∧ Q.pos = P.pos := by
  have hK58 : K.mark ≠ 58 := by
    rw [hl.mark]
    unfold m58
    split
    · omega
    · split <;> omega
  have hF58 : F.mark ≠ 58 := by
    rw [hfm]
    unfold m58
    split <;> omega
  unfold closeRing at hr
  simp only at hr
  split at hr
  · cases hr
  split at hr
  · cases hr
  split at hr
  · cases hr
  rename_i c3
  cases hr
  have hd4 : d x = true → order p (given f.mark l.mark) f.atom l.atom = 4 := fun h => by
    obtain ⟨b, h1, h2⟩ := hd h
    simp only [Bz.bind] at h1
    have := List.append_cancel_left h1
    simp only [List.cons.injEq, and_true] at this
    rw [← this] at h2
    exact h2
  simp only [not_or] at c3
  obtain ⟨n1, n2, n3⟩ := c3
  rw [clash_iff] at n3
  have hlo := hl.ok
  have gm : MkOk (given f.mark l.mark) := by unfold given; split <;> assumption
  have hg4 : d x = true → f.mark = 0 ∨ f.mark = 58 := fun h => by
    have h4 := hd4 h
    unfold order at h4
    unfold given at h4 gm
    by_cases h0 : f.mark = 0
    · exact .inl h0
    · rw [if_neg h0] at h4
      unfold MkOk at hfo
      rcases hfo with k | k | k | k | k
      · exact .inl k
      · rw [k] at h4; simp at h4
      · rw [k] at h4; simp at h4
      · rw [k] at h4; simp at h4
      · exact .inr k
  have hgv : given F.mark K.mark = if d x then 61 else m58 (given f.mark l.mark) := by
    rw [hfm, hl.mark]
    cases hx : d x
    · simp only [Bool.false_eq_true, if_false]
      unfold given m58
      unfold MkOk at hfo hlo
      by_cases h0 : f.mark = 0
      · simp [h0]
      · rw [if_neg h0]
        by_cases h58 : f.mark = 58
        · simp only [h58, if_true]
          rcases hlo with k | k | k | k | k
          · rw [k]; rfl
          all_goals first
            | (rw [k]; rfl)
            | (exfalso; exact n3 ⟨h0, by omega, by omega⟩)
        · rw [if_neg h58, if_neg h0]
    · simp only [if_true]
      have := hg4 hx
      unfold given m58
      rcases this with h | h <;> simp [h]
  have hncl : ¬ clash F.mark K.mark = true := by
    rw [clash_iff, hfm, hl.mark]
    unfold m58
    cases hx : d x
    · simp only [Bool.false_eq_true, if_false]
      split
      · simp
      · split
        · simp
        · exact n3
    · have := hg4 hx
      rcases this with h | h <;> simp [h]
  refine ⟨_, ?_, R.bind (pl' := pl) (order_w (p := p) (m := given f.mark l.mark) (M := given F.mark K.mark) (aro_no R.atoms) rfl gm hgv hd4), rfl⟩
  unfold closeRing
  simp only
  rw [if_neg (fun h => hK58 h.1), if_neg (fun h => hF58 h.1), if_neg ?_, hfa, hl.atom]
  rw [hfa, hl.atom, R.bonded]
  simp only [not_or]
  exact ⟨n1, n2, hncl⟩

/-- What a ring number adds. -/
theorem ring_new {a : Nat} (h : ring s a p = .ok q) : ∃ g p1 k j, bondEnd s a p = .ok (g, p1) ∧ ringNumber s p1.pos = .ok (k, j) ∧ q.pos = j ∧ p1.bonds = p.bonds ∧ (q.bonds = p.bonds ++ [] ∨ ∃ b, q.bonds = p.bonds ++ [b] ∧ b.pl = p1.pos ∧ (g.mark = 45 ∨ g.mark = 61 ∨ g.mark = 35 → b.o ≠ 4)) := by
  unfold ring at h
  split at h
  · cases h
  rename_i g p1 he
  split at h
  · cases h
  rename_i k j hn
  have hb : p1.bonds = p.bonds := by
    unfold bondEnd at he
    simp only at he
    split at he
    · split at he
      · cases he
      · cases he; rfl
    · cases he; rfl
  refine ⟨g, p1, k, j, he, hn, ?_⟩
  split at h
  · cases h
    exact ⟨rfl, hb, .inl (by simp [hb])⟩
  · rename_i o ho
    unfold closeRing at h
    simp only at h
    split at h
    · cases h
    split at h
    · cases h
    split at h
    · cases h
    rename_i c3
    cases h
    refine ⟨rfl, hb, .inr ⟨_, by simp only [Bz.bind]; rw [hb], rfl, fun hm => ?_⟩⟩
    simp only [not_or] at c3
    have n3 := c3.2.2
    rw [clash_iff] at n3
    show order _ (given o.hung.mark g.mark) _ _ ≠ 4
    have : given o.hung.mark g.mark = 45 ∨ given o.hung.mark g.mark = 61 ∨ given o.hung.mark g.mark = 35 := by
      unfold given
      split <;> omega
    unfold order
    rcases this with h | h | h <;> rw [h] <;> simp

theorem ring_w (C : Wc (dOf L e) s) (R : Wl (dOf L e) p P) (h : Bz.Rest W P.pos (wr0 (dOf L e) s p.pos)) (hf : P.pos ≤ W.size) (hp : Pre p) (e0 : LxE s p.pos) {a : Nat} (hr : ring s a p = .ok q) (hq : Rem L q) :
    ∃ Q, ring W a P = .ok Q ∧ Wl (dOf L e) q Q ∧ Bz.Rest W Q.pos (wr0 (dOf L e) s q.pos) ∧ P.pos < Q.pos ∧ Q.pos ≤ W.size := by
  obtain ⟨g, p1, k, j, he, hn, hj, hb1, hnew⟩ := ring_new hr
  obtain ⟨e1, g1⟩ := bondEnd_lx he e0
  obtain ⟨_, l2, _⟩ := number_lx hn e1
  have hp1 := g1.pos
  have gap : ∀ y, p1.pos < y → y < j → dOf L e y = false := fun y y1 y2 => by
    rcases hnew with h2 | ⟨b, h2, h3, h4⟩
    · exact d_gap hp hq h2 (by omega) (by omega) (by simp)
    · exact d_gap hp hq h2 (by omega) (by omega) (by simp; omega)
  have hmk : g.mark = 45 ∨ g.mark = 61 ∨ g.mark = 35 → dOf L e p1.pos = false := fun hm => by
    rcases hnew with h2 | ⟨b, h2, h3, h4⟩
    · exact d_gap hp hq h2 (by omega) (by omega) (by simp)
    · exact d_gap hp hq h2 (by omega) (by omega) (by simp only [List.mem_singleton]; rintro b rfl _; exact h4 hm)
  have hgm : MkOk g.mark := by
    unfold bondEnd at he
    simp only at he
    split at he
    · rename_i hs
      split at he
      · cases he
      · cases he; exact MkOk.of hs
    · cases he; exact .inl rfl
  obtain ⟨G, P1, b1, b2, b3, b4, b5, b6⟩ := bondEnd_w C R h hf he fun h0 h58 => hmk (by unfold MkOk at hgm; omega)
  obtain ⟨J, c1, c2, c3, c4⟩ := number_w b4 hn gap
  have hd : dOf L e p1.pos = true → ∃ b, q.bonds = p1.bonds ++ [b] ∧ b.o = 4 := fun hdd => by
    rw [hb1]
    rcases hnew with h2 | ⟨b, h2, h3, h4⟩
    · obtain ⟨b, hb, _⟩ := d_new hp hq h2 (by omega) (by omega) hdd
      simp at hb
    · obtain ⟨b', hb, _, k2⟩ := d_new hp hq h2 (by omega) (by omega) hdd
      rw [List.mem_singleton] at hb
      subst hb
      exact ⟨_, h2, k2⟩
  unfold ring at hr ⊢
  rw [he] at hr
  rw [b1]
  simp only at hr ⊢
  rw [hn] at hr
  rw [c1]
  simp only at hr ⊢
  rcases b3.rings k with ⟨r1, r2⟩ | ⟨o, O, r1, r2, r3, r4, r5⟩
  · rw [r1] at hr
    rw [r2]
    simp only [Except.ok.injEq] at hr ⊢
    subst hr
    have hdn : dOf L e p1.pos = false := by
      cases hdd : dOf L e p1.pos
      · rfl
      · obtain ⟨b, h1, _⟩ := hd hdd
        have := congrArg List.length h1
        simp at this
    refine ⟨_, rfl, (b3.move j J).setR k (.inr ⟨_, _, rfl, rfl, b2.atom, ?_, b2.ok⟩), c2, by simp only; omega, c3⟩
    rw [b2.mark, hdn]
    rfl
  · rw [r1] at hr
    rw [r2]
    simp only at hr ⊢
    obtain ⟨Q, k1, k2, k3⟩ := close_w (pl := P1.pos) ((b3.move j J).setR k (.inl ⟨rfl, rfl⟩)) r3 r4 r5 b2 hr hd
    simp only at k3
    exact ⟨Q, k1, k2, by rw [k3, hj]; exact c2, by omega, by omega⟩

theorem rings_w (C : Wc (dOf L e) s) {a : Nat} : ∀ (m M : Nat) {p P q : St}, ringsOf s a m p = .ok q → s.size - p.pos < m → W.size - P.pos < M → Wl (dOf L e) p P → Bz.Rest W P.pos (wr0 (dOf L e) s p.pos) → P.pos ≤ W.size → Pre p → LxE s p.pos → Rem L q →
    ∃ Q, ringsOf W a M P = .ok Q ∧ Wl (dOf L e) q Q ∧ Bz.Rest W Q.pos (wr0 (dOf L e) s q.pos) ∧ P.pos ≤ Q.pos ∧ Q.pos ≤ W.size
  | 0, M, p, P, q, _, hm, _, _, _, _, _, _, _ => by omega
  | m + 1, 0, p, P, q, _, _, hm, _, _, _, _, _, _ => by omega
  | m + 1, M + 1, p, P, q, hr, hm, hM, R, h, hf, hp, e0, hq => by
    rw [ringsOf] at hr ⊢
    cases hah : ringAhead s p
    · rw [hah] at hr
      simp only [Bool.false_eq_true, if_false, Except.ok.injEq] at hr
      subst hr
      have hw : ringAhead W P = false := by
        rw [ahead_w C h, hah]
        intro h1 _ h3
        unfold ringAhead at hah
        rw [h1] at hah
        simp only [if_true] at hah
        rw [hah] at h3
        cases h3
      rw [hw]
      exact ⟨P, rfl, R, h, Nat.le_refl _, hf⟩
    · rw [hah] at hr
      simp only [if_true] at hr
      cases h1 : ring s a p with
      | error e => rw [h1] at hr; cases hr
      | ok p1 =>
        rw [h1] at hr
        simp only at hr
        obtain ⟨e1, g1⟩ := ring_lx h1 e0
        obtain ⟨_, g2⟩ := rings_lx m hr e1
        have hq1 := hq.back g2
        have hw : ringAhead W P = true := by
          rw [ahead_w C h, hah]
          intro k1 k2 k3
          obtain ⟨g, p0, k, j, he, hn, hj, hb1, hnew⟩ := ring_new h1
          have hm : g.mark = byteAt s p.pos ∧ p0.pos = p.pos + 1 := by
            unfold bondEnd at he
            simp only [k1, if_true] at he
            split at he
            · cases he
            · cases he; exact ⟨rfl, rfl⟩
          have hmo := MkOk.of k1
          have hn0 : byteAt s p.pos ≠ 0 := fun e => by rw [e] at k1; cases k1
          unfold MkOk at hmo
          obtain ⟨_, l2, _⟩ := number_lx hn (by rw [hm.2]; exact e0.sign k1)
          rw [← hm.2]
          rcases hnew with h2 | ⟨b, h2, h3, h4⟩
          · exact d_gap hp hq1 h2 (by omega) (by omega) (by simp)
          · exact d_gap hp hq1 h2 (by omega) (by omega) (by simp only [List.mem_singleton]; rintro b rfl _; exact h4 (by omega))
        rw [hw]
        simp only [if_true]
        obtain ⟨P1, c1, c2, c3, c4, c5⟩ := ring_w C R h hf hp e0 h1 hq1
        rw [c1]
        simp only
        have hg1 := g1.pos
        have hlt := ahead_lt hah
        have hpos : p.pos < p1.pos := by
          obtain ⟨g, p0, k, j, he, hn, hj, hb1, hnew⟩ := ring_new h1
          obtain ⟨e2, g3⟩ := bondEnd_lx he e0
          obtain ⟨_, l2, _⟩ := number_lx hn e2
          have := g3.pos
          omega
        obtain ⟨Q, d1, d2, d3, d4, d5⟩ := rings_w C m M hr (by omega) (by omega) c2 c3 c5 (hp.on g1) e1 hq
        exact ⟨Q, d1, d2, d3, by omega, d5⟩

/-- Chains of the one text and of the other. -/
def CW (L : List Bnd) (e : Bnd → Bool) (s W : ByteArray) (N : Nat) (c K : Hung → St → R St) : Prop :=
  ∀ g G p P q, c g p = .ok q → W.size - P.pos < N → HW (dOf L e) p.pos g G → Wl (dOf L e) p P → Bz.Rest W P.pos (wr1 (dOf L e) s p.pos) → P.pos ≤ W.size → Pre p → Lx s p.pos → Rem L q →
    ∃ Q, K G P = .ok Q ∧ Wl (dOf L e) q Q ∧ Bz.Rest W Q.pos (wr0 (dOf L e) s q.pos) ∧ P.pos < Q.pos ∧ Q.pos ≤ W.size

/-- A chain begins with an atom. -/
def CA (L : List Bnd) (e : Bnd → Bool) (s : ByteArray) (c : Hung → St → R St) : Prop :=
  ∀ g p q, c g p = .ok q → Pre p → Lx s p.pos → Rem L q → (g.mark = 45 ∨ g.mark = 61 ∨ g.mark = 35 → dOf L e p.pos = false) ∧ (g.atom = -1 → dOf L e p.pos = false) ∧ p.pos < q.pos

theorem link_mk {a : Nat} {g : Hung} (h : link s a p = .ok (g, q)) : MkOk g.mark := by
  unfold link bondEnd at h
  simp only at h
  split at h
  · cases h; exact .inl rfl
  split at h
  · rename_i hs
    split at h
    · cases h
    · cases h; exact MkOk.of hs
  · cases h; exact .inl rfl

theorem branch_w (C : Wc (dOf L e) s) {c K : Hung → St → R St} (hc : CLx s c) (ca : CA L e s c) {N : Nat} (cw : CW L e s W N c K) (R : Wl (dOf L e) p P) (h : Bz.Rest W P.pos (wr0 (dOf L e) s p.pos)) (hf : P.pos ≤ W.size) (hp : Pre p) (e0 : LxE s p.pos) {a : Nat} (hN : W.size - P.pos < N) (hr : branch s c a p = .ok q) (hq : Rem L q) :
    ∃ Q, branch W K a P = .ok Q ∧ Wl (dOf L e) q Q ∧ Bz.Rest W Q.pos (wr0 (dOf L e) s q.pos) ∧ P.pos < Q.pos ∧ Q.pos ≤ W.size := by
  unfold branch at hr ⊢
  cases hl : link s a p with
  | error e => rw [hl] at hr; cases hr
  | ok x =>
    obtain ⟨g, p1⟩ := x
    rw [hl] at hr
    simp only at hr
    obtain ⟨e1, g1⟩ := link_lx hl e0
    cases h2 : c g p1 with
    | error e => rw [h2] at hr; cases hr
    | ok p2 =>
      rw [h2] at hr
      simp only at hr
      obtain ⟨e2, g2⟩ := hc g p1 p2 h2 e1
      split at hr
      · rename_i h41
        cases hr
        have hq2 : Rem L p2 := hq.back (s := s) (Gon.move (by omega))
        have hp1 := hp.on g1
        obtain ⟨a1, a2, a3⟩ := ca g p1 p2 h2 hp1 e1 hq2
        have hmk := link_mk hl
        obtain ⟨G, P1, b1, b2, b3, b4, b5, b6⟩ := link_w C R h hf hl (fun h0 h58 => a1 (by unfold MkOk at hmk; omega)) a2
        obtain ⟨P2, c1, c2, c3, c4, c5⟩ := cw g G p1 P1 p2 h2 (by omega) b2 b3 b4 b6 hp1 e1 hq2
        rw [b1]
        simp only
        rw [c1]
        simp only
        rw [if_pos ((C.test c3 (k := 41) (by omega)).2 h41)]
        obtain ⟨k1, k2, k3⟩ := a_same c3 (C.no (by rw [h41]; unfold Bp; omega)) h41 (by omega)
        exact ⟨_, rfl, c2.move _ _, k3, by simp only; omega, k2⟩
      · cases hr

theorem branches_w (C : Wc (dOf L e) s) {c K : Hung → St → R St} (hc : CLx s c) (ca : CA L e s c) {N : Nat} (cw : CW L e s W N c K) {a : Nat} : ∀ (m M : Nat) {p P q : St}, branches s c a m p = .ok q → s.size - p.pos < m → W.size - P.pos < M → Wl (dOf L e) p P → Bz.Rest W P.pos (wr0 (dOf L e) s p.pos) → P.pos ≤ W.size → Pre p → LxE s p.pos → Rem L q → W.size - P.pos < N →
    ∃ Q, branches W K a M P = .ok Q ∧ Wl (dOf L e) q Q ∧ Bz.Rest W Q.pos (wr0 (dOf L e) s q.pos) ∧ P.pos ≤ Q.pos ∧ Q.pos ≤ W.size
  | 0, M, p, P, q, _, hm, _, _, _, _, _, _, _, _ => by omega
  | m + 1, 0, p, P, q, _, _, hm, _, _, _, _, _, _, _ => by omega
  | m + 1, M + 1, p, P, q, hr, hm, hM, R, h, hf, hp, e0, hq, hN => by
    have ht := C.test h (k := 40) (by omega)
    rw [branches] at hr ⊢
    split at hr
    · rename_i h40
      rw [if_pos (ht.2 h40)]
      cases h1 : branch s c a { p with pos := p.pos + 1 } with
      | error e => rw [h1] at hr; cases hr
      | ok p1 =>
        rw [h1] at hr
        simp only at hr
        have e1 : LxE s (p.pos + 1) := e0.plain (by rw [h40]; rfl) (by omega)
        have g0 : Gon s p { p with pos := p.pos + 1 } := Gon.move (by omega)
        obtain ⟨e2, g1⟩ := branch_lx hc h1 e1
        obtain ⟨_, g2⟩ := branches_lx hc m hr e2
        obtain ⟨k1, k2, k3⟩ := a_same h (C.no (by rw [h40]; unfold Bp; omega)) h40 (by omega)
        obtain ⟨P1, c1, c2, c3, c4, c5⟩ := branch_w (P := { P with pos := P.pos + 1 }) C hc ca cw (R.move _ _) k3 k2 (hp.on g0) e1 (by simp only; omega) h1 (hq.back g2)
        rw [c1]
        simp only at c4 ⊢
        have hg := g1.pos
        simp only at hg
        have hlt : p.pos < s.size := lt_of_byteAt (by omega)
        obtain ⟨Q, d1, d2, d3, d4, d5⟩ := branches_w C hc ca cw m M hr (by omega) (by omega) c2 c3 c5 (hp.on (g0.trans g1)) e2 hq (by omega)
        exact ⟨Q, d1, d2, d3, by omega, d5⟩
    · rename_i h40
      rw [if_neg (fun h => h40 (ht.1 h))]
      cases hr
      exact ⟨P, rfl, R, h, Nat.le_refl _, hf⟩

theorem atom_go (e0 : Lx s p.pos) {a : Nat} {g : Hung} (h : atom s g p = .ok (a, q)) : p.pos < q.pos := by
  unfold atom at h
  simp only at h
  split at h
  · split at h <;> cases h
  rename_i el ar n hel
  split at h
  · cases h
  split at h
  · cases h
  split at h
  · cases h
  rename_i ch hy j hb
  have hj : q.pos = j := by
    simp only [Except.ok.injEq, Prod.mk.injEq] at h
    rw [← h.2]
    split <;> rfl
  rw [hj]
  cases h91 : (byteAt s p.pos == 91)
  · rw [h91] at hel hb
    simp only [Bool.false_eq_true, if_false, Except.ok.injEq, Prod.mk.injEq] at hel hb
    have := (elem_lx hel e0).2.2
    omega
  · rw [h91] at hel hb
    simp only [if_true] at hel hb
    have := (bracket_pos hb).1
    simp only at this
    omega

theorem knot_w (C : Wc (dOf L e) s) {c K : Hung → St → R St} (hc : CLx s c) (ca : CA L e s c) {N : Nat} (cw : CW L e s W N c K) (R : Wl (dOf L e) p P) {g G : Hung} (hg : HW (dOf L e) p.pos g G) (h : Bz.Rest W P.pos (wr1 (dOf L e) s p.pos)) (hp : Pre p) (e0 : Lx s p.pos) {a : Nat} (hN : W.size - P.pos < N + 1) (hr : knot s c g p = .ok (a, q)) (hq : Rem L q) :
    ∃ Q, knot W K G P = .ok (a, Q) ∧ Wl (dOf L e) q Q ∧ Bz.Rest W Q.pos (wr0 (dOf L e) s q.pos) ∧ P.pos < Q.pos ∧ Q.pos ≤ W.size := by
  unfold knot at hr ⊢
  cases h1 : atom s g p with
  | error e => rw [h1] at hr; cases hr
  | ok x =>
    obtain ⟨a1, p1⟩ := x
    rw [h1] at hr
    simp only at hr
    obtain ⟨e1, g1⟩ := atom_lx h1 e0
    cases h2 : ringsOf s a1 (s.size + 1) p1 with
    | error e => rw [h2] at hr; cases hr
    | ok p2 =>
      rw [h2] at hr
      simp only at hr
      obtain ⟨e2, g2⟩ := rings_lx _ h2 e1
      cases h3 : branches s c a1 (s.size + 1) p2 with
      | error e => rw [h3] at hr; cases hr
      | ok p3 =>
        rw [h3] at hr
        simp only [Except.ok.injEq, Prod.mk.injEq] at hr
        obtain ⟨rfl, rfl⟩ := hr
        obtain ⟨e3, g3⟩ := branches_lx hc _ h3 e2
        have hq2 := hq.back g3
        have hq1 := hq2.back g2
        obtain ⟨a1', a2', _, _⟩ := atom_d (e := e) hp e0 h1 hq1
        obtain ⟨P1, c1, c2, c3, c4, c5⟩ := atom_w C R h hg h1 a1' a2'
        obtain ⟨P2, d1, d2, d3, d4, d5⟩ := rings_w C (s.size + 1) (W.size + 1) h2 (by omega) (by omega) c2 c3 c5 (hp.on g1) e1 hq2
        obtain ⟨P3, f1, f2, f3, f4, f5⟩ := branches_w C hc ca cw (s.size + 1) (W.size + 1) h3 (by omega) (by omega) d2 d3 d5 (hp.on (g1.trans g2)) e2 hq (by omega)
        rw [c1]
        simp only
        rw [d1]
        simp only
        rw [f1]
        exact ⟨P3, rfl, f2, f3, by omega, f5⟩

theorem knot_a {c : Hung → St → R St} (hc : CLx s c) {g : Hung} (hp : Pre p) (e0 : Lx s p.pos) {a : Nat} (hr : knot s c g p = .ok (a, q)) (hq : Rem L q) :
    (g.mark = 45 ∨ g.mark = 61 ∨ g.mark = 35 → dOf L e p.pos = false) ∧ (g.atom = -1 → dOf L e p.pos = false) ∧ p.pos < q.pos := by
  unfold knot at hr
  cases h1 : atom s g p with
  | error e => rw [h1] at hr; cases hr
  | ok x =>
    obtain ⟨a1, p1⟩ := x
    rw [h1] at hr
    simp only at hr
    obtain ⟨e1, g1⟩ := atom_lx h1 e0
    split at hr
    · cases hr
    rename_i h2
    split at hr
    · cases hr
    rename_i h3
    cases hr
    obtain ⟨e2, g2⟩ := rings_lx _ h2 e1
    obtain ⟨e3, g3⟩ := branches_lx hc _ h3 e2
    obtain ⟨_, _, a3, a4⟩ := atom_d (e := e) hp e0 h1 (hq.back (g2.trans g3))
    have := atom_go e0 h1
    have := (g2.trans g3).pos
    exact ⟨a3, a4, by omega⟩

theorem linked_w (C : Wc (dOf L e) s) {c K : Hung → St → R St} (hc : CLx s c) (ca : CA L e s c) {N : Nat} (cw : CW L e s W N c K) : ∀ (m M : Nat) {a : Nat} {p P q : St}, Bz.linked s c m a p = .ok q → s.size - p.pos < m → W.size - P.pos < M → Wl (dOf L e) p P → Bz.Rest W P.pos (wr0 (dOf L e) s p.pos) → P.pos ≤ W.size → Pre p → LxE s p.pos → Rem L q → W.size - P.pos < N + 1 →
    ∃ Q, Bz.linked W K M a P = .ok Q ∧ Wl (dOf L e) q Q ∧ Bz.Rest W Q.pos (wr0 (dOf L e) s q.pos) ∧ P.pos ≤ Q.pos ∧ Q.pos ≤ W.size
  | 0, M, a, p, P, q, _, hm, _, _, _, _, _, _, _, _ => by omega
  | m + 1, 0, a, p, P, q, _, _, hm, _, _, _, _, _, _, _ => by omega
  | m + 1, M + 1, a, p, P, q, hr, hm, hM, R, h, hf, hp, e0, hq, hN => by
    have ht := C.test h (k := 41) (by omega)
    have hlt : p.pos < s.size ↔ P.pos < W.size := by
      rcases C.cases h with ⟨h0, _, _, h3⟩ | ⟨h0, _, _, _, h3, _⟩ | ⟨h0, _, _, _, h3, _⟩ | ⟨h0, _, h2, _, _, _, h3, _⟩ | ⟨h0, _, h2, _, _, _, h3, _⟩ <;> omega
    rw [Bz.linked] at hr ⊢
    split at hr
    · rename_i hg
      rw [if_pos ⟨hlt.1 hg.1, fun h => hg.2 (ht.1 h)⟩]
      cases h1 : linkedKnot s c a p with
      | error e => rw [h1] at hr; cases hr
      | ok x =>
        obtain ⟨a1, p1⟩ := x
        rw [h1] at hr
        simp only at hr
        obtain ⟨e1, g1⟩ := lknot_lx hc h1 e0
        obtain ⟨_, g2⟩ := linked_lx hc m hr e1
        have hq1 := hq.back g2
        have hk : ∃ P1, linkedKnot W K a P = .ok (a1, P1) ∧ Wl (dOf L e) p1 P1 ∧ Bz.Rest W P1.pos (wr0 (dOf L e) s p1.pos) ∧ P.pos < P1.pos ∧ P1.pos ≤ W.size ∧ p.pos < p1.pos := by
          unfold linkedKnot at h1 ⊢
          cases h2 : link s a p with
          | error e => rw [h2] at h1; cases h1
          | ok x =>
            obtain ⟨g, p0⟩ := x
            rw [h2] at h1
            simp only at h1
            obtain ⟨e2, g0⟩ := link_lx h2 e0
            have hp0 := hp.on g0
            obtain ⟨a1', a2', a3'⟩ := knot_a (e := e) hc hp0 e2 h1 hq1
            have hmk := link_mk h2
            obtain ⟨G, P0, b1, b2, b3, b4, b5, b6⟩ := link_w C R h hf h2 (fun h0 h58 => a1' (by unfold MkOk at hmk; omega)) a2'
            rw [b1]
            obtain ⟨P1, c1, c2, c3, c4, c5⟩ := knot_w C hc ca cw b3 b2 b4 hp0 e2 (by omega) h1 hq1
            have := g0.pos
            exact ⟨P1, c1, c2, c3, by omega, c5, by omega⟩
        obtain ⟨P1, c1, c2, c3, c4, c5, c6⟩ := hk
        rw [c1]
        simp only
        obtain ⟨Q, d1, d2, d3, d4, d5⟩ := linked_w C hc ca cw m M hr (by omega) (by omega) c2 c3 c5 (hp.on g1) e1 hq (by omega)
        exact ⟨Q, d1, d2, d3, by omega, d5⟩
    · rename_i hg
      rw [if_neg (fun h => hg ⟨hlt.2 h.1, fun k => h.2 (ht.2 k)⟩)]
      cases hr
      exact ⟨P, rfl, R, h, Nat.le_refl _, hf⟩

theorem chain_a : ∀ n, CA L e s (chain s n)
  | 0 => by intro g p q hr; simp [chain] at hr
  | n + 1 => by
    intro g p q hr hp e0 hq
    rw [chain] at hr
    split at hr
    · cases hr
    · rename_i a1 p1 hk
      obtain ⟨e1, g1⟩ := knot_lx (chain_lx n) hk e0
      obtain ⟨_, g2⟩ := linked_lx (chain_lx n) _ hr e1
      obtain ⟨k1, k2, k3⟩ := knot_a (e := e) (chain_lx n) hp e0 hk (hq.back g2)
      have := g2.pos
      exact ⟨k1, k2, by omega⟩

theorem chain_w (C : Wc (dOf L e) s) : ∀ n N, CW L e s W N (chain s n) (chain W N)
  | 0, N => by intro g G p P q hr; simp [chain] at hr
  | n + 1, 0 => by intro g G p P q hr hN; omega
  | n + 1, N + 1 => by
    intro g G p P q hr hN hg R h hf hp e0 hq
    rw [chain] at hr ⊢
    cases h1 : knot s (chain s n) g p with
    | error e => rw [h1] at hr; cases hr
    | ok x =>
      obtain ⟨a1, p1⟩ := x
      rw [h1] at hr
      simp only at hr
      obtain ⟨e1, g1⟩ := knot_lx (chain_lx n) h1 e0
      obtain ⟨_, g2⟩ := linked_lx (chain_lx n) _ hr e1
      obtain ⟨P1, c1, c2, c3, c4, c5⟩ := knot_w C (chain_lx n) (chain_a n) (chain_w C n N) R hg h hp e0 hN h1 (hq.back g2)
      rw [c1]
      simp only
      obtain ⟨Q, d1, d2, d3, d4, d5⟩ := linked_w C (chain_lx n) (chain_a n) (chain_w C n N) (s.size + 1) (W.size + 1) hr (by omega) (by omega) c2 c3 c5 (hp.on g1) e1 hq (by omega)
      exact ⟨Q, d1, d2, d3, by omega, d5⟩
end
end Go.Proofs.YtcabaecbmkgclaaGreatDoor
