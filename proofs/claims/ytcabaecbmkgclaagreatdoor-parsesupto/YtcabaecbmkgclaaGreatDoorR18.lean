/-
  The document's chain.
-/
import Derived.Test.YtcabaecbmkgclaaGreatDoorR17
namespace Go.Proofs.YtcabaecbmkgclaaGreatDoor
open Go.RowKit Bz
/-- A chain from an end on that hangs: its knot, then m links at most. -/
def outer (s : ByteArray) (n m : Nat) (g : Hung) (q : St) : R St := match Bz.knot s (Bz.chain s n) g q with
  | .error e => .error e
  | .ok (a, p1) => Bz.linked s (Bz.chain s n) m a p1

section
variable {w : World} {B : Nat} {s : ByteArray} {p : St}
theorem chain_outer (n : Nat) (g : Hung) (p : St) : Bz.chain s (n + 1) g p = outer s n (s.size + 1) g p := by
  rw [Bz.chain]
  unfold outer
  rfl

theorem ratom_st (h : RS w B s p) (o : Ok s p) (hs : s.size ≤ 160) (g : Hung) (hg : HungOk g p) (sa : Int) (hsa : g.mark = 58 → g.spot = sa) :
    Calls Tryz.prog 92 #[.pointer (some ⟨B, 0, none⟩), .int .i64 g.atom, .int .u8 g.mark, .int .i64 sa] w (RAtPost w B s (Bz.atom s g p)) := by
  obtain ⟨⟨q1, q2, q3, q4, q5, q6⟩, hr, t⟩ := h
  have e1 := t.pos
  have e2 := t.atoms
  have e3 := t.bonds
  have e4 := t.e
  simp only at e1 e2 e3 e4
  subst e1 e2 e3 e4
  exact ratom_any hr t o hs g hg sa hsa

theorem atom_len {g : Hung} {a : Nat} {q : St} (h : Bz.atom s g p = .ok (a, q)) : a + 1 = q.atoms.length := by
  rw [atom_eq] at h
  cases hh : atomHead s g p with
  | error e => rw [hh] at h; cases h
  | ok x =>
    rw [hh] at h
    simp only [Except.ok.injEq] at h
    unfold atomTail at h
    simp only [Prod.mk.injEq] at h
    obtain ⟨rfl, rfl⟩ := h
    split <;> simp [Bz.bind]

theorem sign_facts {a : Nat} {x x1 : St} {e : Hung} (h : bondEnd s a x = .ok (e, x1)) : e.atom = (a : Int) ∧ ((isSign (byteAt s x.pos) = true ∧ e.mark = byteAt s x.pos ∧ e.mark ≠ 0 ∧ e.spot = (x.pos : Int) ∧ x1 = { x with pos := x.pos + 1 } ∧ x.pos < s.size ∧ byteAt s x.pos ≠ 41 ∧ byteAt s x.pos ≠ 40 ∧ byteAt s x.pos ≠ 46) ∨ (isSign (byteAt s x.pos) = false ∧ e = ⟨0, 0, a⟩ ∧ x1 = x)) := by
  unfold bondEnd at h
  simp only at h
  cases hS : isSign (byteAt s x.pos)
  · rw [hS] at h
    simp only [Bool.false_eq_true, if_false, Except.ok.injEq, Prod.mk.injEq] at h
    obtain ⟨rfl, rfl⟩ := h
    exact ⟨rfl, .inr ⟨rfl, rfl, rfl⟩⟩
  · rw [hS] at h
    simp only [if_true] at h
    split at h
    · cases h
    · simp only [Except.ok.injEq, Prod.mk.injEq] at h
      obtain ⟨rfl, rfl⟩ := h
      have hne : ∀ c : Int, isSign c = false → byteAt s x.pos ≠ c := by intro c hc e; rw [e, hc] at hS; cases hS
      exact ⟨rfl, .inl ⟨rfl, rfl, hne 0 rfl, rfl, rfl, lt_of_byteAt (hne 0 rfl), hne 41 rfl, hne 40 rfl, hne 46 rfl⟩⟩

theorem sign_err {a : Nat} {x : St} {er : Int × Int} (h : bondEnd s a x = .error er) : x.pos < s.size ∧ byteAt s x.pos ≠ 41 ∧ byteAt s x.pos ≠ 40 ∧ byteAt s x.pos ≠ 46 := by
  unfold bondEnd at h
  simp only at h
  cases hS : isSign (byteAt s x.pos)
  · rw [hS] at h; simp at h
  · have hne : ∀ c : Int, isSign c = false → byteAt s x.pos ≠ c := by intro c hc e; rw [e, hc] at hS; cases hS
    exact ⟨lt_of_byteAt (hne 0 rfl), hne 41 rfl, hne 40 rfl, hne 46 rfl⟩

theorem ahead_eq {a : Nat} {x x1 : St} {e : Hung} (h : bondEnd s a x = .ok (e, x1)) : ringAhead s x = startsRing (byteAt s x1.pos) := by
  obtain ⟨_, ⟨hS, _, _, _, rfl, _⟩ | ⟨hS, _, rfl⟩⟩ := sign_facts h
  · unfold ringAhead; rw [hS]; rfl
  · unfold ringAhead; rw [hS]; rfl

theorem linked_link {n m a : Nat} {x y : St} {g : Hung} (h1 : x.pos < s.size) (h2 : byteAt s x.pos ≠ 41) (hl : link s a x = .ok (g, y)) : Bz.linked s (Bz.chain s n) (m + 1) a x = outer s n m g y := by
  rw [Bz.linked, if_pos ⟨h1, h2⟩]
  unfold Bz.linkedKnot outer
  rw [hl]
  simp only
  cases Bz.knot s (Bz.chain s n) g y <;> rfl

theorem linked_bad {n m a : Nat} {x : St} {er : Int × Int} (h1 : x.pos < s.size) (h2 : byteAt s x.pos ≠ 41) (h3 : byteAt s x.pos ≠ 46) (hl : bondEnd s a x = .error er) : Bz.linked s (Bz.chain s n) (m + 1) a x = .error er := by
  rw [Bz.linked, if_pos ⟨h1, h2⟩]
  unfold Bz.linkedKnot link
  rw [if_neg h3, hl]

theorem ring_atoms {a : Nat} {x y : St} (h : Bz.ring s a x = .ok y) : y.atoms = x.atoms := by
  rw [ring_tail] at h
  cases hb : bondEnd s a x with
  | error e => rw [hb] at h; cases h
  | ok z =>
    obtain ⟨e, x1⟩ := z
    rw [hb] at h
    simp only at h
    have hx : x1.atoms = x.atoms := by
      obtain ⟨_, ⟨_, _, _, _, rfl, _⟩ | ⟨_, _, rfl⟩⟩ := sign_facts hb
      · rfl
      · rfl
    rw [← hx]
    unfold ringTail at h
    split at h
    · cases h
    · split at h
      · simp only [Except.ok.injEq] at h; subst h; rfl
      · unfold closeRing at h
        simp only at h
        split at h
        · cases h
        · split at h
          · cases h
          · split at h
            · cases h
            · simp only [Except.ok.injEq] at h; subst h; rfl

theorem not40 {a : Nat} {x x1 : St} {e : Hung} (h : bondEnd s a x = .ok (e, x1)) (h40 : ¬ (byteAt s x1.pos = 40 ∧ e.mark = 0)) : ¬ byteAt s x.pos = 40 := by
  obtain ⟨_, hs | hs⟩ := sign_facts h
  · exact hs.2.2.2.2.2.2.2.1
  · intro e40
    apply h40
    rw [hs.2.2, hs.2.1]
    exact ⟨e40, rfl⟩

theorem isOne_begin (c : Int) : isOne beginBytes c = decide (c = 66 ∨ c = 67 ∨ c = 78 ∨ c = 79 ∨ c = 80 ∨ c = 83 ∨ c = 70 ∨ c = 73 ∨ c = 99 ∨ c = 110 ∨ c = 111 ∨ c = 112 ∨ c = 115 ∨ c = 91) := by
  have r : List.range beginBytes.size = [0, 1, 2, 3, 4, 5, 6, 7, 8, 9, 10, 11, 12, 13] := rfl
  have b0 : byteAt beginBytes 0 = 66 := rfl
  have b1 : byteAt beginBytes 1 = 67 := rfl
  have b2 : byteAt beginBytes 2 = 78 := rfl
  have b3 : byteAt beginBytes 3 = 79 := rfl
  have b4 : byteAt beginBytes 4 = 80 := rfl
  have b5 : byteAt beginBytes 5 = 83 := rfl
  have b6 : byteAt beginBytes 6 = 70 := rfl
  have b7 : byteAt beginBytes 7 = 73 := rfl
  have b8 : byteAt beginBytes 8 = 99 := rfl
  have b9 : byteAt beginBytes 9 = 110 := rfl
  have b10 : byteAt beginBytes 10 = 111 := rfl
  have b11 : byteAt beginBytes 11 = 112 := rfl
  have b12 : byteAt beginBytes 12 = 115 := rfl
  have b13 : byteAt beginBytes 13 = 91 := rfl
  unfold isOne
  rw [r, Bool.eq_iff_iff]
  simp only [List.any_cons, List.any_nil, b0, b1, b2, b3, b4, b5, b6, b7, b8, b9, b10, b11, b12, b13, Bool.or_false, Bool.or_eq_true, beq_iff_eq, decide_eq_true_eq]
  omega

theorem begins_none {i : Nat} (h : rbegins (byteAt s i) = false) : element s i = none ∧ byteAt s i ≠ 91 := by
  unfold rbegins at h
  rw [isOne_begin] at h
  have hb : ¬ (byteAt s i = 66 ∨ byteAt s i = 67 ∨ byteAt s i = 78 ∨ byteAt s i = 79 ∨ byteAt s i = 80 ∨ byteAt s i = 83 ∨ byteAt s i = 70 ∨ byteAt s i = 73 ∨ byteAt s i = 99 ∨ byteAt s i = 110 ∨ byteAt s i = 111 ∨ byteAt s i = 112 ∨ byteAt s i = 115 ∨ byteAt s i = 91) := by
    by_cases h0 : byteAt s i = 0
    · omega
    · simp [h0] at h
      omega
  refine ⟨?_, by omega⟩
  unfold element
  simp only
  rw [if_neg (by omega), if_neg (by omega), if_neg (by omega), if_neg (by omega)]

theorem begins_some {i : Nat} (h : rbegins (byteAt s i) = true) : i < s.size ∧ byteAt s i ≠ 41 ∧ byteAt s i ≠ 46 := by
  have h41 : rbegins 41 = false := by unfold rbegins; rw [isOne_begin]; decide
  have h46 : rbegins 46 = false := by unfold rbegins; rw [isOne_begin]; decide
  refine ⟨?_, ?_, ?_⟩
  · apply lt_of_byteAt
    intro e
    rw [e] at h
    simp [rbegins] at h
  · intro e; rw [e, h41] at h; cases h
  · intro e; rw [e, h46] at h; cases h

theorem linked_stop {n m a : Nat} {x : St} (hS : isSign (byteAt s x.pos) = false) (h46 : byteAt s x.pos ≠ 46) (hb : rbegins (byteAt s x.pos) = false) :
    Bz.linked s (Bz.chain s n) (m + 1) a x = if x.pos < s.size ∧ byteAt s x.pos ≠ 41 then .error (2, (x.pos : Int)) else .ok x := by
  obtain ⟨he, h91⟩ := begins_none hb
  rw [Bz.linked]
  by_cases hc : x.pos < s.size ∧ byteAt s x.pos ≠ 41
  · rw [if_pos hc, if_pos hc]
    have hl : link s a x = .ok (⟨0, 0, a⟩, x) := by unfold link bondEnd; rw [if_neg h46]; simp [hS]
    have ha : Bz.atom s ⟨0, 0, a⟩ x = .error (2, (x.pos : Int)) := by
      have hbr : (byteAt s x.pos == 91) = false := by simpa using h91
      have := atom_err (head_none (g := ⟨0, 0, a⟩) (p := x) (i := x.pos) hbr rfl he)
      exact this
    unfold Bz.linkedKnot
    rw [hl]
    simp only
    unfold Bz.knot
    rw [ha]
  · rw [if_neg hc, if_neg hc]

theorem link_go {a : Nat} {x x1 : St} {g : Hung} (h : bondEnd s a x = .ok (g, x1)) (hn : ¬ (g.mark = 0 ∧ rbegins (byteAt s x1.pos) = false)) : x.pos < s.size ∧ byteAt s x.pos ≠ 41 ∧ link s a x = .ok (g, x1) := by
  obtain ⟨_, hs | hs⟩ := sign_facts h
  · exact ⟨hs.2.2.2.2.2.1, hs.2.2.2.2.2.2.1, by unfold link; rw [if_neg hs.2.2.2.2.2.2.2.2, h]⟩
  · have hb : rbegins (byteAt s x.pos) = true := by
      cases hb : rbegins (byteAt s x.pos)
      · exfalso
        apply hn
        rw [hs.2.2, hs.2.1]
        exact ⟨rfl, hb⟩
      · rfl
    obtain ⟨h1, h2, h3⟩ := begins_some hb
    exact ⟨h1, h2, by unfold link; rw [if_neg h3, h]⟩

def OuterAt (w : World) (B : Nat) (s : ByteArray) (n : Nat) (whole : R St) (lo : Nat) (k : Nat) (v1 v2 v3 : Value) (wr : World) : Prop :=
  ∃ m g q sa, v1 = .int .i64 g.atom ∧ v2 = .int .u8 g.mark ∧ v3 = .int .i64 sa ∧ (g.mark = 58 → g.spot = sa) ∧ whole = outer s n m g q ∧ s.size - q.pos ≤ m ∧ s.size - q.pos + 1 ≤ k ∧ RS wr B s q ∧ Ok s q ∧ HungOk g q ∧ lo ≤ q.pos ∧ RFr B w wr

def InnerAt (w : World) (B : Nat) (s : ByteArray) (c : Hung → St → R St) (kn : R (Nat × St)) (a : Nat) (p1 : St) (k : Nat) (v2 v3 v9 : Value) (wr : World) : Prop :=
  (∃ x : Int, v2 = .int .u8 x) ∧ (∃ x : Int, v3 = .int .i64 x) ∧ RFr B w wr ∧
  ((v9 = .bool false ∧ ∃ m x, ringsOf s a (s.size + 1) p1 = ringsOf s a m x ∧ s.size - x.pos < m ∧ RS wr B s x ∧ Ok s x ∧ a + 1 = x.atoms.length ∧ p1.pos ≤ x.pos ∧ s.size - x.pos + 1 ≤ k) ∨
   (v9 = .bool true ∧ ∃ p2 m x, ringsOf s a (s.size + 1) p1 = .ok p2 ∧ branches s c a (s.size + 1) p2 = branches s c a m x ∧ s.size - x.pos < m ∧ RS wr B s x ∧ Ok s x ∧ a < x.atoms.length ∧ p1.pos ≤ x.pos ∧ s.size - x.pos + 1 ≤ k) ∨
   (∃ b, v9 = .bool b ∧ ∃ er, kn = .error er ∧ RErr wr B er))

set_option maxRecDepth 100000 in
set_option maxHeartbeats 4000000 in
theorem rchain_step {n : Nat} (hC : ChainR s n) (hs : s.size ≤ 160) : ChainR s (n + 1) := by
  intro w B g0 p0 sa0 h0 o0 hg0 hn hsa0
  have HC : Hid (ChainR s n) := hC
  have HW : Hid (Bz.chain s (n + 1) g0 p0 = outer s n (s.size + 1) g0 p0) := chain_outer n g0 p0
  clear hC
  go_enter Tryz.func71, Tryz.ntmps71
  go_wp2_with fail
  go_loopg [1, 2, 3] (s.size + 3) (fun k v1 v2 v3 wr => OuterAt w B s n (Bz.chain s (n + 1) g0 p0) p0.pos k v1 v2 v3 wr)
  case atStart => exact ⟨s.size + 1, g0, p0, sa0, rfl, rfl, rfl, hsa0, HW.out, by omega, by omega, h0, o0, hg0, Nat.le_refl _, RFr.refl _ _⟩
  case round =>
    obtain ⟨m, g, q, sa, rfl, rfl, rfl, hsa, hw, hm, hk, hr, o, hg, hlo, hf⟩ := hrel
    have q7 := hr.err
    have RA := ratom_st hr o hs g hg sa hsa
    have HWh : Hid (Bz.chain s (n + 1) g0 p0 = outer s n m g q) := hw
    have HF : Hid (RFr B w wr) := hf
    have HOq : Hid (Ok s q) := o
    clear hw hf hr hg hsa o
    go_wp2_with fail
    refine RA.mono ?_
    rintro e w1 ⟨hm1, hf1⟩
    have HF1 : Hid (RFr B w w1) := HF.out.trans hf1
    clear RA q7 HF hf1
    cases ha : Bz.atom s g q with
    | error er =>
      rw [ha] at hm1
      obtain ⟨⟨v, rfl⟩, hw1⟩ := hm1
      have HR : Hid (Bz.chain s (n + 1) g0 p0 = .error er) := by unfold Hid; rw [HWh.out]; unfold outer Bz.knot; rw [ha]
      have q7 := hw1.err
      have he := hw1.nz
      have hb : (er.1 != 0) = true := by simpa using he
      clear ha he
      go_wp2_with fail
      refine bodyPost_ret (results_none rfl _ _ _) rfl ?_
      refine ⟨rfl, HF1.out, ?_⟩
      rw [HR.out]
      exact .inl hw1
    | ok y =>
      obtain ⟨a, p1⟩ := y
      rw [ha] at hm1
      obtain ⟨rfl, hr1⟩ := hm1
      simp only at hr1
      obtain ⟨o1, ha1, hp1, hl1⟩ := atom_wf ha HOq.out
      have hal := atom_len ha
      have HA : Hid (Bz.atom s g q = .ok (a, p1)) := ha
      have HKn : Hid (∀ r, ringsOf s a (s.size + 1) p1 = r → Bz.knot s (Bz.chain s n) g q = match r with
          | .error e => .error e
          | .ok p => match branches s (Bz.chain s n) a (s.size + 1) p with
            | .error e => .error e
            | .ok p => .ok (a, p)) := by
        intro r hr
        unfold Bz.knot
        rw [ha]
        simp only
        rw [hr]
        cases r <;> rfl
      have q7 := hr1.err
      clear ha
      go_wp2_with fail
      go_loopg [2, 3, 9] (s.size + 2) (fun k v2 v3 v9 wr => InnerAt w B s (Bz.chain s n) (Bz.knot s (Bz.chain s n) g q) a p1 k v2 v3 v9 wr)
      case atStart => exact ⟨⟨_, rfl⟩, ⟨_, rfl⟩, HF1.out, .inl ⟨rfl, s.size + 1, p1, rfl, by omega, hr1, o1, hal, Nat.le_refl _, by omega⟩⟩
      case round =>
        obtain ⟨⟨x2, rfl⟩, ⟨x3, rfl⟩, hf2, hcase⟩ := hrel
        rcases hcase with ⟨rfl, m2, x, hri, hm2, hr2, o2, hal2, hlo2, hk2⟩ | ⟨rfl, p2, m2, x, hri, hbr, hm2, hr2, o2, hal2, hlo2, hk2⟩ | ⟨b, rfl, er, hkn, hw2⟩
        · have q7' := hr2.err
          have c1 := hr2.pos
          have RSg := rsign_st hr2 hs a (by omega)
          have HF2 : Hid (RFr B w wr) := hf2
          obtain ⟨m3, rfl⟩ : ∃ m3, m2 = m3 + 1 := ⟨m2 - 1, by omega⟩
          obtain ⟨m4, rfl⟩ : ∃ m4, m = m4 + 1 := ⟨m - 1, by have := o1.pos; omega⟩
          have HRi : Hid _ := hri
          clear hri hf2 q7
          go_wp2_with fail
          refine RSg.mono ?_
          rintro e w3 ⟨hm3, hf3⟩
          have HF3 : Hid (RFr B w w3) := HF2.out.trans hf3
          clear RSg q7' c1 hf3 HF2
          cases hbe : bondEnd s a x with
          | error er =>
            rw [hbe] at hm3
            obtain ⟨rfl, hw3⟩ := hm3
            obtain ⟨b1, b2, b3, b4⟩ := sign_err hbe
            have HR : Hid (Bz.chain s (n + 1) g0 p0 = .error er) := by
              unfold Hid
              rw [HWh.out]
              cases hra : ringAhead s x
              · unfold outer
                rw [HKn.out _ (HRi.out.trans (ringsOf_end hra))]
                simp only
                rw [branches_end b3]
                exact linked_bad b1 b2 b4 hbe
              · have hring : Bz.ring s a x = .error er := by rw [ring_tail, hbe]
                unfold outer
                rw [HKn.out _ (HRi.out.trans (ringsOf_err hra hring))]
            have RN := rnext_err hw3
            have D0 := fun w' : World => rdigit_any w' 0
            have d0 : Bz.isDigit 0 = false := rfl
            rw [d0] at D0
            clear hbe b1 b2 b3 b4 hr2
            go_wp2_with fail
            refine RN.mono ?_
            rintro e w4 ⟨rfl, k4, rfl⟩
            have hw4 := hw3.drewN k4
            have HF4 : Hid _ := HF3.out.drewN k4
            clear RN hw3
            generalize World.drewN _ _ = w4 at *
            have q7 := hw4.err
            have he := hw4.nz
            have hb2 : (er.1 != 0) = true := by simpa using he
            clear he
            go_wp2_with fail
            refine (D0 _).mono ?_
            rintro e w5 ⟨rfl, rfl⟩
            go_wp2_with fail
            refine bodyPost_ret (results_none rfl _ _ _) rfl ?_
            refine ⟨rfl, HF4.out, ?_⟩
            rw [HR.out]
            exact .inl hw4
          | ok z =>
            obtain ⟨g1, x1⟩ := z
            rw [hbe] at hm3
            obtain ⟨rfl, hr3⟩ := hm3
            simp only at hr3 ⊢
            obtain ⟨o3, hg3, hat3, hp3⟩ := bondEnd_wf hbe o2 (by omega)
            have RN := rnext_st hr3
            have D3 := fun w' : World => rdigit_any w' (byteAt s x1.pos)
            have HBe : Hid _ := hbe
            clear hr2
            go_wp2_with fail
            refine RN.mono ?_
            rintro e w4 ⟨rfl, k4, rfl⟩
            have hr4 := hr3.drewN k4
            have HF4 : Hid (RFr B w _) := HF3.out.drewN k4
            clear RN hr3 HF3
            generalize World.drewN _ _ = w4 at *
            go_wp2_with fail
            refine (D3 _).mono ?_
            rintro e w5 ⟨rfl, rfl⟩
            clear D3
            generalize hdd : Bz.isDigit (byteAt s x1.pos) = d at *
            have HD : Hid (Bz.isDigit (byteAt s x1.pos) = d) := hdd
            clear hdd
            go_upto_region 10 with fail
            go_cut [53] from 45 to 52 (fun v wc => v = .bool (startsRing (byteAt s x1.pos)) ∧ RS wc B s x1 ∧ RFr B w wc)
            case first =>
              have HSD : Hid (startsRing (byteAt s x1.pos) = (byteAt s x1.pos == 37 || d)) := by unfold Hid startsRing; rw [HD.out]
              clear HD
              generalize startsRing (byteAt s x1.pos) = sr at *
              generalize byteAt s x1.pos = cc at *
              cases d
              · cases h37 : (cc == 37)
                · rw [h37] at HSD
                  go_wp2_with fail
                  go_meet
                  case rel => exact ⟨by rw [HSD.out]; rfl, hr4, HF4.out⟩
                · rw [h37] at HSD
                  go_wp2_with fail
                  go_meet
                  case rel => exact ⟨by rw [HSD.out]; rfl, hr4, HF4.out⟩
              · have HS2 : Hid (sr = true) := by unfold Hid; rw [HSD.out, Bool.or_true]
                go_wp2_with fail
                go_meet
                case rel => exact ⟨by rw [HS2.out], hr4, HF4.out⟩
            case rest =>
              obtain ⟨rfl, hr5, hf5⟩ := hcut
              have HF5 : Hid (RFr B w wc) := hf5
              clear hr4 HF4 hf5
              cases hsr : startsRing (byteAt s x1.pos)
              · have hra := (ahead_eq HBe.out).trans hsr
                by_cases h40 : byteAt s x1.pos = 40 ∧ g1.mark = 0
                · obtain ⟨_, hsf⟩ := sign_facts HBe.out
                  have hx : g1 = ⟨0, 0, a⟩ ∧ x1 = x := by
                    rcases hsf with h | h
                    · exact absurd h40.2 h.2.2.1
                    · exact h.2
                  obtain ⟨rfl, rfl⟩ := hx
                  have hlt := byte_lt h40.1 (by decide)
                  have c1 := hr5.pos
                  have f1 := hr5.free 1
                  have hr6 := hr5.step (.int .i64 ((x1.pos : Int) + 1)) rfl
                  have hf6 := HF5.out.setPos (.int .i64 ((x1.pos : Int) + 1))
                  have RB := rbranch_any HC.out hr6 (o2.step hlt) hs a (by simp only; omega) (by simp only; omega)
                  have HP : Hid (ringsOf s a (s.size + 1) p1 = .ok x1) := HRi.out.trans (ringsOf_end hra)
                  have H40 : Hid (byteAt s x1.pos = 40) := h40.1
                  rw [h40.1]
                  clear hr5 h40 hsf
                  simp only
                  go_wp2_with fail
                  refine RB.mono ?_
                  rintro e w6 ⟨hm6, hf7⟩
                  have HF7 : Hid (RFr B w w6) := hf6.trans hf7
                  clear RB hf6 hf7 hr6 c1 f1
                  cases hbx : Bz.branch s (Bz.chain s n) a { x1 with pos := x1.pos + 1 } with
                  | ok y =>
                    rw [hbx] at hm6
                    obtain ⟨rfl, hr7⟩ := hm6
                    have hr7 : RS w6 B s y := hr7
                    obtain ⟨o7, h71, h72⟩ := branch_wf (chain_wf s n) hbx (o2.step hlt) (by simp only; omega)
                    simp only at h71 h72
                    have hy := o7.pos
                    have HBo : Hid (branches s (Bz.chain s n) a (s.size + 1) x1 = branches s (Bz.chain s n) a s.size y) := branches_go H40.out hbx
                    clear hbx
                    go_wp2_with fail
                    go_roundg (s.size - y.pos + 1)
                    case measure => omega
                    case rel => exact ⟨⟨_, rfl⟩, ⟨_, rfl⟩, HF7.out, .inr (.inl ⟨rfl, _, _, y, HP.out, HBo.out, by omega, hr7, o7, by omega, by omega, Nat.le_refl _⟩)⟩
                  | error er =>
                    rw [hbx] at hm6
                    obtain ⟨rfl, hw7⟩ := hm6
                    have hw7 : RErr w6 B er := hw7
                    have HKE : Hid (Bz.knot s (Bz.chain s n) g q = .error er) := by
                      unfold Hid
                      rw [HKn.out _ HP.out]
                      simp only
                      rw [branches_err H40.out hbx]
                    clear hbx
                    go_wp2_with fail
                    go_roundg 0
                    case measure => omega
                    case rel => exact ⟨⟨_, rfl⟩, ⟨_, rfl⟩, HF7.out, .inr (.inr ⟨_, rfl, er, HKE.out, hw7⟩)⟩
                · have HN40 : Hid (¬ (byteAt s x1.pos = 40 ∧ g1.mark = 0)) := h40
                  have HKO : Hid (Bz.knot s (Bz.chain s n) g q = .ok (a, x)) := by
                    unfold Hid
                    rw [HKn.out _ (HRi.out.trans (ringsOf_end hra))]
                    simp only
                    rw [branches_end (not40 HBe.out h40)]
                  have HWL : Hid (Bz.chain s (n + 1) g0 p0 = Bz.linked s (Bz.chain s n) (m4 + 1) a x) := by
                    unfold Hid
                    rw [HWh.out]
                    unfold outer
                    rw [HKO.out]
                  clear h40
                  go_upto_region 12 with fail
                  go_cut [63] from 58 to 62 (fun v wc => v = .bool false ∧ RS wc B s x1 ∧ RFr B w wc)
                  case first =>
                    cases e40 : (byteAt s x1.pos == 40)
                    · generalize byteAt s x1.pos = cc at *
                      go_wp2_with fail
                      go_meet
                      case rel => exact ⟨rfl, hr5, HF5.out⟩
                    · have e0 : (g1.mark == 0) = false := by
                        cases e0 : (g1.mark == 0)
                        · rfl
                        · exact absurd ⟨by simpa using e40, by simpa using e0⟩ HN40.out
                      generalize byteAt s x1.pos = cc at *
                      go_wp2_with fail
                      go_meet
                      case rel => exact ⟨rfl, hr5, HF5.out⟩
                  case rest =>
                    clear hr5 HF5
                    obtain ⟨rfl, hr6, hf6⟩ := hcut
                    have HF6 : Hid (RFr B w wc) := hf6
                    have q7 := hr6.err
                    have RN := rnext_st hr6
                    clear hf6
                    go_wp2_with fail
                    refine RN.mono ?_
                    rintro e w7 ⟨rfl, k7, rfl⟩
                    have hr7 := hr6.drewN k7
                    have HF7 : Hid (RFr B w (wc.drewN k7)) := HF6.out.drewN k7
                    clear RN hr6 HF6 q7
                    generalize World.drewN _ _ = w7 at *
                    go_upto_region 19 with fail
                    go_cut [87] from 82 to 86 (fun v wc => v = .bool (decide (byteAt s x1.pos = 46 ∧ g1.mark = 0)) ∧ RS wc B s x1 ∧ RFr B w wc)
                    case first =>
                      cases e46 : (byteAt s x1.pos == 46)
                      · have HV : Hid (decide (byteAt s x1.pos = 46 ∧ g1.mark = 0) = false) := by unfold Hid; simp at e46; simp [e46]
                        generalize byteAt s x1.pos = cc at *
                        go_wp2_with fail
                        go_meet
                        case rel => exact ⟨by rw [HV.out], hr7, HF7.out⟩
                      · cases e0 : (g1.mark == 0)
                        · have HV : Hid (decide (byteAt s x1.pos = 46 ∧ g1.mark = 0) = false) := by unfold Hid; simp at e0; simp [e0]
                          generalize byteAt s x1.pos = cc at *
                          go_wp2_with fail
                          go_meet
                          case rel => exact ⟨by rw [HV.out], hr7, HF7.out⟩
                        · have HV : Hid (decide (byteAt s x1.pos = 46 ∧ g1.mark = 0) = true) := by unfold Hid; simp at e46 e0; simp [e46, e0]
                          generalize byteAt s x1.pos = cc at *
                          go_wp2_with fail
                          go_meet
                          case rel => exact ⟨by rw [HV.out], hr7, HF7.out⟩
                    case rest =>
                      clear hr7 HF7
                      obtain ⟨rfl, hr8, hf8⟩ := hcut
                      have HF8 : Hid (RFr B w wc) := hf8
                      clear hf8
                      obtain ⟨hga, hsf⟩ := sign_facts HBe.out
                      by_cases h46 : byteAt s x1.pos = 46 ∧ g1.mark = 0
                      · rw [decide_eq_true h46]
                        have hx : g1 = ⟨0, 0, a⟩ ∧ x1 = x := by
                          rcases hsf with h | h
                          · exact absurd h46.2 h.2.2.1
                          · exact h.2
                        obtain ⟨rfl, rfl⟩ := hx
                        have hlt := byte_lt h46.1 (by decide)
                        have HWo : Hid (Bz.chain s (n + 1) g0 p0 = outer s n m4 ⟨0, 0, -1⟩ { x1 with pos := x1.pos + 1 }) := by
                          unfold Hid
                          rw [HWL.out]
                          exact linked_link hlt (by rw [h46.1]; decide) (by unfold link; rw [if_pos h46.1])
                        have c1 := hr8.pos
                        have f1 := hr8.free 1
                        have hr9 := hr8.step (.int .i64 ((x1.pos : Int) + 1)) rfl
                        have HF9 : Hid (RFr B w (wc.setCell ⟨B, 1, none⟩ (.int .i64 ((x1.pos : Int) + 1)))) := HF8.out.setPos _
                        clear h46 hsf hr8
                        simp only
                        go_wp2_with fail
                        go_roundg (s.size - (x1.pos + 1) + 1)
                        case measure => omega
                        case rel => exact ⟨m4, ⟨0, 0, -1⟩, { x1 with pos := x1.pos + 1 }, x1.pos, rfl, rfl, rfl, by simp, HWo.out, by simp only; omega, by simp only; omega, hr9, o2.step hlt, .inl rfl, by simp only; omega, HF9.out⟩
                      · rw [decide_eq_false h46]
                        have HBg := fun w' : World => rbegins_any w' (byteAt s x1.pos)
                        have HN46 : Hid (¬ (byteAt s x1.pos = 46 ∧ g1.mark = 0)) := h46
                        clear h46
                        have HRet : Hid (g1.mark = 0 → rbegins (byteAt s x1.pos) = false → Bz.chain s (n + 1) g0 p0 = if x1.pos < s.size ∧ byteAt s x1.pos ≠ 41 then .error (2, (x1.pos : Int)) else .ok x1) := by
                          intro h1 h2
                          have hx : isSign (byteAt s x.pos) = false ∧ g1 = ⟨0, 0, a⟩ ∧ x1 = x := by
                            rcases hsf with h | h
                            · exact absurd h1 h.2.2.1
                            · exact h
                          obtain ⟨hS, rfl, rfl⟩ := hx
                          rw [HWL.out]
                          exact linked_stop hS (fun e => HN46.out ⟨e, rfl⟩) h2
                        have HGo : Hid (¬ (g1.mark = 0 ∧ rbegins (byteAt s x1.pos) = false) → Bz.chain s (n + 1) g0 p0 = outer s n m4 g1 x1) := by
                          intro h
                          obtain ⟨h1, h2, h3⟩ := link_go HBe.out h
                          rw [HWL.out]
                          exact linked_link h1 h2 h3
                        have HSp : Hid (g1.mark = 58 → g1.spot = (x.pos : Int)) := by
                          intro h58
                          rcases hsf with h | h
                          · exact h.2.2.2.1
                          · rw [h.2.1] at h58; simp at h58
                        clear hsf
                        generalize hbg : rbegins (byteAt s x1.pos) = bg at *
                        have HBG : Hid (rbegins (byteAt s x1.pos) = bg) := hbg
                        clear hbg
                        go_wp2_with fail
                        refine (HBg _).mono ?_
                        rintro e w9 ⟨rfl, rfl⟩
                        clear HBg
                        cases e0 : (g1.mark == 0)
                        · have HWo : Hid (Bz.chain s (n + 1) g0 p0 = outer s n m4 g1 x1) := HGo.out (by intro h; simp at e0; exact e0 h.1)
                          go_wp2_with fail
                          go_roundg (s.size - x1.pos + 1)
                          case measure => have := o3.pos; omega
                          case rel => exact ⟨m4, g1, x1, x.pos, by rw [hga], rfl, rfl, HSp.out, HWo.out, by have := o3.pos; omega, Nat.le_refl _, hr8, o3, hg3, by omega, HF8.out⟩
                        · cases bg
                          · have HWo : Hid _ := HRet.out (by simpa using e0) rfl
                            go_wp2_with fail
                            refine bodyPost_ret (results_none rfl _ _ _) rfl ?_
                            refine ⟨rfl, HF8.out, ?_⟩
                            rw [HWo.out]
                            by_cases hc : x1.pos < s.size ∧ byteAt s x1.pos ≠ 41
                            · rw [if_pos hc]
                              exact .inr ⟨x1, rfl, hr8, hc.1, hc.2⟩
                            · rw [if_neg hc]
                              exact hr8
                          · have HWo : Hid (Bz.chain s (n + 1) g0 p0 = outer s n m4 g1 x1) := HGo.out (by intro h; cases h.2)
                            go_wp2_with fail
                            go_roundg (s.size - x1.pos + 1)
                            case measure => have := o3.pos; omega
                            case rel => exact ⟨m4, g1, x1, x.pos, by rw [hga], rfl, rfl, HSp.out, HWo.out, by have := o3.pos; omega, Nat.le_refl _, hr8, o3, hg3, by omega, HF8.out⟩
              · have hra := (ahead_eq HBe.out).trans hsr
                obtain ⟨hga, hsf⟩ := sign_facts HBe.out
                have RR := rring_st hr5 o3 hs a (by rw [hat3]; exact hal2) g1 hga (by
                  intro h58
                  rcases hsf with h | h
                  · rw [h.2.2.2.1, h.2.2.2.2.1]; simp
                  · rw [h.2.1] at h58; simp at h58) hsr
                clear hsf hr5 hsr
                go_wp2_with fail
                refine RR.mono ?_
                rintro e w6 ⟨hm6, hf7⟩
                have HF7 : Hid (RFr B w w6) := HF5.out.trans hf7
                clear RR hf7
                have hring : Bz.ring s a x = ringTail s g1 x1 := by rw [ring_tail, HBe.out]
                cases hrx : ringTail s g1 x1 with
                | ok y =>
                  rw [hrx] at hm6 hring
                  obtain ⟨rfl, hr7⟩ := hm6
                  have hr7 : RS w6 B s y := hr7
                  obtain ⟨o7, h71, h72⟩ := ring_wf hring o2 (by omega)
                  have h73 := ring_atoms hring
                  have HRo : Hid (ringsOf s a (s.size + 1) p1 = ringsOf s a m3 y) := HRi.out.trans (ringsOf_go hra hring)
                  have hy := o7.pos
                  clear hrx hring
                  go_wp2_with fail
                  go_roundg (s.size - y.pos + 1)
                  case measure => omega
                  case rel => exact ⟨⟨_, rfl⟩, ⟨_, rfl⟩, HF7.out, .inl ⟨rfl, m3, y, HRo.out, by omega, hr7, o7, by rw [h73]; exact hal2, by omega, Nat.le_refl _⟩⟩
                | error er =>
                  rw [hrx] at hm6 hring
                  obtain ⟨rfl, hw7⟩ := hm6
                  have hw7 : RErr w6 B er := hw7
                  have HKE : Hid (Bz.knot s (Bz.chain s n) g q = .error er) := by
                    unfold Hid
                    rw [HKn.out _ (HRi.out.trans (ringsOf_err hra hring))]
                  clear hrx hring
                  go_wp2_with fail
                  go_roundg 0
                  case measure => omega
                  case rel => exact ⟨⟨_, rfl⟩, ⟨_, rfl⟩, HF7.out, .inr (.inr ⟨_, rfl, er, HKE.out, hw7⟩)⟩
        · have q7' := hr2.err
          have c1 := hr2.pos
          have RSg := rsign_st hr2 hs a (by omega)
          have HF2 : Hid (RFr B w wr) := hf2
          obtain ⟨m3, rfl⟩ : ∃ m3, m2 = m3 + 1 := ⟨m2 - 1, by omega⟩
          obtain ⟨m4, rfl⟩ : ∃ m4, m = m4 + 1 := ⟨m - 1, by have := o1.pos; omega⟩
          have HRi : Hid _ := hri
          have HBr : Hid _ := hbr
          clear hri hf2 q7 hbr
          go_wp2_with fail
          refine RSg.mono ?_
          rintro e w3 ⟨hm3, hf3⟩
          have HF3 : Hid (RFr B w w3) := HF2.out.trans hf3
          clear RSg q7' c1 hf3 HF2
          cases hbe : bondEnd s a x with
          | error er =>
            rw [hbe] at hm3
            obtain ⟨rfl, hw3⟩ := hm3
            obtain ⟨b1, b2, b3, b4⟩ := sign_err hbe
            have HR : Hid (Bz.chain s (n + 1) g0 p0 = .error er) := by
              unfold Hid
              rw [HWh.out]
              unfold outer
              rw [HKn.out _ HRi.out]
              simp only
              rw [HBr.out, branches_end b3]
              exact linked_bad b1 b2 b4 hbe
            have RN := rnext_err hw3
            have D0 := fun w' : World => rdigit_any w' 0
            have d0 : Bz.isDigit 0 = false := rfl
            rw [d0] at D0
            clear hbe b1 b2 b3 b4 hr2
            go_wp2_with fail
            refine RN.mono ?_
            rintro e w4 ⟨rfl, k4, rfl⟩
            have hw4 := hw3.drewN k4
            have HF4 : Hid _ := HF3.out.drewN k4
            clear RN hw3
            generalize World.drewN _ _ = w4 at *
            have q7 := hw4.err
            have he := hw4.nz
            have hb2 : (er.1 != 0) = true := by simpa using he
            clear he
            go_wp2_with fail
            refine (D0 _).mono ?_
            rintro e w5 ⟨rfl, rfl⟩
            go_wp2_with fail
            refine bodyPost_ret (results_none rfl _ _ _) rfl ?_
            refine ⟨rfl, HF4.out, ?_⟩
            rw [HR.out]
            exact .inl hw4
          | ok z =>
            obtain ⟨g1, x1⟩ := z
            rw [hbe] at hm3
            obtain ⟨rfl, hr3⟩ := hm3
            simp only at hr3 ⊢
            obtain ⟨o3, hg3, hat3, hp3⟩ := bondEnd_wf hbe o2 (by omega)
            have RN := rnext_st hr3
            have D3 := fun w' : World => rdigit_any w' (byteAt s x1.pos)
            have HBe : Hid _ := hbe
            clear hr2
            go_wp2_with fail
            refine RN.mono ?_
            rintro e w4 ⟨rfl, k4, rfl⟩
            have hr4 := hr3.drewN k4
            have HF4 : Hid (RFr B w _) := HF3.out.drewN k4
            clear RN hr3 HF3
            generalize World.drewN _ _ = w4 at *
            go_wp2_with fail
            refine (D3 _).mono ?_
            rintro e w5 ⟨rfl, rfl⟩
            clear D3
            generalize hdd : Bz.isDigit (byteAt s x1.pos) = d at *
            have HD : Hid (Bz.isDigit (byteAt s x1.pos) = d) := hdd
            clear hdd
            go_upto_region 10 with fail
            go_cut [53] from 45 to 52 (fun v wc => v = .bool (false) ∧ RS wc B s x1 ∧ RFr B w wc)
            case first =>
              clear HD
              generalize byteAt s x1.pos = cc at *
              cases d
              · cases h37 : (cc == 37)
                · go_wp2_with fail
                  go_meet
                  case rel => exact ⟨rfl, hr4, HF4.out⟩
                · go_wp2_with fail
                  go_meet
                  case rel => exact ⟨rfl, hr4, HF4.out⟩
              · go_wp2_with fail
                go_meet
                case rel => exact ⟨rfl, hr4, HF4.out⟩
            case rest =>
              obtain ⟨rfl, hr5, hf5⟩ := hcut
              have HF5 : Hid (RFr B w wc) := hf5
              clear hr4 HF4 hf5
              by_cases h40 : byteAt s x1.pos = 40 ∧ g1.mark = 0
              · obtain ⟨_, hsf⟩ := sign_facts HBe.out
                have hx : g1 = ⟨0, 0, a⟩ ∧ x1 = x := by
                  rcases hsf with h | h
                  · exact absurd h40.2 h.2.2.1
                  · exact h.2
                obtain ⟨rfl, rfl⟩ := hx
                have hlt := byte_lt h40.1 (by decide)
                have c1 := hr5.pos
                have f1 := hr5.free 1
                have hr6 := hr5.step (.int .i64 ((x1.pos : Int) + 1)) rfl
                have hf6 := HF5.out.setPos (.int .i64 ((x1.pos : Int) + 1))
                have RB := rbranch_any HC.out hr6 (o2.step hlt) hs a (by simp only; omega) (by simp only; omega)
                have HP : Hid (ringsOf s a (s.size + 1) p1 = .ok p2) := HRi.out
                have H40 : Hid (byteAt s x1.pos = 40) := h40.1
                rw [h40.1]
                clear hr5 h40 hsf
                simp only
                go_wp2_with fail
                refine RB.mono ?_
                rintro e w6 ⟨hm6, hf7⟩
                have HF7 : Hid (RFr B w w6) := hf6.trans hf7
                clear RB hf6 hf7 hr6 c1 f1
                cases hbx : Bz.branch s (Bz.chain s n) a { x1 with pos := x1.pos + 1 } with
                | ok y =>
                  rw [hbx] at hm6
                  obtain ⟨rfl, hr7⟩ := hm6
                  have hr7 : RS w6 B s y := hr7
                  obtain ⟨o7, h71, h72⟩ := branch_wf (chain_wf s n) hbx (o2.step hlt) (by simp only; omega)
                  simp only at h71 h72
                  have hy := o7.pos
                  have HBo : Hid (branches s (Bz.chain s n) a (s.size + 1) p2 = branches s (Bz.chain s n) a m3 y) := HBr.out.trans (branches_go H40.out hbx)
                  clear hbx
                  go_wp2_with fail
                  go_roundg (s.size - y.pos + 1)
                  case measure => omega
                  case rel => exact ⟨⟨_, rfl⟩, ⟨_, rfl⟩, HF7.out, .inr (.inl ⟨rfl, _, _, y, HP.out, HBo.out, by omega, hr7, o7, by omega, by omega, Nat.le_refl _⟩)⟩
                | error er =>
                  rw [hbx] at hm6
                  obtain ⟨rfl, hw7⟩ := hm6
                  have hw7 : RErr w6 B er := hw7
                  have HKE : Hid (Bz.knot s (Bz.chain s n) g q = .error er) := by
                    unfold Hid
                    rw [HKn.out _ HP.out]
                    simp only
                    rw [HBr.out, branches_err H40.out hbx]
                  clear hbx
                  go_wp2_with fail
                  go_roundg 0
                  case measure => omega
                  case rel => exact ⟨⟨_, rfl⟩, ⟨_, rfl⟩, HF7.out, .inr (.inr ⟨_, rfl, er, HKE.out, hw7⟩)⟩
              · have HN40 : Hid (¬ (byteAt s x1.pos = 40 ∧ g1.mark = 0)) := h40
                have HKO : Hid (Bz.knot s (Bz.chain s n) g q = .ok (a, x)) := by
                  unfold Hid
                  rw [HKn.out _ HRi.out]
                  simp only
                  rw [HBr.out, branches_end (not40 HBe.out h40)]
                have HWL : Hid (Bz.chain s (n + 1) g0 p0 = Bz.linked s (Bz.chain s n) (m4 + 1) a x) := by
                  unfold Hid
                  rw [HWh.out]
                  unfold outer
                  rw [HKO.out]
                clear h40
                go_upto_region 12 with fail
                go_cut [63] from 58 to 62 (fun v wc => v = .bool false ∧ RS wc B s x1 ∧ RFr B w wc)
                case first =>
                  cases e40 : (byteAt s x1.pos == 40)
                  · generalize byteAt s x1.pos = cc at *
                    go_wp2_with fail
                    go_meet
                    case rel => exact ⟨rfl, hr5, HF5.out⟩
                  · have e0 : (g1.mark == 0) = false := by
                      cases e0 : (g1.mark == 0)
                      · rfl
                      · exact absurd ⟨by simpa using e40, by simpa using e0⟩ HN40.out
                    generalize byteAt s x1.pos = cc at *
                    go_wp2_with fail
                    go_meet
                    case rel => exact ⟨rfl, hr5, HF5.out⟩
                case rest =>
                  clear hr5 HF5
                  obtain ⟨rfl, hr6, hf6⟩ := hcut
                  have HF6 : Hid (RFr B w wc) := hf6
                  have q7 := hr6.err
                  have RN := rnext_st hr6
                  clear hf6
                  go_wp2_with fail
                  refine RN.mono ?_
                  rintro e w7 ⟨rfl, k7, rfl⟩
                  have hr7 := hr6.drewN k7
                  have HF7 : Hid (RFr B w (wc.drewN k7)) := HF6.out.drewN k7
                  clear RN hr6 HF6 q7
                  generalize World.drewN _ _ = w7 at *
                  go_upto_region 19 with fail
                  go_cut [87] from 82 to 86 (fun v wc => v = .bool (decide (byteAt s x1.pos = 46 ∧ g1.mark = 0)) ∧ RS wc B s x1 ∧ RFr B w wc)
                  case first =>
                    cases e46 : (byteAt s x1.pos == 46)
                    · have HV : Hid (decide (byteAt s x1.pos = 46 ∧ g1.mark = 0) = false) := by unfold Hid; simp at e46; simp [e46]
                      generalize byteAt s x1.pos = cc at *
                      go_wp2_with fail
                      go_meet
                      case rel => exact ⟨by rw [HV.out], hr7, HF7.out⟩
                    · cases e0 : (g1.mark == 0)
                      · have HV : Hid (decide (byteAt s x1.pos = 46 ∧ g1.mark = 0) = false) := by unfold Hid; simp at e0; simp [e0]
                        generalize byteAt s x1.pos = cc at *
                        go_wp2_with fail
                        go_meet
                        case rel => exact ⟨by rw [HV.out], hr7, HF7.out⟩
                      · have HV : Hid (decide (byteAt s x1.pos = 46 ∧ g1.mark = 0) = true) := by unfold Hid; simp at e46 e0; simp [e46, e0]
                        generalize byteAt s x1.pos = cc at *
                        go_wp2_with fail
                        go_meet
                        case rel => exact ⟨by rw [HV.out], hr7, HF7.out⟩
                  case rest =>
                    clear hr7 HF7
                    obtain ⟨rfl, hr8, hf8⟩ := hcut
                    have HF8 : Hid (RFr B w wc) := hf8
                    clear hf8
                    obtain ⟨hga, hsf⟩ := sign_facts HBe.out
                    by_cases h46 : byteAt s x1.pos = 46 ∧ g1.mark = 0
                    · rw [decide_eq_true h46]
                      have hx : g1 = ⟨0, 0, a⟩ ∧ x1 = x := by
                        rcases hsf with h | h
                        · exact absurd h46.2 h.2.2.1
                        · exact h.2
                      obtain ⟨rfl, rfl⟩ := hx
                      have hlt := byte_lt h46.1 (by decide)
                      have HWo : Hid (Bz.chain s (n + 1) g0 p0 = outer s n m4 ⟨0, 0, -1⟩ { x1 with pos := x1.pos + 1 }) := by
                        unfold Hid
                        rw [HWL.out]
                        exact linked_link hlt (by rw [h46.1]; decide) (by unfold link; rw [if_pos h46.1])
                      have c1 := hr8.pos
                      have f1 := hr8.free 1
                      have hr9 := hr8.step (.int .i64 ((x1.pos : Int) + 1)) rfl
                      have HF9 : Hid (RFr B w (wc.setCell ⟨B, 1, none⟩ (.int .i64 ((x1.pos : Int) + 1)))) := HF8.out.setPos _
                      clear h46 hsf hr8
                      simp only
                      go_wp2_with fail
                      go_roundg (s.size - (x1.pos + 1) + 1)
                      case measure => omega
                      case rel => exact ⟨m4, ⟨0, 0, -1⟩, { x1 with pos := x1.pos + 1 }, x1.pos, rfl, rfl, rfl, by simp, HWo.out, by simp only; omega, by simp only; omega, hr9, o2.step hlt, .inl rfl, by simp only; omega, HF9.out⟩
                    · rw [decide_eq_false h46]
                      have HBg := fun w' : World => rbegins_any w' (byteAt s x1.pos)
                      have HN46 : Hid (¬ (byteAt s x1.pos = 46 ∧ g1.mark = 0)) := h46
                      clear h46
                      have HRet : Hid (g1.mark = 0 → rbegins (byteAt s x1.pos) = false → Bz.chain s (n + 1) g0 p0 = if x1.pos < s.size ∧ byteAt s x1.pos ≠ 41 then .error (2, (x1.pos : Int)) else .ok x1) := by
                        intro h1 h2
                        have hx : isSign (byteAt s x.pos) = false ∧ g1 = ⟨0, 0, a⟩ ∧ x1 = x := by
                          rcases hsf with h | h
                          · exact absurd h1 h.2.2.1
                          · exact h
                        obtain ⟨hS, rfl, rfl⟩ := hx
                        rw [HWL.out]
                        exact linked_stop hS (fun e => HN46.out ⟨e, rfl⟩) h2
                      have HGo : Hid (¬ (g1.mark = 0 ∧ rbegins (byteAt s x1.pos) = false) → Bz.chain s (n + 1) g0 p0 = outer s n m4 g1 x1) := by
                        intro h
                        obtain ⟨h1, h2, h3⟩ := link_go HBe.out h
                        rw [HWL.out]
                        exact linked_link h1 h2 h3
                      have HSp : Hid (g1.mark = 58 → g1.spot = (x.pos : Int)) := by
                        intro h58
                        rcases hsf with h | h
                        · exact h.2.2.2.1
                        · rw [h.2.1] at h58; simp at h58
                      clear hsf
                      generalize hbg : rbegins (byteAt s x1.pos) = bg at *
                      have HBG : Hid (rbegins (byteAt s x1.pos) = bg) := hbg
                      clear hbg
                      go_wp2_with fail
                      refine (HBg _).mono ?_
                      rintro e w9 ⟨rfl, rfl⟩
                      clear HBg
                      cases e0 : (g1.mark == 0)
                      · have HWo : Hid (Bz.chain s (n + 1) g0 p0 = outer s n m4 g1 x1) := HGo.out (by intro h; simp at e0; exact e0 h.1)
                        go_wp2_with fail
                        go_roundg (s.size - x1.pos + 1)
                        case measure => have := o3.pos; omega
                        case rel => exact ⟨m4, g1, x1, x.pos, by rw [hga], rfl, rfl, HSp.out, HWo.out, by have := o3.pos; omega, Nat.le_refl _, hr8, o3, hg3, by omega, HF8.out⟩
                      · cases bg
                        · have HWo : Hid _ := HRet.out (by simpa using e0) rfl
                          go_wp2_with fail
                          refine bodyPost_ret (results_none rfl _ _ _) rfl ?_
                          refine ⟨rfl, HF8.out, ?_⟩
                          rw [HWo.out]
                          by_cases hc : x1.pos < s.size ∧ byteAt s x1.pos ≠ 41
                          · rw [if_pos hc]
                            exact .inr ⟨x1, rfl, hr8, hc.1, hc.2⟩
                          · rw [if_neg hc]
                            exact hr8
                        · have HWo : Hid (Bz.chain s (n + 1) g0 p0 = outer s n m4 g1 x1) := HGo.out (by intro h; cases h.2)
                          go_wp2_with fail
                          go_roundg (s.size - x1.pos + 1)
                          case measure => have := o3.pos; omega
                          case rel => exact ⟨m4, g1, x1, x.pos, by rw [hga], rfl, rfl, HSp.out, HWo.out, by have := o3.pos; omega, Nat.le_refl _, hr8, o3, hg3, by omega, HF8.out⟩
        · have HR : Hid (Bz.chain s (n + 1) g0 p0 = .error er) := by unfold Hid; rw [HWh.out]; unfold outer; rw [hkn]
          have q7 := hw2.err
          have he := hw2.nz
          have hb : (er.1 == 0) = false := by simpa using he
          have hb2 : (er.1 != 0) = true := by simpa using he
          have HF2 : Hid _ := hf2
          clear he hkn hf2
          go_wp2_with fail
          refine bodyPost_ret (results_none rfl _ _ _) rfl ?_
          refine ⟨rfl, HF2.out, ?_⟩
          rw [HR.out]
          exact .inl hw2

theorem rchain_any (hs : s.size ≤ 160) : ∀ n, ChainR s n
  | 0 => fun _ _ _ _ _ _ _ _ h _ => absurd h (Nat.not_lt_zero _)
  | n + 1 => rchain_step (rchain_any hs n) hs
end
end Go.Proofs.YtcabaecbmkgclaaGreatDoor
