/-
  The document's sign and ring beside the plain ones.
  The document's branch, by what its chain does.
-/
import Derived.Test.YtcabaecbmkgclaaGreatDoorR16
namespace Go.Proofs.YtcabaecbmkgclaaGreatDoor
open Go.RowKit Bz
def SigPost (w : World) (B : Nat) (s : ByteArray) (r : R (Hung × St)) (e : Ending) (w' : World) : Prop :=
  (match r with
  | .ok x => e = .returned (.int .u8 x.1.mark) ∧ RS w' B s x.2
  | .error er => e = .returned (.int .u8 0) ∧ RErr w' B er) ∧ RFr B w w'

/-- What a call that answers nothing leaves. -/
def RUPost (w : World) (B : Nat) (s : ByteArray) (r : R St) (e : Ending) (w' : World) : Prop :=
  (match r with
  | .ok p => e = .returned (.tuple #[]) ∧ RS w' B s p
  | .error er => e = .returned (.tuple #[]) ∧ RErr w' B er) ∧ RFr B w w'

section
variable {w : World} {B : Nat} {s : ByteArray} {p : St} {q : RSt}
theorem aro_at {a : Nat} {x : Atm} (h : p.atoms[a]? = some x) : Bz.aro p (a : Int) = x.aro := by
  unfold Bz.aro
  rw [Int.toNat_natCast, h]

theorem RTie.step (t : RTie s q p) : RTie s { q with pos := q.pos + 1 } { p with pos := p.pos + 1 } :=
  ⟨t.e, by simp [t.pos], t.atoms, t.bonds, t.opens, t.apart, t.nums, by have := t.count; simp only; omega, t.chs⟩

theorem rsign_st (h : RS w B s p) (hs : s.size ≤ 160) (a : Nat) (ha : a < p.atoms.length) :
    Calls Tryz.prog 93 #[.pointer (some ⟨B, 0, none⟩), .int .i64 a] w (SigPost w B s (bondEnd s a p)) := by
  obtain ⟨q, hr, t⟩ := h
  refine (rsign_any hr hs a (by rw [t.atoms]; exact ha)).mono ?_
  rintro e w' ⟨rfl, h1, h2⟩
  refine ⟨?_, h2⟩
  have hn : rnext s q = byteAt s p.pos := by unfold rnext; rw [if_pos t.e, t.pos]
  have gx := List.getElem?_eq_getElem ha
  have hm : (q.atoms[a]?).map (·.aro) = some p.atoms[a].aro := by rw [t.atoms, gx]; rfl
  unfold rsign at h1 ⊢
  unfold bondEnd
  simp only [hn, hm, aro_at gx, Option.some.injEq] at h1 ⊢
  cases hS : isSign (byteAt s p.pos)
  · rw [hS] at h1
    simp only [Bool.false_eq_true, if_false] at h1 ⊢
    exact ⟨by simp, q, h1, t⟩
  · rw [hS] at h1
    simp only [if_true] at h1 ⊢
    by_cases hc : byteAt s p.pos = 58 ∧ p.atoms[a].aro = false
    · rw [if_pos hc] at h1
      rw [if_pos hc, if_pos hc]
      unfold RSt.fails at h1
      rw [if_pos t.e] at h1
      exact ⟨rfl, h1.wrong rfl (by simp [t.pos]) (by simp)⟩
    · rw [if_neg hc] at h1
      rw [if_neg hc, if_neg hc]
      exact ⟨rfl, _, h1, t.step⟩

/-- A ring number behind its sign. -/
def ringTail (s : ByteArray) (e : Hung) (p : St) : R St :=
  match ringNumber s p.pos with
  | .error e => .error e
  | .ok (n, j) =>
    match p.rings n with
    | none => .ok { p with pos := j, rings := setRing p.rings n (some ⟨e, p.pos⟩) }
    | some o => closeRing o.hung e p.pos { p with pos := j, rings := setRing p.rings n none }

theorem ring_tail (a : Nat) : Bz.ring s a p = match bondEnd s a p with
    | .error e => .error e
    | .ok (e, p) => ringTail s e p := rfl

theorem small_tie (h : q.atoms = p.atoms) (a b : Nat) : rsmall q a b = (Bz.aro p (a : Int) && Bz.aro p (b : Int)) := by
  have ha : ∀ k : Nat, Bz.aro p (k : Int) = (q.atoms[k]?).any (·.aro) := by
    intro k
    unfold Bz.aro
    rw [h]
    simp only [Int.toNat_natCast]
    cases p.atoms[k]? <;> rfl
  unfold rsmall
  rw [ha, ha]

def ClosesOut (q : RSt) (P : St) (r : R St) (q' : RSt) : Prop :=
  match r with
  | .ok P' => (∃ x, P' = { P with bonds := P.bonds ++ [x] }) ∧ q' = { q with bonds := P'.bonds }
  | .error er => q' = { q with e := er.1, place := er.2 } ∧ er.1 ≠ 0

theorem closes_tie {P : St} (hat : q.atoms = P.atoms) (hbo : q.bonds = P.bonds) (he : q.e = 0) (o : ROpn) (O e : Hung) (k place : Nat) (h1 : O.atom = (o.atom : Int)) (h2 : O.mark = o.sign) (h3 : e.atom = (k : Int))
    (h4 : e.mark = 58 → e.spot = (place : Int) - 1) (hlt : o.atom ≤ k) : ClosesOut q P (closeRing O e place P) (rcloses q o k e.mark place) := by
  have hsm := small_tie hat o.atom k
  have hfl : ∀ x y : Int, q.fails x y = { q with e := x, place := y } := by intro x y; unfold RSt.fails; rw [if_pos he]
  unfold closeRing rcloses
  simp only [h1, h2, h3, hsm, hfl, Int.toNat_natCast, hbo]
  generalize hA : (Bz.aro P (o.atom : Int) && Bz.aro P (k : Int)) = sm
  by_cases c1 : e.mark = 58 ∧ sm = false
  · rw [if_pos c1, if_pos (by rw [c1.2]; exact ⟨c1.1, rfl⟩)]
    exact ⟨by rw [h4 c1.1, ← hbo], by simp⟩
  · rw [if_neg c1, if_neg (by intro x; apply c1; refine ⟨x.1, ?_⟩; cases sm <;> simp_all)]
    by_cases c2 : e.mark = 0 ∧ o.sign = 58 ∧ sm = false
    · rw [if_pos c2, if_pos (by rw [c2.2.2]; exact ⟨c2.2.1, c2.1, rfl⟩)]
      exact ⟨by rw [← hbo], by simp⟩
    · rw [if_neg c2, if_neg (by intro x; apply c2; refine ⟨x.2.1, x.1, ?_⟩; cases sm <;> simp_all)]
      by_cases c3 : o.atom = k ∨ bonded P.bonds o.atom k = true ∨ (e.mark ≠ 0 ∧ o.sign ≠ 0 ∧ e.mark ≠ o.sign)
      · have c3' : (o.atom : Int) = (k : Int) ∨ bonded P.bonds o.atom k = true ∨ clash o.sign e.mark = true := by
          rcases c3 with c | c | c
          · exact .inl (by omega)
          · exact .inr (.inl c)
          · refine .inr (.inr ?_)
            unfold clash
            simp only [Bool.and_eq_true, bne_iff_ne]
            exact ⟨⟨c.2.1, c.1⟩, fun x => c.2.2 x.symm⟩
        rw [if_pos c3, if_pos c3']
        exact ⟨by rw [← hbo], by simp⟩
      · have c3' : ¬ ((o.atom : Int) = (k : Int) ∨ bonded P.bonds o.atom k = true ∨ clash o.sign e.mark = true) := by
          rintro (c | c | c)
          · exact c3 (.inl (by omega))
          · exact c3 (.inr (.inl c))
          · unfold clash at c
            simp only [Bool.and_eq_true, bne_iff_ne] at c
            exact c3 (.inr (.inr ⟨c.1.2, c.1.1, fun x => c.2 x.symm⟩))
        rw [if_neg c3, if_neg c3']
        have hg : given o.sign e.mark = if e.mark = 0 then o.sign else e.mark := by
          unfold given
          by_cases g1 : o.sign = 0
          · rw [if_pos g1]
            by_cases g2 : e.mark = 0
            · rw [if_pos g2, g1, g2]
            · rw [if_neg g2]
          · rw [if_neg g1]
            by_cases g2 : e.mark = 0
            · rw [if_pos g2]
            · rw [if_neg g2]
              apply Classical.byContradiction
              intro g3
              exact c3 (.inr (.inr ⟨g2, g1, fun x => g3 x.symm⟩))
        refine ⟨⟨_, rfl⟩, ?_⟩
        simp only [Bz.bind]
        rw [hg, order_tie hat, Nat.min_eq_left hlt, Nat.max_eq_right hlt]

theorem find_apart : ∀ (l : List ROpn) (i : Nat) (o : ROpn), l.Pairwise (fun x y => x.num ≠ y.num) → l[i]? = some o → l.find? (fun x => x.num == o.num) = some o
  | [], i, o, _, h => by simp at h
  | x :: r, 0, o, _, h => by
    simp at h
    subst h
    simp
  | x :: r, i + 1, o, hp, h => by
    rw [List.pairwise_cons] at hp
    have h' : r[i]? = some o := by simpa using h
    have hne := hp.1 o (List.mem_of_getElem? h')
    rw [List.find?_cons_of_neg (by simpa using hne)]
    exact find_apart r i o hp.2 h'

theorem find_drop : ∀ (l : List ROpn) (i : Nat) (o : ROpn), l.Pairwise (fun x y => x.num ≠ y.num) → l[i]? = some o → ∀ n, (l.take i ++ l.drop (i + 1)).find? (fun x => x.num == n) = if n = o.num then none else l.find? (fun x => x.num == n)
  | [], i, o, _, h, n => by simp at h
  | x :: r, 0, o, hp, h, n => by
    simp at h
    subst h
    rw [List.pairwise_cons] at hp
    simp only [List.take_zero, List.nil_append, Nat.zero_add, List.drop_one, List.tail_cons]
    by_cases e : n = x.num
    · rw [if_pos e, List.find?_eq_none]
      intro y hy
      have := hp.1 y hy
      simp
      omega
    · rw [if_neg e, List.find?_cons_of_neg (by simp; omega)]
  | x :: r, i + 1, o, hp, h, n => by
    rw [List.pairwise_cons] at hp
    have h' : r[i]? = some o := by simpa using h
    have hne := hp.1 o (List.mem_of_getElem? h')
    have ih := find_drop r i o hp.2 h' n
    simp only [List.take_succ_cons, List.drop_succ_cons, List.cons_append]
    by_cases e : x.num = n
    · rw [List.find?_cons_of_pos (by simpa using e), List.find?_cons_of_pos (by simpa using e), if_neg (by omega)]
    · rw [List.find?_cons_of_neg (by simpa using e), List.find?_cons_of_neg (by simpa using e), ih]

theorem setRing_at (f : Nat → Option Opn) (n : Nat) (o : Option Opn) (m : Nat) : setRing f n o m = if m = n then o else f m := rfl

theorem rn_facts {i n j : Nat} (h : ringNumber s i = .ok (n, j)) : n < 100 ∧ i < j ∧ i < s.size := by
  unfold ringNumber at h
  split at h
  · rename_i h37
    have := byte_lt h37 (by decide)
    split at h
    · rename_i hd1
      have d1 := (isDigit_iff _).1 hd1
      split at h
      · rename_i hd2
        have d2 := (isDigit_iff _).1 hd2
        simp only [Except.ok.injEq, Prod.mk.injEq] at h
        omega
      · cases h
    · cases h
  · split at h
    · rename_i hd1
      have d1 := (isDigit_iff _).1 hd1
      have := lt_of_byteAt (s := s) (i := i) (by omega)
      simp only [Except.ok.injEq, Prod.mk.injEq] at h
      omega
    · cases h

theorem rring_st (h : RS w B s p) (o : Ok s p) (hs : s.size ≤ 160) (a : Nat) (ha : a + 1 = p.atoms.length) (e : Hung) (hea : e.atom = (a : Int)) (hsp : e.mark = 58 → e.spot = (p.pos : Int) - 1) (hc : startsRing (byteAt s p.pos) = true) :
    Calls Tryz.prog 96 #[.pointer (some ⟨B, 0, none⟩), .int .i64 a, .int .u8 e.mark] w (RUPost w B s (ringTail s e p)) := by
  obtain ⟨q, hr, t⟩ := h
  have hat : ∀ x ∈ q.opens, x.atom < q.atoms.length ∧ ∃ O, p.rings x.num = some O ∧ O.hung.atom = (x.atom : Int) ∧ O.hung.mark = x.sign := by
    intro x hx
    obtain ⟨i, hi⟩ := List.getElem?_of_mem hx
    have hf := find_apart q.opens i x t.apart hi
    have ho := t.opens x.num
    rw [hf] at ho
    cases hO : p.rings x.num with
    | none => rw [hO] at ho; simp at ho
    | some O =>
      rw [hO] at ho
      simp only [Option.map_some, Option.some.injEq, Prod.mk.injEq] at ho
      obtain ⟨fa, h1, h2⟩ := o.rings _ _ hO
      refine ⟨?_, O, rfl, ho.1, ho.2.2⟩
      rw [t.atoms]
      have := ho.1
      omega
  have hb := o.bonds
  have hp := o.pos
  have hcn := t.count
  refine (rring_any hr t.e hs (by rw [t.pos]; exact hp) a e.mark (by rw [t.atoms]; omega) (by rw [t.pos]; exact hc) (by rw [t.bonds]; omega) (by omega) (fun x hx => (hat x hx).1)).mono ?_
  rintro en w' ⟨rfl, hf, hm⟩
  refine ⟨?_, hf⟩
  rw [t.pos] at hm
  unfold ringTail
  cases hn : ringNumber s p.pos with
  | error er =>
    rw [hn] at hm
    obtain ⟨h2, q', hr', h3, h4⟩ := hm
    exact ⟨rfl, hr'.wrong h3 h4 (by omega)⟩
  | ok y =>
    obtain ⟨n, j⟩ := y
    rw [hn] at hm
    obtain ⟨hn100, hij, his⟩ := rn_facts hn
    simp only
    rcases hm with ⟨i, x, hi, hxn, hr'⟩ | ⟨hno, hr'⟩
    · obtain ⟨hxa, O, hO, hOa, hOm⟩ := hat x (List.mem_of_getElem? hi)
      rw [hxn] at hO
      rw [hO]
      simp only
      have hcl := closes_tie (q := { q with pos := j }) (P := { p with pos := j, rings := setRing p.rings n none }) t.atoms t.bonds t.e x O.hung e a p.pos hOa hOm hea hsp (by rw [t.atoms] at hxa; omega)
      cases hcr : closeRing O.hung e p.pos { p with pos := j, rings := setRing p.rings n none } with
      | error er =>
        rw [hcr] at hcl
        obtain ⟨h1, h2⟩ := hcl
        rw [h1] at hr'
        exact ⟨by simp, hr'.wrong rfl rfl h2⟩
      | ok P' =>
        rw [hcr] at hcl
        obtain ⟨⟨b, rfl⟩, h2⟩ := hcl
        rw [h2] at hr'
        refine ⟨by simp, _, hr', ?_⟩
        have hsub : ∀ z ∈ q.opens.take i ++ q.opens.drop (i + 1), z ∈ q.opens := by
          intro z hz
          rcases List.mem_append.1 hz with hz | hz
          · exact List.mem_of_mem_take hz
          · exact List.mem_of_mem_drop hz
        refine ⟨t.e, rfl, t.atoms, rfl, ?_, ?_, fun z hz => t.nums z (hsub z hz), ?_, t.chs⟩
        · intro m
          simp only [setRing_at]
          rw [find_drop q.opens i x t.apart hi m, hxn]
          by_cases em : m = n
          · rw [if_pos em, if_pos em]; rfl
          · rw [if_neg em, if_neg em]; exact t.opens m
        · refine List.Pairwise.sublist ?_ t.apart
          have : q.opens.take i ++ q.opens.drop (i + 1) = q.opens.eraseIdx i := by rw [List.eraseIdx_eq_take_drop_succ]
          rw [this]
          exact List.eraseIdx_sublist _ _
        · have hl : (q.opens.take i ++ q.opens.drop (i + 1)).length ≤ q.opens.length := by
            rw [List.length_append, List.length_take, List.length_drop]; omega
          simp only
          omega
    · have hnone : p.rings n = none := by
        have ho := t.opens n
        have : q.opens.find? (fun x => x.num == n) = none := by
          rw [List.find?_eq_none]
          intro z hz
          simpa using hno z hz
        rw [this] at ho
        cases hO : p.rings n with
        | none => rfl
        | some O => rw [hO] at ho; simp at ho
      rw [hnone]
      simp only
      refine ⟨by simp, _, hr', ?_⟩
      refine ⟨t.e, rfl, t.atoms, t.bonds, ?_, ?_, ?_, ?_, t.chs⟩
      · intro m
        simp only [setRing_at, List.find?_append]
        by_cases em : m = n
        · rw [if_pos em, em]
          have : q.opens.find? (fun x => x.num == n) = none := by
            rw [List.find?_eq_none]
            intro z hz
            simpa using hno z hz
          rw [this]
          simp [hea]
        · rw [if_neg em, t.opens m]
          cases q.opens.find? (fun x => x.num == m) with
          | some z => rfl
          | none =>
            simp
            omega
      · rw [List.pairwise_append]
        refine ⟨t.apart, List.pairwise_singleton _ _, ?_⟩
        intro z hz y hy
        simp at hy
        subst hy
        exact hno z hz
      · intro z hz
        rcases List.mem_append.1 hz with hz | hz
        · exact t.nums z hz
        · simp at hz
          subst hz
          exact ⟨hn100, by simp only; omega⟩
      · simp only [List.length_append, List.length_cons, List.length_nil]
        omega
end
/-- What the document's chain leaves: the plain chain's state or error; or it has stopped where the plain one finds nothing that goes on. -/
def RChPost (w : World) (B : Nat) (s : ByteArray) (r : R St) (e : Ending) (w' : World) : Prop :=
  e = .returned (.tuple #[]) ∧ RFr B w w' ∧
  match r with
  | .ok p => RS w' B s p
  | .error er => RErr w' B er ∨ (∃ p, er = (2, (p.pos : Int)) ∧ RS w' B s p ∧ p.pos < s.size ∧ byteAt s p.pos ≠ 41)

def ChainR (s : ByteArray) (n : Nat) : Prop := ∀ (w : World) (B : Nat) (g : Hung) (p : St) (sa : Int), RS w B s p → Ok s p → HungOk g p → s.size - p.pos < n → (g.mark = 58 → g.spot = sa) →
  Calls Tryz.prog 71 #[.pointer (some ⟨B, 0, none⟩), .int .i64 g.atom, .int .u8 g.mark, .int .i64 sa] w (RChPost w B s (Bz.chain s n g p))

section
variable {w : World} {B : Nat} {s : ByteArray} {p : St}
set_option maxHeartbeats 1000000 in
theorem rnext_err {er : Int × Int} (h : RErr w B er) : Calls Tryz.prog 94 #[.pointer (some ⟨B, 0, none⟩)] w fun e w' => e = .returned (.int .u8 0) ∧ ∃ k, w' = w.drewN k := by
  have q7 := h.err
  have he := h.nz
  generalize er.1 = x at *
  have hb : (x != 0) = true := by simpa using he
  clear he h
  go_enter Tryz.func94, Tryz.ntmps94
  go_wp2
  go_quiet (fail)
  go_wp2
  go_ret
  exact ⟨rfl, _, rfl⟩

set_option maxRecDepth 100000 in
set_option maxHeartbeats 1000000 in
theorem rchain_err {er : Int × Int} (h : RErr w B er) (a b c : Int) : Calls Tryz.prog 71 #[.pointer (some ⟨B, 0, none⟩), .int .i64 a, .int .u8 b, .int .i64 c] w fun e w' => e = .returned (.tuple #[]) ∧ w' = w := by
  have q7 := h.err
  have he := h.nz
  generalize er.1 = x at *
  have hb : (x == 0) = false := by simpa using he
  clear he h
  go_enter Tryz.func71, Tryz.ntmps71
  go_wp2_with fail
  refine wp_loop_rounds 1 ?_
  rw [rounds_succ]
  go_wp2_with fail
  go_end0
  exact ⟨rfl, rfl⟩

theorem RUPost.ok {w w' : World} {r : R St} {e : Ending} {q : St} (hr : r = .ok q) (he : e = .returned (.tuple #[])) (h1 : RS w' B s q) (h2 : RFr B w w') : RUPost w B s r e w' := by subst hr; exact ⟨⟨he, h1⟩, h2⟩
theorem RUPost.error {w w' : World} {r : R St} {e : Ending} {er : Int × Int} (hr : r = .error er) (he : e = .returned (.tuple #[])) (h1 : RErr w' B er) (h2 : RFr B w w') : RUPost w B s r e w' := by subst hr; exact ⟨⟨he, h1⟩, h2⟩

theorem RS.drewN (h : RS w B s p) (k : Nat) : RS (w.drewN k) B s p := by obtain ⟨q, hr, t⟩ := h; exact ⟨q, hr.drewN k, t⟩
theorem RS.pos (h : RS w B s p) : w.cell? ⟨B, 1, none⟩ = some (.int .i64 p.pos) := by obtain ⟨q, hr, t⟩ := h; rw [← t.pos]; exact hr.pos
theorem RS.err (h : RS w B s p) : w.cell? ⟨B, 7, none⟩ = some (.int .i64 0) := by obtain ⟨q, hr, t⟩ := h; rw [← t.e]; exact hr.err
theorem RS.free (h : RS w B s p) (i : Nat) : w.frozen? ⟨B, i, none⟩ = false := by obtain ⟨q, hr, t⟩ := h; exact hr.free i
theorem RS.step (h : RS w B s p) (u : Value) (hu : u = .int .i64 ((p.pos : Int) + 1)) : RS (w.setCell ⟨B, 1, none⟩ u) B s { p with pos := p.pos + 1 } := by
  obtain ⟨q, hr, t⟩ := h
  exact ⟨_, hr.setPos (q.pos + 1) u (by rw [hu, t.pos]; simp), t.step⟩
theorem rnext_st (h : RS w B s p) : Calls Tryz.prog 94 #[.pointer (some ⟨B, 0, none⟩)] w fun e w' => e = .returned (.int .u8 (byteAt s p.pos)) ∧ ∃ k, w' = w.drewN k := by
  obtain ⟨q, hr, t⟩ := h
  have := rnext_ok hr t.e
  rw [t.pos] at this
  exact this
theorem rfail_st (h : RS w B s p) (x pl : Int) (hx : x ≠ 0) : Calls Tryz.prog 72 #[.pointer (some ⟨B, 0, none⟩), .int .i64 x, .int .i64 pl] w fun e w' => e = .returned (.tuple #[]) ∧ RErr w' B (x, pl) ∧ RFr B w w' := by
  obtain ⟨q, hr, t⟩ := h
  refine (rfail_any hr x pl).mono ?_
  rintro e w' ⟨rfl, h1, h2⟩
  unfold RSt.fails at h1
  rw [if_pos t.e] at h1
  exact ⟨rfl, h1.wrong rfl rfl hx, h2⟩

/-- Behind a branch's chain. -/
def brClose (s : ByteArray) (r : R St) : R St := match r with
  | .error e => .error e
  | .ok p => if byteAt s p.pos = 41 then .ok { p with pos := p.pos + 1 } else .error (2, (p.pos : Int))

theorem branch_link {c : Hung → St → R St} (a : Nat) : Bz.branch s c a p = match link s a p with
    | .error e => .error e
    | .ok (h, p) => brClose s (c h p) := by
  unfold Bz.branch brClose
  cases link s a p with
  | error e => rfl
  | ok x => obtain ⟨h, p1⟩ := x; simp only; cases c h p1 <;> rfl

set_option maxRecDepth 100000 in
set_option maxHeartbeats 4000000 in
theorem rbranch_any {n : Nat} (hC : ChainR s n) (h : RS w B s p) (o : Ok s p) (hs : s.size ≤ 160) (a : Nat) (ha : a < p.atoms.length) (hn : s.size - p.pos < n) :
    Calls Tryz.prog 97 #[.pointer (some ⟨B, 0, none⟩), .int .i64 a] w (RUPost w B s (Bz.branch s (Bz.chain s n) a p)) := by
  have c1 := h.pos
  have RSg := rsign_st h hs a ha
  have HC : Hid (ChainR s n) := hC
  have HOk : Hid (Ok s p) := o
  have HL : Hid _ := branch_link (s := s) (p := p) (c := Bz.chain s n) a
  clear hC o
  go_enter Tryz.func97, Tryz.ntmps97
  go_wp2_with fail
  refine RSg.mono ?_
  rintro e w1 ⟨hm, hf1⟩
  clear RSg c1 h
  cases hbe : bondEnd s a p with
  | error er =>
    rw [hbe] at hm
    obtain ⟨rfl, hw1⟩ := hm
    have HR : Hid (Bz.branch s (Bz.chain s n) a p = .error er) := by
      unfold Hid
      rw [HL.out]
      have : link s a p = .error er := by
        unfold link
        rw [if_neg ?_, hbe]
        intro e46
        unfold bondEnd at hbe
        rw [e46] at hbe
        simp [isSign] at hbe
      rw [this]
    have RN := rnext_err hw1
    clear hbe HL
    go_wp2_with fail
    refine RN.mono ?_
    rintro e w2 ⟨rfl, k2, rfl⟩
    have hw2 := hw1.drewN k2
    have hf2 := hf1.drewN k2
    clear RN hw1 hf1
    generalize World.drewN _ _ = w2 at *
    have RC := rchain_err hw2 a 0 p.pos
    go_wp2_with fail
    refine RC.mono ?_
    rintro e w3 ⟨rfl, rfl⟩
    have q7 := hw2.err
    have he := hw2.nz
    obtain ⟨x, hx⟩ := hw2.pos
    have f1 := hw2.free 1
    have hb : (er.1 == 0) = false := by simpa using he
    have HW : Hid (∀ y : Int, RErr (w3.setCell ⟨B, 1, none⟩ (.int .i64 y)) B er) := fun y => hw2.setPos y
    have HF : Hid (∀ u, RFr B w (w3.setCell ⟨B, 1, none⟩ u)) := fun u => hf2.setPos u
    clear hw2 hf2 he RC
    go_wp2_with fail
    go_end0
    exact RUPost.error HR.out rfl (HW.out _) (HF.out _)
  | ok y =>
    obtain ⟨g, p1⟩ := y
    rw [hbe] at hm
    obtain ⟨rfl, hr1⟩ := hm
    obtain ⟨o1, hg1, hat1, hpp1⟩ := bondEnd_wf hbe HOk.out ha
    have hr1 : RS w1 B s p1 := hr1
    simp only
    cases hS : isSign (byteAt s p.pos)
    · have hbe' : g = ⟨0, 0, a⟩ ∧ p1 = p := by
        unfold bondEnd at hbe
        simp only [hS, Bool.false_eq_true, if_false, Except.ok.injEq, Prod.mk.injEq] at hbe
        exact ⟨hbe.1.symm, hbe.2.symm⟩
      obtain ⟨rfl, rfl⟩ := hbe'
      have RN := rnext_st hr1
      simp only
      by_cases h46 : byteAt s p1.pos = 46
      · have hlt := byte_lt h46 (by decide)
        have hlk : link s a p1 = .ok (⟨0, 0, -1⟩, { p1 with pos := p1.pos + 1 }) := by unfold link; rw [if_pos h46]
        have HB : Hid (Bz.branch s (Bz.chain s n) a p1 = brClose s (Bz.chain s n ⟨0, 0, -1⟩ { p1 with pos := p1.pos + 1 })) := by unfold Hid; rw [HL.out, hlk]
        have hok := HOk.out.step hlt
        clear hbe HL hlk hS
        go_wp2_with fail
        refine RN.mono ?_
        rintro e w2 ⟨rfl, k2, rfl⟩
        have hr2 := hr1.drewN k2
        have hf2 := hf1.drewN k2
        clear RN hr1 hf1
        generalize World.drewN _ _ = w2 at *
        have c1 := hr2.pos
        have f1 := hr2.free 1
        have hrA : RS (w2.setCell ⟨B, 1, none⟩ (.int .i64 ((p1.pos : Int) + 1))) B s { p1 with pos := p1.pos + 1 } := hr2.step _ rfl
        have hfA := hf2.setPos (.int .i64 ((p1.pos : Int) + 1))
        have RC := HC.out _ B ⟨0, 0, -1⟩ _ p1.pos hrA hok (.inl rfl) (by simp only; omega) (by simp)
        simp only at RC
        rw [h46]
        clear h46
        go_wp2_with fail
        refine RC.mono ?_
        rintro e w3 ⟨rfl, hf3, hm3⟩
        have hf3' := hfA.trans hf3
        clear RC hfA hf3 hrA
        cases hch : Bz.chain s n ⟨0, 0, -1⟩ { p1 with pos := p1.pos + 1 } with
        | ok r =>
          rw [hch] at hm3 HB
          have hm3 : RS w3 B s r := hm3
          have q7 := hm3.err
          have RN := rnext_st hm3
          clear hch
          go_wp2_with fail
          refine RN.mono ?_
          rintro e w4 ⟨rfl, k4, rfl⟩
          have hr4 := hm3.drewN k4
          have hf4 := hf3'.drewN k4
          clear RN hm3 hf3' q7
          generalize World.drewN _ _ = w4 at *
          unfold brClose at HB
          simp only at HB
          by_cases h41 : byteAt s r.pos = 41
          · rw [if_pos h41] at HB
            have hlt := byte_lt h41 (by decide)
            have t41 : (byteAt s r.pos != 41) = false := by simp [h41]
            have c1 := hr4.pos
            have f1 := hr4.free 1
            have HW : Hid (RS (w4.setCell ⟨B, 1, none⟩ (.int .i64 ((r.pos : Int) + 1))) B s { r with pos := r.pos + 1 }) := hr4.step _ rfl
            have HF : Hid (RFr B w (w4.setCell ⟨B, 1, none⟩ (.int .i64 ((r.pos : Int) + 1)))) := hf4.setPos _
            clear h41 hr4 hf4
            generalize byteAt s r.pos = cc at *
            go_wp2_with fail
            go_end0
            exact RUPost.ok HB.out rfl HW.out HF.out
          · rw [if_neg h41] at HB
            have t41 : (byteAt s r.pos != 41) = true := by simpa using h41
            have c1 := hr4.pos
            have RF := rfail_st hr4 2 r.pos (by decide)
            clear h41
            generalize byteAt s r.pos = cc at *
            go_wp2_with fail
            refine RF.mono ?_
            rintro e w5 ⟨rfl, hw5, hf5⟩
            go_wp2_with fail
            refine bodyPost_ret (results_none rfl _ _ _) rfl ?_
            exact RUPost.error HB.out rfl hw5 (hf4.trans hf5)
        | error er =>
          rw [hch] at hm3 HB
          unfold brClose at HB
          simp only at HB
          clear hch
          rcases hm3 with hw3 | ⟨p4, rfl, hr3, hlt, h41⟩
          · have q7 := hw3.err
            have he := hw3.nz
            obtain ⟨x, hx⟩ := hw3.pos
            have f1 := hw3.free 1
            have hb : (er.1 == 0) = false := by simpa using he
            have HW : Hid (∀ y : Int, RErr (w3.setCell ⟨B, 1, none⟩ (.int .i64 y)) B er) := fun y => hw3.setPos y
            have HF : Hid (∀ u, RFr B w (w3.setCell ⟨B, 1, none⟩ u)) := fun u => hf3'.setPos u
            clear hw3 hf3' he
            go_wp2_with fail
            go_end0
            exact RUPost.error HB.out rfl (HW.out _) (HF.out _)
          · have q7 := hr3.err
            have RN := rnext_st hr3
            go_wp2_with fail
            refine RN.mono ?_
            rintro e w4 ⟨rfl, k4, rfl⟩
            have hr4 := hr3.drewN k4
            have hf4 := hf3'.drewN k4
            clear RN hr3 hf3' q7
            generalize World.drewN _ _ = w4 at *
            have t41 : (byteAt s p4.pos != 41) = true := by simpa using h41
            have c1 := hr4.pos
            have RF := rfail_st hr4 2 p4.pos (by decide)
            clear h41
            generalize byteAt s p4.pos = cc at *
            go_wp2_with fail
            refine RF.mono ?_
            rintro e w5 ⟨rfl, hw5, hf5⟩
            go_wp2_with fail
            refine bodyPost_ret (results_none rfl _ _ _) rfl ?_
            exact RUPost.error HB.out rfl hw5 (hf4.trans hf5)
      · have t46 : (byteAt s p1.pos == 46) = false := by simpa using h46
        have hlk : link s a p1 = .ok (⟨0, 0, a⟩, p1) := by unfold link; rw [if_neg h46, hbe]
        have HB : Hid (Bz.branch s (Bz.chain s n) a p1 = brClose s (Bz.chain s n ⟨0, 0, a⟩ p1)) := by unfold Hid; rw [HL.out, hlk]
        clear hbe HL hlk hS h46
        go_wp2_with fail
        refine RN.mono ?_
        rintro e w2 ⟨rfl, k2, rfl⟩
        have hrA := hr1.drewN k2
        have hfA := hf1.drewN k2
        clear RN hr1 hf1
        generalize World.drewN _ _ = w2 at *
        have RC := HC.out _ B ⟨0, 0, a⟩ _ p1.pos hrA o1 hg1 hn (by simp)
        simp only at RC
        generalize byteAt s p1.pos = cc0 at *
        go_wp2_with fail
        refine RC.mono ?_
        rintro e w3 ⟨rfl, hf3, hm3⟩
        have hf3' := hfA.trans hf3
        clear RC hfA hf3 hrA
        cases hch : Bz.chain s n ⟨0, 0, a⟩ p1 with
        | ok r =>
          rw [hch] at hm3 HB
          have hm3 : RS w3 B s r := hm3
          have q7 := hm3.err
          have RN := rnext_st hm3
          clear hch
          go_wp2_with fail
          refine RN.mono ?_
          rintro e w4 ⟨rfl, k4, rfl⟩
          have hr4 := hm3.drewN k4
          have hf4 := hf3'.drewN k4
          clear RN hm3 hf3' q7
          generalize World.drewN _ _ = w4 at *
          unfold brClose at HB
          simp only at HB
          by_cases h41 : byteAt s r.pos = 41
          · rw [if_pos h41] at HB
            have hlt := byte_lt h41 (by decide)
            have t41 : (byteAt s r.pos != 41) = false := by simp [h41]
            have c1 := hr4.pos
            have f1 := hr4.free 1
            have HW : Hid (RS (w4.setCell ⟨B, 1, none⟩ (.int .i64 ((r.pos : Int) + 1))) B s { r with pos := r.pos + 1 }) := hr4.step _ rfl
            have HF : Hid (RFr B w (w4.setCell ⟨B, 1, none⟩ (.int .i64 ((r.pos : Int) + 1)))) := hf4.setPos _
            clear h41 hr4 hf4
            generalize byteAt s r.pos = cc at *
            go_wp2_with fail
            go_end0
            exact RUPost.ok HB.out rfl HW.out HF.out
          · rw [if_neg h41] at HB
            have t41 : (byteAt s r.pos != 41) = true := by simpa using h41
            have c1 := hr4.pos
            have RF := rfail_st hr4 2 r.pos (by decide)
            clear h41
            generalize byteAt s r.pos = cc at *
            go_wp2_with fail
            refine RF.mono ?_
            rintro e w5 ⟨rfl, hw5, hf5⟩
            go_wp2_with fail
            refine bodyPost_ret (results_none rfl _ _ _) rfl ?_
            exact RUPost.error HB.out rfl hw5 (hf4.trans hf5)
        | error er =>
          rw [hch] at hm3 HB
          unfold brClose at HB
          simp only at HB
          clear hch
          rcases hm3 with hw3 | ⟨p4, rfl, hr3, hlt, h41⟩
          · have q7 := hw3.err
            have he := hw3.nz
            obtain ⟨x, hx⟩ := hw3.pos
            have f1 := hw3.free 1
            have hb : (er.1 == 0) = false := by simpa using he
            have HW : Hid (∀ y : Int, RErr (w3.setCell ⟨B, 1, none⟩ (.int .i64 y)) B er) := fun y => hw3.setPos y
            have HF : Hid (∀ u, RFr B w (w3.setCell ⟨B, 1, none⟩ u)) := fun u => hf3'.setPos u
            clear hw3 hf3' he
            go_wp2_with fail
            go_end0
            exact RUPost.error HB.out rfl (HW.out _) (HF.out _)
          · have q7 := hr3.err
            have RN := rnext_st hr3
            go_wp2_with fail
            refine RN.mono ?_
            rintro e w4 ⟨rfl, k4, rfl⟩
            have hr4 := hr3.drewN k4
            have hf4 := hf3'.drewN k4
            clear RN hr3 hf3' q7
            generalize World.drewN _ _ = w4 at *
            have t41 : (byteAt s p4.pos != 41) = true := by simpa using h41
            have c1 := hr4.pos
            have RF := rfail_st hr4 2 p4.pos (by decide)
            clear h41
            generalize byteAt s p4.pos = cc at *
            go_wp2_with fail
            refine RF.mono ?_
            rintro e w5 ⟨rfl, hw5, hf5⟩
            go_wp2_with fail
            refine bodyPost_ret (results_none rfl _ _ _) rfl ?_
            exact RUPost.error HB.out rfl hw5 (hf4.trans hf5)
    · have h46 : ¬ byteAt s p.pos = 46 := by intro e46; rw [e46] at hS; simp [isSign] at hS
      have hlk : link s a p = .ok (g, p1) := by unfold link; rw [if_neg h46, hbe]
      have hbe' : g = ⟨byteAt s p.pos, p.pos, a⟩ := by
        unfold bondEnd at hbe
        simp only [hS, if_true] at hbe
        split at hbe
        · cases hbe
        · simp only [Except.ok.injEq, Prod.mk.injEq] at hbe
          exact hbe.1.symm
      have hm0 : (g.mark == 0) = false := by
        rw [hbe']
        cases hz : (byteAt s p.pos == 0)
        · rfl
        · simp at hz; rw [hz] at hS; simp [isSign] at hS
      have hga : g.atom = (a : Int) := by rw [hbe']
      have hgs : g.mark = 58 → g.spot = (p.pos : Int) := by intro _; rw [hbe']
      have HB : Hid (Bz.branch s (Bz.chain s n) a p = brClose s (Bz.chain s n g p1)) := by unfold Hid; rw [HL.out, hlk]
      have hrA := hr1
      have hfA := hf1
      have RC := HC.out _ B g p1 p.pos hrA o1 hg1 (by omega) hgs
      rw [hga] at RC
      clear hbe HL hlk hS h46 hbe' hga hgs hr1 hf1
      go_wp2_with fail
      refine RC.mono ?_
      rintro e w3 ⟨rfl, hf3, hm3⟩
      have hf3' := hfA.trans hf3
      clear RC hfA hf3 hrA
      cases hch : Bz.chain s n g p1 with
      | ok r =>
        rw [hch] at hm3 HB
        have hm3 : RS w3 B s r := hm3
        have q7 := hm3.err
        have RN := rnext_st hm3
        clear hch
        go_wp2_with fail
        refine RN.mono ?_
        rintro e w4 ⟨rfl, k4, rfl⟩
        have hr4 := hm3.drewN k4
        have hf4 := hf3'.drewN k4
        clear RN hm3 hf3' q7
        generalize World.drewN _ _ = w4 at *
        unfold brClose at HB
        simp only at HB
        by_cases h41 : byteAt s r.pos = 41
        · rw [if_pos h41] at HB
          have hlt := byte_lt h41 (by decide)
          have t41 : (byteAt s r.pos != 41) = false := by simp [h41]
          have c1 := hr4.pos
          have f1 := hr4.free 1
          have HW : Hid (RS (w4.setCell ⟨B, 1, none⟩ (.int .i64 ((r.pos : Int) + 1))) B s { r with pos := r.pos + 1 }) := hr4.step _ rfl
          have HF : Hid (RFr B w (w4.setCell ⟨B, 1, none⟩ (.int .i64 ((r.pos : Int) + 1)))) := hf4.setPos _
          clear h41 hr4 hf4
          generalize byteAt s r.pos = cc at *
          go_wp2_with fail
          go_end0
          exact RUPost.ok HB.out rfl HW.out HF.out
        · rw [if_neg h41] at HB
          have t41 : (byteAt s r.pos != 41) = true := by simpa using h41
          have c1 := hr4.pos
          have RF := rfail_st hr4 2 r.pos (by decide)
          clear h41
          generalize byteAt s r.pos = cc at *
          go_wp2_with fail
          refine RF.mono ?_
          rintro e w5 ⟨rfl, hw5, hf5⟩
          go_wp2_with fail
          refine bodyPost_ret (results_none rfl _ _ _) rfl ?_
          exact RUPost.error HB.out rfl hw5 (hf4.trans hf5)
      | error er =>
        rw [hch] at hm3 HB
        unfold brClose at HB
        simp only at HB
        clear hch
        rcases hm3 with hw3 | ⟨p4, rfl, hr3, hlt, h41⟩
        · have q7 := hw3.err
          have he := hw3.nz
          obtain ⟨x, hx⟩ := hw3.pos
          have f1 := hw3.free 1
          have hb : (er.1 == 0) = false := by simpa using he
          have HW : Hid (∀ y : Int, RErr (w3.setCell ⟨B, 1, none⟩ (.int .i64 y)) B er) := fun y => hw3.setPos y
          have HF : Hid (∀ u, RFr B w (w3.setCell ⟨B, 1, none⟩ u)) := fun u => hf3'.setPos u
          clear hw3 hf3' he
          go_wp2_with fail
          go_end0
          exact RUPost.error HB.out rfl (HW.out _) (HF.out _)
        · have q7 := hr3.err
          have RN := rnext_st hr3
          go_wp2_with fail
          refine RN.mono ?_
          rintro e w4 ⟨rfl, k4, rfl⟩
          have hr4 := hr3.drewN k4
          have hf4 := hf3'.drewN k4
          clear RN hr3 hf3' q7
          generalize World.drewN _ _ = w4 at *
          have t41 : (byteAt s p4.pos != 41) = true := by simpa using h41
          have c1 := hr4.pos
          have RF := rfail_st hr4 2 p4.pos (by decide)
          clear h41
          generalize byteAt s p4.pos = cc at *
          go_wp2_with fail
          refine RF.mono ?_
          rintro e w5 ⟨rfl, hw5, hf5⟩
          go_wp2_with fail
          refine bodyPost_ret (results_none rfl _ _ _) rfl ?_
          exact RUPost.error HB.out rfl hw5 (hf4.trans hf5)
end
end Go.Proofs.YtcabaecbmkgclaaGreatDoor
