/-
  The graph of a list of edges; the most pairs by trying; no more than the search found, and no fewer.
  Pieces named by their least number: what stands while names go down along edges.
  What is seen of the pairs and of the barrier.
  What the graph's below and Join do.
  What graph.Of does.
  What benzol.Match does.
-/
import Derived.Test.YtcabaecbmkgclaaGreatDoorR30
namespace Go.Proofs.YtcabaecbmkgclaaGreatDoor.Mt
/-- Is there an edge? -/
def adjL (l : List (Nat × Nat)) (a b : Nat) : Bool := l.any fun p => (p.1 == a && p.2 == b) || (p.1 == b && p.2 == a)

theorem adjL_iff {l : List (Nat × Nat)} {a b : Nat} : adjL l a b = true ↔ (a, b) ∈ l ∨ (b, a) ∈ l := by
  unfold adjL
  rw [List.any_eq_true]
  constructor
  · rintro ⟨⟨x, y⟩, hm, h⟩
    simp only [Bool.or_eq_true, Bool.and_eq_true, beq_iff_eq] at h
    rcases h with ⟨rfl, rfl⟩ | ⟨rfl, rfl⟩
    · exact .inl hm
    · exact .inr hm
  · rintro (h | h)
    · exact ⟨_, h, by simp⟩
    · exact ⟨_, h, by simp⟩

def grL (n : Nat) (l : List (Nat × Nat)) : Gr := ⟨n, adjL l⟩

/-- All edges are between two of n numbers. -/
def EdOk (n : Nat) (l : List (Nat × Nat)) : Prop := ∀ p ∈ l, p.1 < n ∧ p.2 < n ∧ p.1 ≠ p.2

theorem adjL_sym (l : List (Nat × Nat)) (a b : Nat) : adjL l a b = adjL l b a := by
  rw [Bool.eq_iff_iff, adjL_iff, adjL_iff, Or.comm]

theorem EdOk.gr {n : Nat} {l : List (Nat × Nat)} (h : EdOk n l) (hn : n ≤ 24) : GrOk (grL n l) := by
  refine ⟨hn, fun a b hab => ?_, fun a b hab => ?_, fun a => ?_⟩
  · rcases adjL_iff.1 hab with k | k
    · exact ⟨(h _ k).1, (h _ k).2.1⟩
    · exact ⟨(h _ k).2.1, (h _ k).1⟩
  · show adjL l b a = true
    rw [adjL_sym]
    exact hab
  · cases hc : (grL n l).adj a a
    · rfl
    · rcases adjL_iff.1 hc with k | k <;> exact absurd rfl (h _ k).2.2

theorem EdOk.tail {n : Nat} {e : Nat × Nat} {l : List (Nat × Nat)} (h : EdOk n (e :: l)) : EdOk n l := fun p hp => h p (List.mem_cons_of_mem _ hp)

/-- How many pairs, by trying, of the numbers that are not used. -/
def mostF : List (Nat × Nat) → (Nat → Bool) → Nat
  | [], _ => 0
  | e :: l, u => if u e.1 || u e.2 then mostF l u else max (1 + mostF l (setAt (setAt u e.1 true) e.2 true)) (mostF l u)

theorem mostF_tail (e : Nat × Nat) (l : List (Nat × Nat)) (u : Nat → Bool) : mostF l u ≤ mostF (e :: l) u := by
  rw [mostF]
  split
  · exact Nat.le_refl _
  · exact Nat.le_max_right _ _

theorem cnt_two {n a b : Nat} (ha : a < n) (hb : b < n) (hab : a ≠ b) {p q : Nat → Bool} (pa : p a = true) (pb : p b = true) (qa : q a = false) (qb : q b = false) (h : ∀ x, x ≠ a → x ≠ b → q x = p x) : cnt n p = cnt n q + 2 := by
  rw [cnt_one ha p pa, cnt_one hb (fun k => p k && !(k == a)) (by simp [pb, Ne.symm hab])]
  rw [cnt_congr (q := q)]
  intro k _
  by_cases e1 : k = a
  · subst e1
    simp [qa]
  · by_cases e2 : k = b
    · subst e2
      simp [qb]
    · rw [h k e1 e2, beq_false_of_ne e1, beq_false_of_ne e2]
      simp

theorem most_reached {n : Nat} : ∀ (l : List (Nat × Nat)) (u : Nat → Bool), EdOk n l → ∃ m2, MtOk (grL n l) m2 ∧ (∀ x, u x = true → m2 x = none) ∧ cnt n (fun x => (m2 x).isNone) + 2 * mostF l u = n
  | [], u, _ => ⟨fun _ => none, ⟨fun _ _ h => (by cases h), fun _ _ h => (by cases h)⟩, fun _ _ => rfl, by
      show cnt n (fun _ => true) + 2 * 0 = n
      rw [cnt_all]
      rfl⟩
  | e :: l, u, h => by
    have up : ∀ a b, (grL n l).adj a b = true → (grL n (e :: l)).adj a b = true := fun a b hab => by
      rcases adjL_iff.1 hab with k | k
      · exact adjL_iff.2 (.inl (List.mem_cons_of_mem _ k))
      · exact adjL_iff.2 (.inr (List.mem_cons_of_mem _ k))
    by_cases hc : mostF (e :: l) u = mostF l u
    · obtain ⟨m2, M, hu, hcn⟩ := most_reached l u h.tail
      exact ⟨m2, ⟨fun a b hab => up a b (M.adj a b hab), M.back⟩, hu, by rw [hc]; exact hcn⟩
    · have hf : (u e.1 || u e.2) = false := by
        cases hx : u e.1 || u e.2
        · rfl
        · rw [mostF, if_pos hx] at hc
          exact absurd rfl hc
      have hmx : mostF (e :: l) u = 1 + mostF l (setAt (setAt u e.1 true) e.2 true) := by
        rw [mostF, if_neg (by rw [hf]; simp)] at hc ⊢
        omega
      obtain ⟨h1, h2, h3⟩ := h e (List.mem_cons_self ..)
      obtain ⟨m2, M, hu, hcn⟩ := most_reached l (setAt (setAt u e.1 true) e.2 true) h.tail
      have ma : m2 e.1 = none := hu e.1 (by simp [setAt])
      have mb : m2 e.2 = none := hu e.2 (by simp [setAt])
      simp only [Bool.or_eq_false_iff] at hf
      refine ⟨setAt (setAt m2 e.1 (some e.2)) e.2 (some e.1), ⟨?_, ?_⟩, ?_, ?_⟩
      · intro a b hab
        simp only [setAt] at hab
        split at hab
        · rename_i ea
          simp only [Option.some.injEq] at hab
          subst hab ea
          exact adjL_iff.2 (.inr (List.mem_cons_self ..))
        · split at hab
          · rename_i ea
            simp only [Option.some.injEq] at hab
            subst hab ea
            exact adjL_iff.2 (.inl (List.mem_cons_self ..))
          · exact up a b (M.adj a b hab)
      · intro a b hab
        simp only [setAt] at hab ⊢
        by_cases ea : a = e.2
        · rw [if_pos ea] at hab
          simp only [Option.some.injEq] at hab
          subst hab
          rw [if_neg h3, if_pos rfl, ea]
        · rw [if_neg ea] at hab
          by_cases ea1 : a = e.1
          · rw [if_pos ea1] at hab
            simp only [Option.some.injEq] at hab
            subst hab
            rw [if_pos rfl, ea1]
          · rw [if_neg ea1] at hab
            have hb := M.back a b hab
            rw [if_neg (fun k => by rw [k, mb] at hb; cases hb), if_neg (fun k => by rw [k, ma] at hb; cases hb)]
            exact hb
      · intro x hx
        have x2 : x ≠ e.2 := fun k => by rw [k, hf.2] at hx; cases hx
        have x1 : x ≠ e.1 := fun k => by rw [k, hf.1] at hx; cases hx
        simp only [setAt, if_neg x1, if_neg x2]
        exact hu x (by simp [setAt, x1, x2, hx])
      · have := cnt_two h1 h2 h3 (p := fun x => (m2 x).isNone) (q := fun x => (setAt (setAt m2 e.1 (some e.2)) e.2 (some e.1) x).isNone) (by simp [ma]) (by simp [mb]) (by simp [setAt, h3]) (by simp [setAt]) (fun x k1 k2 => by simp [setAt, k1, k2])
        rw [hmx]
        omega

theorem most_bound {n : Nat} : ∀ (l : List (Nat × Nat)) (u : Nat → Bool) (m : Nat → Option Nat), EdOk n l → MtOk (grL n l) m → (∀ x, u x = true → m x = none) → n ≤ cnt n (fun x => (m x).isNone) + 2 * mostF l u
  | [], u, m, _, M, _ => by
    have : cnt n (fun x => (m x).isNone) = n := by
      rw [cnt_congr (q := fun _ => true), cnt_all]
      intro k _
      cases hm : m k with
      | none => rfl
      | some b =>
        have := M.adj k b hm
        simp [grL, adjL] at this
    omega
  | e :: l, u, m, h, M, hu => by
    obtain ⟨h1, h2, h3⟩ := h e (List.mem_cons_self ..)
    have down : ∀ x y, m x = some y → ¬ (x = e.1 ∧ y = e.2) → ¬ (x = e.2 ∧ y = e.1) → (grL n l).adj x y = true := fun x y hxy k1 k2 => by
      rcases adjL_iff.1 (M.adj x y hxy) with k | k
      · rcases List.mem_cons.1 k with k | k
        · exact absurd ⟨congrArg Prod.fst k, congrArg Prod.snd k⟩ k1
        · exact adjL_iff.2 (.inl k)
      · rcases List.mem_cons.1 k with k | k
        · exact absurd ⟨congrArg Prod.snd k, congrArg Prod.fst k⟩ k2
        · exact adjL_iff.2 (.inr k)
    by_cases hm : m e.1 = some e.2
    · have hb := M.back _ _ hm
      have f1 : u e.1 = false := by
        cases k : u e.1
        · rfl
        · rw [hu _ k] at hm; cases hm
      have f2 : u e.2 = false := by
        cases k : u e.2
        · rfl
        · rw [hu _ k] at hb; cases hb
      have hmx : 1 + mostF l (setAt (setAt u e.1 true) e.2 true) ≤ mostF (e :: l) u := by
        rw [mostF, if_neg (by rw [f1, f2]; simp)]
        exact Nat.le_max_left _ _
      have ih := most_bound l (setAt (setAt u e.1 true) e.2 true) (setAt (setAt m e.1 none) e.2 none) h.tail ⟨?_, ?_⟩ ?_
      · have := cnt_two h1 h2 h3 (p := fun x => (setAt (setAt m e.1 none) e.2 none x).isNone) (q := fun x => (m x).isNone) (by simp [setAt]) (by simp [setAt]) (by simp [hm]) (by simp [hb]) (fun x k1 k2 => by simp [setAt, k1, k2])
        omega
      · intro a b hab
        simp only [setAt] at hab
        split at hab
        · cases hab
        · split at hab
          · cases hab
          · rename_i k2 k1
            exact down a b hab (fun k => k1 k.1) (fun k => k2 k.1)
      · intro a b hab
        simp only [setAt] at hab ⊢
        split at hab
        · cases hab
        · split at hab
          · cases hab
          · rename_i k2 k1
            have hb' := M.back a b hab
            rw [if_neg (fun k => by rw [k, hb] at hb'; cases hb'; exact k1 rfl), if_neg (fun k => by rw [k, hm] at hb'; cases hb'; exact k2 rfl)]
            exact hb'
      · intro x hx
        simp only [setAt] at hx ⊢
        split
        · rfl
        · split
          · rfl
          · rename_i k2 k1
            rw [if_neg k2, if_neg k1] at hx
            exact hu x hx
    · have ih := most_bound l u m h.tail ⟨fun x y hxy => down x y hxy (fun k => hm (by rw [← k.1, hxy, k.2])) (fun k => hm (by rw [← k.2, M.back x y hxy, k.1])), M.back⟩ hu
      have := mostF_tail e l u
      omega

/-- The search's pairs are as many as there are by trying. -/
theorem Best.most {n : Nat} {l : List (Nat × Nat)} {mate : Nat → Option Nat} {f : Fo} {h : Gh} (E : EdOk n l) (hn : n ≤ 24) (b : Best (grL n l) mate f h) : (pairsF n mate).length = mostF l fun _ => false := by
  obtain ⟨m2, M2, _, hc⟩ := most_reached l (fun _ => false) E
  have h1 := no_more (E.gr hn) b.m b.inv b.shut M2
  have h2 := most_bound l (fun _ => false) mate E b.m (fun _ h => by cases h)
  have h3 := pairs_count (E.gr hn) b.m
  have e1 : (pairsF n mate).length = cnt n (fun v => (mate v).isSome && decide (v < mateOf mate v)) := by
    unfold pairsF
    rw [List.length_map, cnt_len]
  simp only [grL] at h1 h3
  omega
structure Nm (n : Nat) (l : List (Nat × Nat)) (out : Nat → Bool) (name : Nat → Nat) : Prop where
  le : ∀ k, k < n → name k ≤ k
  free : ∀ k, k < n → out k = false → out (name k) = false
  hang : ∀ k, k < n → out k = false → ∀ P : Nat → Prop, (∀ x y, P x → adjL l x y = true → out y = false → P y) → (P k ↔ P (name k))

theorem Nm.start (n : Nat) (l : List (Nat × Nat)) (out : Nat → Bool) : Nm n l out fun k => k := ⟨fun _ _ => Nat.le_refl _, fun _ _ h => h, fun _ _ _ _ _ => Iff.rfl⟩

def named (name : Nat → Nat) (a b : Nat) : Nat → Nat := setAt (setAt name a (min (name a) (name b))) b (min (name a) (name b))

theorem Nm.step {n : Nat} {l : List (Nat × Nat)} {out : Nat → Bool} {name : Nat → Nat} (h : Nm n l out name) {a b : Nat} (hab : (a, b) ∈ l) (ha : a < n) (hb : b < n) (oa : out a = false) (ob : out b = false) (hne : name a ≠ name b) : Nm n l out (named name a b) := by
  have one : ∀ k, k < n → out k = false → (named name a b k = name k ∨ ((k = a ∨ k = b) ∧ (named name a b k = name a ∨ named name a b k = name b) ∧ named name a b k ≤ name k)) := by
    intro k hk ok
    unfold named
    simp only [setAt]
    by_cases e : k = b
    · subst e
      rw [if_pos rfl]
      refine .inr ⟨.inr rfl, ?_, Nat.min_le_right _ _⟩
      omega
    · rw [if_neg e]
      by_cases e1 : k = a
      · subst e1
        rw [if_pos rfl]
        refine .inr ⟨.inl rfl, ?_, Nat.min_le_left _ _⟩
        omega
      · rw [if_neg e1]
        exact .inl rfl
  refine ⟨?_, ?_, ?_⟩
  · intro k hk
    have hl := h.le
    unfold named
    simp only [setAt]
    have h1 := hl a ha
    have h2 := hl b hb
    have h3 := hl k hk
    split
    · subst_vars; omega
    · split
      · subst_vars; omega
      · exact h3
  · intro k hk ok
    rcases one k hk ok with e | ⟨_, e | e, _⟩
    · rw [e]; exact h.free k hk ok
    · rw [e]; exact h.free a ha oa
    · rw [e]; exact h.free b hb ob
  · intro k hk ok P hP
    have pab : P a ↔ P b := ⟨fun k => hP a b k (adjL_iff.2 (.inl hab)) ob, fun k => hP b a k (adjL_iff.2 (.inr hab)) oa⟩
    have pa := h.hang a ha oa P hP
    have pb := h.hang b hb ob P hP
    rcases one k hk ok with e | ⟨hk', e, _⟩
    · rw [e]; exact h.hang k hk ok P hP
    · have e' : P (named name a b k) ↔ P a := by
        rcases e with e | e
        · rw [e]; exact pa.symm
        · rw [e]; exact pb.symm.trans pab.symm
      rcases hk' with rfl | rfl
      · exact e'.symm
      · exact pab.symm.trans e'.symm

theorem total_le {n m : Nat} {f : Nat → Nat} (h : ∀ k, k < n → f k ≤ m) : total n f ≤ n * m := by
  induction n with
  | zero => exact Nat.zero_le _
  | succ n ih =>
    rw [total, Nat.succ_mul]
    have h1 := ih fun k hk => h k (by omega)
    have h2 := h n (by omega)
    omega

theorem Nm.naming {n : Nat} {l : List (Nat × Nat)} {out : Nat → Bool} {name : Nat → Nat} (h : Nm n l out name) (he : ∀ p ∈ l, out p.1 = false → out p.2 = false → name p.1 = name p.2) : Naming (grL n l) out name := by
  refine ⟨fun k hk => Nat.lt_of_le_of_lt (h.le k hk) hk, fun a b hab oa ob => ?_, fun P a b ha hb oa ob e hP pa => ?_⟩
  · rcases adjL_iff.1 hab with k | k
    · exact he _ k oa ob
    · exact (he _ k ob oa).symm
  · have h1 := (h.hang a ha oa P hP).1 pa
    rw [e] at h1
    exact (h.hang b hb ob P hP).2 h1

/-- What is seen does not ask of more than which are out. -/
theorem Naming.congr {g : Gr} {out out' : Nat → Bool} {name : Nat → Nat} (h : Naming g out name) (G : GrOk g) (he : ∀ k, k < g.n → out' k = out k) : Naming g out' name := by
  refine ⟨h.lt, fun a b hab oa ob => ?_, fun P a b ha hb oa ob e hP pa => ?_⟩
  · obtain ⟨h1, h2⟩ := G.lt a b hab
    exact h.edge a b hab (by rw [← he a h1]; exact oa) (by rw [← he b h2]; exact ob)
  · exact h.hang P a b ha hb (by rw [← he a ha]; exact oa) (by rw [← he b hb]; exact ob) e (fun x y px hxy oy => hP x y px hxy (by rw [he y (G.lt x y hxy).2]; exact oy)) pa
section
variable {g : Gr} {mate : Nat → Option Nat} {f : Fo} {h : Gh} {n : Nat}
theorem pairsF_mem {p : Nat × Nat} (hp : p ∈ pairsF n mate) : mate p.1 = some p.2 ∧ p.1 < p.2 ∧ p.1 < n := by
  unfold pairsF at hp
  obtain ⟨v, hv, rfl⟩ := List.mem_map.1 hp
  obtain ⟨h1, h2⟩ := List.mem_filter.1 hv
  simp only [Bool.and_eq_true, decide_eq_true_eq] at h2
  obtain ⟨m, hm⟩ := Option.isSome_iff_exists.1 h2.1
  have e : mateOf mate v = m := by unfold mateOf; rw [hm]; rfl
  rw [e] at h2
  exact ⟨by rw [e]; exact hm, by rw [e]; exact h2.2, List.mem_range.1 h1⟩

theorem filter_rising (n : Nat) (p : Nat → Bool) : ((List.range n).filter p).Pairwise (· < ·) := List.Pairwise.filter _ List.pairwise_lt_range

theorem pairsF_rising : (pairsF n mate).Pairwise fun a b => a.1 < b.1 := by
  unfold pairsF
  rw [List.pairwise_map]
  exact filter_rising n _

theorem barF_rising (n : Nat) (f : Fo) : (barF n f).Pairwise (· < ·) := filter_rising n _

theorem barF_mem {x : Nat} : x ∈ barF n f ↔ x < n ∧ bar f x = true := by
  unfold barF
  rw [List.mem_filter, List.mem_range]

theorem pairwise_get {α : Type} {R : α → α → Prop} {l : List α} (h : l.Pairwise R) {i j : Nat} (hij : i < j) {a b : α} (ha : l[i]? = some a) (hb : l[j]? = some b) : R a b := by
  obtain ⟨hi, rfl⟩ := List.getElem?_eq_some_iff.1 ha
  obtain ⟨hj, rfl⟩ := List.getElem?_eq_some_iff.1 hb
  exact List.pairwise_iff_getElem.1 h i j hi hj hij

def usedBy (l : List (Nat × Nat)) (x : Nat) : Bool := l.any fun p => p.1 == x || p.2 == x

theorem usedBy_snoc (l : List (Nat × Nat)) (p : Nat × Nat) : usedBy (l ++ [p]) = setAt (setAt (usedBy l) p.1 true) p.2 true := by
  funext x
  unfold usedBy setAt
  rw [List.any_append]
  by_cases e2 : x = p.2
  · subst e2
    simp
  · by_cases e1 : x = p.1
    · subst e1
      simp
    · rw [if_neg e2, if_neg e1]
      have k1 : (p.1 == x) = false := by simp; exact fun k => e1 k.symm
      have k2 : (p.2 == x) = false := by simp; exact fun k => e2 k.symm
      simp [k1, k2]

theorem take_snoc {α : Type} {l : List α} {i : Nat} {a : α} (h : l[i]? = some a) : l.take (i + 1) = l.take i ++ [a] := by
  rw [List.take_add_one, h]
  rfl

/-- Neither number of a pair was in an earlier one. -/
theorem pairs_apart (M : MtOk g mate) {i : Nat} {a b : Nat} (hi : (pairsF n mate)[i]? = some (a, b)) : usedBy ((pairsF n mate).take i) a = false ∧ usedBy ((pairsF n mate).take i) b = false := by
  obtain ⟨h1, h2, h3⟩ := pairsF_mem (List.mem_of_getElem? hi)
  simp only at h1 h2 h3
  have key : ∀ p ∈ (pairsF n mate).take i, p.1 < a ∧ mate p.1 = some p.2 ∧ p.1 < p.2 := by
    intro p hp
    obtain ⟨j, hj⟩ := List.mem_iff_getElem?.1 hp
    have hji : j < i := by
      have := (List.getElem?_eq_some_iff.1 hj).1
      rw [List.length_take] at this
      omega
    rw [List.getElem?_take_of_lt hji] at hj
    obtain ⟨k1, k2, _⟩ := pairsF_mem (List.mem_of_getElem? hj)
    exact ⟨pairwise_get pairsF_rising hji hj hi, k1, k2⟩
  have hb := M.back a b h1
  constructor
  · cases hc : usedBy ((pairsF n mate).take i) a
    · rfl
    · obtain ⟨p, hp, hx⟩ := List.any_eq_true.1 hc
      obtain ⟨k1, k2, k3⟩ := key p hp
      simp only [Bool.or_eq_true, beq_iff_eq] at hx
      rcases hx with hx | hx
      · omega
      · rw [hx] at k2
        have := M.back _ _ k2
        rw [h1] at this
        simp only [Option.some.injEq] at this
        omega
  · cases hc : usedBy ((pairsF n mate).take i) b
    · rfl
    · obtain ⟨p, hp, hx⟩ := List.any_eq_true.1 hc
      obtain ⟨k1, k2, k3⟩ := key p hp
      simp only [Bool.or_eq_true, beq_iff_eq] at hx
      rcases hx with hx | hx
      · omega
      · rw [hx] at k2
        have := M.back _ _ k2
        rw [hb] at this
        simp only [Option.some.injEq] at this
        omega

def outBy (l : List Nat) (x : Nat) : Bool := l.any fun y => y == x

theorem outBy_snoc (l : List Nat) (p : Nat) : outBy (l ++ [p]) = setAt (outBy l) p true := by
  funext x
  unfold outBy setAt
  rw [List.any_append]
  by_cases e : x = p
  · subst e
    simp
  · rw [if_neg e]
    have k1 : (p == x) = false := by simp; exact fun k => e k.symm
    simp [k1]

theorem outBy_bar {x : Nat} (hx : x < n) : outBy (barF n f) x = bar f x := by
  rw [Bool.eq_iff_iff]
  unfold outBy
  rw [List.any_eq_true]
  constructor
  · rintro ⟨y, hy, e⟩
    rw [beq_iff_eq] at e
    subst e
    exact (barF_mem.1 hy).2
  · intro hb
    exact ⟨x, barF_mem.2 ⟨hx, hb⟩, by simp⟩

theorem total_congr {n : Nat} {f g : Nat → Nat} (h : ∀ k, k < n → f k = g k) : total n f = total n g := by
  induction n with
  | zero => rfl
  | succ n ih => rw [total, total, ih fun k hk => h k (by omega), h n (by omega)]
end
end Go.Proofs.YtcabaecbmkgclaaGreatDoor.Mt
namespace Go.Proofs.YtcabaecbmkgclaaGreatDoor.Mg
open Go.RowKit Mt
def inR (n x : Int) : Bool := decide (0 ≤ x ∧ x < n)

set_option maxRecDepth 100000 in
theorem gbelow_any (w : World) (n x : Int) : Calls Tryz.prog 101 #[.int .i64 n, .int .i64 x] w fun e w' => e = .returned (.bool (inR n x)) ∧ w' = w := by
  by_cases h1 : 0 ≤ x
  · by_cases h2 : x < n
    · have HE : Hid (inR n x = true) := decide_eq_true ⟨h1, h2⟩
      go_enter Tryz.func101, Tryz.ntmps101
      go_wp2_with fail
      go_ret
      exact ⟨by rw [HE.out]; rfl, rfl⟩
    · have HE : Hid (inR n x = false) := decide_eq_false fun h => h2 h.2
      go_enter Tryz.func101, Tryz.ntmps101
      go_wp2_with fail
      go_ret
      exact ⟨by rw [HE.out]; rfl, rfl⟩
  · have HE : Hid (inR n x = false) := decide_eq_false fun h => h1 h.1
    go_enter Tryz.func101, Tryz.ntmps101
    go_wp2_with fail
    go_ret
    exact ⟨by rw [HE.out]; rfl, rfl⟩

def joinN (nr : Nat → Nat) (a b : Nat) : Nat → Nat := setAt (setAt nr a (nr a ||| 2 ^ b)) b (setAt nr a (nr a ||| 2 ^ b) b ||| 2 ^ a)

/-- A graph lies in block G. -/
structure NAt (w : World) (G : Nat) (nr : Nat → Nat) : Prop where
  near : ∀ k, k < 24 → w.cell? ⟨G, k, none⟩ = some (.int .u32 (nr k : Int))
  free : ∀ i, w.frozen? ⟨G, i, none⟩ = false

theorem NAt.set {w : World} {G : Nat} {nr : Nat → Nat} (h : NAt w G nr) {a : Nat} (ha : a < 24) (x : Nat) : NAt (w.setCell ⟨G, a, none⟩ (.int .u32 (x : Int))) G (setAt nr a x) := by
  refine ⟨fun k hk => ?_, fun i => by rw [World.frozen?_setCell]; exact h.free i⟩
  by_cases e : k = a
  · subst e
    rw [World.cell?_setCell_same w _ _ (h.near k hk)]
    simp [setAt]
  · rw [cell_set_ne (fun e' => e e'.symm)]
    simp only [setAt, if_neg e]
    exact h.near k hk

theorem NAt.same {w w' : World} {G : Nat} {nr : Nat → Nat} (h : NAt w G nr) (hs : w'.heap[G]? = w.heap[G]?) : NAt w' G nr :=
  ⟨fun k hk => (World.cell?_of_block (a := ⟨G, k, none⟩) hs).trans (h.near k hk), fun i => (World.frozen?_of_block (a := ⟨G, i, none⟩) hs).trans (h.free i)⟩

theorem NAt.lt {w : World} {G : Nat} {nr : Nat → Nat} (h : NAt w G nr) : G < w.heap.size := World.block_lt_of_cell? w ⟨G, 0, none⟩ (h.near 0 (by omega))

theorem or_lt32 {x y : Nat} (hx : x < 4294967296) (hy : y < 4294967296) : x ||| y < 4294967296 := Nat.or_lt_two_pow (n := 32) hx hy
theorem pow_lt32 {b : Nat} (h : b < 24) : 2 ^ b < 4294967296 := Nat.lt_of_lt_of_le (Nat.pow_lt_pow_right (by omega) (show b < 32 by omega)) (Nat.le_refl _)

theorem or_pow {x b : Nat} (hx : x < 4294967296) (hb : b < 24) : bits .or .u32 (x : Int) (2 ^ b % 4294967296) = ((x ||| 2 ^ b : Nat) : Int) := by
  have h1 : ((2 : Int) ^ b % 4294967296) = ((2 ^ b : Nat) : Int) := by
    have h2 : ((2 ^ b : Nat) : Int) < ((4294967296 : Nat) : Int) := Int.ofNat_lt.2 (pow_lt32 hb)
    rw [show ((2 : Int) ^ b) = ((2 ^ b : Nat) : Int) by simp]
    exact Int.emod_eq_of_lt (Int.natCast_nonneg _) h2
  rw [h1, u32_or_nat _ _ hx (pow_lt32 hb)]

set_option maxRecDepth 100000 in
set_option maxHeartbeats 1000000 in
theorem join_any {w : World} {G : Nat} {nr : Nat → Nat} (h : NAt w G nr) (h32 : ∀ k, k < 24 → nr k < 4294967296) {a b : Nat} (ha : a < 24) (hb : b < 24) :
    Calls Tryz.prog 33 #[.pointer (some ⟨G, 0, none⟩), .int .i64 (a : Int), .int .i64 (b : Int)] w fun e w' => e = .returned (.tuple #[]) ∧ NAt w' G (joinN nr a b) ∧ MFr G w w' := by
  have a24 : (a : Int) < 24 := by omega
  have b24 : (b : Int) < 24 := by omega
  have ca := h.near a ha
  have fa := h.free a
  have fb := h.free b
  have o1 := or_pow (h32 a ha) hb
  have x1 := or_lt32 (h32 a ha) (pow_lt32 hb)
  have o2 := or_pow (x := setAt nr a (nr a ||| 2 ^ b) b) (b := a) (by unfold setAt; split; exact x1; exact h32 b hb) ha
  have H1 : Hid (NAt (w.setCell ⟨G, a, none⟩ (.int .u32 ((nr a ||| 2 ^ b : Nat) : Int))).drew G (setAt nr a (nr a ||| 2 ^ b))) := (h.set ha _).same rfl
  have HF1 : Hid (MFr G w (w.setCell ⟨G, a, none⟩ (.int .u32 ((nr a ||| 2 ^ b : Nat) : Int))).drew) := ((MFr.refl G w).set _ _).drew
  clear h h32
  go_enter Tryz.func33, Tryz.ntmps33
  go_wp2_with fail
  go_region
  generalize (w.setCell ⟨G, a, none⟩ (.int .u32 ((nr a ||| 2 ^ b : Nat) : Int))).drew = w2 at H1 HF1 ⊢
  clear ca fa fb o1
  generalize hn1 : setAt nr a (nr a ||| 2 ^ b) = n1 at *
  have HJ : Hid (joinN nr a b = setAt n1 b (n1 b ||| 2 ^ a)) := by unfold Hid joinN; rw [hn1]
  clear hn1 x1
  have cb := H1.out.near b hb
  have fb := H1.out.free b
  have H2 : Hid (NAt (w2.setCell ⟨G, b, none⟩ (.int .u32 ((n1 b ||| 2 ^ a : Nat) : Int))).drew G (setAt n1 b (n1 b ||| 2 ^ a))) := (H1.out.set hb _).same rfl
  have HF2 : Hid (MFr G w (w2.setCell ⟨G, b, none⟩ (.int .u32 ((n1 b ||| 2 ^ a : Nat) : Int))).drew) := (HF1.out.set _ _).drew
  go_wp2_with fail
  go_region
  generalize (w2.setCell ⟨G, b, none⟩ (.int .u32 ((n1 b ||| 2 ^ a : Nat) : Int))).drew = w3 at H2 HF2 ⊢
  go_wp2_with fail
  go_end0
  exact ⟨rfl, by rw [HJ.out]; exact H2.out, HF2.out⟩
/-- A list of pairs of numbers, whatever they are, that is read. -/
def IPr (w : World) (v : Value) (l : List (Int × Int)) : Prop := ∃ so cap, v = .slice so l.length cap ∧ ∀ (i : Nat) (a c : Int), l[i]? = some (a, c) → ∃ b o, so = some ⟨b, o, none⟩ ∧ w.cell? ⟨b, o + i * 2, none⟩ = some (.int .i64 a) ∧ w.cell? ⟨b, o + i * 2 + 1, none⟩ = some (.int .i64 c)

theorem IPr.below {w w' : World} {v : Value} {l : List (Int × Int)} (h : IPr w v l) (hb : Below w.heap.size w w') : IPr w' v l := by
  obtain ⟨so, cap, rfl, hx⟩ := h
  refine ⟨so, cap, rfl, fun i a c hi => ?_⟩
  obtain ⟨b, o, rfl, h1, h2⟩ := hx i a c hi
  have hlt : b < w.heap.size := World.block_lt_of_cell? w ⟨b, o + i * 2, none⟩ h1
  exact ⟨b, o, rfl, (hb.cell (p := ⟨b, o + i * 2, none⟩) hlt).trans h1, (hb.cell (p := ⟨b, o + i * 2 + 1, none⟩) hlt).trans h2⟩

def natL (l : List (Int × Int)) : List (Nat × Nat) := l.map fun p => (p.1.toNat, p.2.toNat)
def edgeOk (n : Int) (p : Int × Int) : Bool := inR n p.1 && inR n p.2 && !(p.1 == p.2)
def okG (n : Int) (l : List (Int × Int)) : Bool := decide (0 ≤ n) && decide (n ≤ 24) && l.all (edgeOk n)

/-- The bits of nr are the edges. -/
def NrOk (l : List (Nat × Nat)) (nr : Nat → Nat) : Prop := ∀ k, k < 24 → nr k < 4294967296 ∧ ∀ j, j < 24 → (nr k).testBit j = adjL l k j

theorem NrOk.nil : NrOk [] fun _ => 0 := fun k _ => ⟨by show 0 < 4294967296; omega, fun j _ => by simp [adjL]⟩

theorem adjL_snoc (l : List (Nat × Nat)) (a b k j : Nat) : adjL (l ++ [(a, b)]) k j = (adjL l k j || ((a == k && b == j) || (a == j && b == k))) := by
  unfold adjL
  rw [List.any_append]
  simp

theorem bit_or (x b j : Nat) : (x ||| 2 ^ b).testBit j = (x.testBit j || (b == j)) := by
  rw [Nat.testBit_or, Nat.testBit_two_pow]
  rfl

theorem NrOk.join {l : List (Nat × Nat)} {nr : Nat → Nat} (h : NrOk l nr) {a b : Nat} (ha : a < 24) (hb : b < 24) (hab : a ≠ b) : NrOk (l ++ [(a, b)]) (joinN nr a b) := by
  intro k hk
  obtain ⟨h1, h2⟩ := h k hk
  have ea : joinN nr a b a = nr a ||| 2 ^ b := by
    unfold joinN setAt
    rw [if_neg hab, if_pos rfl]
  have eb : joinN nr a b b = nr b ||| 2 ^ a := by
    unfold joinN setAt
    rw [if_pos rfl, if_neg (Ne.symm hab)]
  by_cases ka : k = a
  · subst ka
    rw [ea]
    refine ⟨or_lt32 h1 (pow_lt32 hb), fun j hj => ?_⟩
    rw [bit_or, adjL_snoc, h2 j hj]
    have : (b == k) = false := by simp; exact fun e => hab e.symm
    simp [this]
  · by_cases kb : k = b
    · subst kb
      rw [eb]
      refine ⟨or_lt32 h1 (pow_lt32 ha), fun j hj => ?_⟩
      rw [bit_or, adjL_snoc, h2 j hj]
      have : (a == k) = false := by simp; exact hab
      simp [this]
    · have e : joinN nr a b k = nr k := by
        unfold joinN setAt
        rw [if_neg kb, if_neg ka]
      rw [e]
      refine ⟨h1, fun j hj => ?_⟩
      rw [adjL_snoc, h2 j hj]
      have t1 : (a == k) = false := by simp; exact fun e => ka e.symm
      have t2 : (b == k) = false := by simp; exact fun e => kb e.symm
      simp [t1, t2]

/-- Where Of stands: its result's cells in block A, its graph in block A + 1. -/
structure OfAt (A : Nat) (w wr : World) (nr : Nat → Nat) : Prop where
  below : Below A w wr
  res : wr.there A 0 24
  g : NAt wr (A + 1) nr

def OfIs (w : World) (n : Int) (l : List (Int × Int)) (e : Ending) (w' : World) : Prop :=
  Below w.heap.size w w' ∧ ((okG n l = true ∧ ∃ nr, NrOk (natL l) nr ∧ e = .returned (.tuple #[.agg (nearCells nr).toArray, .bool true])) ∨
    (okG n l = false ∧ e = .returned (.tuple #[.agg (nearCells fun _ => 0).toArray, .bool false])))

set_option maxRecDepth 100000 in
theorem build_gr0 (w : World) : (Instr.build 65 #[]).run Tryz.prog w = .ok (.agg (nearCells fun _ => 0).toArray) w := by kernel_rfl
theorem alloc_gr0 (w : World) : (Instr.alloc 65 true (.tuple #[])).run Tryz.prog w = .ok (.pointer (some ⟨w.heap.size, 0, none⟩)) (w.alloc (.cells (nearCells fun _ => 0).toArray 65)) := by kernel_rfl

theorem near_size (nr : Nat → Nat) : (nearCells nr).toArray.size = 24 := by simp [nearCells_len]
theorem near_one (nr : Nat → Nat) : (nearCells nr).toArray.all (·.oneCell') = true := all_oneCell_toArray (by
  intro v hv
  unfold nearCells at hv
  obtain ⟨_, _, rfl⟩ := List.mem_map.1 hv
  rfl)
theorem near_at (nr : Nat → Nat) {k : Nat} (hk : k < 24) : (nearCells nr)[k]? = some (.int .u32 (nr k : Int)) := by simp [nearCells, hk]

theorem near_there (w : World) (nr : Nat → Nat) (t : TypeId) : (w.alloc (.cells (nearCells nr).toArray t)).there w.heap.size 0 24 := by
  intro j hj
  rw [Nat.zero_add]
  refine ⟨?_, by simp⟩
  rw [World.cell?_alloc_new]
  simp [nearCells_len, hj]

theorem OfAt.start (w : World) (t : TypeId) : OfAt w.heap.size w ((w.alloc (.cells (nearCells fun _ => 0).toArray t)).alloc (.cells (nearCells fun _ => 0).toArray t)) fun _ => 0 := by
  have h1 : (w.alloc (.cells (nearCells fun _ => 0).toArray t)).heap.size = w.heap.size + 1 := by simp
  refine ⟨((Below.refl _ w).alloc (Nat.le_refl _) _).alloc (by omega) _, World.there_alloc (near_there _ _ _) _, ⟨fun k hk => ?_, fun i => ?_⟩⟩
  · rw [← h1, World.cell?_alloc_new]
    have := near_at (fun _ => 0) hk
    simpa using this
  · rw [← h1]
    simp

theorem NAt.range {w : World} {G : Nat} {nr : Nat → Nat} (h : NAt w G nr) : w.rangeAt G 0 (nearCells nr) := by
  intro j v hj
  have hl := (List.getElem?_eq_some_iff.1 hj).1
  rw [nearCells_len] at hl
  rw [near_at nr hl] at hj
  cases hj
  rw [Nat.zero_add]
  exact h.near j hl

/-- What is handed back lies in block A. -/
theorem of_stored {wx : World} {A : Nat} (nr : Nat → Nat) (ht : wx.there A 0 24) : (loadVar 65 ⟨A, 0, none⟩).run Tryz.prog (wx.setCells A 0 (nearCells nr)) = .ok (.agg (nearCells nr).toArray) (wx.setCells A 0 (nearCells nr)) :=
  run_loadVar_mid _ A 0 _ (nearCells nr) _ (World.rangeAt_setCells_same wx A 0 (nearCells nr) (by rw [nearCells_len]; exact ht)) Tryz.underlying65 rfl (by rw [nearCells_len]; exact Tryz.sizeGraph)

theorem OfAt.same {A : Nat} {w wr w' : World} {nr nr' : Nat → Nat} (h : OfAt A w wr nr) (hA : A = w.heap.size) (hf : MFr (A + 1) wr w') (hg : NAt w' (A + 1) nr') : OfAt A w w' nr' := by
  have h1 := h.g.lt
  have hb : w'.heap[A]? = wr.heap[A]? := hf.block A (by omega) (by omega)
  exact ⟨h.below.trans (hf.toBelow (by omega) (by omega)), fun j hj => ⟨by rw [World.cell?_of_block (a := ⟨A, 0 + j, none⟩) hb]; exact (h.res j hj).1, (World.frozen?_of_block (a := ⟨A, 0 + j, none⟩) hb).trans (h.res j hj).2⟩, hg⟩

theorem OfAt.on {A : Nat} {w wr w' : World} {nr : Nat → Nat} (h : OfAt A w wr nr) (hA : A = w.heap.size) (hb : Below wr.heap.size wr w') : OfAt A w w' nr := h.same hA (MFr.of_below hb) (h.g.same (hb.block _ h.g.lt))

theorem OfAt.no {w wr : World} {nr : Nat → Nat} {n : Int} {l : List (Int × Int)} (h : OfAt w.heap.size w wr nr) (hok : okG n l = false) : OfIs w n l (.returned (.tuple #[.agg (nearCells fun _ => 0).toArray, .bool false])) (wr.setCells w.heap.size 0 (nearCells fun _ => 0)) :=
  ⟨below_cells (Nat.le_refl _) _ _ _ h.below, .inr ⟨hok, rfl⟩⟩

theorem OfAt.yes {w wr : World} {nr : Nat → Nat} {n : Int} {l : List (Int × Int)} (h : OfAt w.heap.size w wr nr) (hok : okG n l = true) (hnr : NrOk (natL l) nr) : OfIs w n l (.returned (.tuple #[.agg (nearCells nr).toArray, .bool true])) (wr.setCells w.heap.size 0 (nearCells nr)) :=
  ⟨below_cells (Nat.le_refl _) _ _ _ h.below, .inl ⟨hok, nr, hnr, rfl⟩⟩

theorem okG_bad {n : Int} {l : List (Int × Int)} {i : Nat} {p : Int × Int} (hi : l[i]? = some p) (h : edgeOk n p = false) : okG n l = false := by
  have : l.all (edgeOk n) = false := by
    cases hc : l.all (edgeOk n)
    · rfl
    · have := List.all_eq_true.1 hc p (List.mem_of_getElem? hi)
      rw [h] at this
      cases this
  unfold okG
  rw [this]
  simp

theorem edgeOk_1 {n x y : Int} (h : inR n x = false) : edgeOk n (x, y) = false := by unfold edgeOk; simp [h]
theorem edgeOk_2 {n x y : Int} (h : inR n y = false) : edgeOk n (x, y) = false := by unfold edgeOk; simp [h]
theorem edgeOk_3 {n x y : Int} (h : (x == y) = true) : edgeOk n (x, y) = false := by unfold edgeOk; simp [h]
theorem edgeOk_yes {n x y : Int} (h1 : inR n x = true) (h2 : inR n y = true) (h3 : (x == y) = false) : edgeOk n (x, y) = true := by unfold edgeOk; simp [h1, h2, h3]

theorem inR_iff {n x : Int} : inR n x = true ↔ 0 ≤ x ∧ x < n := by unfold inR; simp

set_option maxRecDepth 100000 in
set_option maxHeartbeats 1000000 in
theorem of_any (w : World) {v : Value} {l : List (Int × Int)} (h : IPr w v l) (n : Int) (hl : l.length ≤ 1000000000000000) :
    Calls Tryz.prog 75 #[.int .i64 n, v] w fun e w' => OfIs w n l e w' := by
  have HR : Hid (IPr w v l) := h
  obtain ⟨so, cap, hv, hcc⟩ := h
  subst hv
  clear hcc
  go_enter Tryz.func75, Tryz.ntmps75
  go_upto_region 2 with (refine wpList_alloc rfl 65 rfl _ _ (alloc_gr0 _) ?_; simp only [Act.put, List.setIfInBounds_toArray, List.set_cons_zero, List.set_cons_succ])
  have e1 : (w.alloc (.cells (nearCells fun _ => 0).toArray 65)).heap.size = w.heap.size + 1 := by simp
  rw [e1]
  clear e1
  have HST : Hid (OfAt w.heap.size w ((w.alloc (.cells (nearCells fun _ => 0).toArray 65)).alloc (.cells (nearCells fun _ => 0).toArray 65)) fun _ => 0) := OfAt.start w _
  generalize (w.alloc (.cells (nearCells fun _ => 0).toArray 65)).alloc (.cells (nearCells fun _ => 0).toArray 65) = wm at HST ⊢
  by_cases hn0 : n < 0
  · have HE : Hid (OfIs w n l (.returned (.tuple #[.agg (nearCells fun _ => 0).toArray, .bool false])) (wm.setCells w.heap.size 0 (nearCells fun _ => 0))) := HST.out.no (show okG n l = false by unfold okG; rw [decide_eq_false (by omega)]; rfl)
    have HLD : Hid _ := of_stored (fun _ => 0) HST.out.res
    go_wp2_with (first | (refine wpList_build rfl 65 #[] rfl #[] (by simp) (.agg (nearCells fun _ => 0).toArray) (build_gr0 _) ?_; simp only [Act.put, List.setIfInBounds_toArray, List.set_cons_zero, List.set_cons_succ]) | (refine wpList_store_mid rfl 65 (.tmp 4) (.tmp 15) rfl w.heap.size 0 (nearCells fun _ => 0).toArray (by simp [Act.eval]) (by rfl) (by rw [near_size]; exact HST.out.res) (by rw [near_size]; exact Tryz.sizeGraph) (near_one _) ?_; simp only [Act.put]))
    refine bodyPost_ret (v := .tuple #[.agg (nearCells fun _ => 0).toArray, .bool false]) ?_ rfl HE.out
    have HLD := HLD.out
    simp [results, Tryz.results75, asAddr, HLD]
  · by_cases hn24 : n > 24
    · have HE : Hid (OfIs w n l (.returned (.tuple #[.agg (nearCells fun _ => 0).toArray, .bool false])) (wm.setCells w.heap.size 0 (nearCells fun _ => 0))) := HST.out.no (show okG n l = false by unfold okG; rw [decide_eq_false (p := n ≤ 24) (by omega)]; simp)
      have HLD : Hid _ := of_stored (fun _ => 0) HST.out.res
      go_wp2_with (first | (refine wpList_build rfl 65 #[] rfl #[] (by simp) (.agg (nearCells fun _ => 0).toArray) (build_gr0 _) ?_; simp only [Act.put, List.setIfInBounds_toArray, List.set_cons_zero, List.set_cons_succ]) | (refine wpList_store_mid rfl 65 (.tmp 4) (.tmp 15) rfl w.heap.size 0 (nearCells fun _ => 0).toArray (by simp [Act.eval]) (by rfl) (by rw [near_size]; exact HST.out.res) (by rw [near_size]; exact Tryz.sizeGraph) (near_one _) ?_; simp only [Act.put]))
      refine bodyPost_ret (v := .tuple #[.agg (nearCells fun _ => 0).toArray, .bool false]) ?_ rfl HE.out
      have HLD := HLD.out
      simp [results, Tryz.results75, asAddr, HLD]
    · go_wp2_with fail
      go_loopg [18] (l.length + 1) (fun k v18 wr => ∃ (i : Nat) (nr : Nat → Nat), i ≤ l.length ∧ l.length - i < k ∧ v18 = .int .i64 (i : Nat) ∧ (l.take i).all (edgeOk n) = true ∧ NrOk (natL (l.take i)) nr ∧ OfAt w.heap.size w wr nr)
      case atStart => exact ⟨0, fun _ => 0, by omega, by omega, rfl, rfl, NrOk.nil, HST.out⟩
      case round =>
        clear HST
        obtain ⟨i, nr, hi, hk, rfl, hall, hnr, hat⟩ := hrel
        have HAL : Hid ((l.take i).all (edgeOk n) = true) := hall
        have HNR : Hid (NrOk (natL (l.take i)) nr) := hnr
        have HAT : Hid (OfAt w.heap.size w wr nr) := hat
        clear hall hnr hat
        by_cases hlt : i < l.length
        · have hlt' : (i : Int) < (l.length : Int) := by omega
          obtain ⟨x, y, gi⟩ : ∃ x y, l[i]? = some (x, y) := ⟨_, _, List.getElem?_eq_getElem hlt⟩
          obtain ⟨so', cap', es, hx⟩ := HR.out.below HAT.out.below
          simp only [Value.slice.injEq, true_and] at es
          obtain ⟨rfl, rfl⟩ := es
          obtain ⟨bb, oo, rfl, c0, c1⟩ := hx i x y gi
          have HGI : Hid (l[i]? = some (x, y)) := gi
          clear gi hx
          have HA2 : Hid (OfAt w.heap.size w (wr.alloc (.cells #[.int .i64 x, .int .i64 y] 48)) nr) := HAT.out.on rfl ((Below.refl _ _).alloc (Nat.le_refl _) _)
          have B1 := gbelow_any (wr.alloc (.cells #[.int .i64 x, .int .i64 y] 48)) n x
          have B2 := gbelow_any (wr.alloc (.cells #[.int .i64 x, .int .i64 y] 48)) n y
          have q0 : (wr.alloc (.cells #[.int .i64 x, .int .i64 y] 48)).cell? ⟨wr.heap.size, 0, none⟩ = some (.int .i64 x) := by rw [World.cell?_alloc_new]; rfl
          have q1 : (wr.alloc (.cells #[.int .i64 x, .int .i64 y] 48)).cell? ⟨wr.heap.size, 1, none⟩ = some (.int .i64 y) := by rw [World.cell?_alloc_new]; rfl
          go_wp2_with fail
          generalize wr.alloc (.cells #[.int .i64 x, .int .i64 y] 48) = wq at *
          clear c0 c1
          cases hx1 : inR n x
          · rw [hx1] at B1
            refine B1.mono ?_
            rintro e w2 ⟨rfl, rfl⟩
            have HE : Hid (OfIs w n l (.returned (.tuple #[.agg (nearCells fun _ => 0).toArray, .bool false])) (w2.setCells w.heap.size 0 (nearCells fun _ => 0))) := HA2.out.no (okG_bad HGI.out (edgeOk_1 hx1))
            have HLD : Hid _ := of_stored (fun _ => 0) HA2.out.res
            go_wp2_with (first | (refine wpList_build rfl 65 #[] rfl #[] (by simp) (.agg (nearCells fun _ => 0).toArray) (build_gr0 _) ?_; simp only [Act.put, List.setIfInBounds_toArray, List.set_cons_zero, List.set_cons_succ]) | (refine wpList_store_mid rfl 65 (.tmp 4) (.tmp 41) rfl w.heap.size 0 (nearCells fun _ => 0).toArray (by simp [Act.eval]) (by rfl) (by rw [near_size]; exact HA2.out.res) (by rw [near_size]; exact Tryz.sizeGraph) (near_one _) ?_; simp only [Act.put]))
            refine bodyPost_ret (v := .tuple #[.agg (nearCells fun _ => 0).toArray, .bool false]) ?_ rfl HE.out
            have HLD := HLD.out
            simp [results, Tryz.results75, asAddr, HLD]
          · rw [hx1] at B1
            refine B1.mono ?_
            rintro e w2 ⟨rfl, rfl⟩
            cases hy1 : inR n y
            · rw [hy1] at B2
              go_wp2_with fail
              refine B2.mono ?_
              rintro e w3 ⟨rfl, rfl⟩
              have HE : Hid (OfIs w n l (.returned (.tuple #[.agg (nearCells fun _ => 0).toArray, .bool false])) (w3.setCells w.heap.size 0 (nearCells fun _ => 0))) := HA2.out.no (okG_bad HGI.out (edgeOk_2 hy1))
              have HLD : Hid _ := of_stored (fun _ => 0) HA2.out.res
              go_wp2_with (first | (refine wpList_build rfl 65 #[] rfl #[] (by simp) (.agg (nearCells fun _ => 0).toArray) (build_gr0 _) ?_; simp only [Act.put, List.setIfInBounds_toArray, List.set_cons_zero, List.set_cons_succ]) | (refine wpList_store_mid rfl 65 (.tmp 4) (.tmp 41) rfl w.heap.size 0 (nearCells fun _ => 0).toArray (by simp [Act.eval]) (by rfl) (by rw [near_size]; exact HA2.out.res) (by rw [near_size]; exact Tryz.sizeGraph) (near_one _) ?_; simp only [Act.put]))
              refine bodyPost_ret (v := .tuple #[.agg (nearCells fun _ => 0).toArray, .bool false]) ?_ rfl HE.out
              have HLD := HLD.out
              simp [results, Tryz.results75, asAddr, HLD]
            · rw [hy1] at B2
              cases hxy : (x == y)
              · have HXY : Hid ((x == y) = false) := hxy
                have HX1 : Hid (inR n x = true ∧ inR n y = true) := ⟨hx1, hy1⟩
                obtain ⟨a, rfl⟩ := Int.eq_ofNat_of_zero_le (inR_iff.1 hx1).1
                obtain ⟨b, rfl⟩ := Int.eq_ofNat_of_zero_le (inR_iff.1 hy1).1
                have ha : a < 24 := by have := (inR_iff.1 hx1).2; omega
                have hb : b < 24 := by have := (inR_iff.1 hy1).2; omega
                have hab : a ≠ b := by rintro rfl; simp at hxy
                have JN := join_any HA2.out.g (fun k hk => (HNR.out k hk).1) ha hb
                clear hx1 hy1 hn0 hn24
                go_wp2_with fail
                refine B2.mono ?_
                rintro e w3 ⟨rfl, rfl⟩
                clear B1 B2
                go_wp2_with fail
                refine JN.mono ?_
                rintro e w4 ⟨rfl, hA4, hf4⟩
                have et : l.take (i + 1) = l.take i ++ [((a : Int), (b : Int))] := take_snoc HGI.out
                have HN : Hid ((l.take (i + 1)).all (edgeOk n) = true ∧ NrOk (natL (l.take (i + 1))) (joinN nr a b) ∧ OfAt w.heap.size w w4 (joinN nr a b)) := by
                  refine ⟨?_, ?_, HA2.out.same rfl hf4 hA4⟩
                  · rw [et, List.all_append, HAL.out]
                    simp [edgeOk_yes HX1.out.1 HX1.out.2 HXY.out]
                  · rw [et]
                    have := HNR.out.join ha hb hab
                    simpa [natL] using this
                clear et JN hA4 hf4 hxy
                go_wp2_with fail
                go_roundg (l.length - i)
                case measure => omega
                case rel => exact ⟨i + 1, joinN nr a b, by omega, by omega, by go_num, HN.out.1, HN.out.2.1, HN.out.2.2⟩
              · go_wp2_with fail
                refine B2.mono ?_
                rintro e w3 ⟨rfl, rfl⟩
                have HE : Hid (OfIs w n l (.returned (.tuple #[.agg (nearCells fun _ => 0).toArray, .bool false])) (w3.setCells w.heap.size 0 (nearCells fun _ => 0))) := HA2.out.no (okG_bad HGI.out (edgeOk_3 hxy))
                have HLD : Hid _ := of_stored (fun _ => 0) HA2.out.res
                go_wp2_with (first | (refine wpList_build rfl 65 #[] rfl #[] (by simp) (.agg (nearCells fun _ => 0).toArray) (build_gr0 _) ?_; simp only [Act.put, List.setIfInBounds_toArray, List.set_cons_zero, List.set_cons_succ]) | (refine wpList_store_mid rfl 65 (.tmp 4) (.tmp 41) rfl w.heap.size 0 (nearCells fun _ => 0).toArray (by simp [Act.eval]) (by rfl) (by rw [near_size]; exact HA2.out.res) (by rw [near_size]; exact Tryz.sizeGraph) (near_one _) ?_; simp only [Act.put]))
                refine bodyPost_ret (v := .tuple #[.agg (nearCells fun _ => 0).toArray, .bool false]) ?_ rfl HE.out
                have HLD := HLD.out
                simp [results, Tryz.results75, asAddr, HLD]
        · have hlt' : ¬ (i : Int) < (l.length : Int) := by omega
          have et : l.take i = l := List.take_of_length_le (by omega)
          have HE : Hid (OfIs w n l (.returned (.tuple #[.agg (nearCells nr).toArray, .bool true])) (wr.setCells w.heap.size 0 (nearCells nr))) := HAT.out.yes (n := n) (l := l) (by have := HAL.out; rw [et] at this; unfold okG; rw [this, decide_eq_true (by omega), decide_eq_true (by omega)]; rfl) (by have := HNR.out; rw [et] at this; exact this)
          have HLD : Hid _ := of_stored nr HAT.out.res
          have HRG : Hid (wr.rangeAt (w.heap.size + 1) 0 (nearCells nr)) := HAT.out.g.range
          clear et
          go_wp2_with (first | (refine wpList_load_mid rfl 65 (.tmp 6) rfl (w.heap.size + 1) 0 (by simp [Act.eval]) (nearCells nr) _ HRG.out Tryz.underlying65 rfl (by rw [Tryz.sizeGraph, nearCells_len]) ?_; simp only [Act.put, List.setIfInBounds_toArray, List.set_cons_zero, List.set_cons_succ]) | (refine wpList_store_mid rfl 65 (.tmp 4) (.tmp 48) rfl w.heap.size 0 (nearCells nr).toArray (by simp [Act.eval]) (by rfl) (by rw [near_size]; exact HAT.out.res) (by rw [near_size]; exact Tryz.sizeGraph) (near_one _) ?_; simp only [Act.put]))
          refine bodyPost_ret (v := .tuple #[.agg (nearCells nr).toArray, .bool true]) ?_ rfl HE.out
          have HLD := HLD.out
          simp [results, Tryz.results75, asAddr, HLD]
/-- What Match hands back. -/
def MtIs (w : World) (n : Int) (l : List (Int × Int)) (e : Ending) (w' : World) : Prop :=
  Below w.heap.size w w' ∧ ((okG n l = true ∧ ∃ mate f h, Best (grL n.toNat (natL l)) mate f h ∧ ∃ pv uv, e = .returned (.tuple #[pv, uv, .int .i64 0]) ∧ Prs w' w.heap.size pv (pairsF n.toNat mate) ∧ Ints w' w.heap.size uv (barF n.toNat f)) ∨
    (okG n l = false ∧ e = .returned (.tuple #[.slice none 0 0, .slice none 0 0, .int .i64 7])))

theorem okG_ed {n : Int} {l : List (Int × Int)} (h : okG n l = true) : n.toNat ≤ 24 ∧ (n.toNat : Int) = n ∧ EdOk n.toNat (natL l) := by
  unfold okG at h
  simp only [Bool.and_eq_true, decide_eq_true_eq] at h
  obtain ⟨⟨h1, h2⟩, h3⟩ := h
  refine ⟨by omega, by omega, fun p hp => ?_⟩
  obtain ⟨q, hq, rfl⟩ := List.mem_map.1 hp
  have := List.all_eq_true.1 h3 q hq
  unfold edgeOk at this
  simp only [Bool.and_eq_true, inR_iff, Bool.not_eq_true', beq_eq_false_iff_ne] at this
  obtain ⟨⟨⟨k1, k2⟩, k3, k4⟩, k5⟩ := this
  refine ⟨by simp only; omega, by simp only; omega, ?_⟩
  simp only
  omega

theorem gr_there (w : World) (nr : Nat → Nat) (t : TypeId) : ((w.alloc (.cells (nearCells fun _ => 0).toArray t)).setCells w.heap.size 0 (nearCells nr)).rangeAt w.heap.size 0 (nearCells nr) :=
  World.rangeAt_setCells_same _ _ _ _ (by rw [nearCells_len]; exact near_there _ _ _)

set_option maxRecDepth 100000 in
set_option maxHeartbeats 1000000 in
theorem match_any (w : World) {v : Value} {l : List (Int × Int)} (h : IPr w v l) (n : Int) (hl : l.length ≤ 1000000000000000) :
    Calls Tryz.prog 46 #[.int .i64 n, v] w fun e w' => MtIs w n l e w' := by
  have OF := of_any w h n hl
  obtain ⟨so, cap, hv, hcc⟩ := h
  subst hv
  clear hcc
  go_enter Tryz.func46, Tryz.ntmps46
  go_wp2_with fail
  refine OF.mono ?_
  rintro e w1 ⟨hb1, hcase⟩
  clear OF
  have HB1 : Hid (Below w.heap.size w w1) := hb1
  clear hb1
  rcases hcase with ⟨hok, nr, hnr, rfl⟩ | ⟨hok, rfl⟩
  · obtain ⟨hn24, hnn, hed⟩ := okG_ed hok
    have HTH : Hid ((w1.alloc (.cells (nearCells fun _ => 0).toArray 65)).there w1.heap.size 0 24) := near_there _ _ _
    have HRG : Hid (((w1.alloc (.cells (nearCells fun _ => 0).toArray 65)).setCells w1.heap.size 0 (nearCells nr)).rangeAt w1.heap.size 0 (nearCells nr)) := gr_there _ _ _
    have HB2 : Hid (Below w.heap.size w ((w1.alloc (.cells (nearCells fun _ => 0).toArray 65)).setCells w1.heap.size 0 (nearCells nr))) := below_cells HB1.out.size _ _ _ (HB1.out.alloc HB1.out.size _)
    have HOK : Hid (okG n l = true) := hok
    have GM := greatest_any ((w1.alloc (.cells (nearCells fun _ => 0).toArray 65)).setCells w1.heap.size 0 (nearCells nr)) (nr := nr) (g := grL n.toNat (natL l)) hnr (hed.gr hn24)
    rw [show (((grL n.toNat (natL l)).n : Nat) : Int) = n from hnn] at GM
    clear hok hnr hed hn24 hnn
    go_upto_region 2 with (first | (refine wpList_alloc rfl 65 rfl _ _ (alloc_gr0 _) ?_; simp only [Act.put, List.setIfInBounds_toArray, List.set_cons_zero, List.set_cons_succ]) | (refine wpList_store_mid rfl 65 (.tmp 7) (.tmp 15) rfl w1.heap.size 0 (nearCells nr).toArray (by simp [Act.eval]) (by simp [Act.eval]) (by rw [near_size]; with_reducible exact HTH.out) (by rw [near_size]; exact Tryz.sizeGraph) (near_one _) ?_; simp only [Act.put]))
    generalize World.setCells _ _ _ _ = w2 at HRG HB2 GM ⊢
    generalize w1.heap.size = L at HRG ⊢
    clear HTH
    go_wp2_with (refine wpList_load_mid rfl 65 (.tmp 7) rfl L 0 (by simp [Act.eval]) (nearCells nr) _ HRG.out Tryz.underlying65 rfl (by rw [Tryz.sizeGraph, nearCells_len]) ?_; simp only [Act.put, List.setIfInBounds_toArray, List.set_cons_zero, List.set_cons_succ])
    refine GM.mono ?_
    rintro e w3 ⟨mate, f, h, hbest, pv, uv, rfl, hP, hU, hb3⟩
    have HE : Hid (MtIs w n l (.returned (.tuple #[pv, uv, .int .i64 0])) w3) := ⟨HB2.out.trans (hb3.mono HB2.out.size), .inl ⟨HOK.out, mate, f, h, hbest, pv, uv, rfl, ownsRow_mono hP HB2.out.size, ownsRow_mono hU HB2.out.size⟩⟩
    clear GM hbest hP hU hb3
    go_wp2_with fail
    refine bodyPost_ret (v := .tuple #[pv, uv, .int .i64 0]) ?_ rfl HE.out
    simp [results, Tryz.results46]
  · have HTH : Hid ((w1.alloc (.cells (nearCells fun _ => 0).toArray 65)).there w1.heap.size 0 24) := near_there _ _ _
    have HE : Hid (MtIs w n l (.returned (.tuple #[.slice none 0 0, .slice none 0 0, .int .i64 7])) ((w1.alloc (.cells (nearCells fun _ => 0).toArray 65)).setCells w1.heap.size 0 (nearCells fun _ => 0))) := ⟨below_cells HB1.out.size _ _ _ (HB1.out.alloc HB1.out.size _), .inr ⟨hok, rfl⟩⟩
    clear hok
    go_upto_region 2 with (first | (refine wpList_alloc rfl 65 rfl _ _ (alloc_gr0 _) ?_; simp only [Act.put, List.setIfInBounds_toArray, List.set_cons_zero, List.set_cons_succ]) | (refine wpList_store_mid rfl 65 (.tmp 7) (.tmp 15) rfl w1.heap.size 0 (nearCells fun _ => 0).toArray (by simp [Act.eval]) (by simp [Act.eval]) (by rw [near_size]; with_reducible exact HTH.out) (by rw [near_size]; exact Tryz.sizeGraph) (near_one _) ?_; simp only [Act.put]))
    generalize World.setCells _ _ _ _ = w2 at HE ⊢
    clear HTH
    go_wp2_with fail
    refine bodyPost_ret (v := .tuple #[.slice none 0 0, .slice none 0 0, .int .i64 7]) ?_ rfl HE.out
    simp [results, Tryz.results46]
end Go.Proofs.YtcabaecbmkgclaaGreatDoor.Mg
