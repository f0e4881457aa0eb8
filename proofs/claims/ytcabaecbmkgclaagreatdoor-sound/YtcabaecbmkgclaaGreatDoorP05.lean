/-
  One step of the search, as the program takes it: an edge is followed from an outer vertex.
  The search goes through its queue: what has been looked at, and that at the end no edge leads on.
  The graph of a list of edges; the most pairs by trying; no more than the search found, and no fewer.
  A ring of carbon in small letters with things hanging on: how its text is read (no program).
  A ring of carbon in small letters: its text, unit by unit.
-/
import Derived.Test.YtcabaecbmkgclaaGreatDoorP04

namespace Go.Proofs.YtcabaecbmkgclaaGreatDoor.Mt

def ringEq (r s : Nat → Bool) : Bool := (List.range 24).all fun x => r x == s x

/-- From an outer vertex to its root (k: more steps than there can be). -/
def routeF (mate : Nat → Option Nat) (next : Nat → Nat) : Nat → Nat → List Nat
  | 0, v => [v]
  | k + 1, v => match mate v with
    | none => [v]
    | some m => v :: m :: routeF mate next k (next m)

def meetingF (f : Fo) (left right : List Nat) : Nat → Bool := match left.find? (fun x => right.any fun y => ringEq (f.ring x) (f.ring y)) with
  | some x => f.ring x
  | none => fun _ => false

def belowF (f : Fo) (top : Nat → Bool) (l : List Nat) : List Nat := l.takeWhile fun x => !ringEq (f.ring x) top

def wholeF (f : Fo) (top : Nat → Bool) (l : List Nat) : Nat → Bool := whole f top l

def contractF (f : Fo) (left right : List Nat) (v w : Nat) : Fo :=
  let top := meetingF f left right
  let L := belowF f top left
  let L' := belowF f top right
  let W := wholeF f top (L ++ L')
  contracted f W L L' v w ((List.range 24).filter fun x => W x && !f.outer x)

def followF (mate : Nat → Option Nat) (f : Fo) (v w : Nat) : Option (List Nat) × Fo :=
  if f.outer w = false ∧ f.inner w = false then (none, taken f v w (mateOf mate w))
  else if f.outer w = false ∨ ringEq (f.ring v) (f.ring w) = true then (none, f)
  else
    let left := routeF mate f.next 24 v
    let right := routeF mate f.next 24 w
    if left.getLast? = right.getLast? then (none, contractF f left right v w) else (some (left.reverse ++ right), f)

section
variable {g : Gr} {mate : Nat → Option Nat} {f : Fo} {h : Gh}

theorem Inv.ringEq_iff (I : Inv g mate f h) {x y : Nat} : ringEq (f.ring x) (f.ring y) = true ↔ f.ring x = f.ring y := by
  unfold ringEq
  rw [List.all_eq_true]
  constructor
  · intro k
    funext z
    by_cases hz : z < 24
    · simpa using k z (List.mem_range.2 hz)
    · have : ∀ u, f.ring u z = false := fun u => by
        cases e : f.ring u z
        · rfl
        · exact absurd (I.rlt u z e).2 hz
      rw [this x, this y]
  · intro k z _
    rw [k]
    simp

theorem alt_last {next : Nat → Nat} {t : Nat} : ∀ {l : List Nat}, Alt g mate next t l → l.getLast? = some t
  | [x], h => by
    have : x = t := h
    subst this
    rfl
  | x :: m :: l, h => by
    have k := alt_last h.2.2.2
    cases l with
    | nil => cases h.2.2.1
    | cons y l => simpa using k

theorem routeF_alt {next : Nat → Nat} {t : Nat} (ht : mate t = none) : ∀ {l : List Nat} (k : Nat) (v : Nat), Alt g mate next t l → l.head? = some v → l.length ≤ k + 1 → routeF mate next k v = l
  | [x], 0, v, _, hv, _ => by simp at hv; rw [routeF, hv]
  | [x], k + 1, v, ha, hv, _ => by
    have e : x = t := ha
    simp at hv
    rw [routeF, ← hv, e, ht]
  | x :: m :: l, 0, v, _, _, hl => by simp at hl
  | x :: m :: l, k + 1, v, ha, hv, hl => by
    simp at hv
    subst hv
    rw [routeF, ha.1]
    simp only
    rw [routeF_alt ht k _ ha.2.2.2 ha.2.2.1 (by simp at hl; omega)]

theorem Rt.len (G : GrOk g) (M : MtOk g mate) (I : Inv g mate f h) {v : Nat} {l : List Nat} (r : Rt g mate f h v l) : l.length ≤ g.n := by
  have := len_inj l (fun x => x) (List.range g.n) r.nodup (fun x hx => by
    rw [List.mem_range]
    rcases r.lab x hx with e | ⟨_, b, e, _⟩
    · exact I.olt x e.1
    · exact (G.lt _ _ (M.adj _ _ e)).1) (fun x _ y _ e => e)
  simpa using this

theorem Rt.eqF (G : GrOk g) (M : MtOk g mate) (I : Inv g mate f h) {v : Nat} {l : List Nat} (r : Rt g mate f h v l) : routeF mate f.next 24 v = l :=
  routeF_alt r.free 24 v r.alt r.head (by have := r.len G M I; have := G.n24; omega)

theorem takeWhile_climb (I : Inv g mate f h) {x0 : Nat} {v : Nat} {L : List Nat} {e : Nat} {R : List Nat} (c : Climb g mate f h (f.ring x0) v L e R) : belowF f (f.ring x0) (L ++ e :: R) = L := by
  unfold belowF
  rw [List.takeWhile_append_of_pos]
  · rw [List.takeWhile_cons_of_neg, List.append_nil]
    simp [I.ringEq_iff, c.ring]
  · intro x hx
    have : ringEq (f.ring x) (f.ring x0) = false := by
      cases e : ringEq (f.ring x) (f.ring x0)
      · rfl
      · exact absurd (I.ringEq_iff.1 e) (c.out x hx)
    simp [this]

theorem rt_split_find {p : Nat → Bool} : ∀ {l : List Nat} {x : Nat}, l.find? p = some x → ∃ pre post, l = pre ++ x :: post ∧ p x = true ∧ ∀ y ∈ pre, p y = false
  | [], _, h => by cases h
  | a :: l, x, h => by
    rw [List.find?_cons] at h
    cases hp : p a with
    | true =>
      rw [hp] at h
      simp at h
      subst h
      exact ⟨[], l, rfl, hp, by simp⟩
    | false =>
      rw [hp] at h
      obtain ⟨pre, post, e, h1, h2⟩ := rt_split_find h
      exact ⟨a :: pre, post, by rw [e]; rfl, h1, fun y hy => by
        rcases List.mem_cons.1 hy with rfl | hy
        · exact hp
        · exact h2 y hy⟩

/-- Two routes of one tree meet. -/
theorem meet_of (G : GrOk g) (M : MtOk g mate) (I : Inv g mate f h) {v w : Nat} (hv : f.outer v = true) (hw : f.outer w = true) (hvw : g.adj v w = true) {l r : List Nat} (hl : Rt g mate f h v l) (hr : Rt g mate f h w r) (he : h.root v = h.root w) :
    ∃ x0 L L' e e' R R', meetingF f l r = f.ring x0 ∧ Meet g mate f h (f.ring x0) v w L L' e e' R R' ∧ l = L ++ e :: R ∧ r = L' ++ e' :: R' := by
  have hex : ∃ x, l.find? (fun x => r.any fun y => ringEq (f.ring x) (f.ring y)) = some x := by
    cases hf : l.find? (fun x => r.any fun y => ringEq (f.ring x) (f.ring y)) with
    | some x => exact ⟨x, rfl⟩
    | none =>
      rw [List.find?_eq_none] at hf
      refine absurd ?_ (hf _ hl.alt.mem)
      rw [List.any_eq_true]
      exact ⟨h.root v, by rw [he]; exact hr.alt.mem, I.ringEq_iff.2 rfl⟩
  obtain ⟨x0, hf⟩ := hex
  obtain ⟨pre, post, hsp, hp, hpre⟩ := rt_split_find hf
  rw [List.any_eq_true] at hp
  obtain ⟨y0, hy0, hye⟩ := hp
  have hye' := I.ringEq_iff.1 hye
  have hn24 := G.n24
  have hlt : ∀ {u : Nat} {k : List Nat}, Rt g mate f h u k → ∀ x ∈ k, x < 24 := fun {u k} c x hx => by
    rcases c.lab x hx with e | ⟨_, b, e, _⟩
    · have := I.olt x e.1; omega
    · have := (G.lt _ _ (M.adj _ _ e)).1; omega
  have hx0l : x0 ∈ l := by rw [hsp]; simp
  have hx0o : f.outer x0 = true := by
    cases hx0o : f.outer x0
    · exfalso
      obtain ⟨b, hb, hm⟩ := EvO.before M.back hl.alt hl.evo hsp hx0o
      have hyx : y0 = x0 := I.single x0 y0 hx0o (by rw [hye']; exact I.self y0 (hlt hr y0 hy0))
      subst hyx
      have hbr : b ∈ r := Alt.closed M hr.free hr.alt y0 hy0 b hm
      have := hpre b hb
      rw [List.any_eq_false] at this
      exact this b hbr (I.ringEq_iff.2 rfl)
    · rfl
  have hy0o : f.outer y0 = true := I.rout x0 y0 hx0o (by rw [hye']; exact I.self y0 (hlt hr y0 hy0))
  obtain ⟨L, e, R, cl⟩ := climb_ex G M I (f.ring x0) _ v l hv (Nat.lt_succ_self _) hl ⟨x0, hx0l, hx0o, rfl⟩
  obtain ⟨L', e', R', cr⟩ := climb_ex G M I (f.ring x0) _ w r hw (Nat.lt_succ_self _) hr ⟨y0, hy0, hy0o, hye'.symm⟩
  have el := hl.unique cl.rt
  have er := hr.unique cr.rt
  refine ⟨x0, L, L', e, e', R, R', by unfold meetingF; rw [hf], ⟨cl, cr, ?_, hvw⟩, el, er⟩
  intro x hx y hy k
  -- whatever stands ahead of the meeting has no fellow on the other side
  have hxpre : x ∈ pre := by
    have h1 := el
    rw [hsp] at h1
    have hne : x0 ∉ L := fun hh => cl.out x0 hh rfl
    rcases List.append_eq_append_iff.1 h1 with ⟨us, e1, e2⟩ | ⟨bs, e1, e2⟩
    · cases us with
      | nil =>
        simp at e1
        rw [e1] at hx
        exact hx
      | cons a us =>
        simp at e2
        rw [e1] at hne
        exact absurd (by rw [e2.1]; simp) hne
    · rw [e1]
      exact List.mem_append_left _ hx
  have := hpre x hxpre
  rw [List.any_eq_false] at this
  exact this y (by rw [er]; exact List.mem_append_left _ hy) (I.ringEq_iff.2 k)

/-- What is kept of a search while it goes on. -/
structure Grown (f f' : Fo) : Prop where
  outer : ∀ x, f.outer x = true → f'.outer x = true
  inner : ∀ x, f.inner x = true → f'.inner x = true
  ring : ∀ x y, f.ring x y = true → f'.ring x y = true
  queue : ∃ q, f'.queue = f.queue ++ q

theorem Grown.refl (f : Fo) : Grown f f := ⟨fun _ h => h, fun _ h => h, fun _ _ h => h, [], by simp⟩

theorem follow_ok (G : GrOk g) (M : MtOk g mate) (I : Inv g mate f h) {v w : Nat} (hv : f.outer v = true) (hvw : g.adj v w = true) :
    (∃ p, (followF mate f v w).1 = some p ∧ Aug g mate p) ∨ ((followF mate f v w).1 = none ∧ (∃ h', Inv g mate (followF mate f v w).2 h') ∧ Grown f (followF mate f v w).2 ∧ ((followF mate f v w).2.inner w = true ∨ (followF mate f v w).2.outer w = true) ∧
      ((followF mate f v w).2.outer w = true → (followF mate f v w).2.ring v w = true)) := by
  have hwn := (G.lt _ _ hvw).2
  have hw24 : w < 24 := Nat.lt_of_lt_of_le hwn G.n24
  unfold followF
  by_cases h1 : f.outer w = false ∧ f.inner w = false
  · rw [if_pos h1]
    obtain ⟨u, hm, huo, hui⟩ := I.fresh M hwn h1.1 h1.2
    have e : mateOf mate w = u := by unfold mateOf; rw [hm]; rfl
    rw [e]
    have huw : w ≠ u := by
      rintro rfl
      have := M.adj _ _ hm
      rw [G.irr] at this
      cases this
    refine .inr ⟨rfl, ⟨_, take_inv G M I hv hvw h1.1 h1.2 hm⟩, ⟨?_, ?_, fun _ _ k => k, [u], rfl⟩, .inl ?_, ?_⟩
    · intro x hx
      show setAt f.outer u true x = true
      unfold setAt
      split
      · rfl
      · exact hx
    · intro x hx
      show setAt f.inner w true x = true
      unfold setAt
      split
      · rfl
      · exact hx
    · show setAt f.inner w true w = true
      unfold setAt
      rw [if_pos rfl]
    · intro k
      have : setAt f.outer u true w = true := k
      unfold setAt at this
      rw [if_neg huw, h1.1] at this
      cases this
  · rw [if_neg h1]
    by_cases h2 : f.outer w = false ∨ ringEq (f.ring v) (f.ring w) = true
    · rw [if_pos h2]
      refine .inr ⟨rfl, ⟨h, I⟩, Grown.refl f, ?_, ?_⟩
      · cases ho : f.outer w
        · left
          cases hi : f.inner w
          · exact absurd ⟨ho, hi⟩ h1
          · rfl
        · exact .inr rfl
      · intro ho
        rcases h2 with k | k
        · rw [show f.outer w = true from ho] at k; cases k
        · show f.ring v w = true
          rw [I.ringEq_iff.1 k]
          exact I.self w hw24
    · rw [if_neg h2]
      have hwo : f.outer w = true := by
        cases ho : f.outer w
        · exact absurd (.inl ho) h2
        · rfl
      obtain ⟨l, hl⟩ := I.route M hv
      obtain ⟨r, hr⟩ := I.route M hwo
      simp only
      rw [hl.eqF G M I, hr.eqF G M I]
      by_cases h3 : l.getLast? = r.getLast?
      · rw [if_pos h3]
        have hroot : h.root v = h.root w := by
          rw [alt_last hl.alt, alt_last hr.alt] at h3
          exact Option.some.inj h3
        obtain ⟨x0, L, L', e, e', R, R', hmt, mt, el, er⟩ := meet_of G M I hv hwo hvw hl hr hroot
        have eL : belowF f (meetingF f l r) l = L := by rw [hmt, el]; exact takeWhile_climb I mt.l
        have eL' : belowF f (meetingF f l r) r = L' := by rw [hmt, er]; exact takeWhile_climb I mt.r
        have hin := contract_inv G M I mt (whole f (f.ring x0) (L ++ L')) rfl ((List.range 24).filter fun x => whole f (f.ring x0) (L ++ L') x && !f.outer x) (by
          intro x
          rw [List.mem_filter, List.mem_range]
          simp only [Bool.and_eq_true, Bool.not_eq_true']
          refine ⟨fun k => k.2, fun k => ⟨?_, k⟩⟩
          rcases whole_iff.1 k.1 with a | ⟨y, _, a⟩
          · exact (I.rlt _ _ a).2
          · exact (I.rlt _ _ a).2) (List.Pairwise.filter _ List.nodup_range)
        have eC : contractF f l r v w = contracted f (whole f (f.ring x0) (L ++ L')) L L' v w ((List.range 24).filter fun x => whole f (f.ring x0) (L ++ L') x && !f.outer x) := by
          unfold contractF wholeF
          simp only
          rw [eL, eL', hmt]
        rw [eC]
        -- v and w are of the whole
        have inW : ∀ {u : Nat} {K : List Nat} {d : Nat} {S : List Nat} {K' : List Nat}, Climb g mate f h (f.ring x0) u K d S → f.outer u = true → (∀ z ∈ K, z ∈ K') → whole f (f.ring x0) K' u = true := fun {u K d S K'} c ho hK => by
          have hu24 : u < 24 := Nat.lt_of_lt_of_le (I.olt _ ho) G.n24
          cases K with
          | nil =>
            have k := c.rt.head
            simp at k
            subst k
            refine whole_iff.2 (.inl ?_)
            rw [← c.ring]
            exact I.self d hu24
          | cons a K =>
            have k := c.rt.head
            simp at k
            subst k
            exact whole_iff.2 (.inr ⟨a, hK a (by simp), I.self a hu24⟩)
        have hWv := inW mt.l hv (K' := L ++ L') (fun z hz => List.mem_append_left _ hz)
        have hWw := inW mt.r hwo (K' := L ++ L') (fun z hz => List.mem_append_right _ hz)
        refine .inr ⟨rfl, ⟨_, hin⟩, ⟨?_, fun _ k => k, ?_, _, rfl⟩, .inr ?_, ?_⟩
        · intro x hx
          show (f.outer x || _) = true
          rw [hx]
          rfl
        · intro x y hxy
          show (if whole f (f.ring x0) (L ++ L') x then whole f (f.ring x0) (L ++ L') else f.ring x) y = true
          by_cases k : whole f (f.ring x0) (L ++ L') x = true
          · rw [if_pos k]
            rcases whole_iff.1 k with a | ⟨z, hz, a⟩
            · exact whole_iff.2 (.inl (by rw [← I.same x0 x a]; exact hxy))
            · exact whole_iff.2 (.inr ⟨z, hz, by rw [← I.same z x a]; exact hxy⟩)
          · rw [if_neg k]
            exact hxy
        · show (f.outer w || _) = true
          rw [hwo]
          rfl
        · intro _
          show (if whole f (f.ring x0) (L ++ L') v then whole f (f.ring x0) (L ++ L') else f.ring v) w = true
          rw [if_pos hWv]
          exact hWw
      · rw [if_neg h3]
        have hroot : h.root v ≠ h.root w := by
          intro k
          apply h3
          rw [alt_last hl.alt, alt_last hr.alt, k]
        exact .inl ⟨_, rfl, aug_of G M I hvw hl hr hroot⟩
end
end Go.Proofs.YtcabaecbmkgclaaGreatDoor.Mt

namespace Go.Proofs.YtcabaecbmkgclaaGreatDoor.Mt

section
variable {g : Gr} {mate : Nat → Option Nat} {f f' : Fo} {h h' : Gh}

/-- The edge from a to b has been looked at, when the search stands at the i-th of its queue and at number c. -/
def Pr (f : Fo) (i c a b : Nat) : Prop := ∃ j, f.queue[j]? = some a ∧ (j < i ∨ (j = i ∧ b < c))

def Seen (g : Gr) (f : Fo) (i c : Nat) : Prop := ∀ a b, Pr f i c a b → g.adj a b = true → (f.inner b = true ∨ f.outer b = true) ∧ (f.outer b = true → f.ring a b = true ∨ ¬ Pr f i c b a)

theorem seen_start : Seen g f 0 0 := by
  intro a b hp
  obtain ⟨j, _, k | k⟩ := hp <;> omega

theorem seen_skip (G : GrOk g) {i c v : Nat} (hv : f.queue[i]? = some v) (hn : g.adj v c = false) (S : Seen g f i c) : Seen g f i (c + 1) := by
  have key : ∀ a b, g.adj a b = true → (Pr f i (c + 1) a b → Pr f i c a b) := by
    rintro a b hab ⟨j, hj, k⟩
    rcases k with k | ⟨rfl, k⟩
    · exact ⟨j, hj, .inl k⟩
    · by_cases e : b = c
      · subst e
        rw [hv] at hj
        cases hj
        rw [hn] at hab
        cases hab
      · exact ⟨j, hj, .inr ⟨rfl, by omega⟩⟩
  intro a b hp hab
  obtain ⟨h1, h2⟩ := S a b (key a b hab hp) hab
  refine ⟨h1, fun ho => ?_⟩
  rcases h2 ho with k | k
  · exact .inl k
  · exact .inr fun q => k (key b a (G.sym _ _ hab) q)

theorem seen_step (I : Inv g mate f h) (I' : Inv g mate f' h') (hg : Grown f f') {i c v : Nat} (hv : f.queue[i]? = some v) (hin : f'.inner c = true ∨ f'.outer c = true) (hri : f'.outer c = true → f'.ring v c = true) (S : Seen g f i c) : Seen g f' i (c + 1) := by
  obtain ⟨q, hq⟩ := hg.queue
  have hil : i < f.queue.length := (List.getElem?_eq_some_iff.1 hv).1
  have hold : ∀ j, j ≤ i → f'.queue[j]? = f.queue[j]? := fun j hj => by rw [hq, List.getElem?_append_left (by omega)]
  have key : ∀ a b, Pr f' i (c + 1) a b → Pr f i c a b ∨ (a = v ∧ b = c) := by
    rintro a b ⟨j, hj, k⟩
    rcases k with k | ⟨rfl, k⟩
    · exact .inl ⟨j, by rw [← hold j (by omega)]; exact hj, .inl k⟩
    · rw [hold j (Nat.le_refl _)] at hj
      by_cases e : b = c
      · rw [hv] at hj
        cases hj
        exact .inr ⟨rfl, e⟩
      · exact .inl ⟨j, hj, .inr ⟨rfl, by omega⟩⟩
  have hsym : ∀ a b, f'.ring a b = true → f'.ring b a = true := fun a b hab => by rw [I'.same a b hab]; exact I'.self a (I'.rlt a b hab).1
  have hpo : ∀ a b, Pr f i c a b → f.outer a = true := by
    rintro a b ⟨j, hj, _⟩
    exact (I.q a).1 (List.mem_of_getElem? hj)
  intro a b hp hab
  rcases key a b hp with k | ⟨rfl, rfl⟩
  · obtain ⟨h1, h2⟩ := S a b k hab
    refine ⟨h1.imp (hg.inner b) (hg.outer b), fun ho => ?_⟩
    cases hob : f.outer b
    · refine .inr fun q2 => ?_
      rcases key b a q2 with k2 | ⟨rfl, rfl⟩
      · rw [hpo b a k2] at hob
        cases hob
      · have := (I.q b).1 (List.mem_of_getElem? hv)
        rw [hob] at this
        cases this
    · rcases h2 hob with r | r
      · exact .inl (hg.ring _ _ r)
      · by_cases q2 : Pr f' i (c + 1) b a
        · rcases key b a q2 with k2 | ⟨rfl, rfl⟩
          · exact absurd k2 r
          · exact .inl (hsym _ _ (hri (hg.outer a (hpo a b k))))
        · exact .inr q2
  · exact ⟨hin, fun ho => .inl (hri ho)⟩

theorem seen_row (G : GrOk g) {i : Nat} (S : Seen g f i g.n) : Seen g f (i + 1) 0 := by
  have key : ∀ a b, g.adj a b = true → (Pr f (i + 1) 0 a b → Pr f i g.n a b) := by
    rintro a b hab ⟨j, hj, k⟩
    rcases k with k | ⟨_, k⟩
    · by_cases e : j = i
      · exact ⟨j, hj, .inr ⟨e, (G.lt _ _ hab).2⟩⟩
      · exact ⟨j, hj, .inl (by omega)⟩
    · omega
  intro a b hp hab
  obtain ⟨h1, h2⟩ := S a b (key a b hab hp) hab
  refine ⟨h1, fun ho => ?_⟩
  rcases h2 ho with k | k
  · exact .inl k
  · exact .inr fun q => k (key b a (G.sym _ _ hab) q)

theorem seen_end (I : Inv g mate f h) {i : Nat} (hi : f.queue.length ≤ i) (S : Seen g f i 0) : Shut g f := by
  have hpr : ∀ a b, f.outer a = true → Pr f i 0 a b := by
    intro a b ha
    obtain ⟨j, hj, e⟩ := List.getElem_of_mem ((I.q a).2 ha)
    exact ⟨j, by rw [List.getElem?_eq_getElem hj, e], .inl (by omega)⟩
  refine ⟨fun v w hv hvw => (S v w (hpr v w hv) hvw).1, fun v w hv hvw hw => ?_⟩
  rcases (S v w (hpr v w hv) hvw).2 hw with k | k
  · exact k
  · exact absurd (hpr w v hw) k

/-- The queue is never longer than there are vertices. -/
theorem Inv.qlen (I : Inv g mate f h) : f.queue.length ≤ g.n := by
  have := len_inj f.queue (fun x => x) (List.range g.n) I.qn (fun x hx => List.mem_range.2 (I.olt x ((I.q x).1 hx))) (fun x _ y _ e => e)
  simpa using this

/-- A longer matching leaves fewer without a mate. -/
theorem aug_less (G : GrOk g) (M : MtOk g mate) {p : List Nat} (A : Aug g mate p) : MtOk g (flip mate p) ∧ cnt g.n (fun x => (flip mate p x).isNone) < cnt g.n (fun x => (mate x).isNone) := by
  obtain ⟨k1, k2⟩ := flip_spec mate A.pe A.nodup
  refine ⟨flip_ok G M A.pe A.nodup A.closed, ?_⟩
  obtain ⟨x, hx, hm, hn⟩ := A.free
  rw [cnt_one hn (fun x => (mate x).isNone) (by rw [hm]; rfl)]
  refine Nat.lt_succ_of_le (cnt_inj (fun k => k) (fun k hk hp => ⟨hk, ?_⟩) (fun a b _ _ _ _ e => e))
  have hkp : k ∉ p := by
    intro hkp
    obtain ⟨y, _, e, _⟩ := k2 k hkp
    rw [e] at hp
    cases hp
  rw [k1 k hkp] at hp
  simp only [Bool.and_eq_true, Bool.not_eq_true', beq_eq_false_iff_ne]
  exact ⟨hp, fun e => hkp (e ▸ hx)⟩

/-- A greatest matching, and what shows it. -/
structure Best (g : Gr) (mate : Nat → Option Nat) (f : Fo) (h : Gh) : Prop where
  m : MtOk g mate
  inv : Inv g mate f h
  shut : Shut g f

/-- The pairs, by rising first number. -/
def pairsF (n : Nat) (mate : Nat → Option Nat) : List (Nat × Nat) := ((List.range n).filter fun v => (mate v).isSome && decide (v < mateOf mate v)).map fun v => (v, mateOf mate v)
def barF (n : Nat) (f : Fo) : List Nat := (List.range n).filter (bar f)

theorem Best.count (G : GrOk g) (b : Best g mate f h) {name : Nat → Nat} (N : Naming g (bar f) name) :
    total g.n (fun i => cnt g.n (fun k => !bar f k && (name k == i)) % 2) + 2 * (pairsF g.n mate).length = g.n + (barF g.n f).length := by
  have h1 := odd_count G b.m b.inv b.shut N
  have h2 := bases_count G b.m b.inv
  have h3 := pairs_count G b.m
  have e1 : (pairsF g.n mate).length = cnt g.n (fun v => (mate v).isSome && decide (v < mateOf mate v)) := by
    unfold pairsF
    rw [List.length_map, cnt_len]
  have e2 : (barF g.n f).length = cnt g.n (bar f) := cnt_len _ _
  omega
end
end Go.Proofs.YtcabaecbmkgclaaGreatDoor.Mt

namespace Go.Proofs.YtcabaecbmkgclaaGreatDoor.Mt

/-- Is there an edge? -/
def adjL (l : List (Nat × Nat)) (a b : Nat) : Bool := l.any fun p => (p.1 == a && p.2 == b) || (p.1 == b && p.2 == a)

theorem adjL_iff {l : List (Nat × Nat)} {a b : Nat} : adjL l a b = true ↔ (a, b) ∈ l ∨ (b, a) ∈ l := by
  unfold adjL
  rw [List.any_eq_true]
  constructor
  · rintro ⟨⟨x, y⟩, hm, h⟩
    simp only [Bool.or_eq_true, Bool.and_eq_true, beq_iff_eq] at h
    rcases h with ⟨rfl, rfl⟩ | ⟨rfl, rfl⟩
    · exact .inl hm
    · exact .inr hm
  · rintro (h | h)
    · exact ⟨_, h, by simp⟩
    · exact ⟨_, h, by simp⟩

def grL (n : Nat) (l : List (Nat × Nat)) : Gr := ⟨n, adjL l⟩

/-- All edges are between two of n numbers. -/
def EdOk (n : Nat) (l : List (Nat × Nat)) : Prop := ∀ p ∈ l, p.1 < n ∧ p.2 < n ∧ p.1 ≠ p.2

theorem adjL_sym (l : List (Nat × Nat)) (a b : Nat) : adjL l a b = adjL l b a := by
  rw [Bool.eq_iff_iff, adjL_iff, adjL_iff, Or.comm]

theorem EdOk.gr {n : Nat} {l : List (Nat × Nat)} (h : EdOk n l) (hn : n ≤ 24) : GrOk (grL n l) := by
  refine ⟨hn, fun a b hab => ?_, fun a b hab => ?_, fun a => ?_⟩
  · rcases adjL_iff.1 hab with k | k
    · exact ⟨(h _ k).1, (h _ k).2.1⟩
    · exact ⟨(h _ k).2.1, (h _ k).1⟩
  · show adjL l b a = true
    rw [adjL_sym]
    exact hab
  · cases hc : (grL n l).adj a a
    · rfl
    · rcases adjL_iff.1 hc with k | k <;> exact absurd rfl (h _ k).2.2

theorem EdOk.tail {n : Nat} {e : Nat × Nat} {l : List (Nat × Nat)} (h : EdOk n (e :: l)) : EdOk n l := fun p hp => h p (List.mem_cons_of_mem _ hp)

/-- How many pairs, by trying, of the numbers that are not used. -/
def mostF : List (Nat × Nat) → (Nat → Bool) → Nat
  | [], _ => 0
  | e :: l, u => if u e.1 || u e.2 then mostF l u else max (1 + mostF l (setAt (setAt u e.1 true) e.2 true)) (mostF l u)

theorem mostF_tail (e : Nat × Nat) (l : List (Nat × Nat)) (u : Nat → Bool) : mostF l u ≤ mostF (e :: l) u := by
  rw [mostF]
  split
  · exact Nat.le_refl _
  · exact Nat.le_max_right _ _

theorem mostF_len : ∀ (l : List (Nat × Nat)) (u : Nat → Bool), mostF l u ≤ l.length
  | [], _ => Nat.le_refl _
  | e :: l, u => by
    rw [mostF]
    have h1 := mostF_len l u
    have h2 := mostF_len l (setAt (setAt u e.1 true) e.2 true)
    simp only [List.length_cons]
    split <;> omega

theorem cnt_two {n a b : Nat} (ha : a < n) (hb : b < n) (hab : a ≠ b) {p q : Nat → Bool} (pa : p a = true) (pb : p b = true) (qa : q a = false) (qb : q b = false) (h : ∀ x, x ≠ a → x ≠ b → q x = p x) : cnt n p = cnt n q + 2 := by
  rw [cnt_one ha p pa, cnt_one hb (fun k => p k && !(k == a)) (by simp [pb, Ne.symm hab])]
  rw [cnt_congr (q := q)]
  intro k _
  by_cases e1 : k = a
  · subst e1
    simp [qa]
  · by_cases e2 : k = b
    · subst e2
      simp [qb]
    · rw [h k e1 e2, beq_false_of_ne e1, beq_false_of_ne e2]
      simp

theorem most_reached {n : Nat} : ∀ (l : List (Nat × Nat)) (u : Nat → Bool), EdOk n l → ∃ m2, MtOk (grL n l) m2 ∧ (∀ x, u x = true → m2 x = none) ∧ cnt n (fun x => (m2 x).isNone) + 2 * mostF l u = n
  | [], u, _ => ⟨fun _ => none, ⟨fun _ _ h => (by cases h), fun _ _ h => (by cases h)⟩, fun _ _ => rfl, by
      show cnt n (fun _ => true) + 2 * 0 = n
      rw [cnt_all]
      rfl⟩
  | e :: l, u, h => by
    have up : ∀ a b, (grL n l).adj a b = true → (grL n (e :: l)).adj a b = true := fun a b hab => by
      rcases adjL_iff.1 hab with k | k
      · exact adjL_iff.2 (.inl (List.mem_cons_of_mem _ k))
      · exact adjL_iff.2 (.inr (List.mem_cons_of_mem _ k))
    by_cases hc : mostF (e :: l) u = mostF l u
    · obtain ⟨m2, M, hu, hcn⟩ := most_reached l u h.tail
      exact ⟨m2, ⟨fun a b hab => up a b (M.adj a b hab), M.back⟩, hu, by rw [hc]; exact hcn⟩
    · have hf : (u e.1 || u e.2) = false := by
        cases hx : u e.1 || u e.2
        · rfl
        · rw [mostF, if_pos hx] at hc
          exact absurd rfl hc
      have hmx : mostF (e :: l) u = 1 + mostF l (setAt (setAt u e.1 true) e.2 true) := by
        rw [mostF, if_neg (by rw [hf]; simp)] at hc ⊢
        omega
      obtain ⟨h1, h2, h3⟩ := h e (List.mem_cons_self ..)
      obtain ⟨m2, M, hu, hcn⟩ := most_reached l (setAt (setAt u e.1 true) e.2 true) h.tail
      have ma : m2 e.1 = none := hu e.1 (by simp [setAt])
      have mb : m2 e.2 = none := hu e.2 (by simp [setAt])
      simp only [Bool.or_eq_false_iff] at hf
      refine ⟨setAt (setAt m2 e.1 (some e.2)) e.2 (some e.1), ⟨?_, ?_⟩, ?_, ?_⟩
      · intro a b hab
        simp only [setAt] at hab
        split at hab
        · rename_i ea
          simp only [Option.some.injEq] at hab
          subst hab ea
          exact adjL_iff.2 (.inr (List.mem_cons_self ..))
        · split at hab
          · rename_i ea
            simp only [Option.some.injEq] at hab
            subst hab ea
            exact adjL_iff.2 (.inl (List.mem_cons_self ..))
          · exact up a b (M.adj a b hab)
      · intro a b hab
        simp only [setAt] at hab ⊢
        by_cases ea : a = e.2
        · rw [if_pos ea] at hab
          simp only [Option.some.injEq] at hab
          subst hab
          rw [if_neg h3, if_pos rfl, ea]
        · rw [if_neg ea] at hab
          by_cases ea1 : a = e.1
          · rw [if_pos ea1] at hab
            simp only [Option.some.injEq] at hab
            subst hab
            rw [if_pos rfl, ea1]
          · rw [if_neg ea1] at hab
            have hb := M.back a b hab
            rw [if_neg (fun k => by rw [k, mb] at hb; cases hb), if_neg (fun k => by rw [k, ma] at hb; cases hb)]
            exact hb
      · intro x hx
        have x2 : x ≠ e.2 := fun k => by rw [k, hf.2] at hx; cases hx
        have x1 : x ≠ e.1 := fun k => by rw [k, hf.1] at hx; cases hx
        simp only [setAt, if_neg x1, if_neg x2]
        exact hu x (by simp [setAt, x1, x2, hx])
      · have := cnt_two h1 h2 h3 (p := fun x => (m2 x).isNone) (q := fun x => (setAt (setAt m2 e.1 (some e.2)) e.2 (some e.1) x).isNone) (by simp [ma]) (by simp [mb]) (by simp [setAt, h3]) (by simp [setAt]) (fun x k1 k2 => by simp [setAt, k1, k2])
        rw [hmx]
        omega

theorem most_bound {n : Nat} : ∀ (l : List (Nat × Nat)) (u : Nat → Bool) (m : Nat → Option Nat), EdOk n l → MtOk (grL n l) m → (∀ x, u x = true → m x = none) → n ≤ cnt n (fun x => (m x).isNone) + 2 * mostF l u
  | [], u, m, _, M, _ => by
    have : cnt n (fun x => (m x).isNone) = n := by
      rw [cnt_congr (q := fun _ => true), cnt_all]
      intro k _
      cases hm : m k with
      | none => rfl
      | some b =>
        have := M.adj k b hm
        simp [grL, adjL] at this
    omega
  | e :: l, u, m, h, M, hu => by
    obtain ⟨h1, h2, h3⟩ := h e (List.mem_cons_self ..)
    have down : ∀ x y, m x = some y → ¬ (x = e.1 ∧ y = e.2) → ¬ (x = e.2 ∧ y = e.1) → (grL n l).adj x y = true := fun x y hxy k1 k2 => by
      rcases adjL_iff.1 (M.adj x y hxy) with k | k
      · rcases List.mem_cons.1 k with k | k
        · exact absurd ⟨congrArg Prod.fst k, congrArg Prod.snd k⟩ k1
        · exact adjL_iff.2 (.inl k)
      · rcases List.mem_cons.1 k with k | k
        · exact absurd ⟨congrArg Prod.snd k, congrArg Prod.fst k⟩ k2
        · exact adjL_iff.2 (.inr k)
    by_cases hm : m e.1 = some e.2
    · have hb := M.back _ _ hm
      have f1 : u e.1 = false := by
        cases k : u e.1
        · rfl
        · rw [hu _ k] at hm; cases hm
      have f2 : u e.2 = false := by
        cases k : u e.2
        · rfl
        · rw [hu _ k] at hb; cases hb
      have hmx : 1 + mostF l (setAt (setAt u e.1 true) e.2 true) ≤ mostF (e :: l) u := by
        rw [mostF, if_neg (by rw [f1, f2]; simp)]
        exact Nat.le_max_left _ _
      have ih := most_bound l (setAt (setAt u e.1 true) e.2 true) (setAt (setAt m e.1 none) e.2 none) h.tail ⟨?_, ?_⟩ ?_
      · have := cnt_two h1 h2 h3 (p := fun x => (setAt (setAt m e.1 none) e.2 none x).isNone) (q := fun x => (m x).isNone) (by simp [setAt]) (by simp [setAt]) (by simp [hm]) (by simp [hb]) (fun x k1 k2 => by simp [setAt, k1, k2])
        omega
      · intro a b hab
        simp only [setAt] at hab
        split at hab
        · cases hab
        · split at hab
          · cases hab
          · rename_i k2 k1
            exact down a b hab (fun k => k1 k.1) (fun k => k2 k.1)
      · intro a b hab
        simp only [setAt] at hab ⊢
        split at hab
        · cases hab
        · split at hab
          · cases hab
          · rename_i k2 k1
            have hb' := M.back a b hab
            rw [if_neg (fun k => by rw [k, hb] at hb'; cases hb'; exact k1 rfl), if_neg (fun k => by rw [k, hm] at hb'; cases hb'; exact k2 rfl)]
            exact hb'
      · intro x hx
        simp only [setAt] at hx ⊢
        split
        · rfl
        · split
          · rfl
          · rename_i k2 k1
            rw [if_neg k2, if_neg k1] at hx
            exact hu x hx
    · have ih := most_bound l u m h.tail ⟨fun x y hxy => down x y hxy (fun k => hm (by rw [← k.1, hxy, k.2])) (fun k => hm (by rw [← k.2, M.back x y hxy, k.1])), M.back⟩ hu
      have := mostF_tail e l u
      omega

/-- The search's pairs are as many as there are by trying. -/
theorem Best.most {n : Nat} {l : List (Nat × Nat)} {mate : Nat → Option Nat} {f : Fo} {h : Gh} (E : EdOk n l) (hn : n ≤ 24) (b : Best (grL n l) mate f h) : (pairsF n mate).length = mostF l fun _ => false := by
  obtain ⟨m2, M2, _, hc⟩ := most_reached l (fun _ => false) E
  have h1 := no_more (E.gr hn) b.m b.inv b.shut M2
  have h2 := most_bound l (fun _ => false) mate E b.m (fun _ h => by cases h)
  have h3 := pairs_count (E.gr hn) b.m
  have e1 : (pairsF n mate).length = cnt n (fun v => (mate v).isSome && decide (v < mateOf mate v)) := by
    unfold pairsF
    rw [List.length_map, cnt_len]
  simp only [grL] at h1 h3
  omega
end Go.Proofs.YtcabaecbmkgclaaGreatDoor.Mt

namespace Go.Proofs.YtcabaecbmkgclaaGreatDoor.Bz
open Mt

/-- What is left of a text from a place on. -/
def Rest (s : ByteArray) (p : Nat) (l : List UInt8) : Prop := s.data.toList.drop p = l

theorem Rest.at {s : ByteArray} {p : Nat} {c : UInt8} {l : List UInt8} (h : Rest s p (c :: l)) : byteAt s p = (c.toNat : Int) := by
  unfold Rest at h
  have h1 : s.data.toList[p]? = some c := by
    have : (s.data.toList.drop p)[0]? = some c := by rw [h]; rfl
    rwa [List.getElem?_drop, Nat.add_zero] at this
  obtain ⟨hlt, he⟩ := List.getElem?_eq_some_iff.1 h1
  have hlt' : p < s.size := by rw [← ByteArray.size_data]; simpa using hlt
  rw [byteAt_lt s p hlt']
  congr 2
theorem Rest.lt {s : ByteArray} {p : Nat} {c : UInt8} {l : List UInt8} (h : Rest s p (c :: l)) : p < s.size := by
  unfold Rest at h
  have := congrArg List.length h
  rw [List.length_drop, List.length_cons] at this
  rw [← ByteArray.size_data, ← Array.length_toList]
  omega
theorem Rest.next {s : ByteArray} {p : Nat} {c : UInt8} {l : List UInt8} (h : Rest s p (c :: l)) : Rest s (p + 1) l := by
  unfold Rest at *
  rw [← List.drop_drop, h]
  rfl
theorem Rest.end {s : ByteArray} {p : Nat} (h : Rest s p []) : s.size ≤ p := by
  unfold Rest at h
  have := congrArg List.length h
  rw [List.length_drop, List.length_nil] at this
  rw [← ByteArray.size_data, ← Array.length_toList]
  omega
theorem Rest.zero {s : ByteArray} {p : Nat} (h : Rest s p []) : byteAt s p = 0 := byteAt_ge s p (by have := h.end; omega)
theorem Rest.len {s : ByteArray} {p : Nat} {l : List UInt8} (h : Rest s p l) (hp : p ≤ s.size) : p + l.length = s.size := by
  unfold Rest at h
  have := congrArg List.length h
  rw [List.length_drop] at this
  rw [← ByteArray.size_data, ← Array.length_toList] at hp ⊢
  omega

/-- Where nothing more hangs on: the text ends, or the next atom comes. -/
def Nx (l : List UInt8) : Prop := l = [] ∨ ∃ t, l = 99 :: t

theorem Nx.byte {s : ByteArray} {p : Nat} {l : List UInt8} (h : Nx l) (r : Rest s p l) : byteAt s p = 0 ∨ byteAt s p = 99 := by
  rcases h with rfl | ⟨t, rfl⟩
  · exact .inl r.zero
  · exact .inr r.at

theorem rings_stop {s : ByteArray} {a n : Nat} {p : St} (h : ringAhead s p = false) : ringsOf s a n p = .ok p := by
  cases n with
  | zero => rfl
  | succ n => rw [ringsOf, h]; rfl
theorem branches_stop {s : ByteArray} {ch : Hung → St → R St} {a n : Nat} {p : St} (h : byteAt s p.pos ≠ 40) : branches s ch a n p = .ok p := by
  cases n with
  | zero => rfl
  | succ n => rw [branches, if_neg h]
theorem linked_stop {s : ByteArray} {ch : Hung → St → R St} {a n : Nat} {p : St} (h : ¬ (p.pos < s.size ∧ byteAt s p.pos ≠ 41)) : linked s ch n a p = .ok p := by
  cases n with
  | zero => rfl
  | succ n => rw [linked, if_neg h]

theorem no_ring {s : ByteArray} {p : St} (h : byteAt s p.pos = 0 ∨ byteAt s p.pos = 99 ∨ byteAt s p.pos = 40 ∨ byteAt s p.pos = 41) : ringAhead s p = false := by
  unfold ringAhead isSign startsRing isDigit
  rcases h with h | h | h | h <;> rw [h] <;> rfl

def decL (d : Nat) : List UInt8 := match d with
  | 0 => []
  | 1 => [40, 67, 41]
  | 2 => [40, 79, 41]
  | 3 => [40, 67, 108, 41]
  | _ => [40, 45, 78, 41]

def decE (e : ByteArray) : Prop := e = ⟨#[67]⟩ ∨ e = ⟨#[79]⟩ ∨ e = ⟨#[67, 108]⟩ ∨ e = ⟨#[78]⟩

/-- What a thing that hangs on adds. -/
structure Hang (p q : St) (a : Nat) (e : ByteArray) (pl : Nat) : Prop where
  el : decE e
  atoms : q.atoms = p.atoms ++ [⟨e, false, 0, 0, pl, false⟩]
  bonds : q.bonds = p.bonds ++ [⟨a, p.atoms.length, 1, pl⟩]
def Hung' (p q : St) (a : Nat) : Prop := (q.atoms = p.atoms ∧ q.bonds = p.bonds) ∨ ∃ e pl, Hang p q a e pl

/-- One atom in a branch: its own chain. -/
theorem chain_one {s : ByteArray} {n : Nat} {h : Hung} {p : St} {e : ByteArray} {m a : Nat} (ha : h.atom = a) (hm : h.mark = 0 ∨ h.mark = 45) (hlt : a < p.atoms.length) (hbr : byteAt s p.pos ≠ 91) (hel : element s p.pos = some (e, false, m)) (hend : byteAt s (p.pos + m) = 41) (hf : p.atoms.length < 24) :
    chain s (n + 1) h p = .ok { p with pos := p.pos + m, atoms := p.atoms ++ [⟨e, false, 0, 0, p.pos, false⟩], bonds := p.bonds ++ [⟨a, p.atoms.length, 1, p.pos⟩] } := by
  have hat : atom s h p = .ok (p.atoms.length, { p with pos := p.pos + m, atoms := p.atoms ++ [⟨e, false, 0, 0, p.pos, false⟩], bonds := p.bonds ++ [⟨a, p.atoms.length, 1, p.pos⟩] }) := by
    unfold atom
    have hb : (byteAt s p.pos == 91) = false := by simp [hbr]
    have hfu : full p = false := by unfold full; simp; omega
    have hm58 : ¬ (h.mark = 58) := by rcases hm with h | h <;> rw [h] <;> decide
    simp only [hb, Bool.false_eq_true, if_false, hel, hfu, hm58, false_and]
    rw [if_neg (by omega)]
    unfold bind
    have hord : order { p with pos := p.pos + m, atoms := p.atoms ++ [⟨e, false, 0, 0, p.pos, false⟩] } h.mark h.atom (p.atoms.length : Int) = 1 := by
      unfold order
      rcases hm with h | h
      · rw [h]
        have : aro { p with pos := p.pos + m, atoms := p.atoms ++ [⟨e, false, 0, 0, p.pos, false⟩] } (p.atoms.length : Int) = false := by
          unfold aro
          simp
        rw [this]
        simp
      · rw [h]; rfl
    rw [hord, ha]
    simp only [Int.toNat_natCast]
    rw [Nat.min_eq_left (by omega), Nat.max_eq_right (by omega)]
  unfold chain knot
  rw [hat]
  simp only []
  rw [rings_stop (no_ring (.inr (.inr (.inr hend))))]
  simp only []
  rw [branches_stop (by simp only; rw [hend]; decide)]
  simp only []
  rw [linked_stop (by simp only; rw [hend]; simp)]

theorem branch_one {s : ByteArray} {n a x : Nat} {p : St} {h : Hung} {e : ByteArray} {m : Nat} (hl : link s a { p with pos := p.pos + 1 } = .ok (h, { p with pos := x })) (ha : h.atom = a) (hm : h.mark = 0 ∨ h.mark = 45) (hlt : a < p.atoms.length) (hf : p.atoms.length < 24) (hbr : byteAt s x ≠ 91) (hel : element s x = some (e, false, m)) (hend : byteAt s (x + m) = 41) :
    branch s (chain s (n + 1)) a { p with pos := p.pos + 1 } = .ok { p with pos := x + m + 1, atoms := p.atoms ++ [⟨e, false, 0, 0, x, false⟩], bonds := p.bonds ++ [⟨a, p.atoms.length, 1, x⟩] } := by
  have hch := chain_one (s := s) (n := n) (h := h) (p := { p with pos := x }) (e := e) (m := m) (a := a) ha hm hlt hbr hel hend hf
  unfold branch
  rw [hl]
  simp only []
  rw [hch]
  simp only []
  rw [if_pos hend]

theorem hang_one {s : ByteArray} {n a : Nat} {p : St} {d : Nat} {t : List UInt8} (hd : d ≠ 0) (r : Rest s p.pos (decL d ++ t)) (hlt : a < p.atoms.length) (hf : p.atoms.length < 24) :
    ∃ q e pl, branch s (chain s (n + 1)) a { p with pos := p.pos + 1 } = .ok q ∧ byteAt s p.pos = 40 ∧ Rest s q.pos t ∧ q.rings = p.rings ∧ Hang p q a e pl := by
  have key : ∀ {x : Nat} {h : Hung} {e : ByteArray} {m : Nat}, decE e → link s a { p with pos := p.pos + 1 } = .ok (h, { p with pos := x }) → h.atom = a → (h.mark = 0 ∨ h.mark = 45) → byteAt s x ≠ 91 → element s x = some (e, false, m) → byteAt s (x + m) = 41 → byteAt s p.pos = 40 → Rest s (x + m + 1) t →
      ∃ q e pl, branch s (chain s (n + 1)) a { p with pos := p.pos + 1 } = .ok q ∧ byteAt s p.pos = 40 ∧ Rest s q.pos t ∧ q.rings = p.rings ∧ Hang p q a e pl := by
    intro x h e m hE hl ha hm hbr hel hend h40 hr
    exact ⟨_, e, x, branch_one hl ha hm hlt hf hbr hel hend, h40, hr, rfl, ⟨hE, rfl, rfl⟩⟩
  match d, hd with
  | 1, _ =>
    have r1 := r.next
    have r2 := r1.next
    refine key (x := p.pos + 1) (h := ⟨0, 0, a⟩) (e := ⟨#[67]⟩) (m := 1) (.inl rfl) ?_ rfl (.inl rfl) (by rw [r1.at]; decide) (by unfold element; rw [r1.at, r2.at]; rfl) (by rw [r2.at]; rfl) r.at r2.next
    unfold link bondEnd
    simp only [r1.at]
    rfl
  | 2, _ =>
    have r1 := r.next
    have r2 := r1.next
    refine key (x := p.pos + 1) (h := ⟨0, 0, a⟩) (e := ⟨#[79]⟩) (m := 1) (.inr (.inl rfl)) ?_ rfl (.inl rfl) (by rw [r1.at]; decide) (by unfold element; rw [r1.at, r2.at]; rfl) (by rw [r2.at]; rfl) r.at r2.next
    unfold link bondEnd
    simp only [r1.at]
    rfl
  | 3, _ =>
    have r1 := r.next
    have r2 := r1.next
    have r3 := r2.next
    refine key (x := p.pos + 1) (h := ⟨0, 0, a⟩) (e := ⟨#[67, 108]⟩) (m := 2) (.inr (.inr (.inl rfl))) ?_ rfl (.inl rfl) (by rw [r1.at]; decide) (by unfold element; rw [r1.at, r2.at]; rfl) (by rw [show p.pos + 1 + 2 = p.pos + 1 + 1 + 1 from rfl, r3.at]; rfl) r.at r3.next
    unfold link bondEnd
    simp only [r1.at]
    rfl
  | d + 4, _ =>
    have r1 := r.next
    have r2 := r1.next
    have r3 := r2.next
    refine key (x := p.pos + 2) (h := ⟨45, p.pos + 1, a⟩) (e := ⟨#[78]⟩) (m := 1) (.inr (.inr (.inr rfl))) ?_ rfl (.inr rfl) (by rw [show p.pos + 2 = p.pos + 1 + 1 from rfl, r2.at]; decide) (by unfold element; rw [show p.pos + 2 = p.pos + 1 + 1 from rfl, r2.at, r3.at]; rfl) (by rw [show p.pos + 2 + 1 = p.pos + 1 + 1 + 1 from rfl, r3.at]; rfl) r.at r3.next
    unfold link bondEnd
    simp only [r1.at]
    rfl

/-- What hangs on an atom, all of it. -/
theorem hang_all {s : ByteArray} {n m a : Nat} {p : St} (d : Nat) {t : List UInt8} (r : Rest s p.pos (decL d ++ t)) (ht : Nx t) (hlt : a < p.atoms.length) (hf : p.atoms.length < 24) :
    ∃ q, branches s (chain s (n + 1)) a (m + 1) p = .ok q ∧ Rest s q.pos t ∧ q.rings = p.rings ∧ Hung' p q a := by
  by_cases hd : d = 0
  · subst hd
    have r' : Rest s p.pos t := r
    refine ⟨p, branches_stop ?_, r', rfl, .inl ⟨rfl, rfl⟩⟩
    rcases ht.byte r' with h | h <;> rw [h] <;> decide
  · obtain ⟨q, e, pl, h1, h2, h3, h4, h5⟩ := hang_one (n := n) hd r hlt hf
    refine ⟨q, ?_, h3, h4, .inr ⟨e, pl, h5⟩⟩
    rw [branches, if_pos h2, h1]
    simp only []
    refine branches_stop ?_
    rcases ht.byte h3 with h | h <;> rw [h] <;> decide
end Go.Proofs.YtcabaecbmkgclaaGreatDoor.Bz

namespace Go.Proofs.YtcabaecbmkgclaaGreatDoor.Bz
open Mt

def rgL (n : Nat) : List UInt8 := if n < 10 then [(48 + n).toUInt8] else [37, (48 + n / 10).toUInt8, (48 + n % 10).toUInt8]

theorem u8 (n : Nat) (h : n < 256) : n.toUInt8.toNat = n := by
  rw [Nat.toUInt8_eq, UInt8.toNat_ofNat']
  omega

theorem not_sign {c : Int} (h : c = 37 ∨ (48 ≤ c ∧ c ≤ 57)) : isSign c = false := by
  unfold isSign
  simp only [Bool.or_eq_false_iff, beq_eq_false_iff_ne, ne_eq]
  omega

theorem digit_yes {c : Int} (h : 48 ≤ c ∧ c ≤ 57) : isDigit c = true := by
  unfold isDigit
  simp [h.1, h.2]

theorem ring_num {s : ByteArray} {p : St} {n : Nat} (a : Nat) {t : List UInt8} (hn : n < 100) (r : Rest s p.pos (rgL n ++ t)) :
    ringAhead s p = true ∧ bondEnd s a p = .ok (⟨0, 0, a⟩, p) ∧ ∃ j, ringNumber s p.pos = .ok (n, j) ∧ Rest s j t := by
  unfold rgL at r
  split at r
  · rename_i h10
    have h0 : byteAt s p.pos = 48 + (n : Int) := by rw [r.at, u8 _ (by omega)]; omega
    have hs := not_sign (c := byteAt s p.pos) (by omega)
    have hd := digit_yes (c := byteAt s p.pos) (by omega)
    refine ⟨?_, ?_, p.pos + 1, ?_, r.next⟩
    · unfold ringAhead startsRing
      rw [hs, hd]
      simp
    · unfold bondEnd
      simp only [hs]
      rfl
    · unfold ringNumber
      rw [if_neg (by omega), hd]
      simp only [if_true]
      congr 2
      omega
  · rename_i h10
    have r1 := r.next
    have r2 := r1.next
    have h0 : byteAt s p.pos = 37 := r.at
    have h1 : byteAt s (p.pos + 1) = 48 + (n / 10 : Nat) := by rw [r1.at, u8 _ (by omega)]; omega
    have h2 : byteAt s (p.pos + 2) = 48 + (n % 10 : Nat) := by rw [show p.pos + 2 = p.pos + 1 + 1 from rfl, r2.at, u8 _ (by omega)]; omega
    have hs := not_sign (c := byteAt s p.pos) (by omega)
    refine ⟨?_, ?_, p.pos + 3, ?_, r2.next⟩
    · unfold ringAhead startsRing
      rw [hs, h0]
      simp
    · unfold bondEnd
      simp only [hs]
      rfl
    · unfold ringNumber
      rw [if_pos h0, digit_yes (c := byteAt s (p.pos + 1)) (by omega), digit_yes (c := byteAt s (p.pos + 2)) (by omega)]
      simp only [if_true]
      congr 2
      omega

def cA (pl : Nat) : Atm := ⟨⟨#[67]⟩, true, 0, 0, pl, false⟩

theorem elem_c {s : ByteArray} {i : Nat} (h : byteAt s i = 99) : element s i = some (⟨#[67]⟩, true, 1) := by
  unfold element
  simp only [h]
  rfl

theorem atom_first {s : ByteArray} {p : St} (h : byteAt s p.pos = 99) (hf : p.atoms.length < 24) : atom s ⟨0, 0, -1⟩ p = .ok (p.atoms.length, { p with pos := p.pos + 1, atoms := p.atoms ++ [cA p.pos] }) := by
  unfold atom
  have hb : (byteAt s p.pos == 91) = false := by rw [h]; rfl
  have hfu : full p = false := by unfold full; simp; omega
  simp only [hb, Bool.false_eq_true, if_false, elem_c h, hfu]
  rfl

theorem atom_next {s : ByteArray} {p : St} {a : Nat} (h : byteAt s p.pos = 99) (hf : p.atoms.length < 24) (ha : aro p a = true) (hlt : a < p.atoms.length) :
    atom s ⟨0, 0, a⟩ p = .ok (p.atoms.length, { p with pos := p.pos + 1, atoms := p.atoms ++ [cA p.pos], bonds := p.bonds ++ [⟨a, p.atoms.length, 4, p.pos⟩] }) := by
  unfold atom
  have hb : (byteAt s p.pos == 91) = false := by rw [h]; rfl
  have hfu : full p = false := by unfold full; simp; omega
  simp only [hb, Bool.false_eq_true, if_false, elem_c h, hfu]
  rw [if_neg (by simp), if_neg (by omega)]
  have hord : order { p with pos := p.pos + 1, atoms := p.atoms ++ [⟨⟨#[67]⟩, true, 0, 0, p.pos, false⟩] } 0 a (p.atoms.length : Int) = 4 := by
    unfold order
    have h1 : aro { p with pos := p.pos + 1, atoms := p.atoms ++ [⟨⟨#[67]⟩, true, 0, 0, p.pos, false⟩] } (a : Int) = true := by
      unfold aro at ha ⊢
      simp only [Int.toNat_natCast] at ha ⊢
      rw [List.getElem?_append_left hlt]
      exact ha
    have h2 : aro { p with pos := p.pos + 1, atoms := p.atoms ++ [⟨⟨#[67]⟩, true, 0, 0, p.pos, false⟩] } (p.atoms.length : Int) = true := by
      unfold aro
      simp
    rw [h1, h2]
    rfl
  rw [hord]
  unfold bind
  simp only [Int.toNat_natCast]
  rw [Nat.min_eq_left (by omega), Nat.max_eq_right (by omega)]
  rfl

theorem aro_at {p : St} {x : Nat} : aro p x = true ↔ ∃ a, p.atoms[x]? = some a ∧ a.aro = true := by
  unfold aro
  simp only [Int.toNat_natCast]
  cases h : p.atoms[x]? with
  | none => simp
  | some a => simp

theorem sum_snoc (l : List Bnd) (b : Bnd) (x : Nat) : sum (l ++ [b]) x = sum l x + if b.a = x ∨ b.b = x then (if b.o = 4 then 1 else b.o) else 0 := by
  unfold sum
  rw [List.map_append, List.sum_append]
  simp

theorem sum_out {l : List Bnd} {x : Nat} (h : ∀ b ∈ l, b.a < x ∧ b.b < x) : sum l x = 0 := by
  induction l with
  | nil => rfl
  | cons b l ih =>
    have h1 := h b (by simp)
    have h2 := ih fun y hy => h y (by simp [hy])
    unfold sum at h2 ⊢
    rw [List.map_cons, List.sum_cons, h2, if_neg (by omega)]
    rfl

/-- A way to give each its own mate, the last one left out where their number is odd. -/
structure Way (p : St) (m : Nat → Option Nat) (last i : Nat) : Prop where
  sym : ∀ x y, m x = some y → m y = some x
  bond : ∀ x y, m x = some y → ∃ b ∈ p.bonds, b.o = 4 ∧ ((b.a = x ∧ b.b = y) ∨ (b.a = y ∧ b.b = x))
  ar : ∀ x y : Nat, m x = some y → aro p x = true
  all : ∀ x : Nat, aro p x = true → (m x = none ↔ (i % 2 = 1 ∧ x = last))

/-- Where the reading of a ring stands: e, how many ends of its bonds an atom waits for. -/
structure An (p : St) (e : Nat → Int) (last i : Nat) : Prop where
  pos : last < p.atoms.length
  ends : ∀ b ∈ p.bonds, b.a < p.atoms.length ∧ b.b < p.atoms.length ∧ (b.o = 1 ∨ b.o = 4)
  ring : ∀ x a, p.atoms[x]? = some a → a.aro = true → a.el = ⟨#[67]⟩ ∧ a.ch = 0 ∧ a.br = false ∧ (sum p.bonds x + e x = 2 ∨ sum p.bonds x + e x = 3)
  on : ∀ x a, p.atoms[x]? = some a → a.aro = false → decE a.el ∧ a.ch = 0 ∧ a.br = false ∧ sum p.bonds x = 1
  zero : aro p (0 : Nat) = true
  la : aro p last = true
  count : cnt p.atoms.length (fun x => aro p x) = i
  way : ∃ m, Way p m last i

theorem aro_snoc {p q : St} {a : Atm} (h : q.atoms = p.atoms ++ [a]) (x : Nat) : aro q x = if x = p.atoms.length then a.aro else aro p x := by
  unfold aro
  simp only [Int.toNat_natCast]
  rw [h]
  by_cases hx : x = p.atoms.length
  · subst hx
    simp
  · rw [if_neg hx]
    by_cases hlt : x < p.atoms.length
    · rw [List.getElem?_append_left hlt]
    · rw [List.getElem?_eq_none (by simp; omega), List.getElem?_eq_none (by omega)]

theorem at_snoc {p q : St} {a b : Atm} (h : q.atoms = p.atoms ++ [a]) {x : Nat} (hx : q.atoms[x]? = some b) : (x = p.atoms.length ∧ b = a) ∨ (x < p.atoms.length ∧ p.atoms[x]? = some b) := by
  rw [h] at hx
  by_cases hlt : x < p.atoms.length
  · rw [List.getElem?_append_left hlt] at hx
    exact .inr ⟨hlt, hx⟩
  · have : x = p.atoms.length := by
      have := (List.getElem?_eq_some_iff.1 hx).1
      simp at this
      omega
    subst this
    simp at hx
    exact .inl ⟨rfl, hx.symm⟩

theorem An.hang {p q : St} {e : Nat → Int} {last i : Nat} (h : An p e last i) (h2 : sum p.bonds last + e last = 2) (H : Hung' p q last) : An q e last i := by
  rcases H with ⟨ha, hb⟩ | ⟨el, pl, hE, ha, hb⟩
  · obtain ⟨k1, k2, k3, k4, k5, k6, k7, m, k8⟩ := h
    have har : ∀ x : Int, aro q x = aro p x := fun x => by unfold aro; rw [ha]
    refine ⟨by rw [ha]; exact k1, by rw [ha, hb]; exact k2, by rw [ha, hb]; exact k3, by rw [ha, hb]; exact k4, by rw [har]; exact k5, by rw [har]; exact k6, by rw [ha]; simp only [har]; exact k7, m, k8.sym, by rw [hb]; exact k8.bond, fun x y h => by rw [har]; exact k8.ar x y h, fun x hx => k8.all x (by rw [← har]; exact hx)⟩
  · obtain ⟨k1, k2, k3, k4, k5, k6, k7, m, k8⟩ := h
    have har := aro_snoc ha
    simp only at har
    have hlen : q.atoms.length = p.atoms.length + 1 := by rw [ha]; simp
    have h0 : 0 < p.atoms.length := by omega
    have hs0 : sum p.bonds p.atoms.length = 0 := sum_out fun b hb => ⟨(k2 b hb).1, (k2 b hb).2.1⟩
    have hlo : ∀ x : Nat, aro p x = true → x < p.atoms.length := fun x hx => by
      obtain ⟨a, h1, _⟩ := aro_at.1 hx
      exact (List.getElem?_eq_some_iff.1 h1).1
    refine ⟨by omega, ?_, ?_, ?_, ?_, ?_, ?_, m, k8.sym, ?_, fun x y h => ?_, ?_⟩
    · intro b hbm
      rw [hb, List.mem_append, List.mem_singleton] at hbm
      rcases hbm with hbm | rfl
      · have := k2 b hbm
        omega
      · exact ⟨by show last < _; omega, by show p.atoms.length < _; omega, .inl rfl⟩
    · intro x a hx haa
      rcases at_snoc ha hx with ⟨rfl, rfl⟩ | ⟨hlt, hx'⟩
      · cases haa
      · have := k3 x a hx' haa
        refine ⟨this.1, this.2.1, this.2.2.1, ?_⟩
        rw [hb, sum_snoc]
        simp only
        by_cases hxl : last = x
        · subst hxl
          simp
          omega
        · rw [if_neg (by omega)]
          have := this.2.2.2
          omega
    · intro x a hx haa
      rcases at_snoc ha hx with ⟨rfl, rfl⟩ | ⟨hlt, hx'⟩
      · refine ⟨hE, rfl, rfl, ?_⟩
        rw [hb, sum_snoc, hs0]
        simp
      · have := k4 x a hx' haa
        refine ⟨this.1, this.2.1, this.2.2.1, ?_⟩
        have hne : last ≠ x := by
          rintro rfl
          obtain ⟨a', h1, h2⟩ := aro_at.1 k6
          rw [hx'] at h1
          cases h1
          rw [haa] at h2
          cases h2
        rw [hb, sum_snoc]
        simp only
        rw [if_neg (by omega), this.2.2.2]
        rfl
    · rw [har, if_neg (by omega)]; exact k5
    · rw [har, if_neg (by omega)]; exact k6
    · rw [hlen, cnt, har]
      simp only [if_true, Bool.false_eq_true, if_false, Nat.add_zero]
      rw [← k7]
      exact cnt_congr fun k hk => by rw [har, if_neg (by omega)]
    · intro x y hxy
      obtain ⟨b, h1, h2⟩ := k8.bond x y hxy
      exact ⟨b, by rw [hb]; simp [h1], h2⟩
    · have := hlo x (k8.ar x y h)
      rw [har, if_neg (by omega)]
      exact k8.ar x y h
    · intro x hx
      rw [har] at hx
      split at hx
      · cases hx
      · exact k8.all x hx

/-- The next atom of the ring. -/
theorem An.atom {p q : St} {e : Nat → Int} {last i pl pl' : Nat} (h : An p e last i) (hel : 1 ≤ e last) (ha : q.atoms = p.atoms ++ [cA pl]) (hb : q.bonds = p.bonds ++ [⟨last, p.atoms.length, 4, pl'⟩]) :
    An q (fun x => if x = p.atoms.length then 1 else if x = last then e x - 1 else e x) p.atoms.length (i + 1) ∧ sum q.bonds p.atoms.length = 1 := by
  obtain ⟨k1, k2, k3, k4, k5, k6, k7, m, k8⟩ := h
  have har := aro_snoc ha
  have hlen : q.atoms.length = p.atoms.length + 1 := by rw [ha]; simp
  have h0 : 0 < p.atoms.length := by omega
  have hs0 : sum p.bonds p.atoms.length = 0 := sum_out fun b hb => ⟨(k2 b hb).1, (k2 b hb).2.1⟩
  have hs1 : sum q.bonds p.atoms.length = 1 := by rw [hb, sum_snoc, hs0]; simp
  have hin : ∀ x y, m x = some y → x < p.atoms.length ∧ y < p.atoms.length := fun x y hxy => by
    obtain ⟨b, h1, h2, h3⟩ := k8.bond x y hxy
    have := k2 b h1
    omega
  refine ⟨⟨by omega, ?_, ?_, ?_, ?_, ?_, ?_, ?_⟩, hs1⟩
  · intro b hbm
    rw [hb, List.mem_append, List.mem_singleton] at hbm
    rcases hbm with hbm | rfl
    · have := k2 b hbm
      omega
    · exact ⟨by show last < _; omega, by show p.atoms.length < _; omega, .inr rfl⟩
  · intro x a hx haa
    rcases at_snoc ha hx with ⟨rfl, rfl⟩ | ⟨hlt, hx'⟩
    · refine ⟨rfl, rfl, rfl, ?_⟩
      rw [hs1]
      simp
    · have := k3 x a hx' haa
      refine ⟨this.1, this.2.1, this.2.2.1, ?_⟩
      rw [hb, sum_snoc]
      simp only
      rw [if_neg (show ¬ x = p.atoms.length by omega)]
      have := this.2.2.2
      by_cases hxl : last = x
      · subst hxl
        simp
        omega
      · rw [if_neg (by omega), if_neg (by omega)]
        omega
  · intro x a hx haa
    rcases at_snoc ha hx with ⟨rfl, rfl⟩ | ⟨hlt, hx'⟩
    · cases haa
    · have := k4 x a hx' haa
      refine ⟨this.1, this.2.1, this.2.2.1, ?_⟩
      have hne : last ≠ x := by
        rintro rfl
        obtain ⟨a', h1, h2⟩ := aro_at.1 k6
        rw [hx'] at h1
        cases h1
        rw [haa] at h2
        cases h2
      rw [hb, sum_snoc]
      simp only
      rw [if_neg (by omega), this.2.2.2]
      rfl
  · rw [har, if_neg (by omega)]; exact k5
  · rw [har, if_pos rfl]; rfl
  · rw [hlen, cnt, har, if_pos rfl]
    simp only [cA, if_true]
    rw [← k7]
    congr 1
    exact cnt_congr fun k hk => by rw [har, if_neg (by omega)]
  · have hold : ∀ x : Nat, aro q x = true → x ≠ p.atoms.length → aro p x = true := fun x hx hne => by rwa [har, if_neg hne] at hx
    have hnew : m p.atoms.length = none := by
      cases hm : m p.atoms.length with
      | none => rfl
      | some y => have := (hin _ _ hm).1; omega
    have hbm : ∀ b ∈ p.bonds, b ∈ q.bonds := fun b h => by rw [hb]; simp [h]
    have hnq : ∀ x : Nat, aro p x = true → aro q x = true := fun x hx => by
      obtain ⟨a, h1, _⟩ := aro_at.1 hx
      have := (List.getElem?_eq_some_iff.1 h1).1
      rw [har, if_neg (by omega)]
      exact hx
    have hqn : aro q (p.atoms.length : Nat) = true := by rw [har, if_pos rfl]; rfl
    by_cases hi : i % 2 = 1
    · have hln : m last = none := (k8.all last k6).2 ⟨hi, rfl⟩
      refine ⟨fun x => if x = last then some p.atoms.length else if x = p.atoms.length then some last else m x, ?_, ?_, ?_, ?_⟩
      · intro x y hxy
        split at hxy
        · rename_i hx
          cases hxy
          rw [if_neg (by omega), if_pos rfl, hx]
        · rename_i hx
          split at hxy
          · rename_i hx2
            cases hxy
            rw [if_pos rfl, hx2]
          · rename_i hx2
            have hy := k8.sym x y hxy
            have h1 : y ≠ last := by rintro rfl; rw [hln] at hy; cases hy
            have h2 : y ≠ p.atoms.length := by rintro rfl; rw [hnew] at hy; cases hy
            rw [if_neg h1, if_neg h2, hy]
      · intro x y hxy
        split at hxy
        · rename_i hx
          cases hxy
          exact ⟨⟨last, p.atoms.length, 4, pl'⟩, by rw [hb]; simp, rfl, .inl ⟨hx.symm, rfl⟩⟩
        · split at hxy
          · rename_i hx2
            cases hxy
            exact ⟨⟨last, p.atoms.length, 4, pl'⟩, by rw [hb]; simp, rfl, .inr ⟨rfl, hx2.symm⟩⟩
          · obtain ⟨b, h1, h2⟩ := k8.bond x y hxy
            exact ⟨b, hbm b h1, h2⟩
      · intro x y hxy
        split at hxy
        · rename_i hx
          rw [hx]
          exact hnq _ k6
        · split at hxy
          · rename_i hx2
            rw [hx2]
            exact hqn
          · exact hnq _ (k8.ar x y hxy)
      · intro x hx
        refine ⟨fun hn => ?_, fun hn => by omega⟩
        split at hn
        · cases hn
        · split at hn
          · cases hn
          · rename_i h1 h2
            have := ((k8.all x (hold x hx h2)).1 hn).2
            exact absurd this h1
    · refine ⟨m, k8.sym, fun x y hxy => ?_, fun x y h => hnq _ (k8.ar x y h), fun x hx => ?_⟩
      · obtain ⟨b, h1, h2⟩ := k8.bond x y hxy
        exact ⟨b, hbm b h1, h2⟩
      · by_cases hxl : x = p.atoms.length
        · subst hxl
          rw [hnew]
          simp
          omega
        · have := k8.all x (hold x hx hxl)
          rw [this]
          constructor
          · intro h; omega
          · intro h; omega

/-- The ring is closed. -/
theorem An.close {p q : St} {e : Nat → Int} {last i pl : Nat} (h : An p e last i) (h0 : e 0 = 1) (hl : e last = 1) (hne : last ≠ 0) (ha : q.atoms = p.atoms) (hb : q.bonds = p.bonds ++ [⟨0, last, 4, pl⟩]) :
    An q (fun x => if x = 0 ∨ x = last then 0 else e x) last i ∧ sum q.bonds last = sum p.bonds last + 1 := by
  obtain ⟨k1, k2, k3, k4, k5, k6, k7, m, k8⟩ := h
  have har : ∀ x : Int, aro q x = aro p x := fun x => by unfold aro; rw [ha]
  refine ⟨⟨by rw [ha]; exact k1, ?_, ?_, ?_, by rw [har]; exact k5, by rw [har]; exact k6, by rw [ha]; simp only [har]; exact k7, m, k8.sym, ?_, fun x y h => by rw [har]; exact k8.ar x y h, fun x hx => k8.all x (by rw [← har]; exact hx)⟩, ?_⟩
  · intro b hbm
    rw [ha]
    rw [hb, List.mem_append, List.mem_singleton] at hbm
    rcases hbm with hbm | rfl
    · exact k2 b hbm
    · exact ⟨by show 0 < _; omega, by show last < _; omega, .inr rfl⟩
  · intro x a hx haa
    rw [ha] at hx
    have := k3 x a hx haa
    refine ⟨this.1, this.2.1, this.2.2.1, ?_⟩
    have := this.2.2.2
    rw [hb, sum_snoc]
    simp only
    by_cases hx0 : x = 0 ∨ x = last
    · rw [if_pos (by omega), if_pos hx0]
      rcases hx0 with rfl | rfl
      · simp; omega
      · simp; omega
    · rw [if_neg (by omega), if_neg hx0]
      omega
  · intro x a hx haa
    rw [ha] at hx
    have := k4 x a hx haa
    refine ⟨this.1, this.2.1, this.2.2.1, ?_⟩
    have hne : ∀ y, aro p (y : Nat) = true → y ≠ x := by
      rintro y hy rfl
      obtain ⟨a', h1, h2⟩ := aro_at.1 hy
      rw [hx] at h1
      cases h1
      rw [haa] at h2
      cases h2
    rw [hb, sum_snoc]
    simp only
    rw [if_neg (by have := hne _ k5; have := hne _ k6; omega), this.2.2.2]
    rfl
  · intro x y hxy
    obtain ⟨b, h1, h2⟩ := k8.bond x y hxy
    exact ⟨b, by rw [hb]; simp [h1], h2⟩
  · rw [hb, sum_snoc]
    simp
end Go.Proofs.YtcabaecbmkgclaaGreatDoor.Bz
