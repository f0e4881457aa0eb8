/-
  One step of the search, as the program takes it: an edge is followed from an outer vertex.
  The search goes through its queue: what has been looked at, and that at the end no edge leads on.
  The search's forest in memory: what its block and its queue hold; what a call may have turned.
  What the forest's reach, take, route, turn and the graph's Joined do.
-/
import Derived.Test.YtcabaecbmkgclaaGreatDoorR24
import Derived.ArgAppend
import Derived.BigQuiet
import Derived.Deep.CutRange
import Derived.Deep.LoopGhost
import Derived.Deep.MidRow
import Derived.Deep.QuietTactic
import Derived.Deep.RegionLaw
import Derived.Laws.DeepBits32
import Derived.OneCell
import Derived.Test.YtcabaecbmkgclaaGreatDoorRows
import Derived.WalkKit
import Derived.WalkLawsBesides
import Derived.WalkSpells
namespace Go.Proofs.YtcabaecbmkgclaaGreatDoor.Mt
def ringEq (r s : Nat → Bool) : Bool := (List.range 24).all fun x => r x == s x

/-- From an outer vertex to its root (k: more steps than there can be). -/
def routeF (mate : Nat → Option Nat) (next : Nat → Nat) : Nat → Nat → List Nat
  | 0, v => [v]
  | k + 1, v => match mate v with
    | none => [v]
    | some m => v :: m :: routeF mate next k (next m)

def meetingF (f : Fo) (left right : List Nat) : Nat → Bool := match left.find? (fun x => right.any fun y => ringEq (f.ring x) (f.ring y)) with
  | some x => f.ring x
  | none => fun _ => false

def belowF (f : Fo) (top : Nat → Bool) (l : List Nat) : List Nat := l.takeWhile fun x => !ringEq (f.ring x) top

def wholeF (f : Fo) (top : Nat → Bool) (l : List Nat) : Nat → Bool := whole f top l

def contractF (f : Fo) (left right : List Nat) (v w : Nat) : Fo :=
  let top := meetingF f left right
  let L := belowF f top left
  let L' := belowF f top right
  let W := wholeF f top (L ++ L')
  contracted f W L L' v w ((List.range 24).filter fun x => W x && !f.outer x)

def followF (mate : Nat → Option Nat) (f : Fo) (v w : Nat) : Option (List Nat) × Fo :=
  if f.outer w = false ∧ f.inner w = false then (none, taken f v w (mateOf mate w))
  else if f.outer w = false ∨ ringEq (f.ring v) (f.ring w) = true then (none, f)
  else
    let left := routeF mate f.next 24 v
    let right := routeF mate f.next 24 w
    if left.getLast? = right.getLast? then (none, contractF f left right v w) else (some (left.reverse ++ right), f)

section
variable {g : Gr} {mate : Nat → Option Nat} {f : Fo} {h : Gh}
theorem Inv.ringEq_iff (I : Inv g mate f h) {x y : Nat} : ringEq (f.ring x) (f.ring y) = true ↔ f.ring x = f.ring y := by
  unfold ringEq
  rw [List.all_eq_true]
  constructor
  · intro k
    funext z
    by_cases hz : z < 24
    · simpa using k z (List.mem_range.2 hz)
    · have : ∀ u, f.ring u z = false := fun u => by
        cases e : f.ring u z
        · rfl
        · exact absurd (I.rlt u z e).2 hz
      rw [this x, this y]
  · intro k z _
    rw [k]
    simp

theorem alt_last {next : Nat → Nat} {t : Nat} : ∀ {l : List Nat}, Alt g mate next t l → l.getLast? = some t
  | [x], h => by
    have : x = t := h
    subst this
    rfl
  | x :: m :: l, h => by
    have k := alt_last h.2.2.2
    cases l with
    | nil => cases h.2.2.1
    | cons y l => simpa using k

theorem routeF_alt {next : Nat → Nat} {t : Nat} (ht : mate t = none) : ∀ {l : List Nat} (k : Nat) (v : Nat), Alt g mate next t l → l.head? = some v → l.length ≤ k + 1 → routeF mate next k v = l
  | [x], 0, v, _, hv, _ => by simp at hv; rw [routeF, hv]
  | [x], k + 1, v, ha, hv, _ => by
    have e : x = t := ha
    simp at hv
    rw [routeF, ← hv, e, ht]
  | x :: m :: l, 0, v, _, _, hl => by simp at hl
  | x :: m :: l, k + 1, v, ha, hv, hl => by
    simp at hv
    subst hv
    rw [routeF, ha.1]
    simp only
    rw [routeF_alt ht k _ ha.2.2.2 ha.2.2.1 (by simp at hl; omega)]

theorem Rt.len (G : GrOk g) (M : MtOk g mate) (I : Inv g mate f h) {v : Nat} {l : List Nat} (r : Rt g mate f h v l) : l.length ≤ g.n := by
  have := len_inj l (fun x => x) (List.range g.n) r.nodup (fun x hx => by
    rw [List.mem_range]
    rcases r.lab x hx with e | ⟨_, b, e, _⟩
    · exact I.olt x e.1
    · exact (G.lt _ _ (M.adj _ _ e)).1) (fun x _ y _ e => e)
  simpa using this

theorem Rt.eqF (G : GrOk g) (M : MtOk g mate) (I : Inv g mate f h) {v : Nat} {l : List Nat} (r : Rt g mate f h v l) : routeF mate f.next 24 v = l :=
  routeF_alt r.free 24 v r.alt r.head (by have := r.len G M I; have := G.n24; omega)

theorem takeWhile_climb (I : Inv g mate f h) {x0 : Nat} {v : Nat} {L : List Nat} {e : Nat} {R : List Nat} (c : Climb g mate f h (f.ring x0) v L e R) : belowF f (f.ring x0) (L ++ e :: R) = L := by
  unfold belowF
  rw [List.takeWhile_append_of_pos]
  · rw [List.takeWhile_cons_of_neg, List.append_nil]
    simp [I.ringEq_iff, c.ring]
  · intro x hx
    have : ringEq (f.ring x) (f.ring x0) = false := by
      cases e : ringEq (f.ring x) (f.ring x0)
      · rfl
      · exact absurd (I.ringEq_iff.1 e) (c.out x hx)
    simp [this]

theorem rt_split_find {p : Nat → Bool} : ∀ {l : List Nat} {x : Nat}, l.find? p = some x → ∃ pre post, l = pre ++ x :: post ∧ p x = true ∧ ∀ y ∈ pre, p y = false
  | [], _, h => by cases h
  | a :: l, x, h => by
    rw [List.find?_cons] at h
    cases hp : p a with
    | true =>
      rw [hp] at h
      simp at h
      subst h
      exact ⟨[], l, rfl, hp, by simp⟩
    | false =>
      rw [hp] at h
      obtain ⟨pre, post, e, h1, h2⟩ := rt_split_find h
      exact ⟨a :: pre, post, by rw [e]; rfl, h1, fun y hy => by
        rcases List.mem_cons.1 hy with rfl | hy
        · exact hp
        · exact h2 y hy⟩

/-- Two routes of one tree meet. -/
theorem meet_of (G : GrOk g) (M : MtOk g mate) (I : Inv g mate f h) {v w : Nat} (hv : f.outer v = true) (hw : f.outer w = true) (hvw : g.adj v w = true) {l r : List Nat} (hl : Rt g mate f h v l) (hr : Rt g mate f h w r) (he : h.root v = h.root w) :
    ∃ x0 L L' e e' R R', meetingF f l r = f.ring x0 ∧ Meet g mate f h (f.ring x0) v w L L' e e' R R' ∧ l = L ++ e :: R ∧ r = L' ++ e' :: R' := by
  have hex : ∃ x, l.find? (fun x => r.any fun y => ringEq (f.ring x) (f.ring y)) = some x := by
    cases hf : l.find? (fun x => r.any fun y => ringEq (f.ring x) (f.ring y)) with
    | some x => exact ⟨x, rfl⟩
    | none =>
      rw [List.find?_eq_none] at hf
      refine absurd ?_ (hf _ hl.alt.mem)
      rw [List.any_eq_true]
      exact ⟨h.root v, by rw [he]; exact hr.alt.mem, I.ringEq_iff.2 rfl⟩
  obtain ⟨x0, hf⟩ := hex
  obtain ⟨pre, post, hsp, hp, hpre⟩ := rt_split_find hf
  rw [List.any_eq_true] at hp
  obtain ⟨y0, hy0, hye⟩ := hp
  have hye' := I.ringEq_iff.1 hye
  have hn24 := G.n24
  have hlt : ∀ {u : Nat} {k : List Nat}, Rt g mate f h u k → ∀ x ∈ k, x < 24 := fun {u k} c x hx => by
    rcases c.lab x hx with e | ⟨_, b, e, _⟩
    · have := I.olt x e.1; omega
    · have := (G.lt _ _ (M.adj _ _ e)).1; omega
  have hx0l : x0 ∈ l := by rw [hsp]; simp
  have hx0o : f.outer x0 = true := by
    cases hx0o : f.outer x0
    · exfalso
      obtain ⟨b, hb, hm⟩ := EvO.before M.back hl.alt hl.evo hsp hx0o
      have hyx : y0 = x0 := I.single x0 y0 hx0o (by rw [hye']; exact I.self y0 (hlt hr y0 hy0))
      subst hyx
      have hbr : b ∈ r := Alt.closed M hr.free hr.alt y0 hy0 b hm
      have := hpre b hb
      rw [List.any_eq_false] at this
      exact this b hbr (I.ringEq_iff.2 rfl)
    · rfl
  have hy0o : f.outer y0 = true := I.rout x0 y0 hx0o (by rw [hye']; exact I.self y0 (hlt hr y0 hy0))
  obtain ⟨L, e, R, cl⟩ := climb_ex G M I (f.ring x0) _ v l hv (Nat.lt_succ_self _) hl ⟨x0, hx0l, hx0o, rfl⟩
  obtain ⟨L', e', R', cr⟩ := climb_ex G M I (f.ring x0) _ w r hw (Nat.lt_succ_self _) hr ⟨y0, hy0, hy0o, hye'.symm⟩
  have el := hl.unique cl.rt
  have er := hr.unique cr.rt
  refine ⟨x0, L, L', e, e', R, R', by unfold meetingF; rw [hf], ⟨cl, cr, ?_, hvw⟩, el, er⟩
  intro x hx y hy k
  -- whatever stands ahead of the meeting has no fellow on the other side
  have hxpre : x ∈ pre := by
    have h1 := el
    rw [hsp] at h1
    have hne : x0 ∉ L := fun hh => cl.out x0 hh rfl
    rcases List.append_eq_append_iff.1 h1 with ⟨us, e1, e2⟩ | ⟨bs, e1, e2⟩
    · cases us with
      | nil =>
        simp at e1
        rw [e1] at hx
        exact hx
      | cons a us =>
        simp at e2
        rw [e1] at hne
        exact absurd (by rw [e2.1]; simp) hne
    · rw [e1]
      exact List.mem_append_left _ hx
  have := hpre x hxpre
  rw [List.any_eq_false] at this
  exact this y (by rw [er]; exact List.mem_append_left _ hy) (I.ringEq_iff.2 k)

/-- What is kept of a search while it goes on. -/
structure Grown (f f' : Fo) : Prop where
  outer : ∀ x, f.outer x = true → f'.outer x = true
  inner : ∀ x, f.inner x = true → f'.inner x = true
  ring : ∀ x y, f.ring x y = true → f'.ring x y = true
  queue : ∃ q, f'.queue = f.queue ++ q

theorem Grown.refl (f : Fo) : Grown f f := ⟨fun _ h => h, fun _ h => h, fun _ _ h => h, [], by simp⟩

theorem follow_ok (G : GrOk g) (M : MtOk g mate) (I : Inv g mate f h) {v w : Nat} (hv : f.outer v = true) (hvw : g.adj v w = true) :
    (∃ p, (followF mate f v w).1 = some p ∧ Aug g mate p) ∨ ((followF mate f v w).1 = none ∧ (∃ h', Inv g mate (followF mate f v w).2 h') ∧ Grown f (followF mate f v w).2 ∧ ((followF mate f v w).2.inner w = true ∨ (followF mate f v w).2.outer w = true) ∧
      ((followF mate f v w).2.outer w = true → (followF mate f v w).2.ring v w = true)) := by
  have hwn := (G.lt _ _ hvw).2
  have hw24 : w < 24 := Nat.lt_of_lt_of_le hwn G.n24
  unfold followF
  by_cases h1 : f.outer w = false ∧ f.inner w = false
  · rw [if_pos h1]
    obtain ⟨u, hm, huo, hui⟩ := I.fresh M hwn h1.1 h1.2
    have e : mateOf mate w = u := by unfold mateOf; rw [hm]; rfl
    rw [e]
    have huw : w ≠ u := by
      rintro rfl
      have := M.adj _ _ hm
      rw [G.irr] at this
      cases this
    refine .inr ⟨rfl, ⟨_, take_inv G M I hv hvw h1.1 h1.2 hm⟩, ⟨?_, ?_, fun _ _ k => k, [u], rfl⟩, .inl ?_, ?_⟩
    · intro x hx
      show setAt f.outer u true x = true
      unfold setAt
      split
      · rfl
      · exact hx
    · intro x hx
      show setAt f.inner w true x = true
      unfold setAt
      split
      · rfl
      · exact hx
    · show setAt f.inner w true w = true
      unfold setAt
      rw [if_pos rfl]
    · intro k
      have : setAt f.outer u true w = true := k
      unfold setAt at this
      rw [if_neg huw, h1.1] at this
      cases this
  · rw [if_neg h1]
    by_cases h2 : f.outer w = false ∨ ringEq (f.ring v) (f.ring w) = true
    · rw [if_pos h2]
      refine .inr ⟨rfl, ⟨h, I⟩, Grown.refl f, ?_, ?_⟩
      · cases ho : f.outer w
        · left
          cases hi : f.inner w
          · exact absurd ⟨ho, hi⟩ h1
          · rfl
        · exact .inr rfl
      · intro ho
        rcases h2 with k | k
        · rw [show f.outer w = true from ho] at k; cases k
        · show f.ring v w = true
          rw [I.ringEq_iff.1 k]
          exact I.self w hw24
    · rw [if_neg h2]
      have hwo : f.outer w = true := by
        cases ho : f.outer w
        · exact absurd (.inl ho) h2
        · rfl
      obtain ⟨l, hl⟩ := I.route M hv
      obtain ⟨r, hr⟩ := I.route M hwo
      simp only
      rw [hl.eqF G M I, hr.eqF G M I]
      by_cases h3 : l.getLast? = r.getLast?
      · rw [if_pos h3]
        have hroot : h.root v = h.root w := by
          rw [alt_last hl.alt, alt_last hr.alt] at h3
          exact Option.some.inj h3
        obtain ⟨x0, L, L', e, e', R, R', hmt, mt, el, er⟩ := meet_of G M I hv hwo hvw hl hr hroot
        have eL : belowF f (meetingF f l r) l = L := by rw [hmt, el]; exact takeWhile_climb I mt.l
        have eL' : belowF f (meetingF f l r) r = L' := by rw [hmt, er]; exact takeWhile_climb I mt.r
        have hin := contract_inv G M I mt (whole f (f.ring x0) (L ++ L')) rfl ((List.range 24).filter fun x => whole f (f.ring x0) (L ++ L') x && !f.outer x) (by
          intro x
          rw [List.mem_filter, List.mem_range]
          simp only [Bool.and_eq_true, Bool.not_eq_true']
          refine ⟨fun k => k.2, fun k => ⟨?_, k⟩⟩
          rcases whole_iff.1 k.1 with a | ⟨y, _, a⟩
          · exact (I.rlt _ _ a).2
          · exact (I.rlt _ _ a).2) (List.Pairwise.filter _ List.nodup_range)
        have eC : contractF f l r v w = contracted f (whole f (f.ring x0) (L ++ L')) L L' v w ((List.range 24).filter fun x => whole f (f.ring x0) (L ++ L') x && !f.outer x) := by
          unfold contractF wholeF
          simp only
          rw [eL, eL', hmt]
        rw [eC]
        -- v and w are of the whole
        have inW : ∀ {u : Nat} {K : List Nat} {d : Nat} {S : List Nat} {K' : List Nat}, Climb g mate f h (f.ring x0) u K d S → f.outer u = true → (∀ z ∈ K, z ∈ K') → whole f (f.ring x0) K' u = true := fun {u K d S K'} c ho hK => by
          have hu24 : u < 24 := Nat.lt_of_lt_of_le (I.olt _ ho) G.n24
          cases K with
          | nil =>
            have k := c.rt.head
            simp at k
            subst k
            refine whole_iff.2 (.inl ?_)
            rw [← c.ring]
            exact I.self d hu24
          | cons a K =>
            have k := c.rt.head
            simp at k
            subst k
            exact whole_iff.2 (.inr ⟨a, hK a (by simp), I.self a hu24⟩)
        have hWv := inW mt.l hv (K' := L ++ L') (fun z hz => List.mem_append_left _ hz)
        have hWw := inW mt.r hwo (K' := L ++ L') (fun z hz => List.mem_append_right _ hz)
        refine .inr ⟨rfl, ⟨_, hin⟩, ⟨?_, fun _ k => k, ?_, _, rfl⟩, .inr ?_, ?_⟩
        · intro x hx
          show (f.outer x || _) = true
          rw [hx]
          rfl
        · intro x y hxy
          show (if whole f (f.ring x0) (L ++ L') x then whole f (f.ring x0) (L ++ L') else f.ring x) y = true
          by_cases k : whole f (f.ring x0) (L ++ L') x = true
          · rw [if_pos k]
            rcases whole_iff.1 k with a | ⟨z, hz, a⟩
            · exact whole_iff.2 (.inl (by rw [← I.same x0 x a]; exact hxy))
            · exact whole_iff.2 (.inr ⟨z, hz, by rw [← I.same z x a]; exact hxy⟩)
          · rw [if_neg k]
            exact hxy
        · show (f.outer w || _) = true
          rw [hwo]
          rfl
        · intro _
          show (if whole f (f.ring x0) (L ++ L') v then whole f (f.ring x0) (L ++ L') else f.ring v) w = true
          rw [if_pos hWv]
          exact hWw
      · rw [if_neg h3]
        have hroot : h.root v ≠ h.root w := by
          intro k
          apply h3
          rw [alt_last hl.alt, alt_last hr.alt, k]
        exact .inl ⟨_, rfl, aug_of G M I hvw hl hr hroot⟩
end
section
variable {g : Gr} {mate : Nat → Option Nat} {f f' : Fo} {h h' : Gh}
/-- The edge from a to b has been looked at, when the search stands at the i-th of its queue and at number c. -/
def Pr (f : Fo) (i c a b : Nat) : Prop := ∃ j, f.queue[j]? = some a ∧ (j < i ∨ (j = i ∧ b < c))

def Seen (g : Gr) (f : Fo) (i c : Nat) : Prop := ∀ a b, Pr f i c a b → g.adj a b = true → (f.inner b = true ∨ f.outer b = true) ∧ (f.outer b = true → f.ring a b = true ∨ ¬ Pr f i c b a)

theorem seen_start : Seen g f 0 0 := by
  intro a b hp
  obtain ⟨j, _, k | k⟩ := hp <;> omega

theorem seen_skip (G : GrOk g) {i c v : Nat} (hv : f.queue[i]? = some v) (hn : g.adj v c = false) (S : Seen g f i c) : Seen g f i (c + 1) := by
  have key : ∀ a b, g.adj a b = true → (Pr f i (c + 1) a b → Pr f i c a b) := by
    rintro a b hab ⟨j, hj, k⟩
    rcases k with k | ⟨rfl, k⟩
    · exact ⟨j, hj, .inl k⟩
    · by_cases e : b = c
      · subst e
        rw [hv] at hj
        cases hj
        rw [hn] at hab
        cases hab
      · exact ⟨j, hj, .inr ⟨rfl, by omega⟩⟩
  intro a b hp hab
  obtain ⟨h1, h2⟩ := S a b (key a b hab hp) hab
  refine ⟨h1, fun ho => ?_⟩
  rcases h2 ho with k | k
  · exact .inl k
  · exact .inr fun q => k (key b a (G.sym _ _ hab) q)

theorem seen_step (I : Inv g mate f h) (I' : Inv g mate f' h') (hg : Grown f f') {i c v : Nat} (hv : f.queue[i]? = some v) (hin : f'.inner c = true ∨ f'.outer c = true) (hri : f'.outer c = true → f'.ring v c = true) (S : Seen g f i c) : Seen g f' i (c + 1) := by
  obtain ⟨q, hq⟩ := hg.queue
  have hil : i < f.queue.length := (List.getElem?_eq_some_iff.1 hv).1
  have hold : ∀ j, j ≤ i → f'.queue[j]? = f.queue[j]? := fun j hj => by rw [hq, List.getElem?_append_left (by omega)]
  have key : ∀ a b, Pr f' i (c + 1) a b → Pr f i c a b ∨ (a = v ∧ b = c) := by
    rintro a b ⟨j, hj, k⟩
    rcases k with k | ⟨rfl, k⟩
    · exact .inl ⟨j, by rw [← hold j (by omega)]; exact hj, .inl k⟩
    · rw [hold j (Nat.le_refl _)] at hj
      by_cases e : b = c
      · rw [hv] at hj
        cases hj
        exact .inr ⟨rfl, e⟩
      · exact .inl ⟨j, hj, .inr ⟨rfl, by omega⟩⟩
  have hsym : ∀ a b, f'.ring a b = true → f'.ring b a = true := fun a b hab => by rw [I'.same a b hab]; exact I'.self a (I'.rlt a b hab).1
  have hpo : ∀ a b, Pr f i c a b → f.outer a = true := by
    rintro a b ⟨j, hj, _⟩
    exact (I.q a).1 (List.mem_of_getElem? hj)
  intro a b hp hab
  rcases key a b hp with k | ⟨rfl, rfl⟩
  · obtain ⟨h1, h2⟩ := S a b k hab
    refine ⟨h1.imp (hg.inner b) (hg.outer b), fun ho => ?_⟩
    cases hob : f.outer b
    · refine .inr fun q2 => ?_
      rcases key b a q2 with k2 | ⟨rfl, rfl⟩
      · rw [hpo b a k2] at hob
        cases hob
      · have := (I.q b).1 (List.mem_of_getElem? hv)
        rw [hob] at this
        cases this
    · rcases h2 hob with r | r
      · exact .inl (hg.ring _ _ r)
      · by_cases q2 : Pr f' i (c + 1) b a
        · rcases key b a q2 with k2 | ⟨rfl, rfl⟩
          · exact absurd k2 r
          · exact .inl (hsym _ _ (hri (hg.outer a (hpo a b k))))
        · exact .inr q2
  · exact ⟨hin, fun ho => .inl (hri ho)⟩

theorem seen_row (G : GrOk g) {i : Nat} (S : Seen g f i g.n) : Seen g f (i + 1) 0 := by
  have key : ∀ a b, g.adj a b = true → (Pr f (i + 1) 0 a b → Pr f i g.n a b) := by
    rintro a b hab ⟨j, hj, k⟩
    rcases k with k | ⟨_, k⟩
    · by_cases e : j = i
      · exact ⟨j, hj, .inr ⟨e, (G.lt _ _ hab).2⟩⟩
      · exact ⟨j, hj, .inl (by omega)⟩
    · omega
  intro a b hp hab
  obtain ⟨h1, h2⟩ := S a b (key a b hab hp) hab
  refine ⟨h1, fun ho => ?_⟩
  rcases h2 ho with k | k
  · exact .inl k
  · exact .inr fun q => k (key b a (G.sym _ _ hab) q)

theorem seen_end (I : Inv g mate f h) {i : Nat} (hi : f.queue.length ≤ i) (S : Seen g f i 0) : Shut g f := by
  have hpr : ∀ a b, f.outer a = true → Pr f i 0 a b := by
    intro a b ha
    obtain ⟨j, hj, e⟩ := List.getElem_of_mem ((I.q a).2 ha)
    exact ⟨j, by rw [List.getElem?_eq_getElem hj, e], .inl (by omega)⟩
  refine ⟨fun v w hv hvw => (S v w (hpr v w hv) hvw).1, fun v w hv hvw hw => ?_⟩
  rcases (S v w (hpr v w hv) hvw).2 hw with k | k
  · exact k
  · exact absurd (hpr w v hw) k

/-- The queue is never longer than there are vertices. -/
theorem Inv.qlen (I : Inv g mate f h) : f.queue.length ≤ g.n := by
  have := len_inj f.queue (fun x => x) (List.range g.n) I.qn (fun x hx => List.mem_range.2 (I.olt x ((I.q x).1 hx))) (fun x _ y _ e => e)
  simpa using this

/-- A longer matching leaves fewer without a mate. -/
theorem aug_less (G : GrOk g) (M : MtOk g mate) {p : List Nat} (A : Aug g mate p) : MtOk g (flip mate p) ∧ cnt g.n (fun x => (flip mate p x).isNone) < cnt g.n (fun x => (mate x).isNone) := by
  obtain ⟨k1, k2⟩ := flip_spec mate A.pe A.nodup
  refine ⟨flip_ok G M A.pe A.nodup A.closed, ?_⟩
  obtain ⟨x, hx, hm, hn⟩ := A.free
  rw [cnt_one hn (fun x => (mate x).isNone) (by rw [hm]; rfl)]
  refine Nat.lt_succ_of_le (cnt_inj (fun k => k) (fun k hk hp => ⟨hk, ?_⟩) (fun a b _ _ _ _ e => e))
  have hkp : k ∉ p := by
    intro hkp
    obtain ⟨y, _, e, _⟩ := k2 k hkp
    rw [e] at hp
    cases hp
  rw [k1 k hkp] at hp
  simp only [Bool.and_eq_true, Bool.not_eq_true', beq_eq_false_iff_ne]
  exact ⟨hp, fun e => hkp (e ▸ hx)⟩

/-- A greatest matching, and what shows it. -/
structure Best (g : Gr) (mate : Nat → Option Nat) (f : Fo) (h : Gh) : Prop where
  m : MtOk g mate
  inv : Inv g mate f h
  shut : Shut g f

/-- The pairs, by rising first number. -/
def pairsF (n : Nat) (mate : Nat → Option Nat) : List (Nat × Nat) := ((List.range n).filter fun v => (mate v).isSome && decide (v < mateOf mate v)).map fun v => (v, mateOf mate v)
def barF (n : Nat) (f : Fo) : List Nat := (List.range n).filter (bar f)

theorem Best.count (G : GrOk g) (b : Best g mate f h) {name : Nat → Nat} (N : Naming g (bar f) name) :
    total g.n (fun i => cnt g.n (fun k => !bar f k && (name k == i)) % 2) + 2 * (pairsF g.n mate).length = g.n + (barF g.n f).length := by
  have h1 := odd_count G b.m b.inv b.shut N
  have h2 := bases_count G b.m b.inv
  have h3 := pairs_count G b.m
  have e1 : (pairsF g.n mate).length = cnt g.n (fun v => (mate v).isSome && decide (v < mateOf mate v)) := by
    unfold pairsF
    rw [List.length_map, cnt_len]
  have e2 : (barF g.n f).length = cnt g.n (bar f) := cnt_len _ _
  omega
end
end Go.Proofs.YtcabaecbmkgclaaGreatDoor.Mt
namespace Go.Proofs.YtcabaecbmkgclaaGreatDoor.Mg
open Go.RowKit Mt
theorem ret_bool {a b : Bool} (h : a = b) : Ending.returned (.bool a) = .returned (.bool b) := by rw [h]
theorem ret_int {k : IntKind} {a b : Int} (h : a = b) : Ending.returned (.int k a) = .returned (.int k b) := by rw [h]

theorem ownsRow_same {w w' : World} {base : Nat} {e : TypeId} {size : Nat} {v : Value} {n : Nat} {xs : List Value} (h : w.ownsRow base e size v n xs)
    (hs : ∀ k, v.ownBlock = some k → w'.heap[k]? = w.heap[k]?) : w'.ownsRow base e size v n xs := by
  refine ⟨h.1, ?_⟩
  rcases h.2 with hn | ⟨g, cap, cur, rfl, hb, hg, r⟩
  · exact .inl hn
  · exact .inr ⟨g, cap, cur, rfl, hb, by rw [hs g rfl]; exact hg, r⟩

theorem cell_set_ne {w : World} {B i j : Nat} (h : i ≠ j) (u : Value) : (w.setCell ⟨B, i, none⟩ u).cell? ⟨B, j, none⟩ = w.cell? ⟨B, j, none⟩ :=
  World.cell?_setCell_other w _ _ u (fun e => h (by simpa using congrArg Addr.off e))

theorem heap_alloc_lt (w : World) (o : Obj) (k : Nat) (h : k < w.heap.size) : (w.alloc o).heap[k]? = w.heap[k]? := Below.heap_alloc w o k h

theorem ownsRow_shape {w : World} {base : Nat} {e : TypeId} {size : Nat} {v : Value} {n : Nat} {xs : List Value} (h : w.ownsRow base e size v n xs) : ∃ ao cap, v = .slice ao n cap := by
  rcases h.2 with ⟨rfl, rfl⟩ | ⟨g, cap, cur, rfl, _⟩
  · exact ⟨none, 0, rfl⟩
  · exact ⟨_, cap, rfl⟩

theorem ownsRow_at {w : World} {base : Nat} {e : TypeId} {size : Nat} {v : Value} {n : Nat} {xs : List Value} (h : w.ownsRow base e size v n xs) (hn : 0 < n) :
    ∃ g cap, v = .slice (some ⟨g, 0, none⟩) n cap ∧ base ≤ g ∧ g < w.heap.size ∧ (∀ j, j < n * size → w.cell? ⟨g, j, none⟩ = xs[j]?) ∧ ∀ j, w.frozen? ⟨g, j, none⟩ = false := by
  have hl := h.lt
  rcases h.2 with ⟨_, rfl⟩ | ⟨g, cap, cur, rfl, _⟩
  · exact absurd hn (Nat.lt_irrefl _)
  · obtain ⟨h1, h2⟩ := hl g rfl
    exact ⟨g, cap, rfl, h1, h2, h.cellAt, h.frozenAt⟩

theorem ownBlock_ne {w : World} {b1 b2 : Nat} {e1 e2 : TypeId} {s1 s2 : Nat} {v1 v2 : Value} {n1 n2 : Nat} {x1 x2 : List Value} (h1 : w.ownsRow b1 e1 s1 v1 n1 x1) (h2 : w.ownsRow b2 e2 s2 v2 n2 x2) (he : e1 ≠ e2) (k : Nat) (hk : v1.ownBlock = some k) : v2.ownBlock ≠ some k := by
  intro hk2
  rcases h1.2 with ⟨rfl, _⟩ | ⟨g, cap, cur, rfl, _, hg, _⟩
  · simp [Value.ownBlock] at hk
  rcases h2.2 with ⟨rfl, _⟩ | ⟨g', cap', cur', rfl, _, hg', _⟩
  · simp [Value.ownBlock] at hk2
  simp [Value.ownBlock] at hk hk2
  subst hk hk2
  rw [hg] at hg'
  simp at hg'
  exact he hg'.2

theorem ownsRow_mono {w : World} {base base' : Nat} {e : TypeId} {size : Nat} {v : Value} {n : Nat} {xs : List Value} (h : w.ownsRow base e size v n xs) (hb : base' ≤ base) : w.ownsRow base' e size v n xs := by
  refine ⟨h.1, ?_⟩
  rcases h.2 with hn | ⟨g, cap, cur, hv, hg, r⟩
  · exact .inl hn
  · exact .inr ⟨g, cap, cur, hv, Nat.le_trans hb hg, r⟩

theorem grownBy_weaken {w w' : World} {row : Option Nat} (h : w.grownBy w' none) : w.grownBy w' row := ⟨h.os, h.tape, h.output, h.size, fun k hk _ => h.block k hk (by simp)⟩

section
variable {P : Program} (w : World)
theorem run_append_mine (base : Nat) (t ty e : TypeId) (i : TypeInfo) (z : Value) (size bytes : Nat) (ht : P.underlying t = some (.slice e)) (hi : P.info? e = some i) (hz : i.zero = some z)
    (hsize : i.size = size) (hby : i.bytes = bytes) (hzs : z.cells.size = size) (hsz : 0 < size)
    (v : Value) (n : Nat) (xs : List Value) (hown : w.ownsRow base e size v n xs)
    (a : Addr) (m c : Nat) (news : List Value) (hl : news.length = m * size) (hnews : ∀ j u, news[j]? = some u → w.cell? (a.add j) = some u) (h1 : ∀ u ∈ news, u.oneCell' = true)
    (h63 : n + m ≤ maxLen) (hbytes : (n + m) * bytes ≤ 140737488355328) (hbase : base ≤ w.heap.size) :
    ∃ v' w', (Builtin.append_ #[t, t] ty #[v, .slice (some a) m c]).run P w = .ok v' w' ∧ w'.ownsRow base e size v' (n + m) (xs ++ news) ∧ w.grownBy w' v.ownBlock ∧
      ∀ k, v'.ownBlock = some k → v.ownBlock = some k ∨ w.heap.size ≤ k := by
  rcases hown.2 with ⟨rfl, rfl⟩ | ⟨g, cap, cur, rfl, hbg, hg, hnc, hcm, hcs, htake⟩
  · obtain rfl : xs = [] := List.eq_nil_of_length_eq_zero (by simpa using hown.1)
    obtain ⟨v', w', hr, ho, hgr, _⟩ := run_append_own (P := P) w w.heap.size t ty e i z size bytes ht hi hz hsize hby hzs hsz (.slice none 0 0) 0 [] (World.ownsRow_nil w _ e size) a m c news hl hnews h1 h63 hbytes (Nat.le_refl _)
    exact ⟨v', w', hr, ownsRow_mono ho hbase, hgr, fun k hk => .inr (ho.lt k hk).1⟩
  · by_cases hroom : n + m ≤ cap
    · obtain ⟨w', hr, ho, hgr⟩ := run_append_fits (P := P) w base t ty e i size ht hi hsize g n cap xs hown a m c news hl hnews h1 hroom
      exact ⟨_, w', hr, ho, hgr, fun k hk => .inl (by simpa [Value.ownBlock] using hk)⟩
    · obtain ⟨v', w', hr, ho, hgr⟩ := run_append_arg_grows (P := P) w t ty e i z size bytes ht hi hz hsize hby hzs hsz ⟨g, 0, none⟩ n cap xs hown.1 (hown.cells rfl) a m c news hl hnews (by omega) h63 hbytes
      exact ⟨v', w', hr, ownsRow_mono ho hbase, grownBy_weaken hgr, fun k hk => .inr (ho.lt k hk).1⟩
end
theorem step_append_mine {P : Program} {ops : Array Oper} {o : Oper} {a : Act} {w : World} {K : Act → World → Prop} {Q : Exit → Act → World → Prop} {E : Prop}
    (hg : o.guard = none) (s x : Operand) (t : TypeId) (hop : o.op = Op.call { callee := Callee.builtin Builtin.append, args := #[s, x], argTypes := #[t, t] })
    (base : Nat) (e : TypeId) (i : TypeInfo) (z : Value) (size bytes : Nat) (ht : P.underlying t = some (.slice e)) (hi : P.info? e = some i) (hz : i.zero = some z)
    (hsize : i.size = size) (hby : i.bytes = bytes) (hzs : z.cells.size = size) (hsz : 0 < size)
    (v : Value) (n : Nat) (xs : List Value) (hs : a.eval s = v) (hown : w.ownsRow base e size v n xs)
    (ad : Addr) (m c : Nat) (news : List Value) (hx : a.eval x = .slice (some ad) m c) (hl : news.length = m * size) (hnews : ∀ j u, news[j]? = some u → w.cell? (ad.add j) = some u) (h1 : ∀ u ∈ news, u.oneCell' = true)
    (h63 : n + m ≤ maxLen) (hbytes : (n + m) * bytes ≤ 140737488355328) (hbase : base ≤ w.heap.size)
    (hK : ∀ v' w', w'.ownsRow base e size v' (n + m) (xs ++ news) → w.grownBy w' v.ownBlock → (∀ k, v'.ownBlock = some k → v.ownBlock = some k ∨ w.heap.size ≤ k) → K (a.put o.dst v') w') :
    if Region.wanted o (yielded ops a.tmps) = true then Oper.wp P o a w K Q else E := by
  have hw : Region.wanted o (yielded ops a.tmps) = true := by simp [Region.wanted, hg]
  rw [if_pos hw]
  obtain ⟨v', w', hr, h2, h3, h4⟩ := run_append_mine (P := P) w base t o.type e i z size bytes ht hi hz hsize hby hzs hsz v n xs hown ad m c news hl hnews h1 h63 hbytes hbase
  unfold Oper.wp execOp
  simp only [hop, resolve, invoke, builtin, Sem.run_bind, Sem.run_pure, Result.andThen_ok, List.map_toArray, List.map_cons, List.map_nil, hs, hx, hr]
  exact hK v' w' h2 h3 h4

theorem wpList_append_mine {P : Program} {w : World} {ops : Array Oper} {rest : List Oper} {o : Oper} {a : Act} {Q : Exit → Act → World → Prop} (hgd : o.guard = none) (s x : Operand) (t : TypeId)
    (ho : o.op = .call { callee := .builtin .append, args := #[s, x], argTypes := #[t, t] })
    (base : Nat) (e : TypeId) (i : TypeInfo) (z : Value) (size bytes : Nat) (ht : P.underlying t = some (.slice e)) (hi : P.info? e = some i) (hz : i.zero = some z)
    (hsize : i.size = size) (hby : i.bytes = bytes) (hzs : z.cells.size = size) (hsz : 0 < size)
    (v : Value) (n : Nat) (xs : List Value) (hs : a.eval s = v) (hown : w.ownsRow base e size v n xs)
    (ad : Addr) (m c : Nat) (news : List Value) (hx : a.eval x = .slice (some ad) m c) (hl : news.length = m * size) (hnews : ∀ j u, news[j]? = some u → w.cell? (ad.add j) = some u) (h1 : ∀ u ∈ news, u.oneCell' = true)
    (h63 : n + m ≤ maxLen) (hbytes : (n + m) * bytes ≤ 140737488355328) (hbase : base ≤ w.heap.size)
    (h : ∀ v' w', w'.ownsRow base e size v' (n + m) (xs ++ news) → w.grownBy w' v.ownBlock → (∀ k, v'.ownBlock = some k → v.ownBlock = some k ∨ w.heap.size ≤ k) → wpList P ops Q rest (a.put o.dst v') w') : wpList P ops Q (o :: rest) a w := by
  refine wpList_plain hgd fun K hK => ?_
  obtain ⟨v', w', hr, h2, h3, h4⟩ := run_append_mine (P := P) w base t o.type e i z size bytes ht hi hz hsize hby hzs hsz v n xs hown ad m c news hl hnews h1 h63 hbytes hbase
  unfold Oper.wp execOp
  simp only [ho, resolve, invoke, builtin, Sem.run_bind, Sem.run_pure, Result.andThen_ok, List.map_toArray, List.map_cons, List.map_nil, hs, hx, hr]
  exact hK _ _ (h v' w' h2 h3 h4)

theorem Tryz.infoInt : (Tryz.prog.info? 3).map (fun i => (i.zero, i.size, i.bytes)) = some (some (.int .i64 0), 1, 8) := by kernel_rfl

def mi : Option Nat → Int
  | none => -1
  | some m => m

def intCells (l : List Nat) : List Value := l.map fun (x : Nat) => Value.int .i64 x
theorem intCells_len (l : List Nat) : (intCells l).length = l.length := by simp [intCells]
theorem intCells_get {l : List Nat} {i x : Nat} (h : l[i]? = some x) : (intCells l)[i]? = some (.int .i64 x) := by simp [intCells, h]
theorem intCells_append (l r : List Nat) : intCells (l ++ r) = intCells l ++ intCells r := by simp [intCells]

/-- A list of numbers of the call's own. -/
def Ints (w : World) (base : Nat) (v : Value) (l : List Nat) : Prop := w.ownsRow base 3 1 v l.length (intCells l)

theorem Ints.shape {w : World} {base : Nat} {v : Value} {l : List Nat} (h : Ints w base v l) : ∃ ao cap, v = .slice ao l.length cap := ownsRow_shape h

theorem Ints.at {w : World} {base : Nat} {v : Value} {l : List Nat} (h : Ints w base v l) {i x : Nat} (hi : l[i]? = some x) : ∃ g cap, v = .slice (some ⟨g, 0, none⟩) l.length cap ∧ base ≤ g ∧ g < w.heap.size ∧ w.cell? ⟨g, i, none⟩ = some (.int .i64 x) := by
  have hl := (List.getElem?_eq_some_iff.1 hi).1
  obtain ⟨g, cap, rfl, h1, h2, h3, h4⟩ := ownsRow_at h (by omega)
  exact ⟨g, cap, rfl, h1, h2, (h3 i (by omega)).trans (intCells_get hi)⟩

/-- Block k is the forest's own: its block, or its queue's row. -/
def FMine (w : World) (B k : Nat) : Prop := k = B ∨ ∃ v, w.cell? ⟨B, 697, none⟩ = some v ∧ v.ownBlock = some k

structure FAt (w : World) (B : Nat) (g : Gr) (mate : Nat → Option Nat) (f : Fo) : Prop where
  near : ∀ k, k < 24 → ∃ m : Nat, w.cell? ⟨B, k, none⟩ = some (.int .u32 m) ∧ m < 4294967296 ∧ ∀ j, j < 24 → m.testBit j = g.adj k j
  n : w.cell? ⟨B, 24, none⟩ = some (.int .i64 g.n)
  mate : ∀ k, k < 24 → w.cell? ⟨B, 25 + k, none⟩ = some (.int .i64 (mi (mate k)))
  ring : ∀ v x, v < 24 → x < 24 → w.cell? ⟨B, 49 + v * 24 + x, none⟩ = some (.bool (f.ring v x))
  next : ∀ k, k < 24 → w.cell? ⟨B, 625 + k, none⟩ = some (.int .i64 (f.next k))
  outer : ∀ k, k < 24 → w.cell? ⟨B, 649 + k, none⟩ = some (.bool (f.outer k))
  inner : ∀ k, k < 24 → w.cell? ⟨B, 673 + k, none⟩ = some (.bool (f.inner k))
  queue : ∃ v, w.cell? ⟨B, 697, none⟩ = some v ∧ Ints w 0 v f.queue ∧ v.ownBlock ≠ some B
  free : ∀ i, w.frozen? ⟨B, i, none⟩ = false

/-- What a call of the forest's may have turned: the forest's own blocks, and new ones. -/
structure FFr (B : Nat) (w w' : World) : Prop where
  os : w'.os = w.os
  tape : w'.tape = w.tape
  output : w'.output = w.output
  size : w.heap.size ≤ w'.heap.size
  block : ∀ k, k < w.heap.size → ¬ FMine w B k → w'.heap[k]? = w.heap[k]?
  mine : ∀ k, k < w.heap.size → FMine w' B k → FMine w B k

section
variable {w w' : World} {B : Nat} {g : Gr} {mate : Nat → Option Nat} {f : Fo}
theorem FAt.lt (h : FAt w B g mate f) : B < w.heap.size := World.block_lt_of_cell? w ⟨B, 24, none⟩ h.n

theorem FMine.same {k : Nat} (hB : w'.heap[B]? = w.heap[B]?) : FMine w' B k ↔ FMine w B k := by
  have h1 : w'.cell? ⟨B, 697, none⟩ = w.cell? ⟨B, 697, none⟩ := World.cell?_of_block (w := w) hB
  unfold FMine
  rw [h1]

theorem FAt.mine (h : FAt w B g mate f) {k : Nat} (hk : FMine w B k) : 0 ≤ k ∧ k < w.heap.size := by
  rcases hk with rfl | ⟨v, hv, hk⟩
  · exact ⟨Nat.zero_le _, h.lt⟩
  · obtain ⟨v', hv', ho, _⟩ := h.queue
    rw [hv] at hv'; cases hv'
    have := ho.lt k hk
    omega

theorem FAt.same (h : FAt w B g mate f) (hs : ∀ k, FMine w B k → w'.heap[k]? = w.heap[k]?) : FAt w' B g mate f := by
  have hB := hs B (.inl rfl)
  have hc : ∀ i, w'.cell? ⟨B, i, none⟩ = w.cell? ⟨B, i, none⟩ := fun i => World.cell?_of_block (w := w) hB
  have hf : ∀ i, w'.frozen? ⟨B, i, none⟩ = w.frozen? ⟨B, i, none⟩ := fun i => World.frozen?_of_block (w := w) hB
  obtain ⟨v, hv, ho, hne⟩ := h.queue
  exact ⟨fun k hk => by rw [hc]; exact h.near k hk, by rw [hc]; exact h.n, fun k hk => by rw [hc]; exact h.mate k hk, fun v x hv hx => by rw [hc]; exact h.ring v x hv hx, fun k hk => by rw [hc]; exact h.next k hk,
    fun k hk => by rw [hc]; exact h.outer k hk, fun k hk => by rw [hc]; exact h.inner k hk, ⟨v, by rw [hc]; exact hv, ownsRow_same ho fun k hk => hs k (.inr ⟨v, hv, hk⟩), hne⟩, fun i => by rw [hf]; exact h.free i⟩

theorem FAt.drewN (h : FAt w B g mate f) (n : Nat) : FAt (w.drewN n) B g mate f := h.same fun _ _ => rfl
theorem FAt.drew (h : FAt w B g mate f) : FAt w.drew B g mate f := h.same fun _ _ => rfl
theorem FAt.alloc (h : FAt w B g mate f) (o : Obj) : FAt (w.alloc o) B g mate f := h.same fun k hk => heap_alloc_lt w o k (h.mine hk).2
theorem FAt.below (h : FAt w B g mate f) (hb : Below w.heap.size w w') : FAt w' B g mate f := h.same fun k hk => hb.block k (h.mine hk).2

theorem FFr.refl (B : Nat) (w : World) : FFr B w w := ⟨rfl, rfl, rfl, Nat.le_refl _, fun _ _ _ => rfl, fun _ _ h => h⟩
theorem FFr.trans {a b c : World} (h : FFr B a b) (k : FFr B b c) : FFr B a c :=
  ⟨k.os.trans h.os, k.tape.trans h.tape, k.output.trans h.output, Nat.le_trans h.size k.size,
    fun i hi hm => (k.block i (Nat.lt_of_lt_of_le hi h.size) (fun e => hm (h.mine i hi e))).trans (h.block i hi hm),
    fun i hi hm => h.mine i hi (k.mine i (Nat.lt_of_lt_of_le hi h.size) hm)⟩
theorem FFr.of_below (h : Below w.heap.size w w') (hB : B < w.heap.size) : FFr B w w' :=
  ⟨h.os, h.tape, h.output, h.size, fun k hk _ => h.block k hk, fun _ _ hm => (FMine.same (h.block B hB)).1 hm⟩
theorem FFr.drewN {a : World} (h : FFr B a w) (n : Nat) : FFr B a (w.drewN n) := h.trans ⟨rfl, rfl, rfl, Nat.le_refl _, fun _ _ _ => rfl, fun _ _ h => h⟩

/-- One cell of the forest's block, not its queue's. -/
theorem FFr.set {a : World} (h : FFr B a w) {i : Nat} (hi : i ≠ 697) (u : Value) : FFr B a (w.setCell ⟨B, i, none⟩ u) := by
  have hm : ∀ k, FMine (w.setCell ⟨B, i, none⟩ u) B k → FMine w B k := by
    intro k hk
    unfold FMine at hk ⊢
    rw [cell_set_ne hi] at hk
    exact hk
  refine ⟨h.os, h.tape, h.output, by simpa using h.size, fun k hk hn => ?_, fun k hk hk' => h.mine k hk (hm k hk')⟩
  rw [Below.heap_setCell w _ u k (by rintro rfl; exact hn (.inl rfl))]
  exact h.block k hk hn

theorem FFr.ints (h : FFr B w w') {base : Nat} {v : Value} {l : List Nat} (hi : Ints w base v l) (hn : ∀ k, v.ownBlock = some k → ¬ FMine w B k) : Ints w' base v l := ownsRow_same hi fun k hk => h.block k (hi.lt k hk).2 (hn k hk)

theorem FAt.cellSet (h : FAt w B g mate f) {i : Nat} (hi : i ≠ 697) (u : Value) : (∀ j, j ≠ i → (w.setCell ⟨B, i, none⟩ u).cell? ⟨B, j, none⟩ = w.cell? ⟨B, j, none⟩) ∧ (∃ v, (w.setCell ⟨B, i, none⟩ u).cell? ⟨B, 697, none⟩ = some v ∧ Ints (w.setCell ⟨B, i, none⟩ u) 0 v f.queue ∧ v.ownBlock ≠ some B) ∧ ∀ j, (w.setCell ⟨B, i, none⟩ u).frozen? ⟨B, j, none⟩ = false := by
  obtain ⟨v, hv, ho, hne⟩ := h.queue
  refine ⟨fun j hj => cell_set_ne (fun e => hj e.symm) u, ⟨v, by rw [cell_set_ne hi]; exact hv, ownsRow_setCell_other ho hne u, hne⟩, fun j => by rw [World.frozen?_setCell]; exact h.free j⟩

theorem FAt.setOuter (h : FAt w B g mate f) {u : Nat} (hu : u < 24) (b : Bool) : FAt (w.setCell ⟨B, 649 + u, none⟩ (.bool b)) B g mate { f with outer := setAt f.outer u b } := by
  obtain ⟨hc, hq, hf⟩ := h.cellSet (i := 649 + u) (by omega) (.bool b)
  refine ⟨fun k hk => by rw [hc _ (by omega)]; exact h.near k hk, by rw [hc _ (by omega)]; exact h.n, fun k hk => by rw [hc _ (by omega)]; exact h.mate k hk, fun v x hv hx => by rw [hc _ (by omega)]; exact h.ring v x hv hx, fun k hk => by rw [hc _ (by omega)]; exact h.next k hk, ?_, fun k hk => by rw [hc _ (by omega)]; exact h.inner k hk, hq, hf⟩
  intro k hk
  by_cases e : k = u
  · subst e
    rw [World.cell?_setCell_same w _ _ (h.outer k hk)]
    simp [setAt]
  · rw [hc _ (by omega)]
    simp only [setAt, if_neg e]
    exact h.outer k hk

theorem FAt.setInner (h : FAt w B g mate f) {u : Nat} (hu : u < 24) (b : Bool) : FAt (w.setCell ⟨B, 673 + u, none⟩ (.bool b)) B g mate { f with inner := setAt f.inner u b } := by
  obtain ⟨hc, hq, hf⟩ := h.cellSet (i := 673 + u) (by omega) (.bool b)
  refine ⟨fun k hk => by rw [hc _ (by omega)]; exact h.near k hk, by rw [hc _ (by omega)]; exact h.n, fun k hk => by rw [hc _ (by omega)]; exact h.mate k hk, fun v x hv hx => by rw [hc _ (by omega)]; exact h.ring v x hv hx, fun k hk => by rw [hc _ (by omega)]; exact h.next k hk, fun k hk => by rw [hc _ (by omega)]; exact h.outer k hk, ?_, hq, hf⟩
  intro k hk
  by_cases e : k = u
  · subst e
    rw [World.cell?_setCell_same w _ _ (h.inner k hk)]
    simp [setAt]
  · rw [hc _ (by omega)]
    simp only [setAt, if_neg e]
    exact h.inner k hk

theorem FAt.setNext (h : FAt w B g mate f) {u : Nat} (hu : u < 24) (b : Nat) : FAt (w.setCell ⟨B, 625 + u, none⟩ (.int .i64 b)) B g mate { f with next := setAt f.next u b } := by
  obtain ⟨hc, hq, hf⟩ := h.cellSet (i := 625 + u) (by omega) (.int .i64 b)
  refine ⟨fun k hk => by rw [hc _ (by omega)]; exact h.near k hk, by rw [hc _ (by omega)]; exact h.n, fun k hk => by rw [hc _ (by omega)]; exact h.mate k hk, fun v x hv hx => by rw [hc _ (by omega)]; exact h.ring v x hv hx, ?_, fun k hk => by rw [hc _ (by omega)]; exact h.outer k hk, fun k hk => by rw [hc _ (by omega)]; exact h.inner k hk, hq, hf⟩
  intro k hk
  by_cases e : k = u
  · subst e
    rw [World.cell?_setCell_same w _ _ (h.next k hk)]
    simp [setAt]
  · rw [hc _ (by omega)]
    simp only [setAt, if_neg e]
    exact h.next k hk
end
section
variable {w w' : World} {B : Nat} {g : Gr} {mate : Nat → Option Nat} {f : Fo}
theorem cells1 (w : World) (x : Value) (t : TypeId) : ∀ j u, [x][j]? = some u → (w.alloc (.cells #[x] t)).cell? ((⟨w.heap.size, 0, none⟩ : Addr).add j) = some u := by
  intro j u hj
  have hadd : (⟨w.heap.size, 0, none⟩ : Addr).add j = ⟨w.heap.size, j, none⟩ := by unfold Addr.add; split <;> simp_all
  rw [hadd, World.cell?_alloc_new]
  simpa using hj
theorem cells2 (w : World) (x y : Value) (t : TypeId) : ∀ j u, [x, y][j]? = some u → (w.alloc (.cells #[x, y] t)).cell? ((⟨w.heap.size, 0, none⟩ : Addr).add j) = some u := by
  intro j u hj
  have hadd : (⟨w.heap.size, 0, none⟩ : Addr).add j = ⟨w.heap.size, j, none⟩ := by unfold Addr.add; split <;> simp_all
  rw [hadd, World.cell?_alloc_new]
  simpa using hj

/-- The queue made longer. -/
theorem FAt.queued {w2 : World} (h : FAt w B g mate f) {qv : Value} (hq : w.cell? ⟨B, 697, none⟩ = some qv) (l : List Nat) (v' : Value) (ho : Ints w2 0 v' l) (hg : w.grownBy w2 qv.ownBlock) (hk : ∀ k, v'.ownBlock = some k → qv.ownBlock = some k ∨ w.heap.size ≤ k) :
    FAt (w2.setCell ⟨B, 697, none⟩ v') B g mate { f with queue := l } ∧ FFr B w (w2.setCell ⟨B, 697, none⟩ v') := by
  obtain ⟨v, hv, oq, hne⟩ := h.queue
  rw [hq] at hv
  cases hv
  have hlt := h.lt
  have hne' : v'.ownBlock ≠ some B := fun e => by
    rcases hk B e with e | e
    · exact hne e
    · omega
  have hB : w2.heap[B]? = w.heap[B]? := hg.block B h.lt (fun e => hne e.symm)
  have hc : ∀ i, w2.cell? ⟨B, i, none⟩ = w.cell? ⟨B, i, none⟩ := fun i => World.cell?_of_block (w := w) hB
  have hf : ∀ i, w2.frozen? ⟨B, i, none⟩ = w.frozen? ⟨B, i, none⟩ := fun i => World.frozen?_of_block (w := w) hB
  have e : ∀ i, i ≠ 697 → (w2.setCell ⟨B, 697, none⟩ v').cell? ⟨B, i, none⟩ = w.cell? ⟨B, i, none⟩ := fun i hi => by rw [cell_set_ne (fun e => hi e.symm), hc]
  have h697 : (w2.setCell ⟨B, 697, none⟩ v').cell? ⟨B, 697, none⟩ = some v' := World.cell?_setCell_same w2 _ _ (by rw [hc]; exact hq)
  refine ⟨⟨fun k hk => by rw [e _ (by omega)]; exact h.near k hk, by rw [e _ (by omega)]; exact h.n, fun k hk => by rw [e _ (by omega)]; exact h.mate k hk, fun v x hv hx => by rw [e _ (by omega)]; exact h.ring v x hv hx, fun k hk => by rw [e _ (by omega)]; exact h.next k hk, fun k hk => by rw [e _ (by omega)]; exact h.outer k hk,
    fun k hk => by rw [e _ (by omega)]; exact h.inner k hk, ⟨v', h697, ownsRow_setCell_other ho hne' _, hne'⟩, fun i => by rw [World.frozen?_setCell, hf]; exact h.free i⟩, ⟨hg.os, hg.tape, hg.output, by simpa using hg.size, ?_, ?_⟩⟩
  · intro k hk hm
    rw [Below.heap_setCell w2 _ _ k (by rintro rfl; exact hm (.inl rfl))]
    exact hg.block k hk (fun e => hm (.inr ⟨qv, hq, e.symm⟩))
  · intro k hk hm
    rcases hm with rfl | ⟨v, hv1, hv2⟩
    · exact .inl rfl
    · rw [h697] at hv1
      cases hv1
      rcases (‹∀ k, v'.ownBlock = some k → qv.ownBlock = some k ∨ w.heap.size ≤ k›) k hv2 with e | e
      · exact .inr ⟨qv, hq, e⟩
      · omega

set_option maxHeartbeats 1000000 in
theorem reach_any (h : FAt w B g mate f) {v : Nat} (hv : v < 24) (hn : f.queue.length ≤ 1000) :
    Calls Tryz.prog 63 #[.pointer (some ⟨B, 0, none⟩), .int .i64 v] w fun e w' => e = .returned (.tuple #[]) ∧ FAt w' B g mate { f with outer := setAt f.outer v true, queue := f.queue ++ [v] } ∧ FFr B w w' := by
  obtain ⟨i0, hi, hz0, hz1, hz2⟩ := info_parts Tryz.infoInt
  have v24 : (v : Int) < 24 := by omega
  have co := h.outer v hv
  have fo := h.free (649 + v)
  have HF : Hid (FAt (w.setCell ⟨B, 649 + v, none⟩ (.bool true)) B g mate { f with outer := setAt f.outer v true }) := h.setOuter hv true
  have HR : Hid (FFr B w (w.setCell ⟨B, 649 + v, none⟩ (.bool true))) := (FFr.refl B w).set (by omega) _
  have hB := h.lt
  go_enter Tryz.func63, Tryz.ntmps63
  obtain ⟨qv, hq, oq, hqB⟩ := HF.out.queue
  have HQB : Hid (qv.ownBlock ≠ some B) := hqB
  clear h hqB
  have hq0 : w.cell? ⟨B, 697, none⟩ = some qv := by rw [← hq, cell_set_ne (by omega)]
  have HF1 : Hid (∀ ob, FAt ((w.setCell ⟨B, 649 + v, none⟩ (.bool true)).alloc ob) B g mate { f with outer := setAt f.outer v true }) := fun ob => HF.out.alloc ob
  have HQ1 : Hid (∀ ob, ((w.setCell ⟨B, 649 + v, none⟩ (.bool true)).alloc ob).cell? ⟨B, 697, none⟩ = some qv) := fun ob => by rw [World.cell?_alloc_lt _ _ _ (by simpa using hB)]; exact hq
  have HOQ : Hid (Ints (w.setCell ⟨B, 649 + v, none⟩ (.bool true)) 0 qv f.queue) := oq
  have HN1 : Hid (∀ t, ∀ j u, [Value.int .i64 (v : Int)][j]? = some u → ((w.setCell ⟨B, 649 + v, none⟩ (.bool true)).alloc (.cells #[.int .i64 (v : Int)] t)).cell? ((⟨w.heap.size, 0, none⟩ : Addr).add j) = some u) := fun t j u hj => by
    have := cells1 (w.setCell ⟨B, 649 + v, none⟩ (.bool true)) (.int .i64 (v : Int)) t j u hj
    simpa using this
  clear oq hq
  go_wp2_with (at_builtin; go_must (refine wpList_append_mine rfl (.tmp 13) (.tmp 15) 25 rfl 0 3 i0 (.int .i64 0) 1 8 Tryz.underlying25 hi hz0 hz1 hz2 rfl (by decide) qv f.queue.length (intCells f.queue) rfl (by exact HOQ.out.alloc _) ⟨w.heap.size, 0, none⟩ 1 1 [.int .i64 (v : Int)] rfl rfl (by exact HN1.out _) (by intro u hu; simp at hu; subst hu; rfl) (by unfold maxLen; omega) (by omega) (Nat.zero_le _) ?_))
  intro v' w2 ho hg hk
  have X := (HF1.out _).queued (HQ1.out _) (f.queue ++ [v]) v' (by unfold Ints; rw [List.length_append, intCells_append]; exact ho) hg (by simpa using hk)
  have hsz := hg.size
  obtain ⟨c697, f697⟩ : w2.cell? ⟨B, 697, none⟩ = some qv ∧ w2.frozen? ⟨B, 697, none⟩ = false := by
    have hb : w2.heap[B]? = _ := hg.block B (by simp; omega) (fun e => HQB.out e.symm)
    exact ⟨(World.cell?_of_block (a := ⟨B, 697, none⟩) hb).trans (HQ1.out _), (World.frozen?_of_block (a := ⟨B, 697, none⟩) hb).trans ((HF1.out _).free 697)⟩
  obtain ⟨ao, cap, hv'⟩ := ownsRow_shape ho
  subst hv'
  have HX : Hid _ := X
  have HFR : Hid (∀ ob, FFr B w ((w.setCell ⟨B, 649 + v, none⟩ (.bool true)).alloc ob)) := fun ob => HR.out.trans (FFr.of_below ((Below.refl _ _).alloc (Nat.le_refl _) _) HF.out.lt)
  clear X ho hg hk
  go_wp2_with fail
  go_end0
  exact ⟨rfl, HX.out.1, (HFR.out _).trans HX.out.2⟩

set_option maxHeartbeats 1000000 in
theorem take_any (h : FAt w B g mate f) {v w0 u : Nat} (hw : w0 < 24) (hm : mate w0 = some u) (hu : u < 24) (hn : f.queue.length ≤ 1000) :
    Calls Tryz.prog 86 #[.pointer (some ⟨B, 0, none⟩), .int .i64 v, .int .i64 w0] w fun e w' => e = .returned (.tuple #[]) ∧ FAt w' B g mate (taken f v w0 u) ∧ FFr B w w' := by
  have w24 : (w0 : Int) < 24 := by omega
  have ci := h.inner w0 hw
  have fi := h.free (673 + w0)
  have F1 := h.setInner hw true
  have cn : (w.setCell ⟨B, 673 + w0, none⟩ (.bool true)).cell? ⟨B, 625 + w0, none⟩ = some (.int .i64 (f.next w0)) := F1.next w0 hw
  have cn0 := h.next w0 hw
  have fn := h.free (625 + w0)
  have F2 := F1.setNext hw v
  have cm0 := h.mate w0 hw
  rw [hm] at cm0
  simp only [mi] at cm0
  have RC := reach_any F2 hu hn
  have HFR : Hid (FFr B w ((w.setCell ⟨B, 673 + w0, none⟩ (.bool true)).setCell ⟨B, 625 + w0, none⟩ (.int .i64 v))) := ((FFr.refl B w).set (by omega) _).set (by omega) _
  have hB := h.lt
  clear h F1 F2 cn
  go_enter Tryz.func86, Tryz.ntmps86
  go_wp2_with fail
  refine RC.mono ?_
  rintro e w2 ⟨rfl, hF, hf⟩
  go_wp2_with fail
  go_end0
  exact ⟨rfl, hF, HFR.out.trans hf⟩

theorem bit_u32 (m b : Nat) (hm : m < 4294967296) : (bits .and .u32 ((m : Int) / 2 ^ b) 1 == 1) = m.testBit b := by
  have h1 : ((m : Int) / 2 ^ b) = ((m / 2 ^ b : Nat) : Int) := by simp
  have h2 : m / 2 ^ b < 4294967296 := Nat.lt_of_le_of_lt (Nat.div_le_self _ _) hm
  rw [h1, show (1 : Int) = ((1 : Nat) : Int) from rfl, u32_and_nat _ 1 h2 (by decide)]
  rw [Nat.testBit_eq_decide_div_mod_eq, Nat.and_one_is_mod]
  rw [Bool.eq_iff_iff]
  simp
  omega

set_option maxHeartbeats 1000000 in
theorem joined_any (h : FAt w B g mate f) {a b : Nat} (ha : a < 24) (hb : b < 24) :
    Calls Tryz.prog 64 #[.pointer (some ⟨B, 0, none⟩), .int .i64 a, .int .i64 b] w fun e w' => e = .returned (.bool (g.adj a b)) ∧ w' = w := by
  obtain ⟨m, ca, hm, ta⟩ := h.near a ha
  have a24 : (a : Int) < 24 := by omega
  have b24 : (b : Int) < 24 := by omega
  rw [← ta b hb]
  have hbt := bit_u32 m b hm
  have HB : Hid _ := hbt
  clear hbt ta
  go_enter Tryz.func64, Tryz.ntmps64
  go_wp2
  go_ret
  exact ⟨ret_bool HB.out, rfl⟩
end
end Go.Proofs.YtcabaecbmkgclaaGreatDoor.Mg
