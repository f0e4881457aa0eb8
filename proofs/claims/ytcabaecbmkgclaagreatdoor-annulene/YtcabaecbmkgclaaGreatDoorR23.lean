/-
  Matchings, with odd rings contracted, said on numbers and lists alone: what stands while a search grows, and that it goes on standing.
  An odd ring is contracted: what stood goes on standing.
  The search's steps: a vertex and its mate are taken up; an odd ring is contracted; a longer matching.
-/
namespace Go.Proofs.YtcabaecbmkgclaaGreatDoor.Mt
structure Gr where
  n : Nat
  adj : Nat → Nat → Bool

structure GrOk (g : Gr) : Prop where
  n24 : g.n ≤ 24
  lt : ∀ a b, g.adj a b = true → a < g.n ∧ b < g.n
  sym : ∀ a b, g.adj a b = true → g.adj b a = true
  irr : ∀ a, g.adj a a = false

structure MtOk (g : Gr) (mate : Nat → Option Nat) : Prop where
  adj : ∀ a b, mate a = some b → g.adj a b = true
  back : ∀ a b, mate a = some b → mate b = some a

/-- What a search has reached. -/
structure Fo where
  ring : Nat → Nat → Bool
  next : Nat → Nat
  outer : Nat → Bool
  inner : Nat → Bool
  queue : List Nat

/-- By turns a pair and an edge, up to t. -/
def Alt (g : Gr) (mate : Nat → Option Nat) (next : Nat → Nat) (t : Nat) : List Nat → Prop
  | [] => False
  | [x] => x = t
  | x :: m :: l => mate x = some m ∧ g.adj m (next m) = true ∧ l.head? = some (next m) ∧ Alt g mate next t l

def Pairs (mate : Nat → Option Nat) : List Nat → Prop
  | [] => True
  | [_] => False
  | x :: m :: l => mate x = some m ∧ Pairs mate l

def EvO (outer : Nat → Bool) : List Nat → Prop
  | [] => True
  | [x] => outer x = true
  | x :: _ :: l => outer x = true ∧ EvO outer l

/-- What is kept in mind beside: each ring's base, its level, its tree. -/
structure Gh where
  base : Nat → Nat
  lev : Nat → Nat
  root : Nat → Nat

structure Inv (g : Gr) (mate : Nat → Option Nat) (f : Fo) (h : Gh) : Prop where
  olt : ∀ v, f.outer v = true → v < g.n
  ilt : ∀ v, f.inner v = true → v < g.n
  self : ∀ v, v < 24 → f.ring v v = true
  rlt : ∀ v x, f.ring v x = true → v < 24 ∧ x < 24
  same : ∀ v x, f.ring v x = true → f.ring x = f.ring v
  single : ∀ v x, f.outer v = false → f.ring v x = true → x = v
  rout : ∀ v x, f.outer v = true → f.ring v x = true → f.outer x = true
  base : ∀ v, f.outer v = true → f.ring v (h.base v) = true
  baseC : ∀ v x, f.outer v = true → f.ring v x = true → h.base x = h.base v ∧ h.lev x = h.lev v ∧ h.root x = h.root v
  seg : ∀ v, f.outer v = true → ∃ s, s.head? = some v ∧ Alt g mate f.next (h.base v) s ∧ (∀ x ∈ s, f.ring v x = true) ∧ s.Nodup
  up : ∀ b m, f.outer b = true → h.base b = b → mate b = some m → f.inner m = true ∧ f.outer m = false ∧ g.adj m (f.next m) = true ∧ f.outer (f.next m) = true ∧ h.lev (f.next m) < h.lev b ∧ h.root (f.next m) = h.root b
  inn : ∀ m, f.inner m = true → f.outer m = false → ∃ b, mate m = some b ∧ f.outer b = true ∧ h.base b = b
  rootO : ∀ v, v < g.n → mate v = none → f.outer v = true ∧ h.base v = v ∧ h.root v = v
  q : ∀ v, v ∈ f.queue ↔ f.outer v = true
  qn : f.queue.Nodup

section
variable {g : Gr} {mate : Nat → Option Nat} {next : Nat → Nat} {t : Nat}
theorem Alt.ne {l : List Nat} (h : Alt g mate next t l) : l ≠ [] := by
  rintro rfl
  exact h

theorem Alt.append : ∀ {s : List Nat} {b m : Nat} {l : List Nat}, Alt g mate next b s → mate b = some m → g.adj m (next m) = true → l.head? = some (next m) → Alt g mate next t l → Alt g mate next t (s ++ m :: l)
  | [x], b, m, l, h, hb, ha, hl, hr => by
    have : x = b := h
    subst this
    exact ⟨hb, ha, hl, hr⟩
  | x :: y :: s, b, m, l, h, hb, ha, hl, hr => by
    obtain ⟨h1, h2, h3, h4⟩ := h
    refine ⟨h1, h2, ?_, Alt.append h4 hb ha hl hr⟩
    cases s with
    | nil => cases h3
    | cons z s => exact h3

/-- The last of it. -/
theorem Alt.mem : ∀ {s : List Nat}, Alt g mate next t s → t ∈ s
  | [x], h => by have : x = t := h; subst this; simp
  | _ :: _ :: s, h => by
    have := Alt.mem h.2.2.2
    simp [this]

theorem Alt.unique {t' : Nat} (ht : mate t = none) (ht' : mate t' = none) : ∀ {l l' : List Nat}, Alt g mate next t l → Alt g mate next t' l' → l.head? = l'.head? → l = l'
  | [x], [y], _, _, e => by simpa using e
  | [x], y :: m :: l', h, h', e => by
    have hx : x = t := h
    simp at e
    have k := h'.1
    rw [← e, hx, ht] at k
    cases k
  | x :: m :: l, [y], h, h', e => by
    have hy : y = t' := h'
    simp at e
    have k := h.1
    rw [e, hy, ht'] at k
    cases k
  | x :: m :: l, y :: m' :: l', h, h', e => by
    simp at e
    subst e
    obtain ⟨h1, h2, h3, h4⟩ := h
    obtain ⟨k1, k2, k3, k4⟩ := h'
    rw [h1] at k1
    cases k1
    rw [Alt.unique ht ht' h4 k4 (h3.trans k3.symm)]

theorem Alt.evo {outer : Nat → Bool} : ∀ {s : List Nat}, Alt g mate next t s → (∀ x ∈ s, outer x = true) → EvO outer s
  | [x], _, h => h x (by simp)
  | x :: m :: s, ha, h => ⟨h x (by simp), Alt.evo ha.2.2.2 fun y hy => h y (by simp [hy])⟩

theorem EvO.append {outer : Nat → Bool} : ∀ {s : List Nat} {m : Nat} {l : List Nat} {b : Nat}, Alt g mate next b s → EvO outer s → EvO outer l → EvO outer (s ++ m :: l)
  | [_], _, _, _, _, h, k => ⟨h, k⟩
  | _ :: _ :: _, _, _, _, ha, h, k => ⟨h.1, EvO.append ha.2.2.2 h.2 k⟩

theorem Alt.pairs : ∀ {s : List Nat} {b m : Nat} {l : List Nat}, Alt g mate next b s → mate b = some m → Pairs mate l → Pairs mate (s ++ m :: l)
  | [x], b, m, l, h, hb, hl => by
    have : x = b := h
    subst this
    exact ⟨hb, hl⟩
  | _ :: _ :: _, _, _, _, h, hb, hl => ⟨h.1, Alt.pairs h.2.2.2 hb hl⟩

theorem Pairs.closed (back : ∀ a b, mate a = some b → mate b = some a) : ∀ {l : List Nat}, Pairs mate l → ∀ x ∈ l, ∃ y ∈ l, mate x = some y
  | [], _, x, hx => by cases hx
  | a :: m :: l, h, x, hx => by
    rcases List.mem_cons.1 hx with rfl | hx
    · exact ⟨m, by simp, h.1⟩
    rcases List.mem_cons.1 hx with rfl | hx
    · exact ⟨a, by simp, back _ _ h.1⟩
    · obtain ⟨y, hy, e⟩ := Pairs.closed back h.2 x hx
      exact ⟨y, by simp [hy], e⟩

/-- What is not outer stands behind its mate. -/
theorem EvO.before {outer : Nat → Bool} (back : ∀ a b, mate a = some b → mate b = some a) : ∀ {l : List Nat} {pre post : List Nat} {x : Nat}, Alt g mate next t l → EvO outer l → l = pre ++ x :: post → outer x = false → ∃ b ∈ pre, mate x = some b
  | [a], pre, post, x, _, ho, e, hx => by
    cases pre with
    | nil =>
      simp at e
      rw [← e.1] at hx
      have : outer a = true := ho
      rw [this] at hx
      cases hx
    | cons p pre => simp at e
  | a :: m :: l, pre, post, x, ha, ho, e, hx => by
    match pre, e with
    | [], e =>
      simp at e
      rw [← e.1] at hx
      rw [ho.1] at hx
      cases hx
    | [p], e =>
      simp at e
      obtain ⟨rfl, rfl, _⟩ := e
      exact ⟨_, by simp, back _ _ ha.1⟩
    | p :: p' :: pre, e =>
      simp at e
      obtain ⟨rfl, rfl, e⟩ := e
      obtain ⟨b, hb, hm⟩ := EvO.before back ha.2.2.2 ho.2 e hx
      exact ⟨b, by simp [hb], hm⟩
end
section
variable {g : Gr} {mate : Nat → Option Nat} {f : Fo} {h : Gh}
/-- Where what stands on a route belongs. -/
def Lab (mate : Nat → Option Nat) (f : Fo) (h : Gh) (v y : Nat) : Prop :=
  (f.outer y = true ∧ h.lev y ≤ h.lev v ∧ h.root y = h.root v) ∨ (f.outer y = false ∧ ∃ b, mate y = some b ∧ f.outer b = true ∧ h.base b = b ∧ h.lev b ≤ h.lev v ∧ h.root b = h.root v)

/-- The route from an outer vertex to its root. -/
structure Rt (g : Gr) (mate : Nat → Option Nat) (f : Fo) (h : Gh) (v : Nat) (l : List Nat) : Prop where
  head : l.head? = some v
  alt : Alt g mate f.next (h.root v) l
  nodup : l.Nodup
  free : mate (h.root v) = none
  lab : ∀ y ∈ l, Lab mate f h v y
  evo : EvO f.outer l

theorem Inv.baseB (I : Inv g mate f h) {v : Nat} (hv : f.outer v = true) : f.outer (h.base v) = true ∧ h.base (h.base v) = h.base v ∧ h.lev (h.base v) = h.lev v ∧ h.root (h.base v) = h.root v :=
  ⟨I.rout v _ hv (I.base v hv), I.baseC v _ hv (I.base v hv)⟩

theorem Lab.up {v u y : Nat} (hl : h.lev u ≤ h.lev v) (hr : h.root u = h.root v) (k : Lab mate f h u y) : Lab mate f h v y := by
  rcases k with ⟨a, b, c⟩ | ⟨a, b, c, d, e, e2, e3⟩
  · exact .inl ⟨a, by omega, by omega⟩
  · exact .inr ⟨a, b, c, d, e, by omega, by omega⟩

/-- A route is the way through its first ring, and what comes behind. -/
theorem Rt.ring (M : MtOk g mate) (I : Inv g mate f h) {v : Nat} (hv : f.outer v = true) {s : List Nat} (h1 : s.head? = some v) (h2 : Alt g mate f.next (h.base v) s) (h3 : ∀ x ∈ s, f.ring v x = true) (h4 : s.Nodup) {m : Nat} (hm : mate (h.base v) = some m) {l : List Nat} (r : Rt g mate f h (f.next m) l) :
    Rt g mate f h v (s ++ m :: l) := by
  obtain ⟨b1, b2, b3, b4⟩ := I.baseB hv
  obtain ⟨u1, u2, u3, u4, u5, u6⟩ := I.up _ _ b1 b2 hm
  have hroot : h.root (f.next m) = h.root v := u6.trans b4
  have hlev : h.lev (f.next m) < h.lev v := by omega
  have hsl : ∀ x ∈ s, f.outer x = true ∧ h.lev x = h.lev v ∧ h.root x = h.root v := fun x hx => ⟨I.rout v x hv (h3 x hx), (I.baseC v x hv (h3 x hx)).2⟩
  have hml : ∀ y ∈ l, f.outer y = true → h.lev y < h.lev v := by
    intro y hy ho
    rcases r.lab y hy with ⟨_, k, _⟩ | ⟨k, _⟩
    · omega
    · rw [ho] at k; cases k
  refine ⟨?_, ?_, ?_, ?_, ?_, ?_⟩
  · cases s with
    | nil => cases h1
    | cons a s => exact h1
  · rw [← hroot]; exact Alt.append h2 hm u3 r.head r.alt
  · rw [List.nodup_append]
    refine ⟨h4, ?_, ?_⟩
    · rw [List.nodup_cons]
      refine ⟨?_, r.nodup⟩
      intro hml2
      rcases r.lab m hml2 with ⟨k, _⟩ | ⟨_, b, k1, _, _, k4, _⟩
      · rw [u2] at k; cases k
      · rw [M.back _ _ hm] at k1
        cases k1
        omega
    · intro a ha b hb
      rcases List.mem_cons.1 hb with rfl | hb
      · rintro rfl
        have := (hsl _ ha).1
        rw [u2] at this
        cases this
      · rintro rfl
        have k1 := hsl _ ha
        have k2 := hml _ hb k1.1
        omega
  · rw [← hroot]; exact r.free
  · intro y hy
    rcases List.mem_append.1 hy with hy | hy
    · have k := hsl y hy
      exact .inl ⟨k.1, by omega, k.2.2⟩
    · rcases List.mem_cons.1 hy with rfl | hy
      · exact .inr ⟨u2, h.base v, M.back _ _ hm, b1, b2, by omega, b4⟩
      · exact (r.lab y hy).up (by omega) hroot
  · exact EvO.append h2 (h2.evo fun x hx => (hsl x hx).1) r.evo

theorem Rt.last (I : Inv g mate f h) {v : Nat} (hv : f.outer v = true) {s : List Nat} (h1 : s.head? = some v) (h2 : Alt g mate f.next (h.base v) s) (h3 : ∀ x ∈ s, f.ring v x = true) (h4 : s.Nodup) (hm : mate (h.base v) = none) : Rt g mate f h v s := by
  obtain ⟨b1, b2, b3, b4⟩ := I.baseB hv
  have k := (I.rootO _ (I.olt _ b1) hm).2.2
  have hroot : h.root v = h.base v := by rw [← b4]; exact k
  have hsl : ∀ x ∈ s, f.outer x = true ∧ h.lev x = h.lev v ∧ h.root x = h.root v := fun x hx => ⟨I.rout v x hv (h3 x hx), (I.baseC v x hv (h3 x hx)).2⟩
  exact ⟨h1, by rw [hroot]; exact h2, h4, by rw [hroot]; exact hm, fun y hy => .inl ⟨(hsl y hy).1, by have := (hsl y hy).2.1; omega, (hsl y hy).2.2⟩, h2.evo fun x hx => (hsl x hx).1⟩

theorem route_ex (M : MtOk g mate) (I : Inv g mate f h) : ∀ k v, f.outer v = true → h.lev v < k → ∃ l, Rt g mate f h v l
  | 0, _, _, hk => absurd hk (Nat.not_lt_zero _)
  | k + 1, v, hv, hk => by
    obtain ⟨s, h1, h2, h3, h4⟩ := I.seg v hv
    obtain ⟨b1, b2, b3, b4⟩ := I.baseB hv
    cases hm : mate (h.base v) with
    | none => exact ⟨s, Rt.last I hv h1 h2 h3 h4 hm⟩
    | some m =>
      obtain ⟨u1, u2, u3, u4, u5, u6⟩ := I.up _ _ b1 b2 hm
      obtain ⟨l, r⟩ := route_ex M I k _ u4 (by omega)
      exact ⟨_, Rt.ring M I hv h1 h2 h3 h4 hm r⟩

theorem Inv.route (M : MtOk g mate) (I : Inv g mate f h) {v : Nat} (hv : f.outer v = true) : ∃ l, Rt g mate f h v l := route_ex M I (h.lev v + 1) v hv (by omega)

theorem Rt.unique {v : Nat} {l l' : List Nat} (r : Rt g mate f h v l) (r' : Rt g mate f h v l') : l = l' := Alt.unique r.free r'.free r.alt r'.alt (r.head.trans r'.head.symm)

/-- A route up to a ring T on it. -/
structure Climb (g : Gr) (mate : Nat → Option Nat) (f : Fo) (h : Gh) (T : Nat → Bool) (v : Nat) (L : List Nat) (e : Nat) (R : List Nat) : Prop where
  rt : Rt g mate f h v (L ++ e :: R)
  ring : f.ring e = T
  eo : f.outer e = true
  er : Rt g mate f h e (e :: R)
  out : ∀ x ∈ L, f.ring x ≠ T
  pairs : Pairs mate L
  base : ∀ x ∈ L, f.outer x = true → h.base x ∈ L
  lev : h.lev e ≤ h.lev v
  levs : ∀ x ∈ L, f.outer x = true → h.lev e ≤ h.lev x

theorem climb_ex (G : GrOk g) (M : MtOk g mate) (I : Inv g mate f h) (T : Nat → Bool) : ∀ k v l, f.outer v = true → h.lev v < k → Rt g mate f h v l → (∃ y ∈ l, f.outer y = true ∧ f.ring y = T) → ∃ L e R, Climb g mate f h T v L e R
  | 0, _, _, _, hk, _, _ => absurd hk (Nat.not_lt_zero _)
  | k + 1, v, l, hv, hk, r, ⟨y, hy, hyo, hyT⟩ => by
    by_cases hT : f.ring v = T
    · cases l with
      | nil => exact absurd r.head (by simp)
      | cons a R =>
        have : a = v := by simpa using r.head
        subst this
        exact ⟨[], a, R, ⟨r, hT, hv, r, by simp, trivial, by simp, Nat.le_refl _, by simp⟩⟩
    · obtain ⟨s, h1, h2, h3, h4⟩ := I.seg v hv
      obtain ⟨b1, b2, b3, b4⟩ := I.baseB hv
      have hsT : ∀ x ∈ s, f.ring x ≠ T := fun x hx e => hT (by rw [← I.same v x (h3 x hx)]; exact e)
      cases hm : mate (h.base v) with
      | none =>
        have e := r.unique (Rt.last I hv h1 h2 h3 h4 hm)
        subst e
        exact absurd hyT (hsT y hy)
      | some m =>
        obtain ⟨u1, u2, u3, u4, u5, u6⟩ := I.up _ _ b1 b2 hm
        obtain ⟨l', r'⟩ := route_ex M I k _ u4 (by omega)
        have hr := Rt.ring M I hv h1 h2 h3 h4 hm r'
        have e := r.unique hr
        subst e
        have hy' : y ∈ l' := by
          rcases List.mem_append.1 hy with hy | hy
          · exact absurd hyT (hsT y hy)
          · rcases List.mem_cons.1 hy with rfl | hy
            · rw [u2] at hyo; cases hyo
            · exact hy
        obtain ⟨L, e, R, c⟩ := climb_ex G M I T k _ l' u4 (by omega) r' ⟨y, hy', hyo, hyT⟩
        have e2 := r'.unique c.rt
        subst e2
        refine ⟨s ++ m :: L, e, R, ⟨by simpa using hr, c.ring, c.eo, c.er, ?_, Alt.pairs h2 hm c.pairs, ?_, by have := c.lev; omega, ?_⟩⟩
        · intro x hx
          rcases List.mem_append.1 hx with hx | hx
          · exact hsT x hx
          · rcases List.mem_cons.1 hx with rfl | hx
            · intro e
              have hx24 := I.ilt _ u1
              have k1 : f.ring y x = true := by rw [hyT, ← e]; exact I.self x (by have := G.n24; omega)
              have := I.rout y x hyo k1
              rw [u2] at this
              cases this
            · exact c.out x hx
        · intro x hx hxo
          rcases List.mem_append.1 hx with hx | hx
          · rw [(I.baseC v x hv (h3 x hx)).1]
            exact List.mem_append_left _ h2.mem
          · rcases List.mem_cons.1 hx with rfl | hx
            · rw [u2] at hxo; cases hxo
            · exact List.mem_append_right _ (List.mem_cons_of_mem _ (c.base x hx hxo))
        · intro x hx hxo
          rcases List.mem_append.1 hx with hx | hx
          · have k := (I.baseC v x hv (h3 x hx)).2.1
            have := c.lev
            omega
          · rcases List.mem_cons.1 hx with rfl | hx
            · rw [u2] at hxo; cases hxo
            · exact c.levs x hx hxo
end
def setAt {α : Type} (f : Nat → α) (k : Nat) (v : α) : Nat → α := fun x => if x = k then v else f x

/-- Routes that come to one side of a ring from a mate go back down that side. -/
def turn (next : Nat → Nat) : List Nat → Nat → (Nat → Nat)
  | x :: m :: l, b => turn (setAt next x b) l m
  | [_], _ => next
  | [], _ => next

def Turned (N : Nat → Nat) : List Nat → Nat → Prop
  | x :: m :: l, b => N x = b ∧ Turned N l m
  | [_], _ => True
  | [], _ => True

def Edges (g : Gr) : List Nat → Nat → Prop
  | x :: m :: l, b => g.adj x b = true ∧ Edges g l m
  | [_], _ => True
  | [], _ => True

def OddIn : List Nat → Nat → Prop
  | _ :: m :: l, y => y = m ∨ OddIn l y
  | [_], _ => False
  | [], _ => False

def EvenIn : List Nat → Nat → Prop
  | x :: _ :: l, y => y = x ∨ EvenIn l y
  | [x], y => y = x
  | [], _ => False

theorem oddIn_mem : ∀ {l : List Nat} {y : Nat}, OddIn l y → y ∈ l
  | _ :: m :: l, y, h => by
    rcases h with rfl | h
    · simp
    · simp [oddIn_mem h]
theorem evenIn_mem : ∀ {l : List Nat} {y : Nat}, EvenIn l y → y ∈ l
  | [x], y, h => by have : y = x := h; simp [this]
  | x :: m :: l, y, h => by
    rcases h with rfl | h
    · simp
    · simp [evenIn_mem h]
theorem mem_even_or_odd : ∀ {l : List Nat} {y : Nat}, y ∈ l → EvenIn l y ∨ OddIn l y
  | [x], y, h => by simp at h; exact .inl h
  | x :: m :: l, y, h => by
    rcases List.mem_cons.1 h with rfl | h
    · exact .inl (.inl rfl)
    rcases List.mem_cons.1 h with rfl | h
    · exact .inr (.inl rfl)
    · rcases mem_even_or_odd h with h | h
      · exact .inl (.inr h)
      · exact .inr (.inr h)

theorem odd_not_even : ∀ {l : List Nat} {y : Nat}, l.Nodup → OddIn l y → ¬ EvenIn l y
  | x :: m :: l, y, hn, ho, he => by
    simp only [List.nodup_cons, List.mem_cons, not_or] at hn
    rcases ho with rfl | ho
    · rcases he with rfl | he
      · exact hn.1.1 rfl
      · exact hn.2.1 (evenIn_mem he)
    · rcases he with rfl | he
      · exact hn.1.2 (oddIn_mem ho)
      · exact odd_not_even hn.2.2 ho he

theorem turn_other : ∀ {l : List Nat} {next : Nat → Nat} {b y : Nat}, ¬ EvenIn l y → turn next l b y = next y
  | [], _, _, _, _ => rfl
  | [_], _, _, _, _ => rfl
  | x :: m :: l, next, b, y, h => by
    have h1 : ¬ y = x := fun e => h (.inl e)
    have h2 : ¬ EvenIn l y := fun e => h (.inr e)
    show turn (setAt next x b) l m y = next y
    rw [turn_other h2, setAt, if_neg h1]

theorem turned_congr : ∀ {l : List Nat} {N N' : Nat → Nat} {b : Nat}, Turned N l b → (∀ y, y ∈ l → N' y = N y) → Turned N' l b
  | [], _, _, _, _, _ => trivial
  | [_], _, _, _, _, _ => trivial
  | x :: m :: l, N, N', b, h, hc => ⟨(hc x (by simp)).trans h.1, turned_congr h.2 fun y hy => hc y (by simp [hy])⟩

theorem turn_turned : ∀ {l : List Nat} {next : Nat → Nat} {b : Nat}, l.Nodup → Turned (turn next l b) l b
  | [], _, _, _ => trivial
  | [_], _, _, _ => trivial
  | x :: m :: l, next, b, hn => by
    simp only [List.nodup_cons, List.mem_cons, not_or] at hn
    refine ⟨?_, turn_turned hn.2.2⟩
    show turn (setAt next x b) l m x = b
    rw [turn_other (fun e => hn.1.2 (evenIn_mem e)), setAt, if_pos rfl]

section
variable {g : Gr} {mate : Nat → Option Nat} {next N : Nat → Nat} {t : Nat}
theorem Alt.congr : ∀ {l : List Nat}, Alt g mate next t l → (∀ m, OddIn l m → N m = next m) → Alt g mate N t l
  | [x], h, _ => h
  | x :: m :: l, h, hc => by
    obtain ⟨h1, h2, h3, h4⟩ := h
    have e := hc m (.inl rfl)
    exact ⟨h1, by rw [e]; exact h2, by rw [e]; exact h3, Alt.congr h4 fun y hy => hc y (.inr hy)⟩

theorem oddIn_append : ∀ {L s : List Nat} {y : Nat}, Pairs mate L → OddIn (L ++ s) y → OddIn L y ∨ OddIn s y
  | [], _, _, _, h => .inr h
  | _ :: m :: L, s, y, hp, h => by
    rcases h with rfl | h
    · exact .inl (.inl rfl)
    · rcases oddIn_append hp.2 h with h | h
      · exact .inl (.inr h)
      · exact .inr h

/-- The same way up to e, and another way on from there. -/
theorem Alt.swap {r e : Nat} : ∀ {L R s : List Nat}, Alt g mate next r (L ++ e :: R) → Pairs mate L → Alt g mate next t s → s.head? = some e → Alt g mate next t (L ++ s)
  | [], _, _, _, _, h, _ => h
  | x :: m :: L, R, s, ha, hp, h, hs => by
    obtain ⟨h1, h2, h3, h4⟩ := ha
    refine ⟨h1, h2, ?_, Alt.swap h4 hp.2 h hs⟩
    cases L with
    | nil =>
      show s.head? = some (next m)
      rw [hs]; exact h3
    | cons y L => exact h3

theorem Alt.edges (G : GrOk g) {r e : Nat} : ∀ {L R : List Nat} {b : Nat}, Alt g mate next r (L ++ e :: R) → Pairs mate L → (∀ x, (L ++ e :: R).head? = some x → g.adj x b = true) → Edges g L b
  | [], _, _, _, _, _ => trivial
  | x :: m :: L, R, b, ha, hp, hb => by
    obtain ⟨h1, h2, h3, h4⟩ := ha
    refine ⟨hb x rfl, Alt.edges G h4 hp.2 fun y hy => ?_⟩
    have h3' : (L ++ e :: R).head? = some (next m) := h3
    rw [h3'] at hy
    cases hy
    exact G.sym _ _ h2

theorem fwd_ex : ∀ {L s : List Nat} {y : Nat}, Alt g mate N t (L ++ s) → Pairs mate L → (L ++ s).Nodup → EvenIn L y → ∃ l, l.head? = some y ∧ Alt g mate N t l ∧ (∀ z ∈ l, z ∈ L ++ s) ∧ l.Nodup
  | x :: m :: L, s, y, ha, hp, hn, he => by
    rcases he with rfl | he
    · exact ⟨_, rfl, ha, fun z hz => hz, hn⟩
    · have hn2 : (L ++ s).Nodup := by
        simp only [List.cons_append, List.nodup_cons] at hn
        exact hn.2.2
      obtain ⟨l, h1, h2, h3, h4⟩ := fwd_ex (L := L) ha.2.2.2 hp.2 hn2 he
      exact ⟨l, h1, h2, fun z hz => by have := h3 z hz; simp only [List.cons_append, List.mem_cons]; exact .inr (.inr this), h4⟩

theorem back_ex (back : ∀ a b, mate a = some b → mate b = some a) : ∀ {L r : List Nat} {b y : Nat}, Pairs mate L → Turned N L b → Edges g L b → L.Nodup → r.head? = some b → Alt g mate N t r → r.Nodup → (∀ x ∈ L, x ∉ r) → OddIn L y →
    ∃ l, l.head? = some y ∧ Alt g mate N t l ∧ (∀ z ∈ l, z ∈ L ∨ z ∈ r) ∧ l.Nodup
  | x :: m :: L, r, b, y, hp, ht, he, hn, hr, ha, hrn, hd, ho => by
    simp only [List.nodup_cons, List.mem_cons, not_or] at hn
    have hr2 : Alt g mate N t (m :: x :: r) := ⟨back _ _ hp.1, by rw [ht.1]; exact he.1, by rw [ht.1]; exact hr, ha⟩
    have hn2 : (m :: x :: r).Nodup := by
      simp only [List.nodup_cons, List.mem_cons, not_or]
      exact ⟨⟨fun e => hn.1.1 e.symm, hd m (by simp)⟩, hd x (by simp), hrn⟩
    rcases ho with rfl | ho
    · exact ⟨_, rfl, hr2, fun z hz => by simp only [List.mem_cons] at hz ⊢; rcases hz with h | h | h <;> simp [h], hn2⟩
    · obtain ⟨l, h1, h2, h3, h4⟩ := back_ex back hp.2 ht.2 he.2 hn.2.2 rfl hr2 hn2 (fun z hz => by
        simp only [List.mem_cons, not_or]
        exact ⟨fun e => hn.2.1 (e ▸ hz), fun e => hn.1.2 (e ▸ hz), hd z (by simp [hz])⟩) ho
      refine ⟨l, h1, h2, fun z hz => ?_, h4⟩
      rcases h3 z hz with h | h
      · exact .inl (by simp [h])
      · simp only [List.mem_cons] at h
        rcases h with h | h | h
        · exact .inl (by simp [h])
        · exact .inl (by simp [h])
        · exact .inr h

/-- From a vertex of a ring that the side passes, by its old way till it meets the side, and then by the new one. -/
theorem ring_ex (back : ∀ a b, mate a = some b → mate b = some a) {L : List Nat} (A : Nat → Prop) (O : Nat → Prop) (hcl : ∀ x ∈ L, ∃ y ∈ L, mate x = some y)
    (hside : ∀ x ∈ L, ∃ l, l.head? = some x ∧ Alt g mate N t l ∧ (∀ z ∈ l, z ∈ L ∨ O z) ∧ l.Nodup) (hO : ∀ z, A z → ¬ O z) (hN : ∀ m, A m → m ∉ L → N m = next m) {b : Nat} (hb : b ∈ L) :
    ∀ {s : List Nat}, Alt g mate next b s → (∀ x ∈ s, A x) → s.Nodup → ∃ l, l.head? = s.head? ∧ Alt g mate N t l ∧ (∀ z ∈ l, z ∈ s ∨ z ∈ L ∨ O z) ∧ l.Nodup
  | [x], ha, _, _ => by
    have : x = b := ha
    subst this
    obtain ⟨l, h1, h2, h3, h4⟩ := hside x hb
    exact ⟨l, h1, h2, fun z hz => .inr (h3 z hz), h4⟩
  | x :: m :: s, ha, hA, hn => by
    by_cases hx : x ∈ L
    · obtain ⟨l, h1, h2, h3, h4⟩ := hside x hx
      exact ⟨l, h1, h2, fun z hz => .inr (h3 z hz), h4⟩
    · obtain ⟨a1, a2, a3, a4⟩ := ha
      have hm : m ∉ L := by
        intro hm
        obtain ⟨y, hy, e⟩ := hcl m hm
        rw [back _ _ a1] at e
        cases e
        exact hx hy
      have e := hN m (hA m (by simp)) hm
      simp only [List.nodup_cons, List.mem_cons, not_or] at hn
      obtain ⟨l, h1, h2, h3, h4⟩ := ring_ex back A O hcl hside hO hN hb a4 (fun y hy => hA y (by simp [hy])) hn.2.2
      refine ⟨x :: m :: l, rfl, ⟨a1, by rw [e]; exact a2, by rw [e, h1]; exact a3, h2⟩, ?_, ?_⟩
      · intro z hz
        simp only [List.mem_cons] at hz ⊢
        rcases hz with h | h | h
        · exact .inl (.inl h)
        · exact .inl (.inr (.inl h))
        · rcases h3 z h with k | k
          · exact .inl (.inr (.inr k))
          · exact .inr k
      · simp only [List.nodup_cons, List.mem_cons, not_or]
        refine ⟨⟨hn.1.1, ?_⟩, ?_, h4⟩
        · intro hz
          rcases h3 x hz with k | k | k
          · exact hn.1.2 k
          · exact hx k
          · exact hO x (hA x (by simp)) k
        · intro hz
          rcases h3 m hz with k | k | k
          · exact hn.2.1 k
          · exact hm k
          · exact hO m (hA m (by simp)) k
end
section
variable {g : Gr} {mate : Nat → Option Nat} {f : Fo} {h : Gh}
/-- Two ways that meet in one ring first. -/
structure Meet (g : Gr) (mate : Nat → Option Nat) (f : Fo) (h : Gh) (T : Nat → Bool) (v w : Nat) (L L' : List Nat) (e e' : Nat) (R R' : List Nat) : Prop where
  l : Climb g mate f h T v L e R
  r : Climb g mate f h T w L' e' R'
  apart : ∀ x ∈ L, ∀ y ∈ L', f.ring x ≠ f.ring y
  vw : g.adj v w = true

theorem Meet.flip (G : GrOk g) {T : Nat → Bool} {v w : Nat} {L L' : List Nat} {e e' : Nat} {R R' : List Nat} (m : Meet g mate f h T v w L L' e e' R R') : Meet g mate f h T w v L' L e' e R' R :=
  ⟨m.r, m.l, fun x hx y hy k => m.apart y hy x hx k.symm, G.sym _ _ m.vw⟩

/-- All that a contraction takes up. -/
def whole (f : Fo) (T : Nat → Bool) (l : List Nat) : Nat → Bool := fun x => T x || l.any fun y => f.ring y x

theorem whole_iff {T : Nat → Bool} {l : List Nat} {x : Nat} : whole f T l x = true ↔ T x = true ∨ ∃ y ∈ l, f.ring y x = true := by
  unfold whole
  simp

theorem Inv.cls (I : Inv g mate f h) {y z x : Nat} (hy : f.ring y x = true) (hz : f.ring z x = true) : f.ring y = f.ring z := (I.same y x hy).symm.trans (I.same z x hz)

theorem Climb.memLt (G : GrOk g) (M : MtOk g mate) (I : Inv g mate f h) {T : Nat → Bool} {v : Nat} {L : List Nat} {e : Nat} {R : List Nat} (c : Climb g mate f h T v L e R) : ∀ x ∈ L, x < g.n := by
  intro x hx
  rcases c.rt.lab x (List.mem_append_left _ hx) with k | ⟨_, b, k, _⟩
  · exact I.olt x k.1
  · exact (G.lt _ _ (M.adj _ _ k)).1

/-- The way within the top ring, from where a side comes into it. -/
theorem Climb.top (I : Inv g mate f h) {T : Nat → Bool} {v : Nat} {L : List Nat} {e : Nat} {R : List Nat} (c : Climb g mate f h T v L e R) : ∃ s, s.head? = some e ∧ Alt g mate f.next (h.base e) s ∧ (∀ x ∈ s, T x = true) ∧ s.Nodup := by
  obtain ⟨s, h1, h2, h3, h4⟩ := I.seg e c.eo
  exact ⟨s, h1, h2, fun x hx => by rw [← c.ring]; exact h3 x hx, h4⟩

/-- Each vertex of the rings of a side has its way to the base of the top ring. -/
theorem side_ex (G : GrOk g) (M : MtOk g mate) (I : Inv g mate f h) {T : Nat → Bool} {v w : Nat} {L L' : List Nat} {e e' : Nat} {R R' : List Nat} (m : Meet g mate f h T v w L L' e e' R R') (N : Nat → Nat)
    (hN : ∀ y, ¬ EvenIn L y → ¬ EvenIn L' y → N y = f.next y) (hT : Turned N L w) {x y : Nat} (hy : y ∈ L) (hx : f.ring y x = true) :
    ∃ l, l.head? = some x ∧ Alt g mate N (h.base e) l ∧ (∀ z ∈ l, whole f T (L ++ L') z = true) ∧ l.Nodup := by
  have hLn : ∀ z ∈ L, z < 24 := fun z hz => Nat.lt_of_lt_of_le (m.l.memLt G M I z hz) G.n24
  have hLn' : ∀ z ∈ L', z < 24 := fun z hz => Nat.lt_of_lt_of_le (m.r.memLt G M I z hz) G.n24
  have hnT : ∀ z, z ∈ L → T z ≠ true := fun z hz k => m.l.out z hz (by rw [← m.l.ring] at k ⊢; exact I.same e z k)
  have hnT' : ∀ z, z ∈ L' → T z ≠ true := fun z hz k => m.r.out z hz (by rw [← m.r.ring] at k ⊢; exact I.same e' z k)
  have hLL : ∀ z, z ∈ L → z ∉ L' := fun z hz hz' => m.apart z hz z hz' rfl
  have hndL : L.Nodup := (List.nodup_append.1 m.l.rt.nodup).1
  have hndL' : L'.Nodup := (List.nodup_append.1 m.r.rt.nodup).1
  have hbb : h.base e' = h.base e := by
    have k : f.ring e e' = true := by
      rw [m.l.ring, ← m.r.ring]
      exact I.self e' (Nat.lt_of_lt_of_le (I.olt _ m.r.eo) G.n24)
    exact (I.baseC e e' m.l.eo k).1
  obtain ⟨s, s1, s2, s3, s4⟩ := m.l.top I
  obtain ⟨s', s1', s2', s3', s4'⟩ := m.r.top I
  have fL : Alt g mate N (h.base e) (L ++ s) := by
    refine Alt.congr (Alt.swap m.l.rt.alt m.l.pairs s2 s1) fun z hz => ?_
    rcases oddIn_append m.l.pairs hz with hz | hz
    · exact hN z (odd_not_even hndL hz) (fun k => hLL z (oddIn_mem hz) (evenIn_mem k))
    · exact hN z (fun k => hnT z (evenIn_mem k) (s3 z (oddIn_mem hz))) (fun k => hnT' z (evenIn_mem k) (s3 z (oddIn_mem hz)))
  have fR : Alt g mate N (h.base e) (L' ++ s') := by
    rw [← hbb]
    refine Alt.congr (Alt.swap m.r.rt.alt m.r.pairs s2' s1') fun z hz => ?_
    rcases oddIn_append m.r.pairs hz with hz | hz
    · exact hN z (fun k => hLL z (evenIn_mem k) (oddIn_mem hz)) (odd_not_even hndL' hz)
    · exact hN z (fun k => hnT z (evenIn_mem k) (s3' z (oddIn_mem hz))) (fun k => hnT' z (evenIn_mem k) (s3' z (oddIn_mem hz)))
  have nL : (L ++ s).Nodup := List.nodup_append.2 ⟨hndL, s4, fun a ha b hb k => hnT a ha (k ▸ s3 b hb)⟩
  have nR : (L' ++ s').Nodup := List.nodup_append.2 ⟨hndL', s4', fun a ha b hb k => hnT' a ha (k ▸ s3' b hb)⟩
  have hR0 : (L' ++ s').head? = some w := by
    have k := m.r.rt.head
    cases L' with
    | nil =>
      simp at k
      rw [List.nil_append, s1', k]
    | cons a l => simpa using k
  have hv : (L ++ e :: R).head? = some v := m.l.rt.head
  have hed : Edges g L w := Alt.edges G m.l.rt.alt m.l.pairs fun z hz => by
    rw [hv] at hz
    cases hz
    exact m.vw
  have hdis : ∀ z ∈ L, z ∉ L' ++ s' := by
    intro z hz k
    rcases List.mem_append.1 k with k | k
    · exact hLL z hz k
    · exact hnT z hz (s3' z k)
  have hside : ∀ z ∈ L, ∃ l, l.head? = some z ∧ Alt g mate N (h.base e) l ∧ (∀ u ∈ l, u ∈ L ∨ (T u = true ∨ u ∈ L')) ∧ l.Nodup := by
    intro z hz
    rcases mem_even_or_odd hz with k | k
    · obtain ⟨l, h1, h2, h3, h4⟩ := fwd_ex fL m.l.pairs nL k
      refine ⟨l, h1, h2, fun u hu => ?_, h4⟩
      rcases List.mem_append.1 (h3 u hu) with k | k
      · exact .inl k
      · exact .inr (.inl (s3 u k))
    · obtain ⟨l, h1, h2, h3, h4⟩ := back_ex M.back m.l.pairs hT hed hndL hR0 fR nR hdis k
      refine ⟨l, h1, h2, fun u hu => ?_, h4⟩
      rcases h3 u hu with k | k
      · exact .inl k
      · rcases List.mem_append.1 k with k | k
        · exact .inr (.inr k)
        · exact .inr (.inl (s3' u k))
  have wh : ∀ u, u ∈ L ∨ (T u = true ∨ u ∈ L') → whole f T (L ++ L') u = true := by
    rintro u (k | k | k)
    · exact whole_iff.2 (.inr ⟨u, List.mem_append_left _ k, I.self u (hLn u k)⟩)
    · exact whole_iff.2 (.inl k)
    · exact whole_iff.2 (.inr ⟨u, List.mem_append_right _ k, I.self u (hLn' u k)⟩)
  by_cases hyo : f.outer y = true
  · have hxo := I.rout y x hyo hx
    obtain ⟨s0, k1, k2, k3, k4⟩ := I.seg x hxo
    have hb : h.base x ∈ L := by
      rw [(I.baseC y x hyo hx).1]
      exact m.l.base y hy hyo
    have hA : ∀ z, f.ring x z = true → f.ring y z = true := fun z hz => by rw [← I.same y x hx]; exact hz
    obtain ⟨l, h1, h2, h3, h4⟩ := ring_ex (g := g) (N := N) (next := f.next) M.back (L := L) (fun z => f.ring x z = true) (fun z => T z = true ∨ z ∈ L') (Pairs.closed M.back m.l.pairs) hside (by
        rintro z hz (k | k)
        · refine m.l.out y hy ?_
          rw [← m.l.ring] at k ⊢
          exact I.cls (hA z hz) k
        · exact m.apart y hy z k ((I.same y z (hA z hz)).symm)) (by
        intro z hz hzL
        refine hN z (fun k => hzL (evenIn_mem k)) (fun k => ?_)
        exact m.apart y hy z (evenIn_mem k) ((I.same y z (hA z hz)).symm)) hb k2 k3 k4
    refine ⟨l, h1.trans k1, h2, fun z hz => ?_, h4⟩
    rcases h3 z hz with k | k
    · exact whole_iff.2 (.inr ⟨y, List.mem_append_left _ hy, hA z (k3 z k)⟩)
    · exact wh z k
  · have hyo : f.outer y = false := by simpa using hyo
    have := I.single y x hyo hx
    subst this
    obtain ⟨l, h1, h2, h3, h4⟩ := hside x hy
    exact ⟨l, h1, h2, fun z hz => wh z (h3 z hz), h4⟩
end
section
variable {g : Gr} {mate : Nat → Option Nat} {f : Fo} {h : Gh}
/-- The forest behind a contraction. -/
def contracted (f : Fo) (W : Nat → Bool) (L L' : List Nat) (v w : Nat) (q : List Nat) : Fo :=
  ⟨fun x => if W x then W else f.ring x, turn (turn f.next L w) L' v, fun x => f.outer x || W x, f.inner, f.queue ++ q⟩

def newGh (h : Gh) (W : Nat → Bool) (e : Nat) : Gh := ⟨fun x => if W x then h.base e else h.base x, fun x => if W x then h.lev e else h.lev x, fun x => if W x then h.root e else h.root x⟩

theorem contract_inv (G : GrOk g) (M : MtOk g mate) (I : Inv g mate f h) {T : Nat → Bool} {v w : Nat} {L L' : List Nat} {e e' : Nat} {R R' : List Nat} (m : Meet g mate f h T v w L L' e e' R R') (W : Nat → Bool) (hW : W = whole f T (L ++ L'))
    (q : List Nat) (hq : ∀ x, x ∈ q ↔ W x = true ∧ f.outer x = false) (hqn : q.Nodup) : Inv g mate (contracted f W L L' v w q) (newGh h W e) := by
  have hn24 := G.n24
  have hTe : ∀ x, T x = true ↔ f.ring e x = true := fun x => by rw [m.l.ring]
  have he24 : e < 24 := Nat.lt_of_lt_of_le (I.olt _ m.l.eo) hn24
  have hWe : W e = true := by rw [hW]; exact whole_iff.2 (.inl ((hTe e).2 (I.self e he24)))
  have hLlt : ∀ z ∈ L ++ L', z < g.n := fun z hz => by
    rcases List.mem_append.1 hz with k | k
    · exact m.l.memLt G M I z k
    · exact m.r.memLt G M I z k
  -- whatever is of the whole is of one of its rings, with all of it
  have hcases : ∀ x, W x = true → (f.ring e x = true) ∨ (∃ y ∈ L ++ L', f.ring y x = true) := fun x hx => by
    rw [hW] at hx
    rcases whole_iff.1 hx with k | k
    · exact .inl ((hTe x).1 k)
    · exact .inr k
  have hclosed : ∀ x z, W x = true → f.ring x z = true → W z = true := fun x z hx hz => by
    rw [hW]
    rcases hcases x hx with k | ⟨y, hy, k⟩
    · exact whole_iff.2 (.inl ((hTe z).2 (by rw [← I.same e x k]; exact hz)))
    · exact whole_iff.2 (.inr ⟨y, hy, by rw [← I.same y x k]; exact hz⟩)
  have hclosed' : ∀ x z, W z = true → f.ring x z = true → W x = true := fun x z hz hx => hclosed z x hz (by rw [I.same x z hx]; exact I.self x (I.rlt x z hx).1)
  have hmem : ∀ y ∈ L ++ L', W y = true := fun y hy => by
    rw [hW]
    exact whole_iff.2 (.inr ⟨y, hy, I.self y (Nat.lt_of_lt_of_le (hLlt y hy) hn24)⟩)
  have hpc : ∀ x ∈ L ++ L', ∃ y ∈ L ++ L', mate x = some y := fun x hx => by
    rcases List.mem_append.1 hx with k | k
    · obtain ⟨y, hy, hm⟩ := Pairs.closed M.back m.l.pairs x k
      exact ⟨y, List.mem_append_left _ hy, hm⟩
    · obtain ⟨y, hy, hm⟩ := Pairs.closed M.back m.r.pairs x k
      exact ⟨y, List.mem_append_right _ hy, hm⟩
  have hbase : ∀ x ∈ L ++ L', f.outer x = true → h.base x ∈ L ++ L' := fun x hx ho => by
    rcases List.mem_append.1 hx with k | k
    · exact List.mem_append_left _ (m.l.base x k ho)
    · exact List.mem_append_right _ (m.r.base x k ho)
  -- a base in the whole is the top's, or stands on a side
  have hbW : ∀ b, W b = true → f.outer b = true → h.base b = b → b = h.base e ∨ b ∈ L ++ L' := fun b hb ho hbb => by
    rcases hcases b hb with k | ⟨y, hy, k⟩
    · exact .inl (hbb.symm.trans (I.baseC e b m.l.eo k).1)
    · by_cases hyo : f.outer y = true
      · have := hbase y hy hyo
        rw [← (I.baseC y b hyo k).1, hbb] at this
        exact .inr this
      · have := I.single y b (by simpa using hyo) k
        subst this
        exact .inr hy
  have hmW : ∀ b mb, W b = true → f.outer b = true → h.base b = b → mate b = some mb → b ≠ h.base e → W mb = true := fun b mb hb ho hbb hm hne => by
    rcases hbW b hb ho hbb with k | k
    · exact absurd k hne
    · obtain ⟨y, hy, hm2⟩ := hpc b k
      rw [hm] at hm2
      cases hm2
      exact hmem _ hy
  -- an inner vertex of the whole stands on a side, and so does its mate
  have hinW : ∀ x, W x = true → f.outer x = false → x ∈ L ++ L' := fun x hx ho => by
    rcases hcases x hx with k | ⟨y, hy, k⟩
    · rw [I.rout e x m.l.eo k] at ho
      cases ho
    · by_cases hyo : f.outer y = true
      · rw [I.rout y x hyo k] at ho
        cases ho
      · have := I.single y x (by simpa using hyo) k
        subst this
        exact hy
  have hlevW : ∀ x, W x = true → f.outer x = true → h.lev e ≤ h.lev x := fun x hx ho => by
    rcases hcases x hx with k | ⟨y, hy, k⟩
    · rw [(I.baseC e x m.l.eo k).2.1]
      exact Nat.le_refl _
    · have hyo : f.outer y = true := by
        by_cases hyo : f.outer y = true
        · exact hyo
        · have := I.single y x (by simpa using hyo) k
          subst this
          exact ho
      rw [(I.baseC y x hyo k).2.1]
      rcases List.mem_append.1 hy with k2 | k2
      · exact m.l.levs y k2 hyo
      · have h1 := m.r.levs y k2 hyo
        have h2 : f.ring e e' = true := by
          rw [m.l.ring, ← m.r.ring]
          exact I.self e' (Nat.lt_of_lt_of_le (I.olt _ m.r.eo) hn24)
        have h3 := (I.baseC e e' m.l.eo h2).2.1
        omega
  have hee : f.ring e e' = true := by
    rw [m.l.ring, ← m.r.ring]
    exact I.self e' (Nat.lt_of_lt_of_le (I.olt _ m.r.eo) hn24)
  have hroe : ∀ y ∈ L ++ L', f.outer y = true → h.root y = h.root e := fun y hy ho => by
    have one : ∀ {u : Nat} {K : List Nat} {d : Nat} {S : List Nat}, Climb g mate f h T u K d S → y ∈ K → h.root y = h.root d := fun {u K d S} c hy => by
      have a1 : h.root y = h.root u := by
        rcases c.rt.lab y (List.mem_append_left _ hy) with k | ⟨k, _⟩
        · exact k.2.2
        · rw [ho] at k; cases k
      have a2 : h.root d = h.root u := by
        rcases c.rt.lab d (by simp) with k | ⟨k, _⟩
        · exact k.2.2
        · rw [c.eo] at k; cases k
      omega
    rcases List.mem_append.1 hy with k | k
    · exact one m.l k
    · rw [one m.r k]
      exact (I.baseC e e' m.l.eo hee).2.2
  have hrootW : ∀ x, W x = true → f.outer x = true → h.root x = h.root e := fun x hx ho => by
    rcases hcases x hx with k | ⟨y, hy, k⟩
    · exact (I.baseC e x m.l.eo k).2.2
    · have hyo : f.outer y = true := by
        by_cases hyo : f.outer y = true
        · exact hyo
        · have := I.single y x (by simpa using hyo) k
          subst this
          exact ho
      rw [(I.baseC y x hyo k).2.2]
      exact hroe y hy hyo
  have hbe := I.baseB m.l.eo
  have hWb : W (h.base e) = true := hclosed e _ hWe (I.base e m.l.eo)
  -- what lies outside the whole has its ring outside
  have hout : ∀ x z, W x = false → f.ring x z = true → W z = false := fun x z hx hz => by
    cases hz' : W z
    · rfl
    · rw [hclosed' x z hz' hz] at hx; cases hx
  have hN : ∀ y, ¬ EvenIn L y → ¬ EvenIn L' y → turn (turn f.next L w) L' v y = f.next y := fun y h1 h2 => by rw [turn_other h2, turn_other h1]
  have hNW : ∀ y, W y = false → turn (turn f.next L w) L' v y = f.next y := fun y hy => hN y (fun k => by rw [hmem y (List.mem_append_left _ (evenIn_mem k))] at hy; cases hy) (fun k => by rw [hmem y (List.mem_append_right _ (evenIn_mem k))] at hy; cases hy)
  have hndL : L.Nodup := (List.nodup_append.1 m.l.rt.nodup).1
  have hndL' : L'.Nodup := (List.nodup_append.1 m.r.rt.nodup).1
  have hLL : ∀ z, z ∈ L → z ∉ L' := fun z hz hz' => m.apart z hz z hz' rfl
  have hT1 : Turned (turn (turn f.next L w) L' v) L w := turned_congr (turn_turned hndL) fun y hy => turn_other fun k => hLL y hy (evenIn_mem k)
  have hT2 : Turned (turn (turn f.next L w) L' v) L' v := turn_turned hndL'
  have hnT : ∀ z, z ∈ L ++ L' → f.ring e z ≠ true := fun z hz k => by
    rcases List.mem_append.1 hz with a | a
    · exact m.l.out z a (by rw [← m.l.ring]; exact I.same e z k)
    · exact m.r.out z a (by rw [← m.l.ring]; exact I.same e z k)
  have hbb : h.base e' = h.base e := (I.baseC e e' m.l.eo hee).1
  have hsegW : ∀ x, W x = true → ∃ s, s.head? = some x ∧ Alt g mate (turn (turn f.next L w) L' v) (h.base e) s ∧ (∀ z ∈ s, W z = true) ∧ s.Nodup := fun x hx => by
    rcases hcases x hx with k | ⟨y, hy, k⟩
    · obtain ⟨s, h1, h2, h3, h4⟩ := I.seg x (I.rout e x m.l.eo k)
      rw [(I.baseC e x m.l.eo k).1] at h2
      have hse : ∀ z ∈ s, f.ring e z = true := fun z hz => by rw [← I.same e x k]; exact h3 z hz
      refine ⟨s, h1, Alt.congr h2 fun z hz => ?_, fun z hz => hclosed x z hx (h3 z hz), h4⟩
      have hzT := hse z (oddIn_mem hz)
      exact hN z (fun a => hnT z (List.mem_append_left _ (evenIn_mem a)) hzT) (fun a => hnT z (List.mem_append_right _ (evenIn_mem a)) hzT)
    · rcases List.mem_append.1 hy with a | a
      · rw [hW]
        exact side_ex G M I m _ hN hT1 a k
      · obtain ⟨s, h1, h2, h3, h4⟩ := side_ex G M I (m.flip G) _ (fun y h1 h2 => hN y h2 h1) hT2 a k
        refine ⟨s, h1, by rw [← hbb]; exact h2, fun z hz => ?_, h4⟩
        rw [hW]
        rcases whole_iff.1 (h3 z hz) with b | ⟨u, hu, b⟩
        · exact whole_iff.2 (.inl b)
        · exact whole_iff.2 (.inr ⟨u, by simp only [List.mem_append] at hu ⊢; exact hu.symm, b⟩)
  have r1 : ∀ x, W x = true → (contracted f W L L' v w q).ring x = W := fun x hx => if_pos hx
  have r0 : ∀ x, W x = false → (contracted f W L L' v w q).ring x = f.ring x := fun x hx => if_neg (by rw [hx]; decide)
  have o1 : ∀ x, W x = true → (contracted f W L L' v w q).outer x = true := fun x hx => by show (f.outer x || W x) = true; rw [hx, Bool.or_true]
  have o0 : ∀ x, W x = false → (contracted f W L L' v w q).outer x = f.outer x := fun x hx => by show (f.outer x || W x) = f.outer x; rw [hx, Bool.or_false]
  have b1 : ∀ x, W x = true → (newGh h W e).base x = h.base e ∧ (newGh h W e).lev x = h.lev e ∧ (newGh h W e).root x = h.root e := fun x hx => ⟨if_pos hx, if_pos hx, if_pos hx⟩
  have b0 : ∀ x, W x = false → (newGh h W e).base x = h.base x ∧ (newGh h W e).lev x = h.lev x ∧ (newGh h W e).root x = h.root x := fun x hx => ⟨if_neg (by rw [hx]; decide), if_neg (by rw [hx]; decide), if_neg (by rw [hx]; decide)⟩
  have wlt : ∀ x, W x = true → x < g.n := fun x hx => by
    by_cases ho : f.outer x = true
    · exact I.olt x ho
    · exact hLlt x (hinW x hx (by simpa using ho))
  refine ⟨?_, I.ilt, ?_, ?_, ?_, ?_, ?_, ?_, ?_, ?_, ?_, ?_, ?_, ?_, ?_⟩
  · intro x hx
    cases hx' : W x
    · rw [o0 x hx'] at hx; exact I.olt x hx
    · exact wlt x hx'
  · intro x hx
    cases hx' : W x
    · rw [r0 x hx']; exact I.self x hx
    · rw [r1 x hx']; exact hx'
  · intro x z hz
    cases hx' : W x
    · rw [r0 x hx'] at hz; exact I.rlt x z hz
    · rw [r1 x hx'] at hz
      exact ⟨Nat.lt_of_lt_of_le (wlt x hx') hn24, Nat.lt_of_lt_of_le (wlt z hz) hn24⟩
  · intro x z hz
    cases hx' : W x
    · rw [r0 x hx'] at hz ⊢
      rw [r0 z (hout x z hx' hz)]
      exact I.same x z hz
    · rw [r1 x hx'] at hz ⊢
      exact r1 z hz
  · intro x z ho hz
    cases hx' : W x
    · rw [r0 x hx'] at hz
      rw [o0 x hx'] at ho
      exact I.single x z ho hz
    · rw [o1 x hx'] at ho; cases ho
  · intro x z ho hz
    cases hx' : W x
    · rw [r0 x hx'] at hz
      rw [o0 x hx'] at ho
      rw [o0 z (hout x z hx' hz)]
      exact I.rout x z ho hz
    · rw [r1 x hx'] at hz
      exact o1 z hz
  · intro x ho
    cases hx' : W x
    · rw [r0 x hx', (b0 x hx').1]
      rw [o0 x hx'] at ho
      exact I.base x ho
    · rw [r1 x hx', (b1 x hx').1]
      exact hWb
  · intro x z ho hz
    cases hx' : W x
    · rw [r0 x hx'] at hz
      rw [o0 x hx'] at ho
      obtain ⟨k1, k2, k3⟩ := I.baseC x z ho hz
      obtain ⟨c1, c2, c3⟩ := b0 x hx'
      obtain ⟨d1, d2, d3⟩ := b0 z (hout x z hx' hz)
      exact ⟨by rw [c1, d1]; exact k1, by rw [c2, d2]; exact k2, by rw [c3, d3]; exact k3⟩
    · rw [r1 x hx'] at hz
      obtain ⟨c1, c2, c3⟩ := b1 x hx'
      obtain ⟨d1, d2, d3⟩ := b1 z hz
      exact ⟨by rw [c1, d1], by rw [c2, d2], by rw [c3, d3]⟩
  · intro x ho
    cases hx' : W x
    · rw [o0 x hx'] at ho
      obtain ⟨s, h1, h2, h3, h4⟩ := I.seg x ho
      refine ⟨s, h1, ?_, by rw [r0 x hx']; exact h3, h4⟩
      rw [(b0 x hx').1]
      exact Alt.congr h2 fun z hz => hNW z (hout x z hx' (h3 z (oddIn_mem hz)))
    · obtain ⟨s, h1, h2, h3, h4⟩ := hsegW x hx'
      exact ⟨s, h1, by rw [(b1 x hx').1]; exact h2, by rw [r1 x hx']; exact h3, h4⟩
  · intro b mb ho hb hm
    have key : ∀ b, f.outer b = true → h.base b = b → mate b = some mb → W mb = false → (contracted f W L L' v w q).inner mb = true ∧ (contracted f W L L' v w q).outer mb = false ∧ g.adj mb ((contracted f W L L' v w q).next mb) = true ∧ (contracted f W L L' v w q).outer ((contracted f W L L' v w q).next mb) = true ∧ (newGh h W e).lev ((contracted f W L L' v w q).next mb) < h.lev b ∧ (newGh h W e).root ((contracted f W L L' v w q).next mb) = h.root b := by
      intro b ho hb hm hwm
      obtain ⟨u1, u2, u3, u4, u5, u6⟩ := I.up b mb ho hb hm
      have en : (contracted f W L L' v w q).next mb = f.next mb := hNW mb hwm
      rw [en]
      refine ⟨u1, by rw [o0 mb hwm]; exact u2, u3, ?_, ?_, ?_⟩
      · cases hx' : W (f.next mb)
        · rw [o0 _ hx']; exact u4
        · exact o1 _ hx'
      · cases hx' : W (f.next mb)
        · rw [(b0 _ hx').2.1]; exact u5
        · rw [(b1 _ hx').2.1]
          have := hlevW _ hx' u4
          omega
      · cases hx' : W (f.next mb)
        · rw [(b0 _ hx').2.2]; exact u6
        · rw [(b1 _ hx').2.2, ← hrootW _ hx' u4]; exact u6
    cases hx' : W b
    · rw [o0 b hx'] at ho
      rw [(b0 b hx').1] at hb
      have hwm : W mb = false := by
        cases hwm : W mb
        · rfl
        · have u2 := (I.up b mb ho hb hm).2.1
          obtain ⟨y, hy, hm2⟩ := hpc mb (hinW mb hwm u2)
          rw [M.back _ _ hm] at hm2
          cases hm2
          rw [hmem _ hy] at hx'
          cases hx'
      obtain ⟨k1, k2, k3, k4, k5, k6⟩ := key b ho hb hm hwm
      exact ⟨k1, k2, k3, k4, by rw [(b0 b hx').2.1]; exact k5, by rw [(b0 b hx').2.2]; exact k6⟩
    · rw [(b1 b hx').1] at hb
      have hob : f.outer b = true := by rw [← hb]; exact hbe.1
      have hbb2 : h.base b = b := by rw [← hb]; exact hbe.2.1
      have hwm : W mb = false := by
        cases hwm : W mb
        · rfl
        · have u2 := (I.up b mb hob hbb2 hm).2.1
          obtain ⟨y, hy, hm2⟩ := hpc mb (hinW mb hwm u2)
          rw [M.back _ _ hm] at hm2
          cases hm2
          exact absurd (by rw [← hb]; exact I.base e m.l.eo) (hnT _ hy)
      obtain ⟨k1, k2, k3, k4, k5, k6⟩ := key b hob hbb2 hm hwm
      refine ⟨k1, k2, k3, k4, ?_, ?_⟩
      · rw [(b1 b hx').2.1, ← hbe.2.2.1, hb]; exact k5
      · rw [(b1 b hx').2.2, ← hbe.2.2.2, hb]; exact k6
  · intro x hi ho
    have hx' : W x = false := by
      cases hx' : W x
      · rfl
      · rw [o1 x hx'] at ho; cases ho
    rw [o0 x hx'] at ho
    obtain ⟨b, k1, k2, k3⟩ := I.inn x hi ho
    refine ⟨b, k1, ?_, ?_⟩
    · cases hb' : W b
      · rw [o0 b hb']; exact k2
      · exact o1 b hb'
    · cases hb' : W b
      · rw [(b0 b hb').1]; exact k3
      · rw [(b1 b hb').1]
        by_cases hne : b = h.base e
        · exact hne.symm
        · rw [hmW b x hb' k2 k3 (M.back _ _ k1) hne] at hx'
          cases hx'
  · intro x hx hm
    obtain ⟨k1, k2, k3⟩ := I.rootO x hx hm
    cases hx' : W x
    · exact ⟨by rw [o0 x hx']; exact k1, by rw [(b0 x hx').1]; exact k2, by rw [(b0 x hx').2.2]; exact k3⟩
    · have hxe : x = h.base e := by
        rcases hbW x hx' k1 k2 with k | k
        · exact k
        · obtain ⟨y, _, hm2⟩ := hpc x k
          rw [hm] at hm2
          cases hm2
      exact ⟨o1 x hx', by rw [(b1 x hx').1]; exact hxe.symm, by rw [(b1 x hx').2.2, ← hrootW x hx' k1]; exact k3⟩
  · intro x
    show x ∈ f.queue ++ q ↔ (f.outer x || W x) = true
    rw [List.mem_append, I.q x, hq x]
    cases f.outer x <;> cases W x <;> simp
  · show (f.queue ++ q).Nodup
    refine List.nodup_append.2 ⟨I.qn, hqn, fun a ha b hb k => ?_⟩
    subst k
    have h1 := (I.q a).1 ha
    rw [((hq a).1 hb).2] at h1
    cases h1
end
end Go.Proofs.YtcabaecbmkgclaaGreatDoor.Mt
