/-
  The search begins with roots alone; a vertex and its mate are taken up; a path between two roots makes a longer matching.
  Counting: a search that finds no longer way shows that there is none: odd pieces, and how many there are.
-/
import Derived.Test.YtcabaecbmkgclaaGreatDoorR23
namespace Go.Proofs.YtcabaecbmkgclaaGreatDoor.Mt
section
variable {g : Gr} {mate : Nat → Option Nat} {f : Fo} {h : Gh}
def planted (g : Gr) (mate : Nat → Option Nat) : Fo :=
  ⟨fun v x => v == x && decide (v < 24), fun _ => 0, fun v => decide (v < g.n) && (mate v).isNone, fun _ => false, (List.range g.n).filter fun v => (mate v).isNone⟩

theorem plant_inv (G : GrOk g) : Inv g mate (planted g mate) ⟨fun v => v, fun _ => 0, fun v => v⟩ := by
  have ho : ∀ v, (planted g mate).outer v = true ↔ v < g.n ∧ mate v = none := fun v => by
    show (decide (v < g.n) && (mate v).isNone) = true ↔ _
    simp
  have hr : ∀ v x, (planted g mate).ring v x = true ↔ v = x ∧ v < 24 := fun v x => by
    show (v == x && decide (v < 24)) = true ↔ _
    simp
  refine ⟨fun v hv => ((ho v).1 hv).1, (fun v hv => by cases hv), fun v hv => (hr v v).2 ⟨rfl, hv⟩, ?_, ?_, ?_, ?_, ?_, ?_, ?_, ?_, ?_, ?_, ?_, ?_⟩
  · intro v x hx
    obtain ⟨rfl, h2⟩ := (hr v x).1 hx
    exact ⟨h2, h2⟩
  · intro v x hx
    obtain ⟨rfl, h2⟩ := (hr v x).1 hx
    rfl
  · intro v x _ hx
    exact ((hr v x).1 hx).1.symm
  · intro v x hv hx
    obtain ⟨rfl, h2⟩ := (hr v x).1 hx
    exact hv
  · intro v hv
    exact (hr v v).2 ⟨rfl, Nat.lt_of_lt_of_le ((ho v).1 hv).1 G.n24⟩
  · intro v x _ hx
    obtain ⟨rfl, h2⟩ := (hr v x).1 hx
    exact ⟨rfl, rfl, rfl⟩
  · intro v hv
    exact ⟨[v], rfl, rfl, fun x hx => by simp at hx; subst hx; exact (hr x x).2 ⟨rfl, Nat.lt_of_lt_of_le ((ho x).1 hv).1 G.n24⟩, by simp⟩
  · intro b m hb _ hm
    rw [((ho b).1 hb).2] at hm
    cases hm
  · intro m hm
    cases hm
  · intro v hv hm
    exact ⟨(ho v).2 ⟨hv, hm⟩, rfl, rfl⟩
  · intro v
    show v ∈ (List.range g.n).filter (fun v => (mate v).isNone) ↔ _
    rw [List.mem_filter, List.mem_range, ho]
    simp
  · exact List.Pairwise.filter _ List.nodup_range

def taken (f : Fo) (v w u : Nat) : Fo := ⟨f.ring, setAt f.next w v, setAt f.outer u true, setAt f.inner w true, f.queue ++ [u]⟩

/-- Whoever is not reached has a mate that is not reached. -/
theorem Inv.fresh (M : MtOk g mate) (I : Inv g mate f h) {w : Nat} (hw : w < g.n) (ho : f.outer w = false) (hi : f.inner w = false) : ∃ u, mate w = some u ∧ f.outer u = false ∧ f.inner u = false := by
  cases hm : mate w with
  | none =>
    rw [(I.rootO w hw hm).1] at ho
    cases ho
  | some u =>
    have huo : f.outer u = false := by
      cases huo : f.outer u
      · rfl
      · by_cases hb : h.base u = u
        · have := (I.up u w huo hb (M.back _ _ hm)).1
          rw [hi] at this
          cases this
        · obtain ⟨s, h1, h2, h3, _⟩ := I.seg u huo
          match s, h1, h2, h3 with
          | [x], h1, h2, _ =>
            simp at h1
            have h2' : x = h.base u := h2
            exact absurd (h2'.symm.trans h1) hb
          | x :: y :: s, h1, h2, h3 =>
            simp at h1
            subst h1
            have k := h2.1
            rw [M.back _ _ hm] at k
            cases k
            have := I.rout x w huo (h3 w (by simp))
            rw [ho] at this
            cases this
    refine ⟨u, rfl, huo, ?_⟩
    cases hui : f.inner u
    · rfl
    · obtain ⟨b, k1, k2, _⟩ := I.inn u hui huo
      rw [M.back _ _ hm] at k1
      cases k1
      rw [ho] at k2
      cases k2

theorem take_inv (G : GrOk g) (M : MtOk g mate) (I : Inv g mate f h) {v w u : Nat} (hv : f.outer v = true) (hvw : g.adj v w = true) (ho : f.outer w = false) (hi : f.inner w = false) (hm : mate w = some u) :
    Inv g mate (taken f v w u) ⟨setAt h.base u u, setAt h.lev u (h.lev v + 1), setAt h.root u (h.root v)⟩ := by
  have hwn := (G.lt _ _ hvw).2
  obtain ⟨u', hm', huo, hui⟩ := I.fresh M hwn ho hi
  rw [hm] at hm'
  cases hm'
  have hmu := M.back _ _ hm
  have hun : u < g.n := (G.lt _ _ (M.adj _ _ hm)).2
  have huw : u ≠ w := by
    rintro rfl
    have := M.adj _ _ hm
    rw [G.irr] at this
    cases this
  have hn24 := G.n24
  have e1 : ∀ x, x ≠ u → (setAt f.outer u true) x = f.outer x := fun x hx => if_neg hx
  have e2 : (setAt f.outer u true) u = true := if_pos rfl
  have b0 : ∀ x, x ≠ u → (setAt h.base u u) x = h.base x ∧ (setAt h.lev u (h.lev v + 1)) x = h.lev x ∧ (setAt h.root u (h.root v)) x = h.root x := fun x hx => ⟨if_neg hx, if_neg hx, if_neg hx⟩
  have b1 : (setAt h.base u u) u = u ∧ (setAt h.lev u (h.lev v + 1)) u = h.lev v + 1 ∧ (setAt h.root u (h.root v)) u = h.root v := ⟨if_pos rfl, if_pos rfl, if_pos rfl⟩
  have hne : ∀ x, f.outer x = true → x ≠ u := fun x hx e => by rw [e, huo] at hx; cases hx
  have hnw : ∀ x, f.outer x = true → x ≠ w := fun x hx e => by rw [e, ho] at hx; cases hx
  have hsing : ∀ x z, x ≠ u → f.ring x z = true → z ≠ u := fun x z hx hz e => by
    subst e
    have k := I.same x z hz
    have k2 : f.ring z x = true := by rw [k]; exact I.self x (I.rlt x z hz).1
    exact hx (I.single z x huo k2)
  have hring1 : ∀ x, f.ring u x = true → x = u := fun x hx => I.single u x huo hx
  refine ⟨?_, ?_, I.self, I.rlt, I.same, ?_, ?_, ?_, ?_, ?_, ?_, ?_, ?_, ?_, ?_⟩
  · intro x hx
    by_cases e : x = u
    · rw [e]; exact hun
    · exact I.olt x (by rw [← e1 x e]; exact hx)
  · intro x hx
    by_cases e : x = w
    · rw [e]; exact hwn
    · exact I.ilt x (by have : (setAt f.inner w true) x = f.inner x := if_neg e; rw [← this]; exact hx)
  · intro x z hx hz
    by_cases e : x = u
    · subst e
      exact hring1 z hz
    · exact I.single x z (by rw [← e1 x e]; exact hx) hz
  · intro x z hx hz
    by_cases e : x = u
    · subst e
      rw [hring1 z hz]; exact e2
    · show (setAt f.outer u true) z = true
      rw [e1 z (hsing x z e hz)]
      exact I.rout x z (by rw [← e1 x e]; exact hx) hz
  · intro x hx
    by_cases e : x = u
    · subst e
      show f.ring x ((setAt h.base x x) x) = true
      rw [b1.1]
      exact I.self x (by omega)
    · show f.ring x ((setAt h.base u u) x) = true
      rw [(b0 x e).1]
      exact I.base x (by rw [← e1 x e]; exact hx)
  · intro x z hx hz
    by_cases e : x = u
    · subst e
      rw [hring1 z hz]
      exact ⟨rfl, rfl, rfl⟩
    · have ez := hsing x z e hz
      obtain ⟨k1, k2, k3⟩ := I.baseC x z (by rw [← e1 x e]; exact hx) hz
      show (setAt h.base u u) z = (setAt h.base u u) x ∧ (setAt h.lev u (h.lev v + 1)) z = (setAt h.lev u (h.lev v + 1)) x ∧ (setAt h.root u (h.root v)) z = (setAt h.root u (h.root v)) x
      rw [(b0 x e).1, (b0 z ez).1, (b0 x e).2.1, (b0 z ez).2.1, (b0 x e).2.2, (b0 z ez).2.2]
      exact ⟨k1, k2, k3⟩
  · intro x hx
    by_cases e : x = u
    · subst e
      refine ⟨[x], rfl, ?_, fun z hz => by simp at hz; subst hz; exact I.self z (by omega), by simp⟩
      show x = (setAt h.base x x) x
      rw [b1.1]
    · have hxo : f.outer x = true := by rw [← e1 x e]; exact hx
      obtain ⟨s, h1, h2, h3, h4⟩ := I.seg x hxo
      refine ⟨s, h1, ?_, h3, h4⟩
      show Alt g mate (setAt f.next w v) ((setAt h.base u u) x) s
      rw [(b0 x e).1]
      refine Alt.congr h2 fun z hz => if_neg ?_
      exact hnw z (I.rout x z hxo (h3 z (oddIn_mem hz)))
  · intro b m hb hbb hmb
    show (setAt f.inner w true) m = true ∧ (setAt f.outer u true) m = false ∧ g.adj m ((setAt f.next w v) m) = true ∧ (setAt f.outer u true) ((setAt f.next w v) m) = true ∧ (setAt h.lev u (h.lev v + 1)) ((setAt f.next w v) m) < (setAt h.lev u (h.lev v + 1)) b ∧ (setAt h.root u (h.root v)) ((setAt f.next w v) m) = (setAt h.root u (h.root v)) b
    by_cases e : b = u
    · subst e
      rw [hmu] at hmb
      cases hmb
      have en : (setAt f.next w v) w = v := if_pos rfl
      have hvu := hne v hv
      rw [en, b1.2.1, b1.2.2, (b0 v hvu).2.1, (b0 v hvu).2.2, e1 v hvu, e1 w (fun k => huw k.symm)]
      exact ⟨if_pos rfl, ho, G.sym _ _ hvw, hv, by omega, rfl⟩
    · have hbo : f.outer b = true := by rw [← e1 b e]; exact hb
      have hbb' : h.base b = b := by rw [← (b0 b e).1]; exact hbb
      obtain ⟨u1, u2, u3, u4, u5, u6⟩ := I.up b m hbo hbb' hmb
      have hmw : m ≠ w := by
        rintro rfl
        have := M.back _ _ hmb
        rw [hm] at this
        cases this
        exact e rfl
      have hmu2 : m ≠ u := by
        rintro rfl
        rw [hui] at u1
        cases u1
      have en : (setAt f.next w v) m = f.next m := if_neg hmw
      have hnu := hne _ u4
      rw [en, e1 m hmu2, e1 _ hnu, (b0 _ hnu).2.1, (b0 _ hnu).2.2, (b0 b e).2.1, (b0 b e).2.2]
      refine ⟨?_, u2, u3, u4, u5, u6⟩
      have : (setAt f.inner w true) m = f.inner m := if_neg hmw
      rw [this]; exact u1
  · intro m hi2 ho2
    by_cases e : m = w
    · subst e
      exact ⟨u, hm, e2, b1.1⟩
    · have hmi : f.inner m = true := by have : (setAt f.inner w true) m = f.inner m := if_neg e; rw [← this]; exact hi2
      have hmu2 : m ≠ u := by
        rintro rfl
        rw [hui] at hmi
        cases hmi
      have hmo : f.outer m = false := by rw [← e1 m hmu2]; exact ho2
      obtain ⟨b, k1, k2, k3⟩ := I.inn m hmi hmo
      have hbu := hne b k2
      exact ⟨b, k1, by show (setAt f.outer u true) b = true; rw [e1 b hbu]; exact k2, by show (setAt h.base u u) b = b; rw [(b0 b hbu).1]; exact k3⟩
  · intro x hx hmx
    have hxu : x ≠ u := by
      rintro rfl
      rw [hmu] at hmx
      cases hmx
    obtain ⟨k1, k2, k3⟩ := I.rootO x hx hmx
    exact ⟨by show (setAt f.outer u true) x = true; rw [e1 x hxu]; exact k1, by show (setAt h.base u u) x = x; rw [(b0 x hxu).1]; exact k2, by show (setAt h.root u (h.root v)) x = x; rw [(b0 x hxu).2.2]; exact k3⟩
  · intro x
    show x ∈ f.queue ++ [u] ↔ (setAt f.outer u true) x = true
    rw [List.mem_append, I.q x, List.mem_singleton]
    by_cases e : x = u
    · subst e
      simp [e2]
    · rw [e1 x e]
      simp [e]
  · show (f.queue ++ [u]).Nodup
    refine List.nodup_append.2 ⟨I.qn, by simp, fun a ha b hb k => ?_⟩
    simp at hb
    subst k hb
    have := (I.q a).1 ha
    rw [huo] at this
    cases this

/-- Vertices of a path, paired by twos. -/
def flip (mate : Nat → Option Nat) : List Nat → (Nat → Option Nat)
  | a :: b :: l => flip (setAt (setAt mate a (some b)) b (some a)) l
  | [_] => mate
  | [] => mate

def PE (g : Gr) : List Nat → Prop
  | a :: b :: l => g.adj a b = true ∧ PE g l
  | [_] => False
  | [] => True

theorem PE.append : ∀ {l r : List Nat}, PE g l → PE g r → PE g (l ++ r)
  | [], _, _, h => h
  | _ :: _ :: _, _, h, k => ⟨h.1, PE.append h.2 k⟩

theorem PE.reverse (G : GrOk g) : ∀ {l : List Nat}, PE g l → PE g l.reverse
  | [], _ => trivial
  | a :: b :: l, h => by
    have : (a :: b :: l).reverse = l.reverse ++ [b, a] := by simp
    rw [this]
    exact PE.append (PE.reverse G h.2) ⟨G.sym _ _ h.1, trivial⟩

theorem Alt.pe {next : Nat → Nat} {t : Nat} : ∀ {x : Nat} {l : List Nat}, Alt g mate next t (x :: l) → PE g l
  | _, [], _ => trivial
  | x, m :: [], h => by cases h.2.2.1
  | x, m :: y :: l, h => by
    obtain ⟨h1, h2, h3, h4⟩ := h
    have : y = next m := by simpa using h3
    subst this
    exact ⟨h2, Alt.pe h4⟩

theorem Alt.closed (M : MtOk g mate) {next : Nat → Nat} {t : Nat} (ht : mate t = none) : ∀ {l : List Nat}, Alt g mate next t l → ∀ x ∈ l, ∀ y, mate x = some y → y ∈ l
  | [a], h, x, hx, y, hm => by
    have h' : a = t := h
    simp at hx
    rw [hx, h', ht] at hm
    cases hm
  | a :: m :: l, h, x, hx, y, hm => by
    rcases List.mem_cons.1 hx with rfl | hx
    · rw [h.1] at hm
      cases hm
      simp
    rcases List.mem_cons.1 hx with rfl | hx
    · rw [M.back _ _ h.1] at hm
      cases hm
      simp
    · have := Alt.closed M ht h.2.2.2 x hx y hm
      simp [this]

theorem flip_spec : ∀ {l : List Nat} (mate : Nat → Option Nat), PE g l → l.Nodup → (∀ x, x ∉ l → flip mate l x = mate x) ∧ (∀ x ∈ l, ∃ y ∈ l, flip mate l x = some y ∧ flip mate l y = some x ∧ (g.adj x y = true ∨ g.adj y x = true))
  | [], _, _, _ => ⟨fun _ _ => rfl, fun x hx => by cases hx⟩
  | a :: b :: l, mate, h, hn => by
    simp only [List.nodup_cons, List.mem_cons, not_or] at hn
    obtain ⟨k1, k2⟩ := flip_spec (setAt (setAt mate a (some b)) b (some a)) h.2 hn.2.2
    have ha : flip (setAt (setAt mate a (some b)) b (some a)) l a = some b := by
      rw [k1 a hn.1.2]
      unfold setAt
      rw [if_neg hn.1.1, if_pos rfl]
    have hb : flip (setAt (setAt mate a (some b)) b (some a)) l b = some a := by
      rw [k1 b hn.2.1]
      unfold setAt
      rw [if_pos rfl]
    refine ⟨fun x hx => ?_, fun x hx => ?_⟩
    · simp only [List.mem_cons, not_or] at hx
      show flip (setAt (setAt mate a (some b)) b (some a)) l x = mate x
      rw [k1 x hx.2.2]
      unfold setAt
      rw [if_neg hx.2.1, if_neg hx.1]
    · rcases List.mem_cons.1 hx with rfl | hx
      · exact ⟨b, by simp, ha, hb, .inl h.1⟩
      rcases List.mem_cons.1 hx with rfl | hx
      · exact ⟨a, by simp, hb, ha, .inr h.1⟩
      · obtain ⟨y, hy, e⟩ := k2 x hx
        exact ⟨y, by simp [hy], e⟩

theorem flip_ok (G : GrOk g) (M : MtOk g mate) {l : List Nat} (hp : PE g l) (hn : l.Nodup) (hc : ∀ x ∈ l, ∀ y, mate x = some y → y ∈ l) : MtOk g (flip mate l) := by
  obtain ⟨k1, k2⟩ := flip_spec mate hp hn
  have key : ∀ a b, flip mate l a = some b → g.adj a b = true ∧ flip mate l b = some a := by
    intro a b hab
    by_cases ha : a ∈ l
    · obtain ⟨y, _, e1, e2, e3⟩ := k2 a ha
      rw [e1] at hab
      cases hab
      exact ⟨e3.elim id (G.sym _ _), e2⟩
    · rw [k1 a ha] at hab
      have hb : b ∉ l := fun hb => ha (hc b hb a (M.back _ _ hab))
      exact ⟨M.adj _ _ hab, by rw [k1 b hb]; exact M.back _ _ hab⟩
  exact ⟨fun a b hab => (key a b hab).1, fun a b hab => (key a b hab).2⟩

theorem nodup_rev : ∀ {l : List Nat}, l.Nodup → l.reverse.Nodup
  | [], _ => by simp
  | a :: l, h => by
    simp only [List.nodup_cons] at h
    rw [List.reverse_cons]
    refine List.nodup_append.2 ⟨nodup_rev h.2, by simp, fun x hx y hy k => ?_⟩
    simp at hy
    subst k hy
    exact h.1 (List.mem_reverse.1 hx)

/-- The path between two roots. -/
structure Aug (g : Gr) (mate : Nat → Option Nat) (p : List Nat) : Prop where
  pe : PE g p
  nodup : p.Nodup
  closed : ∀ x ∈ p, ∀ y, mate x = some y → y ∈ p
  free : ∃ x ∈ p, mate x = none ∧ x < g.n
  lt : ∀ x ∈ p, x < g.n

theorem aug_of (G : GrOk g) (M : MtOk g mate) (I : Inv g mate f h) {v w : Nat} (hvw : g.adj v w = true) {l r : List Nat} (hl : Rt g mate f h v l) (hr : Rt g mate f h w r) (hne : h.root v ≠ h.root w) : Aug g mate (l.reverse ++ r) := by
  have hlt : ∀ {u : Nat} {k : List Nat}, Rt g mate f h u k → ∀ x ∈ k, x < g.n := fun {u k} c x hx => by
    rcases c.lab x hx with e | ⟨_, b, e, _⟩
    · exact I.olt x e.1
    · exact (G.lt _ _ (M.adj _ _ e)).1
  refine ⟨?_, ?_, ?_, ?_, ?_⟩
  · match l, r, hl.head, hr.head, hl.alt, hr.alt with
    | a :: l, b :: r, h1, h2, h3, h4 =>
      simp at h1 h2
      subst h1 h2
      have : (a :: l).reverse ++ b :: r = l.reverse ++ (a :: b :: r) := by simp
      rw [this]
      exact PE.append (PE.reverse G (Alt.pe h3)) ⟨hvw, Alt.pe h4⟩
  · refine List.nodup_append.2 ⟨nodup_rev hl.nodup, hr.nodup, fun a ha b hb k => ?_⟩
    subst k
    rcases hl.lab a (List.mem_reverse.1 ha) with ⟨e1, _, e2⟩ | ⟨e1, c, e2, _, _, _, e3⟩
    · rcases hr.lab a hb with ⟨_, _, k2⟩ | ⟨k1, _⟩
      · exact hne (e2.symm.trans k2)
      · rw [e1] at k1; cases k1
    · rcases hr.lab a hb with ⟨k1, _⟩ | ⟨_, d, k2, _, _, _, k3⟩
      · rw [e1] at k1; cases k1
      · rw [e2] at k2
        cases k2
        exact hne (e3.symm.trans k3)
  · intro x hx y hm
    rcases List.mem_append.1 hx with hx | hx
    · exact List.mem_append_left _ (List.mem_reverse.2 (Alt.closed M hl.free hl.alt x (List.mem_reverse.1 hx) y hm))
    · exact List.mem_append_right _ (Alt.closed M hr.free hr.alt x hx y hm)
  · exact ⟨h.root w, List.mem_append_right _ hr.alt.mem, hr.free, hlt hr _ hr.alt.mem⟩
  · intro x hx
    rcases List.mem_append.1 hx with hx | hx
    · exact hlt hl x (List.mem_reverse.1 hx)
    · exact hlt hr x hx
end
/-- How many numbers below n are so. -/
def cnt : Nat → (Nat → Bool) → Nat
  | 0, _ => 0
  | n + 1, p => cnt n p + if p n then 1 else 0

theorem cnt_len (n : Nat) (p : Nat → Bool) : ((List.range n).filter p).length = cnt n p := by
  induction n with
  | zero => rfl
  | succ n ih =>
    rw [List.range_succ, List.filter_append, List.length_append, ih, cnt]
    cases hp : p n <;> simp [hp]

theorem cnt_congr {n : Nat} {p q : Nat → Bool} (h : ∀ k, k < n → p k = q k) : cnt n p = cnt n q := by
  induction n with
  | zero => rfl
  | succ n ih => rw [cnt, cnt, ih fun k hk => h k (by omega), h n (by omega)]

theorem cnt_split (n : Nat) (p q : Nat → Bool) : cnt n p = cnt n (fun k => p k && q k) + cnt n (fun k => p k && !q k) := by
  induction n with
  | zero => rfl
  | succ n ih =>
    rw [cnt, cnt, cnt, ih]
    cases p n <;> cases q n <;> simp <;> omega

theorem cnt_le {n : Nat} {p : Nat → Bool} : cnt n p ≤ n := by
  induction n with
  | zero => exact Nat.le_refl _
  | succ n ih =>
    rw [cnt]
    split <;> omega

theorem cnt_all (n : Nat) : cnt n (fun _ => true) = n := by
  induction n with
  | zero => rfl
  | succ n ih => rw [cnt, ih]; simp

theorem cnt_none {n : Nat} {p : Nat → Bool} (h : ∀ k, k < n → p k = false) : cnt n p = 0 := by
  induction n with
  | zero => rfl
  | succ n ih => rw [cnt, ih fun k hk => h k (by omega), h n (by omega)]; rfl

theorem len_inj : ∀ (l : List Nat) (f : Nat → Nat) (r : List Nat), l.Nodup → (∀ x ∈ l, f x ∈ r) → (∀ x ∈ l, ∀ y ∈ l, f x = f y → x = y) → l.length ≤ r.length
  | [], _, _, _, _, _ => Nat.zero_le _
  | x :: l, f, r, hn, hm, hi => by
    simp only [List.nodup_cons] at hn
    have hx := hm x (by simp)
    have h1 := len_inj l f (r.erase (f x)) hn.2 (fun y hy => by
      refine (List.mem_erase_of_ne fun e => ?_).2 (hm y (by simp [hy]))
      have := hi y (by simp [hy]) x (by simp) e
      exact hn.1 (this ▸ hy)) (fun y hy z hz e => hi y (by simp [hy]) z (by simp [hz]) e)
    have h2 := List.length_erase_of_mem hx
    have h3 : 0 < r.length := List.length_pos_of_mem hx
    simp only [List.length_cons]
    omega

theorem cnt_inj {n : Nat} {p q : Nat → Bool} (f : Nat → Nat) (h1 : ∀ k, k < n → p k = true → f k < n ∧ q (f k) = true) (h2 : ∀ a b, a < n → b < n → p a = true → p b = true → f a = f b → a = b) : cnt n p ≤ cnt n q := by
  rw [← cnt_len, ← cnt_len]
  refine len_inj _ f _ (List.Pairwise.filter _ List.nodup_range) ?_ ?_
  · intro x hx
    rw [List.mem_filter, List.mem_range] at hx ⊢
    exact h1 x hx.1 hx.2
  · intro x hx y hy e
    rw [List.mem_filter, List.mem_range] at hx hy
    exact h2 x y hx.1 hy.1 hx.2 hy.2 e

/-- A set that is its own mirror, without a fixed number: half of it lies below its image. -/
theorem cnt_invol {n : Nat} {p : Nat → Bool} (φ : Nat → Nat) (h : ∀ k, k < n → p k = true → φ k < n ∧ p (φ k) = true ∧ φ (φ k) = k ∧ φ k ≠ k) : cnt n p = 2 * cnt n (fun k => p k && decide (k < φ k)) := by
  rw [cnt_split n p (fun k => decide (k < φ k))]
  have h1 : cnt n (fun k => p k && decide (k < φ k)) ≤ cnt n (fun k => p k && !decide (k < φ k)) := by
    refine cnt_inj φ ?_ ?_
    · intro k hk hp
      simp only [Bool.and_eq_true, decide_eq_true_eq] at hp
      obtain ⟨k1, k2, k3, k4⟩ := h k hk hp.1
      refine ⟨k1, ?_⟩
      simp only [Bool.and_eq_true, Bool.not_eq_true', decide_eq_false_iff_not]
      exact ⟨k2, by rw [k3]; omega⟩
    · intro a b ha hb pa pb e
      simp only [Bool.and_eq_true] at pa pb
      rw [← (h a ha pa.1).2.2.1, ← (h b hb pb.1).2.2.1, e]
  have h2 : cnt n (fun k => p k && !decide (k < φ k)) ≤ cnt n (fun k => p k && decide (k < φ k)) := by
    refine cnt_inj φ ?_ ?_
    · intro k hk hp
      simp only [Bool.and_eq_true, Bool.not_eq_true', decide_eq_false_iff_not] at hp
      obtain ⟨k1, k2, k3, k4⟩ := h k hk hp.1
      refine ⟨k1, ?_⟩
      simp only [Bool.and_eq_true, decide_eq_true_eq]
      exact ⟨k2, by rw [k3]; omega⟩
    · intro a b ha hb pa pb e
      simp only [Bool.and_eq_true] at pa pb
      rw [← (h a ha pa.1).2.2.1, ← (h b hb pb.1).2.2.1, e]
  omega

theorem cnt_one {n b : Nat} (hb : b < n) (p : Nat → Bool) (hp : p b = true) : cnt n p = cnt n (fun k => p k && !(k == b)) + 1 := by
  rw [cnt_split n p (fun k => k == b)]
  have h1 : cnt n (fun k => p k && (k == b)) = 1 := by
    have key : ∀ n, b < n → cnt n (fun k => p k && (k == b)) = 1 := by
      intro n
      induction n with
      | zero => intro h; omega
      | succ n ih =>
        intro hb
        rw [cnt]
        by_cases e : n = b
        · subst e
          rw [cnt_none (fun k hk => by simp; intro _; omega), hp]
          simp
        · rw [ih (by omega)]
          simp [e]
    exact key n hb
  omega

section
variable {g : Gr} {mate : Nat → Option Nat} {f : Fo} {h : Gh}
/-- No edge leads on. -/
structure Shut (g : Gr) (f : Fo) : Prop where
  seen : ∀ v w, f.outer v = true → g.adj v w = true → f.inner w = true ∨ f.outer w = true
  ring : ∀ v w, f.outer v = true → g.adj v w = true → f.outer w = true → f.ring v w = true

def bar (f : Fo) (x : Nat) : Bool := f.inner x && !f.outer x
def isBase (f : Fo) (h : Gh) (x : Nat) : Bool := f.outer x && (h.base x == x)
def mateOf (mate : Nat → Option Nat) (x : Nat) : Nat := (mate x).getD x

theorem bar_iff {x : Nat} : bar f x = true ↔ f.inner x = true ∧ f.outer x = false := by
  unfold bar
  cases f.inner x <;> cases f.outer x <;> simp
theorem isBase_iff {x : Nat} : isBase f h x = true ↔ f.outer x = true ∧ h.base x = x := by
  unfold isBase
  simp

/-- In a ring all but its base are paired with one another. -/
theorem Inv.ringMate (M : MtOk g mate) (I : Inv g mate f h) {v x : Nat} (hv : f.outer v = true) (hx : f.ring v x = true) (hne : x ≠ h.base v) : ∃ m, mate x = some m ∧ f.ring v m = true ∧ m ≠ h.base v := by
  have hxo := I.rout v x hv hx
  have hbx := (I.baseC v x hv hx).1
  obtain ⟨s, h1, h2, h3, _⟩ := I.seg x hxo
  match s, h1, h2, h3 with
  | [y], h1, h2, _ =>
    simp at h1
    have h2' : y = h.base x := h2
    exact absurd (h1.symm.trans (h2'.trans hbx)) hne
  | y :: m :: s, h1, h2, h3 =>
    simp at h1
    subst h1
    have hm := h2.1
    have hrm : f.ring v m = true := by rw [← I.same v y hx]; exact h3 m (by simp)
    refine ⟨m, hm, hrm, ?_⟩
    intro e
    obtain ⟨b1, b2, _⟩ := I.baseB hv
    have k := (I.up (h.base v) y b1 b2 (by rw [← e]; exact M.back _ _ hm)).2.1
    rw [hxo] at k
    cases k

/-- A ring is odd. -/
theorem Inv.ringOdd (G : GrOk g) (M : MtOk g mate) (I : Inv g mate f h) {v : Nat} (hv : f.outer v = true) : cnt g.n (f.ring v) % 2 = 1 := by
  obtain ⟨b1, _⟩ := I.baseB hv
  rw [cnt_one (I.olt _ b1) _ (I.base v hv)]
  rw [cnt_invol (p := fun k => f.ring v k && !(k == h.base v)) (mateOf mate) (by
    intro k hk hp
    simp only [Bool.and_eq_true, Bool.not_eq_true', beq_eq_false_iff_ne] at hp
    obtain ⟨m, hm, hr, hne⟩ := I.ringMate M hv hp.1 hp.2
    have e : mateOf mate k = m := by unfold mateOf; rw [hm]; rfl
    have e2 : mateOf mate m = k := by unfold mateOf; rw [M.back _ _ hm]; rfl
    rw [e]
    refine ⟨(G.lt _ _ (M.adj _ _ hm)).2, ?_, e2, ?_⟩
    · simp only [Bool.and_eq_true, Bool.not_eq_true', beq_eq_false_iff_ne]
      exact ⟨hr, hne⟩
    · rintro rfl
      have := M.adj _ _ hm
      rw [G.irr] at this
      cases this)]
  omega

/-- As many bases as there are vertices without a mate and vertices of the barrier. -/
theorem bases_count (G : GrOk g) (M : MtOk g mate) (I : Inv g mate f h) : cnt g.n (isBase f h) = cnt g.n (fun x => (mate x).isNone) + cnt g.n (bar f) := by
  rw [cnt_split g.n (isBase f h) (fun x => (mate x).isNone)]
  have e1 : cnt g.n (fun k => isBase f h k && (mate k).isNone) = cnt g.n (fun x => (mate x).isNone) := by
    refine cnt_congr fun k hk => ?_
    cases hm : (mate k).isNone
    · simp
    · have hm' : mate k = none := by simpa using hm
      obtain ⟨k1, k2, _⟩ := I.rootO k hk hm'
      simp [isBase, k1, k2]
  have e2 : cnt g.n (fun k => isBase f h k && !(mate k).isNone) = cnt g.n (bar f) := by
    refine Nat.le_antisymm (cnt_inj (mateOf mate) ?_ ?_) (cnt_inj (mateOf mate) ?_ ?_)
    · intro k hk hp
      simp only [Bool.and_eq_true, Bool.not_eq_true'] at hp
      cases hm : mate k with
      | none => rw [hm] at hp; cases hp.2
      | some m =>
        obtain ⟨k1, k2⟩ := isBase_iff.1 hp.1
        obtain ⟨u1, u2, _⟩ := I.up k m k1 k2 hm
        have e : mateOf mate k = m := by unfold mateOf; rw [hm]; rfl
        rw [e]
        exact ⟨(G.lt _ _ (M.adj _ _ hm)).2, bar_iff.2 ⟨u1, u2⟩⟩
    · intro a b ha hb pa pb e
      simp only [Bool.and_eq_true, Bool.not_eq_true'] at pa pb
      cases hma : mate a with
      | none => rw [hma] at pa; cases pa.2
      | some m =>
        cases hmb : mate b with
        | none => rw [hmb] at pb; cases pb.2
        | some m' =>
          unfold mateOf at e
          rw [hma, hmb] at e
          have e' : m = m' := e
          subst e'
          have k1 := M.back _ _ hma
          rw [M.back _ _ hmb] at k1
          cases k1
          rfl
    · intro k hk hp
      obtain ⟨k1, k2⟩ := bar_iff.1 hp
      obtain ⟨b, hm, hb1, hb2⟩ := I.inn k k1 k2
      have e : mateOf mate k = b := by unfold mateOf; rw [hm]; rfl
      rw [e]
      refine ⟨I.olt b hb1, ?_⟩
      simp only [Bool.and_eq_true, Bool.not_eq_true']
      exact ⟨isBase_iff.2 ⟨hb1, hb2⟩, by rw [M.back _ _ hm]; rfl⟩
    · intro a b ha hb pa pb e
      obtain ⟨k1, k2⟩ := bar_iff.1 pa
      obtain ⟨x, hx, _⟩ := I.inn a k1 k2
      obtain ⟨l1, l2⟩ := bar_iff.1 pb
      obtain ⟨y, hy, _⟩ := I.inn b l1 l2
      unfold mateOf at e
      rw [hx, hy] at e
      have e' : x = y := e
      subst e'
      have k3 := M.back _ _ hx
      rw [M.back _ _ hy] at k3
      cases k3
      rfl
  omega

/-- What has a mate goes by twos. -/
theorem pairs_count (G : GrOk g) (M : MtOk g mate) : g.n = cnt g.n (fun x => (mate x).isNone) + 2 * cnt g.n (fun x => (mate x).isSome && decide (x < mateOf mate x)) := by
  have h1 := cnt_split g.n (fun _ => true) (fun x => (mate x).isNone)
  rw [cnt_all] at h1
  simp only [Bool.true_and] at h1
  have h2 : cnt g.n (fun x => !(mate x).isNone) = cnt g.n (fun x => (mate x).isSome) := cnt_congr fun k _ => by cases mate k <;> rfl
  rw [h2, cnt_invol (p := fun x => (mate x).isSome) (mateOf mate) (by
    intro k hk hp
    cases hm : mate k with
    | none => rw [hm] at hp; cases hp
    | some m =>
      have e : mateOf mate k = m := by unfold mateOf; rw [hm]; rfl
      have e2 : mateOf mate m = k := by unfold mateOf; rw [M.back _ _ hm]; rfl
      rw [e]
      refine ⟨(G.lt _ _ (M.adj _ _ hm)).2, by rw [M.back _ _ hm]; rfl, e2, ?_⟩
      rintro rfl
      have := M.adj _ _ hm
      rw [G.irr] at this
      cases this)] at h1
  exact h1

/-- A naming of the pieces that are left without the barrier: vertices that hang together have one name, and whoever has one name hangs together. -/
structure Naming (g : Gr) (out : Nat → Bool) (name : Nat → Nat) : Prop where
  lt : ∀ k, k < g.n → name k < g.n
  edge : ∀ a b, g.adj a b = true → out a = false → out b = false → name a = name b
  hang : ∀ (P : Nat → Prop) (a b : Nat), a < g.n → b < g.n → out a = false → out b = false → name a = name b → (∀ x y, P x → g.adj x y = true → out y = false → P y) → P a → P b

theorem alt_name (M : MtOk g mate) {name : Nat → Nat} (N : Naming g (bar f) name) : ∀ (s : List Nat) (t : Nat), Alt g mate f.next t s → (∀ z ∈ s, bar f z = false) → ∀ y, s.head? = some y → name y = name t
  | [x], t, ha, _, y, hy => by
    have : x = t := ha
    simp at hy
    rw [← hy, this]
  | x :: m :: l, t, ha, hb, y, hy => by
    obtain ⟨h1, h2, h3, h4⟩ := ha
    simp at hy
    subst hy
    rw [N.edge x m (M.adj _ _ h1) (hb x (by simp)) (hb m (by simp)), ← alt_name M N l t h4 (fun z hz => hb z (by simp [hz])) _ h3]
    refine N.edge m _ h2 (hb m (by simp)) (hb _ ?_)
    have : f.next m ∈ l := List.mem_of_mem_head? h3
    simp [this]

theorem Inv.ringName (M : MtOk g mate) (I : Inv g mate f h) {name : Nat → Nat} (N : Naming g (bar f) name) {v : Nat} (hv : f.outer v = true) {x : Nat} (hx : f.ring v x = true) : name x = name (h.base v) := by
  have hno : ∀ z, f.ring v z = true → bar f z = false := fun z hz => by
    unfold bar
    rw [I.rout v z hv hz]
    simp
  obtain ⟨s, h1, h2, h3, _⟩ := I.seg x (I.rout v x hv hx)
  rw [(I.baseC v x hv hx).1] at h2
  have h3' : ∀ z ∈ s, f.ring v z = true := fun z hz => by rw [← I.same v x hx]; exact h3 z hz
  exact alt_name M N s _ h2 (fun z hz => hno z (h3' z hz)) x h1

theorem Inv.hangRing (I : Inv g mate f h) (S : Shut g f) {v : Nat} (hv : f.outer v = true) : ∀ x y, (f.ring v x = true) → g.adj x y = true → bar f y = false → f.ring v y = true := by
  intro x y hx hxy hb
  have hxo := I.rout v x hv hx
  have hyo : f.outer y = true := by
    rcases S.seen x y hxo hxy with k | k
    · cases ho : f.outer y
      · rw [bar_iff.2 ⟨k, ho⟩] at hb
        cases hb
      · rfl
    · exact k
  rw [← I.same v x hx]
  exact S.ring x y hxo hxy hyo

def total : Nat → (Nat → Nat) → Nat
  | 0, _ => 0
  | n + 1, c => total n c + c n

theorem total_cnt {n : Nat} {c : Nat → Nat} {p : Nat → Bool} (h : ∀ i, i < n → c i = if p i then 1 else 0) : total n c = cnt n p := by
  induction n with
  | zero => rfl
  | succ n ih => rw [total, cnt, ih fun i hi => h i (by omega), h n (by omega)]

/-- Without the barrier there are as many odd pieces as there are bases. -/
theorem odd_count (G : GrOk g) (M : MtOk g mate) (I : Inv g mate f h) (S : Shut g f) {name : Nat → Nat} (N : Naming g (bar f) name) :
    total g.n (fun i => cnt g.n (fun k => !bar f k && (name k == i)) % 2) = cnt g.n (isBase f h) := by
  have hno : ∀ z, f.outer z = true → bar f z = false := fun z hz => by
    unfold bar
    rw [hz]
    simp
  have hbn : ∀ b, isBase f h b = true → f.outer b = true ∧ h.base b = b ∧ b < g.n := fun b hb => by
    obtain ⟨k1, k2⟩ := isBase_iff.1 hb
    exact ⟨k1, k2, I.olt b k1⟩
  have hsame : ∀ b k, isBase f h b = true → k < g.n → bar f k = false → name k = name b → f.ring b k = true := fun b k hb hk hbk e => by
    obtain ⟨k1, k2, k3⟩ := hbn b hb
    exact N.hang (fun x => f.ring b x = true) b k k3 hk (hno b k1) hbk e.symm (I.hangRing S k1) (I.self b (Nat.lt_of_lt_of_le k3 G.n24))
  rw [total_cnt (p := fun i => (List.range g.n).any fun b => isBase f h b && (name b == i))]
  · refine Nat.le_antisymm (cnt_inj (fun i => ((List.range g.n).find? fun b => isBase f h b && (name b == i)).getD 0) ?_ ?_) (cnt_inj name ?_ ?_)
    · intro i _ hi
      cases hf : (List.range g.n).find? fun b => isBase f h b && (name b == i) with
      | none =>
        rw [List.any_eq_true] at hi
        obtain ⟨b, hb, hp⟩ := hi
        rw [List.find?_eq_none] at hf
        exact absurd hp (hf b hb)
      | some b =>
        have k1 := List.find?_some hf
        have k2 := List.mem_of_find?_eq_some hf
        simp only [Bool.and_eq_true] at k1
        exact ⟨List.mem_range.1 k2, k1.1⟩
    · intro a b _ _ ha hb e
      have one : ∀ i, ((List.range g.n).any fun b => isBase f h b && (name b == i)) = true → name (((List.range g.n).find? fun b => isBase f h b && (name b == i)).getD 0) = i := by
        intro i hi
        cases hf : (List.range g.n).find? fun b => isBase f h b && (name b == i) with
        | none =>
          rw [List.any_eq_true] at hi
          obtain ⟨b, hb, hp⟩ := hi
          rw [List.find?_eq_none] at hf
          exact absurd hp (hf b hb)
        | some b =>
          have k1 := List.find?_some hf
          simp only [Bool.and_eq_true, beq_iff_eq] at k1
          exact k1.2
      have e2 := congrArg name e
      rw [one a ha, one b hb] at e2
      exact e2
    · intro b hb hp
      refine ⟨N.lt b hb, ?_⟩
      rw [List.any_eq_true]
      exact ⟨b, List.mem_range.2 hb, by simp [hp]⟩
    · intro a b ha hb pa pb e
      have k1 := hsame b a pb ha (hno a (hbn a pa).1) e
      have k2 := (I.baseC b a (hbn b pb).1 k1).1
      rw [(hbn a pa).2.1, (hbn b pb).2.1] at k2
      exact k2
  · intro i hi
    by_cases hex : ∃ b, b < g.n ∧ isBase f h b = true ∧ name b = i
    · obtain ⟨b, hb, hbb, hbi⟩ := hex
      have e1 : ((List.range g.n).any fun b => isBase f h b && (name b == i)) = true := by
        rw [List.any_eq_true]
        exact ⟨b, List.mem_range.2 hb, by simp [hbb, hbi]⟩
      rw [e1]
      have e2 : cnt g.n (fun k => !bar f k && (name k == i)) = cnt g.n (f.ring b) := by
        refine cnt_congr fun k hk => ?_
        rw [Bool.eq_iff_iff]
        simp only [Bool.and_eq_true, Bool.not_eq_true', beq_iff_eq]
        refine ⟨fun ⟨k1, k2⟩ => hsame b k hbb hk k1 (k2.trans hbi.symm), fun k1 => ?_⟩
        obtain ⟨c1, c2, _⟩ := hbn b hbb
        refine ⟨hno k (I.rout b k c1 k1), ?_⟩
        rw [I.ringName M N c1 k1, c2]
        exact hbi
      show cnt g.n (fun k => !bar f k && (name k == i)) % 2 = if true = true then 1 else 0
      rw [e2, I.ringOdd G M (hbn b hbb).1]
      rfl
    · have e1 : ((List.range g.n).any fun b => isBase f h b && (name b == i)) = false := by
        rw [List.any_eq_false]
        intro b hb hp
        simp only [Bool.and_eq_true, beq_iff_eq] at hp
        exact hex ⟨b, List.mem_range.1 hb, hp.1, hp.2⟩
      rw [e1]
      show cnt g.n (fun k => !bar f k && (name k == i)) % 2 = if false = true then 1 else 0
      have hfr : ∀ k, k < g.n → bar f k = false → name k = i → f.outer k = false ∧ f.inner k = false := by
        intro k hk hbk hni
        have ho : f.outer k = false := by
          cases ho : f.outer k
          · rfl
          · obtain ⟨b1, b2, _⟩ := I.baseB ho
            exact absurd ⟨h.base k, I.olt _ b1, isBase_iff.2 ⟨b1, b2⟩, by rw [← I.ringName M N ho (I.self k (Nat.lt_of_lt_of_le hk G.n24))]; exact hni⟩ hex
        refine ⟨ho, ?_⟩
        cases hi' : f.inner k
        · rfl
        · rw [bar_iff.2 ⟨hi', ho⟩] at hbk
          cases hbk
      rw [cnt_invol (p := fun k => !bar f k && (name k == i)) (mateOf mate) (by
        intro k hk hp
        simp only [Bool.and_eq_true, Bool.not_eq_true', beq_iff_eq] at hp
        obtain ⟨c1, c2⟩ := hfr k hk hp.1 hp.2
        obtain ⟨u, hm, d1, d2⟩ := I.fresh M hk c1 c2
        have e : mateOf mate k = u := by unfold mateOf; rw [hm]; rfl
        have e2 : mateOf mate u = k := by unfold mateOf; rw [M.back _ _ hm]; rfl
        have hbu : bar f u = false := by unfold bar; rw [d2]; rfl
        rw [e]
        refine ⟨(G.lt _ _ (M.adj _ _ hm)).2, ?_, e2, ?_⟩
        · simp only [Bool.and_eq_true, Bool.not_eq_true', beq_iff_eq]
          exact ⟨hbu, by rw [← N.edge k u (M.adj _ _ hm) hp.1 hbu]; exact hp.2⟩
        · rintro rfl
          have := M.adj _ _ hm
          rw [G.irr] at this
          cases this)]
      rw [Nat.mul_mod_right]
      rfl

/-- No matching has more pairs. -/
theorem no_more (G : GrOk g) (M : MtOk g mate) (I : Inv g mate f h) (S : Shut g f) {m2 : Nat → Option Nat} (M2 : MtOk g m2) : cnt g.n (fun x => (mate x).isNone) ≤ cnt g.n (fun x => (m2 x).isNone) := by
  have hb := bases_count G M I
  have key : cnt g.n (isBase f h) ≤ cnt g.n (fun x => (m2 x).isNone || bar f x) := by
    have ex : ∀ b, isBase f h b = true → ∃ y, y < g.n ∧ ((m2 y).isNone || bar f y) = true ∧ ∃ x, f.ring b x = true ∧ (y = x ∧ m2 x = none ∨ m2 x = some y ∧ bar f y = true) := by
      intro b hbb
      obtain ⟨c1, c2⟩ := isBase_iff.1 hbb
      by_cases hall : ∀ x, f.ring b x = true → ∃ y, m2 x = some y ∧ f.ring b y = true
      · have h1 := I.ringOdd G M c1
        rw [cnt_invol (p := f.ring b) (mateOf m2) (by
          intro k hk hp
          obtain ⟨y, hm, hr⟩ := hall k hp
          have e : mateOf m2 k = y := by unfold mateOf; rw [hm]; rfl
          have e2 : mateOf m2 y = k := by unfold mateOf; rw [M2.back _ _ hm]; rfl
          rw [e]
          refine ⟨(G.lt _ _ (M2.adj _ _ hm)).2, hr, e2, ?_⟩
          rintro rfl
          have := M2.adj _ _ hm
          rw [G.irr] at this
          cases this)] at h1
        omega
      · obtain ⟨x, hx⟩ := Classical.not_forall.1 hall
        obtain ⟨hx, hn⟩ := Classical.not_imp.1 hx
        cases hm : m2 x with
        | none => exact ⟨x, I.olt x (I.rout b x c1 hx), by rw [hm]; rfl, x, hx, .inl ⟨rfl, hm⟩⟩
        | some y =>
          have hyb : bar f y = true := by
            cases hyb : bar f y
            · exact absurd ⟨y, hm, I.hangRing S c1 x y hx (M2.adj _ _ hm) hyb⟩ hn
            · rfl
          exact ⟨y, (G.lt _ _ (M2.adj _ _ hm)).2, by rw [hyb]; simp, x, hx, .inr ⟨hm, hyb⟩⟩
    have hc : ∃ F : Nat → Nat, ∀ b, isBase f h b = true → F b < g.n ∧ ((m2 (F b)).isNone || bar f (F b)) = true ∧ ∃ x, f.ring b x = true ∧ (F b = x ∧ m2 x = none ∨ m2 x = some (F b) ∧ bar f (F b) = true) := by
      refine ⟨fun b => if hb : isBase f h b = true then Classical.choose (ex b hb) else 0, fun b hb => ?_⟩
      simp only [dif_pos hb]
      exact Classical.choose_spec (ex b hb)
    obtain ⟨F, hF⟩ := hc
    refine cnt_inj F (fun b _ hb => ⟨(hF b hb).1, (hF b hb).2.1⟩) ?_
    intro a b _ _ ha hb e
    obtain ⟨_, _, x, hx, kx⟩ := hF a ha
    obtain ⟨_, _, y, hy, ky⟩ := hF b hb
    have hxy : x = y := by
      rcases kx with ⟨k1, k2⟩ | ⟨k1, k2⟩
      · rcases ky with ⟨l1, l2⟩ | ⟨l1, l2⟩
        · omega
        · rw [← e, k1] at l2
          unfold bar at l2
          rw [I.rout a x (isBase_iff.1 ha).1 hx] at l2
          simp at l2
      · rcases ky with ⟨l1, l2⟩ | ⟨l1, l2⟩
        · rw [e, l1] at k2
          unfold bar at k2
          rw [I.rout b y (isBase_iff.1 hb).1 hy] at k2
          simp at k2
        · have k3 := M2.back _ _ k1
          rw [e, M2.back _ _ l1] at k3
          cases k3
          rfl
    subst hxy
    have r1 := I.cls hx hy
    have r2 : f.ring a b = true := by rw [r1]; exact I.self b (I.rlt b x hy).1
    have := (I.baseC a b (isBase_iff.1 ha).1 r2).1
    rw [(isBase_iff.1 ha).2, (isBase_iff.1 hb).2] at this
    exact this.symm
  have h3 : cnt g.n (fun x => (m2 x).isNone || bar f x) ≤ cnt g.n (fun x => (m2 x).isNone) + cnt g.n (bar f) := by
    rw [cnt_split g.n (fun x => (m2 x).isNone || bar f x) (fun x => (m2 x).isNone)]
    have e1 : cnt g.n (fun k => ((m2 k).isNone || bar f k) && (m2 k).isNone) = cnt g.n (fun x => (m2 x).isNone) := cnt_congr fun k _ => by cases (m2 k).isNone <;> simp
    have e2 : cnt g.n (fun k => ((m2 k).isNone || bar f k) && !(m2 k).isNone) ≤ cnt g.n (bar f) := by
      refine cnt_inj (fun k => k) (fun k hk hp => ⟨hk, ?_⟩) (fun a b _ _ _ _ e => e)
      simp only [Bool.and_eq_true, Bool.or_eq_true, Bool.not_eq_true'] at hp
      rcases hp.1 with k1 | k1
      · rw [hp.2] at k1; cases k1
      · exact k1
    omega
  omega
end
end Go.Proofs.YtcabaecbmkgclaaGreatDoor.Mt
