/-
  Pieces found one by one, each from its least number on: what stands while they are found; a naming at the end.
  Lists of pairs, rows of Booleans; what the document's edge does.
  Where only some numbers have edges, the odd pieces among them are as many as they must be.
-/
import Derived.Test.YtcabaecbmkgclaaGreatDoorR31
import Derived.OwnWalk
namespace Go.Proofs.YtcabaecbmkgclaaGreatDoor.Mt
def Shutin (g : Gr) (blk : Nat → Bool) (P : Nat → Prop) : Prop := ∀ x y, P x → g.adj x y = true → blk y = false → P y

/-- All pieces of the numbers below i are found. -/
structure Bf (g : Gr) (blk : Nat → Bool) (i : Nat) (S : Nat → Bool) (name : Nat → Nat) : Prop where
  free : ∀ k, S k = true → blk k = false ∧ k < g.n
  nlt : ∀ k, S k = true → name k < i
  ns : ∀ k, S k = false → name k = k
  closed : ∀ k j, S k = true → g.adj k j = true → blk j = false → S j = true ∧ name j = name k
  hang : ∀ k, S k = true → ∀ P, Shutin g blk P → (P (name k) ↔ P k)
  all : ∀ k, k < i → blk k = false → S k = true

theorem Bf.start (g : Gr) (blk : Nat → Bool) : Bf g blk 0 (fun _ => false) fun k => k :=
  ⟨fun _ h => (by cases h), fun _ h => (by cases h), fun _ _ => rfl, fun _ _ h => (by cases h), fun _ h => (by cases h), fun k hk => (by omega)⟩

theorem Bf.skip {g : Gr} {blk : Nat → Bool} {i : Nat} {S : Nat → Bool} {name : Nat → Nat} (h : Bf g blk i S name) (hi : S i = true ∨ blk i = true) : Bf g blk (i + 1) S name := by
  refine ⟨h.free, fun k hk => by have := h.nlt k hk; omega, h.ns, h.closed, h.hang, fun k hk hb => ?_⟩
  by_cases e : k = i
  · subst e
    rcases hi with hi | hi
    · exact hi
    · rw [hi] at hb; cases hb
  · exact h.all k (by omega) hb

/-- One piece is being found, from i on: its m-th is looked at, with all below j. -/
structure Bi (g : Gr) (blk : Nat → Bool) (i : Nat) (S0 : Nat → Bool) (m j : Nat) (S : Nat → Bool) (piece : List Nat) : Prop where
  mem : ∀ k, S k = true ↔ S0 k = true ∨ k ∈ piece
  new : ∀ x ∈ piece, S0 x = false ∧ blk x = false ∧ x < g.n
  nodup : piece.Nodup
  head : i ∈ piece
  conn : ∀ x ∈ piece, ∀ P, Shutin g blk P → (P i ↔ P x)
  done : ∀ p x, p < m → piece[p]? = some x → ∀ y, g.adj x y = true → blk y = false → S y = true
  cur : ∀ x, piece[m]? = some x → ∀ y, y < j → g.adj x y = true → blk y = false → S y = true

section
variable {g : Gr} {blk : Nat → Bool} {i m j : Nat} {S0 S : Nat → Bool} {name0 : Nat → Nat} {piece : List Nat}
theorem Bi.start (hi : S0 i = false) (hb : blk i = false) (hn : i < g.n) : Bi g blk i S0 0 0 (setAt S0 i true) [i] := by
  refine ⟨fun k => ?_, fun x hx => by simp at hx; subst hx; exact ⟨hi, hb, hn⟩, by simp, by simp, fun x hx P _ => by simp at hx; subst hx; exact Iff.rfl, fun p _ hp => by omega, fun _ _ y hy => by omega⟩
  simp only [setAt, List.mem_singleton]
  by_cases e : k = i
  · rw [if_pos e]; simp [e]
  · rw [if_neg e]; simp [e]

theorem Bi.len (h : Bi g blk i S0 m j S piece) : piece.length ≤ g.n := by
  have := len_inj piece (fun x => x) (List.range g.n) h.nodup (fun x hx => List.mem_range.2 (h.new x hx).2.2) (fun x _ y _ e => e)
  simpa using this

/-- j is no neighbour, or is blocked, or was seen. -/
theorem Bi.pass (h : Bi g blk i S0 m j S piece) {x : Nat} (hx : piece[m]? = some x) (hj : g.adj x j = false ∨ S j = true ∨ blk j = true) : Bi g blk i S0 m (j + 1) S piece := by
  refine ⟨h.mem, h.new, h.nodup, h.head, h.conn, h.done, fun y hy z hz ha hb => ?_⟩
  rw [hx] at hy
  cases hy
  by_cases e : z = j
  · subst e
    rcases hj with hj | hj | hj
    · rw [hj] at ha; cases ha
    · exact hj
    · rw [hj] at hb; cases hb
  · exact h.cur x hx z (by omega) ha hb

/-- j is a new neighbour. -/
theorem Bi.add (G : GrOk g) (h : Bi g blk i S0 m j S piece) {x : Nat} (hx : piece[m]? = some x) (ha : g.adj x j = true) (hs : S j = false) (hb : blk j = false) : Bi g blk i S0 m (j + 1) (setAt S j true) (piece ++ [j]) := by
  have hm := (List.getElem?_eq_some_iff.1 hx).1
  have hjn := (G.lt x j ha).2
  have hj0 : S0 j = false := by
    cases e : S0 j
    · rfl
    · rw [(h.mem j).2 (.inl e)] at hs; cases hs
  have hjp : j ∉ piece := fun e => by rw [(h.mem j).2 (.inr e)] at hs; cases hs
  have up : ∀ k, S k = true → setAt S j true k = true := fun k hk => by
    unfold setAt
    split
    · rfl
    · exact hk
  have hxm := List.mem_of_getElem? hx
  refine ⟨fun k => ?_, fun z hz => ?_, ?_, by simp [h.head], fun z hz P hP => ?_, fun p z hp hz y hy hby => ?_, fun z hz y hy hay hby => ?_⟩
  · simp only [setAt, List.mem_append, List.mem_singleton]
    by_cases e : k = j
    · rw [if_pos e]; simp [e]
    · rw [if_neg e, h.mem k]; simp [e]
  · rcases List.mem_append.1 hz with hz | hz
    · exact h.new z hz
    · simp at hz; subst hz; exact ⟨hj0, hb, hjn⟩
  · rw [List.nodup_append]
    refine ⟨h.nodup, by simp, fun a ha' b hb' e => ?_⟩
    simp at hb'
    subst hb' e
    exact hjp ha'
  · rcases List.mem_append.1 hz with hz | hz
    · exact h.conn z hz P hP
    · simp at hz
      subst hz
      refine (h.conn x hxm P hP).trans ⟨fun k => hP x z k ha hb, fun k => hP z x k (G.sym x z ha) (h.new x hxm).2.1⟩
  · rw [List.getElem?_append_left (by omega)] at hz
    exact up y (h.done p z hp hz y hy hby)
  · rw [List.getElem?_append_left hm, hx] at hz
    cases hz
    by_cases e : y = j
    · subst e
      unfold setAt
      rw [if_pos rfl]
    · exact up y (h.cur x hx y (by omega) hay hby)

theorem Bi.row (G : GrOk g) (h : Bi g blk i S0 m g.n S piece) : Bi g blk i S0 (m + 1) 0 S piece := by
  refine ⟨h.mem, h.new, h.nodup, h.head, h.conn, fun p x hp hx y hy hb => ?_, fun _ _ y hy => by omega⟩
  by_cases e : p = m
  · subst e
    exact h.cur x hx y (G.lt x y hy).2 hy hb
  · exact h.done p x (by omega) hx y hy hb

def namedBy (name : Nat → Nat) (piece : List Nat) (i : Nat) : Nat → Nat := fun k => if k ∈ piece then i else name k

theorem Bi.finish (G : GrOk g) (hf : Bf g blk i S0 name0) (h : Bi g blk i S0 m j S piece) (hm : piece.length ≤ m) : Bf g blk (i + 1) S (namedBy name0 piece i) := by
  have dn : ∀ x ∈ piece, ∀ y, g.adj x y = true → blk y = false → S y = true := fun x hx y hy hb => by
    obtain ⟨p, hp⟩ := List.mem_iff_getElem?.1 hx
    have := (List.getElem?_eq_some_iff.1 hp).1
    exact h.done p x (by omega) hp y hy hb
  have old : ∀ k, S0 k = true → k ∉ piece := fun k hk hp => by rw [(h.new k hp).1] at hk; cases hk
  have nold : ∀ k, S0 k = true → namedBy name0 piece i k = name0 k := fun k hk => by unfold namedBy; rw [if_neg (old k hk)]
  have nnew : ∀ k, k ∈ piece → namedBy name0 piece i k = i := fun k hk => by unfold namedBy; rw [if_pos hk]
  refine ⟨fun k hk => ?_, fun k hk => ?_, fun k hk => ?_, fun k y hk ha hb => ?_, fun k hk P hP => ?_, fun k hk hb => ?_⟩
  · rcases (h.mem k).1 hk with hk | hk
    · exact hf.free k hk
    · exact (h.new k hk).2
  · rcases (h.mem k).1 hk with hk | hk
    · rw [nold k hk]; have := hf.nlt k hk; omega
    · rw [nnew k hk]; omega
  · have : k ∉ piece := fun e => by rw [(h.mem k).2 (.inr e)] at hk; cases hk
    unfold namedBy
    rw [if_neg this]
    refine hf.ns k ?_
    cases e : S0 k
    · rfl
    · rw [(h.mem k).2 (.inl e)] at hk; cases hk
  · rcases (h.mem k).1 hk with hk | hk
    · obtain ⟨h1, h2⟩ := hf.closed k y hk ha hb
      exact ⟨(h.mem y).2 (.inl h1), by rw [nold y h1, nold k hk, h2]⟩
    · have hy := dn k hk y ha hb
      refine ⟨hy, ?_⟩
      rcases (h.mem y).1 hy with hy | hy
      · have := (hf.closed y k hy (G.sym k y ha) (h.new k hk).2.1).1
        rw [(h.new k hk).1] at this
        cases this
      · rw [nnew y hy, nnew k hk]
  · rcases (h.mem k).1 hk with hk | hk
    · rw [nold k hk]; exact hf.hang k hk P hP
    · rw [nnew k hk]; exact h.conn k hk P hP
  · by_cases e : k = i
    · subst e
      exact (h.mem k).2 (.inr h.head)
    · exact (h.mem k).2 (.inl (hf.all k (by omega) hb))

/-- How many are in the piece named h. -/
def pieceCnt (n : Nat) (S : Nat → Bool) (name : Nat → Nat) (h : Nat) : Nat := cnt n (fun k => S k && (name k == h))

theorem Bf.none (hf : Bf g blk i S0 name0) {h : Nat} (hh : i ≤ h) : pieceCnt g.n S0 name0 h = 0 := by
  refine cnt_none fun k _ => ?_
  cases e : S0 k
  · rfl
  · have := hf.nlt k e
    simp
    omega

theorem Bi.same (h : Bi g blk i S0 m j S piece) {a : Nat} (ha : a < i) : pieceCnt g.n S (namedBy name0 piece i) a = pieceCnt g.n S0 name0 a := by
  refine cnt_congr fun k _ => ?_
  by_cases hp : k ∈ piece
  · have h1 := (h.mem k).2 (.inr hp)
    have h2 := (h.new k hp).1
    unfold namedBy
    rw [if_pos hp, h1, h2]
    simp
    omega
  · unfold namedBy
    rw [if_neg hp]
    have : S k = S0 k := by
      rw [Bool.eq_iff_iff, h.mem k]
      simp [hp]
    rw [this]

theorem Bi.size (hf : Bf g blk i S0 name0) (h : Bi g blk i S0 m j S piece) : pieceCnt g.n S (namedBy name0 piece i) i = piece.length := by
  unfold pieceCnt
  rw [← cnt_len]
  have key : ∀ k, (k ∈ (List.range g.n).filter fun k => S k && (namedBy name0 piece i k == i)) ↔ k ∈ piece := by
    intro k
    rw [List.mem_filter, List.mem_range]
    constructor
    · rintro ⟨_, hk⟩
      simp only [Bool.and_eq_true, beq_iff_eq] at hk
      rcases (h.mem k).1 hk.1 with h0 | h0
      · have h1 := hf.nlt k h0
        have hp : k ∉ piece := fun e => by rw [(h.new k e).1] at h0; cases h0
        have h2 := hk.2
        unfold namedBy at h2
        rw [if_neg hp] at h2
        omega
      · exact h0
    · intro hk
      refine ⟨(h.new k hk).2.2, ?_⟩
      unfold namedBy
      rw [if_pos hk, (h.mem k).2 (.inr hk)]
      simp
  refine Nat.le_antisymm (len_inj _ (fun x => x) _ (List.Pairwise.filter _ List.nodup_range) (fun x hx => (key x).1 hx) (fun x _ y _ e => e)) (len_inj _ (fun x => x) _ h.nodup (fun x hx => (key x).2 hx) (fun x _ y _ e => e))

theorem Bf.naming (hf : Bf g blk g.n S0 name0) (G : GrOk g) : Naming g blk name0 := by
  refine ⟨fun k hk => ?_, fun a b hab ha hb => ?_, fun P a b ha hb oa ob e hP pa => ?_⟩
  · cases e : S0 k
    · rw [hf.ns k e]; exact hk
    · exact hf.nlt k e
  · exact (hf.closed a b (hf.all a (G.lt a b hab).1 ha) hab hb).2.symm
  · have h1 := (hf.hang a (hf.all a ha oa) P hP).2 pa
    rw [e] at h1
    exact (hf.hang b (hf.all b hb ob) P hP).1 h1

theorem Bf.total (hf : Bf g blk g.n S0 name0) : total g.n (fun a => pieceCnt g.n S0 name0 a % 2) = total g.n (fun a => cnt g.n (fun k => !blk k && (name0 k == a)) % 2) := by
  refine total_congr fun a _ => ?_
  unfold pieceCnt
  rw [cnt_congr (q := fun k => !blk k && (name0 k == a))]
  intro k hk
  cases e : blk k
  · rw [hf.all k hk e]; rfl
  · have : S0 k = false := by
      cases e2 : S0 k
      · rfl
      · rw [(hf.free k e2).1] at e; cases e
    rw [this]
    rfl
end
end Go.Proofs.YtcabaecbmkgclaaGreatDoor.Mt
namespace Go.Proofs.YtcabaecbmkgclaaGreatDoor.Rf
open Go.RowKit Mt Mg
/-- A list of pairs of numbers that is read: it lies in block b from o on. -/
def NPr (w : World) (v : Value) (l : List (Nat × Nat)) : Prop := ∃ so cap, v = .slice so l.length cap ∧ l.length ≤ cap ∧ (l = [] ∨ ∃ b o, so = some ⟨b, o, none⟩ ∧ ∀ i a c : Nat, l[i]? = some (a, c) → w.cell? ⟨b, o + i * 2, none⟩ = some (.int .i64 (a : Int)) ∧ w.cell? ⟨b, o + i * 2 + 1, none⟩ = some (.int .i64 (c : Int)))

theorem NPr.at {w : World} {so : Option Addr} {n cap : Nat} {l : List (Nat × Nat)} (h : NPr w (.slice so n cap) l) {i a c : Nat} (hi : l[i]? = some (a, c)) : ∃ b o, so = some ⟨b, o, none⟩ ∧ w.cell? ⟨b, o + i * 2, none⟩ = some (.int .i64 (a : Int)) ∧ w.cell? ⟨b, o + i * 2 + 1, none⟩ = some (.int .i64 (c : Int)) := by
  obtain ⟨so', cap', e, _, hl⟩ := h
  simp only [Value.slice.injEq] at e
  obtain ⟨rfl, -, -⟩ := e
  rcases hl with rfl | ⟨b, o, rfl, hx⟩
  · simp at hi
  · exact ⟨b, o, rfl, hx i a c hi⟩

theorem NPr.same {w w' : World} {v : Value} {l : List (Nat × Nat)} (h : NPr w v l) (hs : ∀ so n cap b o, v = .slice so n cap → so = some ⟨b, o, none⟩ → b < w.heap.size → w'.heap[b]? = w.heap[b]?) : NPr w' v l := by
  obtain ⟨so, cap, rfl, hc, hl⟩ := h
  refine ⟨so, cap, rfl, hc, ?_⟩
  rcases hl with rfl | ⟨b, o, rfl, hx⟩
  · exact .inl rfl
  · refine .inr ⟨b, o, rfl, fun i a c hi => ?_⟩
    have hlt := World.block_lt_of_cell? w ⟨b, o + i * 2, none⟩ (hx i a c hi).1
    have hb := hs _ _ _ b o rfl rfl hlt
    exact ⟨(World.cell?_of_block (a := ⟨b, o + i * 2, none⟩) hb).trans (hx i a c hi).1, (World.cell?_of_block (a := ⟨b, o + i * 2 + 1, none⟩) hb).trans (hx i a c hi).2⟩

theorem NPr.below {w w' : World} {v : Value} {l : List (Nat × Nat)} (h : NPr w v l) (hb : Below w.heap.size w w') : NPr w' v l := h.same fun _ _ _ b _ _ _ hlt => hb.block b hlt

theorem pairCells_at {l : List (Nat × Nat)} {i a c : Nat} (h : l[i]? = some (a, c)) : (pairCells l)[i * 2]? = some (.int .i64 (a : Int)) ∧ (pairCells l)[i * 2 + 1]? = some (.int .i64 (c : Int)) := by
  induction l generalizing i with
  | nil => simp at h
  | cons p l ih =>
    have e : pairCells (p :: l) = .int .i64 (p.1 : Int) :: .int .i64 (p.2 : Int) :: pairCells l := by simp [pairCells]
    rw [e]
    cases i with
    | zero =>
      simp at h
      subst h
      exact ⟨rfl, rfl⟩
    | succ i =>
      simp only [List.getElem?_cons_succ] at h
      obtain ⟨h1, h2⟩ := ih h
      rw [show (i + 1) * 2 = i * 2 + 1 + 1 by omega]
      simp only [List.getElem?_cons_succ]
      exact ⟨h1, h2⟩

theorem ownsRow_cap {w : World} {base : Nat} {e : TypeId} {size : Nat} {so : Option Addr} {n cap : Nat} {xs : List Value} (h : w.ownsRow base e size (.slice so n cap) n xs) : n ≤ cap := by
  rcases h.2 with ⟨e, rfl⟩ | ⟨g, cap', cur, e, _, _, hnc, _⟩
  · exact Nat.zero_le _
  · simp only [Value.slice.injEq] at e
    obtain ⟨-, -, rfl⟩ := e
    exact hnc

theorem NPr.of {w : World} {base : Nat} {v : Value} {l : List (Nat × Nat)} (h : Prs w base v l) : NPr w v l := by
  obtain ⟨so, cap, rfl⟩ := ownsRow_shape h
  refine ⟨so, cap, rfl, ownsRow_cap h, ?_⟩
  by_cases hl : l = []
  · exact .inl hl
  · obtain ⟨g, cap', e, _, _, hc, _⟩ := ownsRow_at h (List.length_pos_iff.2 hl)
    simp only [Value.slice.injEq, true_and] at e
    obtain ⟨rfl, rfl⟩ := e
    refine .inr ⟨g, 0, rfl, fun i a c hi => ?_⟩
    have hil := (List.getElem?_eq_some_iff.1 hi).1
    obtain ⟨h1, h2⟩ := pairCells_at hi
    rw [Nat.zero_add]
    exact ⟨(hc _ (by omega)).trans h1, (hc _ (by omega)).trans h2⟩

theorem adjL_take_no {l : List (Nat × Nat)} {i x y a b : Nat} (h : adjL (l.take i) a b = false) (hi : l[i]? = some (x, y)) (h1 : ¬ (x = a ∧ y = b)) (h2 : ¬ (x = b ∧ y = a)) : adjL (l.take (i + 1)) a b = false := by
  rw [take_snoc hi]
  unfold adjL at *
  rw [List.any_append, h]
  simp
  exact ⟨fun k1 k2 => h1 ⟨k1, k2⟩, fun k1 k2 => h2 ⟨k1, k2⟩⟩

theorem adjL_yes {l : List (Nat × Nat)} {i x y a b : Nat} (hi : l[i]? = some (x, y)) (h : (x = a ∧ y = b) ∨ (x = b ∧ y = a)) : adjL l a b = true := by
  rcases h with ⟨rfl, rfl⟩ | ⟨rfl, rfl⟩
  · exact adjL_iff.2 (.inl (List.mem_of_getElem? hi))
  · exact adjL_iff.2 (.inr (List.mem_of_getElem? hi))

/-- Block U holds n Booleans. -/
structure Bls (w : World) (U n : Nat) (u : Nat → Bool) : Prop where
  cell : ∀ x, x < n → w.cell? ⟨U, x, none⟩ = some (.bool (u x))
  free : ∀ i, w.frozen? ⟨U, i, none⟩ = false

theorem Bls.set {w : World} {U n : Nat} {u : Nat → Bool} (h : Bls w U n u) {a : Nat} (ha : a < n) (b : Bool) : Bls (w.setCell ⟨U, a, none⟩ (.bool b)) U n (setAt u a b) := by
  refine ⟨fun k hk => ?_, fun i => by rw [World.frozen?_setCell]; exact h.free i⟩
  by_cases e : k = a
  · subst e
    rw [World.cell?_setCell_same w _ _ (h.cell k hk)]
    simp [setAt]
  · rw [cell_set_ne (fun e' => e e'.symm)]
    simp only [setAt, if_neg e]
    exact h.cell k hk

theorem Bls.same {w w' : World} {U n : Nat} {u : Nat → Bool} (h : Bls w U n u) (hs : w'.heap[U]? = w.heap[U]?) : Bls w' U n u :=
  ⟨fun k hk => (World.cell?_of_block (a := ⟨U, k, none⟩) hs).trans (h.cell k hk), fun i => (World.frozen?_of_block (a := ⟨U, i, none⟩) hs).trans (h.free i)⟩

def Away (v : Value) (U : Nat) : Prop := ∀ b o n c, v = .slice (some ⟨b, o, none⟩) n c → b ≠ U

def castL (l : List (Nat × Nat)) : List (Int × Int) := l.map fun p => ((p.1 : Int), (p.2 : Int))

theorem castL_len (l : List (Nat × Nat)) : (castL l).length = l.length := by simp [castL]
theorem NPr.ipr {w : World} {v : Value} {l : List (Nat × Nat)} (h : NPr w v l) : IPr w v (castL l) := by
  obtain ⟨so, cap, rfl, _, hl⟩ := h
  refine ⟨so, cap, by rw [castL_len], fun i a c hi => ?_⟩
  unfold castL at hi
  rw [List.getElem?_map] at hi
  cases hq : l[i]? with
  | none => rw [hq] at hi; cases hi
  | some q =>
    rw [hq] at hi
    simp only [Option.map_some, Option.some.injEq, Prod.mk.injEq] at hi
    obtain ⟨rfl, rfl⟩ := hi
    rcases hl with rfl | ⟨b, o, rfl, hx⟩
    · simp at hq
    · exact ⟨b, o, rfl, hx i q.1 q.2 hq⟩

theorem Away.of {w : World} {base : Nat} {l : List (Nat × Nat)} {so : Option Addr} {n m cap : Nat} (h : Prs w base (.slice so n cap) l) {U : Nat} (hU : w.heap.size ≤ U) : Away (.slice so m cap) U := by
  intro b o n' c' e
  simp only [Value.slice.injEq] at e
  obtain ⟨rfl, -, -⟩ := e
  have := (h.lt b rfl).2
  omega

theorem Bls.made {w : World} {base U n : Nat} (h : w.ownsRow base 4 1 (.slice (some ⟨U, 0, none⟩) n n) n (madeCells #[.bool false] n).toList) : Bls w U n fun _ => false := by
  refine ⟨fun x hx => ?_, fun i => ?_⟩
  · obtain ⟨g, cap, e, _, _, hc, hf⟩ := ownsRow_at h (by omega)
    simp only [Value.slice.injEq, Option.some.injEq, Addr.mk.injEq, and_true, true_and] at e
    obtain ⟨rfl, -⟩ := e
    rw [hc x (by omega), toList_madeCells_one]
    simp [hx]
  · rcases h.2 with ⟨e, _⟩ | ⟨g, cap, cur, e, _⟩
    · simp at e
    · exact h.frozenAt i

theorem Tryz.infoBool : (Tryz.prog.info? 4).map (fun i => (i.zero, i.size, i.bytes)) = some (some (.bool false), 1, 1) := by kernel_rfl

theorem Bls.below {w w' : World} {U n : Nat} {u : Nat → Bool} (h : Bls w U n u) (hn : 0 < n) (hb : Below w.heap.size w w') : Bls w' U n u :=
  h.same (hb.block U (World.block_lt_of_cell? w ⟨U, 0, none⟩ (h.cell 0 hn)))

/-- Booleans in block U; nothing else that was there has turned. -/
structure ShAt (wb wr : World) (U k : Nat) (u : Nat → Bool) : Prop where
  bls : Bls wr U k u
  fr : MFr U wb wr
  lt : U < wb.heap.size

theorem ShAt.alloc {wb wr : World} {U k : Nat} {u : Nat → Bool} (h : ShAt wb wr U k u) (ob : Obj) : ShAt wb (wr.alloc ob) U k u :=
  ⟨h.bls.same (heap_alloc_lt _ _ _ (Nat.lt_of_lt_of_le h.lt h.fr.size)), h.fr.trans (MFr.of_below ((Below.refl _ wr).alloc (Nat.le_refl _) _)), h.lt⟩
theorem ShAt.drewN {wb wr : World} {U k : Nat} {u : Nat → Bool} (h : ShAt wb wr U k u) (m : Nat) : ShAt wb (wr.drewN m) U k u := ⟨h.bls.same rfl, h.fr.drewN m, h.lt⟩
theorem ShAt.set {wb wr : World} {U k : Nat} {u : Nat → Bool} (h : ShAt wb wr U k u) {a : Nat} (ha : a < k) (b : Bool) : ShAt wb (wr.setCell ⟨U, a, none⟩ (.bool b)) U k (setAt u a b) := ⟨h.bls.set ha b, h.fr.set _ _, h.lt⟩

theorem wrap_small (i : Nat) (h : i < 1000000) : IntKind.i64.wrap (i : Int) = (i : Int) := by
  simp only [IntKind.wrap, IntKind.signed, IntKind.bits]
  simp
  omega

set_option maxRecDepth 100000 in
set_option maxHeartbeats 1000000 in
theorem redge_any (w : World) {v : Value} {l : List (Nat × Nat)} (h : NPr w v l) (a b : Nat) (hl : l.length ≤ 1000000000000000) :
    Calls Tryz.prog 76 #[v, .int .i64 (a : Int), .int .i64 (b : Int)] w fun e w' => e = .returned (.bool (adjL l a b)) ∧ w' = w := by
  have HR : Hid (NPr w v l) := h
  obtain ⟨so, cap, hv, hcap, hcc⟩ := h
  subst hv
  clear hcc
  go_enter Tryz.func76, Tryz.ntmps76
  go_wp2_with fail
  go_loopg [7] (l.length + 1) (fun k v7 wr => ∃ i : Nat, i ≤ l.length ∧ l.length - i < k ∧ v7 = .int .i64 (i : Nat) ∧ adjL (l.take i) a b = false ∧ w = wr)
  case atStart => exact ⟨0, by omega, by omega, rfl, rfl, rfl⟩
  case round =>
    obtain ⟨i, hi, hk, rfl, hno, hw⟩ := hrel
    subst hw
    have HNO : Hid (adjL (l.take i) a b = false) := hno
    clear hno
    by_cases hlt : i < l.length
    · have hlt' : (i : Int) < (l.length : Int) := by omega
      obtain ⟨x, y, gi⟩ : ∃ x y, l[i]? = some (x, y) := ⟨_, _, List.getElem?_eq_getElem hlt⟩
      obtain ⟨bb, oo, hso, c0, c1⟩ := HR.out.at gi
      subst hso
      have HGI : Hid (l[i]? = some (x, y)) := gi
      clear gi
      by_cases k1 : x = a
      · have k1' : ((x : Int) == (a : Int)) = true := by simp; omega
        have K1 : Hid (x = a) := k1
        clear k1
        by_cases k2 : y = b
        · have k2' : ((y : Int) == (b : Int)) = true := by simp; omega
          have K2 : Hid (y = b) := k2
          clear k2
          have HE : Hid (adjL l a b = true) := adjL_yes HGI.out (.inl ⟨K1.out, K2.out⟩)
          go_wp2_with fail
          go_ret
          exact ⟨by rw [HE.out]; rfl, rfl⟩
        · have k2' : ((y : Int) == (b : Int)) = false := by simp; omega
          have K2 : Hid (¬ y = b) := k2
          clear k2
          by_cases k3 : x = b
          · have k3' : ((x : Int) == (b : Int)) = true := by simp; omega
            have K3 : Hid (x = b) := k3
            clear k3
            by_cases k4 : y = a
            · have k4' : ((y : Int) == (a : Int)) = true := by simp; omega
              have K4 : Hid (y = a) := k4
              clear k4
              have HE : Hid (adjL l a b = true) := adjL_yes HGI.out (.inr ⟨K3.out, K4.out⟩)
              go_wp2_with fail
              go_ret
              exact ⟨by rw [HE.out]; rfl, rfl⟩
            · have k4' : ((y : Int) == (a : Int)) = false := by simp; omega
              have K4 : Hid (¬ y = a) := k4
              clear k4
              have HN : Hid (adjL (l.take (i + 1)) a b = false) := adjL_take_no HNO.out HGI.out (fun k => K2.out k.2) (fun k => K4.out k.2)
              go_wp2_with fail
              go_roundg (l.length - i)
              case measure => omega
              case rel => exact ⟨i + 1, by omega, by omega, by go_num, HN.out, rfl⟩
          · have k3' : ((x : Int) == (b : Int)) = false := by simp; omega
            have K3 : Hid (¬ x = b) := k3
            clear k3
            have HN : Hid (adjL (l.take (i + 1)) a b = false) := adjL_take_no HNO.out HGI.out (fun k => K2.out k.2) (fun k => K3.out k.1)
            go_wp2_with fail
            go_roundg (l.length - i)
            case measure => omega
            case rel => exact ⟨i + 1, by omega, by omega, by go_num, HN.out, rfl⟩
      · have k1' : ((x : Int) == (a : Int)) = false := by simp; omega
        have K1 : Hid (¬ x = a) := k1
        clear k1
        by_cases k3 : x = b
        · have k3' : ((x : Int) == (b : Int)) = true := by simp; omega
          have K3 : Hid (x = b) := k3
          clear k3
          by_cases k4 : y = a
          · have k4' : ((y : Int) == (a : Int)) = true := by simp; omega
            have K4 : Hid (y = a) := k4
            clear k4
            have HE : Hid (adjL l a b = true) := adjL_yes HGI.out (.inr ⟨K3.out, K4.out⟩)
            go_wp2_with fail
            go_ret
            exact ⟨by rw [HE.out]; rfl, rfl⟩
          · have k4' : ((y : Int) == (a : Int)) = false := by simp; omega
            have K4 : Hid (¬ y = a) := k4
            clear k4
            have HN : Hid (adjL (l.take (i + 1)) a b = false) := adjL_take_no HNO.out HGI.out (fun k => K1.out k.1) (fun k => K4.out k.2)
            go_wp2_with fail
            go_roundg (l.length - i)
            case measure => omega
            case rel => exact ⟨i + 1, by omega, by omega, by go_num, HN.out, rfl⟩
        · have k3' : ((x : Int) == (b : Int)) = false := by simp; omega
          have K3 : Hid (¬ x = b) := k3
          clear k3
          have HN : Hid (adjL (l.take (i + 1)) a b = false) := adjL_take_no HNO.out HGI.out (fun k => K1.out k.1) (fun k => K3.out k.1)
          go_wp2_with fail
          go_roundg (l.length - i)
          case measure => omega
          case rel => exact ⟨i + 1, by omega, by omega, by go_num, HN.out, rfl⟩
    · have hlt' : ¬ (i : Int) < (l.length : Int) := by omega
      have HE : Hid (adjL l a b = false) := by have := HNO.out; rw [List.take_of_length_le (by omega)] at this; exact this
      go_wp2_with fail
      go_ret
      exact ⟨by rw [HE.out]; rfl, rfl⟩
end Go.Proofs.YtcabaecbmkgclaaGreatDoor.Rf
namespace Go.Proofs.YtcabaecbmkgclaaGreatDoor.Mt
theorem total_add (n : Nat) (f g : Nat → Nat) : total n (fun i => f i + g i) = total n f + total n g := by
  induction n with
  | zero => rfl
  | succ n ih => rw [total, total, total, ih]; omega

section
variable {g : Gr} {mate : Nat → Option Nat} {f : Fo} {h : Gh} {blk inn : Nat → Bool} {S : Nat → Bool} {name : Nat → Nat}
theorem Bf.headS {i k : Nat} (hf : Bf g blk i S name) (hk : S k = true) : S (name k) = true :=
  (hf.hang k hk (fun x => S x = true) fun x y hx ha hb => (hf.closed x y hx ha hb).1).2 hk

theorem Best.barIn (b : Best g mate f h) (hin : ∀ x y, g.adj x y = true → inn x = true ∧ inn y = true) {x : Nat} (hx : bar f x = true) : inn x = true := by
  obtain ⟨h1, h2⟩ := bar_iff.1 hx
  obtain ⟨y, hm, _⟩ := b.inv.inn x h1 h2
  exact (hin x y (b.m.adj x y hm)).1

theorem bf_count (G : GrOk g) (b : Best g mate f h) (hin : ∀ x y, g.adj x y = true → inn x = true ∧ inn y = true) (hblk : ∀ k, k < g.n → blk k = (!inn k || bar f k)) (hf : Bf g blk g.n S name) :
    total g.n (fun a => pieceCnt g.n S name a % 2) + 2 * (pairsF g.n mate).length = cnt g.n inn + (barF g.n f).length := by
  have hS : ∀ k, k < g.n → (S k = true ↔ inn k = true ∧ bar f k = false) := fun k hk => by
    have hb := hblk k hk
    constructor
    · intro hs
      have := (hf.free k hs).1
      rw [hb] at this
      simp only [Bool.or_eq_false_iff, Bool.not_eq_false'] at this
      exact this
    · rintro ⟨h1, h2⟩
      exact hf.all k hk (by rw [hb, h1, h2]; rfl)
  have N := hf.naming G
  have N0 : Naming g (bar f) (fun k => if inn k then name k else k) := by
    refine ⟨fun k hk => ?_, fun x y hxy ox oy => ?_, fun P x y hx hy ox oy e hP px => ?_⟩
    · show (if inn k then name k else k) < g.n
      split
      · exact N.lt k hk
      · exact hk
    · obtain ⟨i1, i2⟩ := hin x y hxy
      obtain ⟨l1, l2⟩ := G.lt x y hxy
      simp only [i1, i2, if_true]
      exact N.edge x y hxy (by rw [hblk x l1, i1, ox]; rfl) (by rw [hblk y l2, i2, oy]; rfl)
    · have e : (if inn x then name x else x) = (if inn y then name y else y) := e
      cases ix : inn x with
      | false =>
        cases iy : inn y with
        | false =>
          rw [ix, iy] at e
          simp at e
          exact e ▸ px
        | true =>
          rw [ix, iy] at e
          simp at e
          have sy := (hS y hy).2 ⟨iy, oy⟩
          have := hf.headS sy
          rw [← e] at this
          have := ((hS x hx).1 this).1
          rw [ix] at this
          cases this
      | true =>
        cases iy : inn y with
        | false =>
          rw [ix, iy] at e
          simp at e
          have sx := (hS x hx).2 ⟨ix, ox⟩
          have := hf.headS sx
          rw [e] at this
          have := ((hS y hy).1 this).1
          rw [iy] at this
          cases this
        | true =>
          rw [ix, iy] at e
          simp at e
          refine N.hang P x y hx hy (by rw [hblk x hx, ix, ox]; rfl) (by rw [hblk y hy, iy, oy]; rfl) e (fun u v pu huv bv => hP u v pu huv ?_) px
          have := hblk v (G.lt u v huv).2
          rw [bv] at this
          have := this.symm
          simp only [Bool.or_eq_false_iff] at this
          exact this.2
  have c0 := b.count G N0
  have each : ∀ i, i < g.n → cnt g.n (fun k => !bar f k && ((if inn k then name k else k) == i)) % 2 = pieceCnt g.n S name i % 2 + (if !inn i then 1 else 0) := by
    intro i hi
    cases ii : inn i with
    | true =>
      simp only [Bool.not_true, Bool.false_eq_true, if_false, Nat.add_zero]
      congr 1
      refine cnt_congr fun k hk => ?_
      cases ik : inn k with
      | true =>
        simp only [if_true]
        cases hb : bar f k with
        | true =>
          have : S k = false := by
            cases e : S k
            · rfl
            · rw [((hS k hk).1 e).2] at hb; cases hb
          rw [this]
          rfl
        | false => rw [(hS k hk).2 ⟨ik, hb⟩]; rfl
      | false =>
        have : S k = false := by
          cases e : S k
          · rfl
          · rw [((hS k hk).1 e).1] at ik; cases ik
        rw [this]
        simp only [Bool.false_eq_true, if_false, Bool.false_and]
        have : (k == i) = false := by
          simp
          rintro rfl
          rw [ii] at ik
          cases ik
        rw [this]
        simp
    | false =>
      have nb : bar f i = false := by
        cases e : bar f i
        · rfl
        · rw [b.barIn hin e] at ii; cases ii
      have no : ∀ k, k < g.n → inn k = true → bar f k = false → name k ≠ i := fun k hk ik hb e => by
        have := hf.headS ((hS k hk).2 ⟨ik, hb⟩)
        rw [e] at this
        rw [((hS i hi).1 this).1] at ii
        cases ii
      have p0 : pieceCnt g.n S name i = 0 := cnt_none fun k hk => by
        cases e : S k
        · rfl
        · obtain ⟨h1, h2⟩ := (hS k hk).1 e
          simp
          exact no k hk h1 h2
      have p1 : cnt g.n (fun k => !bar f k && ((if inn k then name k else k) == i)) = 1 := by
        rw [cnt_one hi _ (by simp [nb, ii])]
        rw [cnt_none]
        intro k hk
        by_cases e : k = i
        · subst e
          simp
        · cases ik : inn k with
          | true =>
            cases hb : bar f k with
            | true => simp
            | false =>
              have := no k hk ik hb
              simp [this]
          | false => simp [e]
      rw [p0, p1]
      rfl
  rw [total_congr each, total_add, total_cnt (p := fun i => !inn i) (fun i _ => rfl)] at c0
  have c1 := cnt_split g.n (fun _ => true) inn
  rw [cnt_all] at c1
  have c2 : g.n = cnt g.n inn + cnt g.n (fun i => !inn i) := c1
  omega
end
end Go.Proofs.YtcabaecbmkgclaaGreatDoor.Mt
