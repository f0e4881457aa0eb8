/-
  The search's forest in memory: what its block and its queue hold; what a call may have turned.
  What the forest's reach, take, route, turn and the graph's Joined do.
  What the forest's route and turn do.
  Rings as values: loaded, compared; what the forest's below does.
  What the forest's meeting does, and a ring's with.
-/
import Derived.Test.YtcabaecbmkgclaaGreatDoorP05
import Derived.Test.YtcabaecbmkgclaaGreatDoorRows
import Derived.WalkKit
import Derived.WalkSpells
import Derived.WalkLawsBesides
import Derived.Deep.QuietTactic
import Derived.BigQuiet
import Derived.Deep.RegionLaw
import Derived.ArgAppend
import Derived.OneCell
import Derived.Deep.MidRow
import Derived.Deep.LoopGhost
import Derived.Deep.CutRange
import Derived.Laws.DeepBits32

namespace Go.Proofs.YtcabaecbmkgclaaGreatDoor.Mg
open Go.RowKit Mt

theorem ret_bool {a b : Bool} (h : a = b) : Ending.returned (.bool a) = .returned (.bool b) := by rw [h]
theorem ret_int {k : IntKind} {a b : Int} (h : a = b) : Ending.returned (.int k a) = .returned (.int k b) := by rw [h]

theorem ownsRow_same {w w' : World} {base : Nat} {e : TypeId} {size : Nat} {v : Value} {n : Nat} {xs : List Value} (h : w.ownsRow base e size v n xs)
    (hs : ∀ k, v.ownBlock = some k → w'.heap[k]? = w.heap[k]?) : w'.ownsRow base e size v n xs := by
  refine ⟨h.1, ?_⟩
  rcases h.2 with hn | ⟨g, cap, cur, rfl, hb, hg, r⟩
  · exact .inl hn
  · exact .inr ⟨g, cap, cur, rfl, hb, by rw [hs g rfl]; exact hg, r⟩

theorem cell_set_ne {w : World} {B i j : Nat} (h : i ≠ j) (u : Value) : (w.setCell ⟨B, i, none⟩ u).cell? ⟨B, j, none⟩ = w.cell? ⟨B, j, none⟩ :=
  World.cell?_setCell_other w _ _ u (fun e => h (by simpa using congrArg Addr.off e))

theorem heap_alloc_lt (w : World) (o : Obj) (k : Nat) (h : k < w.heap.size) : (w.alloc o).heap[k]? = w.heap[k]? := Below.heap_alloc w o k h

theorem ownsRow_shape {w : World} {base : Nat} {e : TypeId} {size : Nat} {v : Value} {n : Nat} {xs : List Value} (h : w.ownsRow base e size v n xs) : ∃ ao cap, v = .slice ao n cap := by
  rcases h.2 with ⟨rfl, rfl⟩ | ⟨g, cap, cur, rfl, _⟩
  · exact ⟨none, 0, rfl⟩
  · exact ⟨_, cap, rfl⟩

theorem ownsRow_at {w : World} {base : Nat} {e : TypeId} {size : Nat} {v : Value} {n : Nat} {xs : List Value} (h : w.ownsRow base e size v n xs) (hn : 0 < n) :
    ∃ g cap, v = .slice (some ⟨g, 0, none⟩) n cap ∧ base ≤ g ∧ g < w.heap.size ∧ (∀ j, j < n * size → w.cell? ⟨g, j, none⟩ = xs[j]?) ∧ ∀ j, w.frozen? ⟨g, j, none⟩ = false := by
  have hl := h.lt
  rcases h.2 with ⟨_, rfl⟩ | ⟨g, cap, cur, rfl, _⟩
  · exact absurd hn (Nat.lt_irrefl _)
  · obtain ⟨h1, h2⟩ := hl g rfl
    exact ⟨g, cap, rfl, h1, h2, h.cellAt, h.frozenAt⟩

theorem ownBlock_ne {w : World} {b1 b2 : Nat} {e1 e2 : TypeId} {s1 s2 : Nat} {v1 v2 : Value} {n1 n2 : Nat} {x1 x2 : List Value} (h1 : w.ownsRow b1 e1 s1 v1 n1 x1) (h2 : w.ownsRow b2 e2 s2 v2 n2 x2) (he : e1 ≠ e2) (k : Nat) (hk : v1.ownBlock = some k) : v2.ownBlock ≠ some k := by
  intro hk2
  rcases h1.2 with ⟨rfl, _⟩ | ⟨g, cap, cur, rfl, _, hg, _⟩
  · simp [Value.ownBlock] at hk
  rcases h2.2 with ⟨rfl, _⟩ | ⟨g', cap', cur', rfl, _, hg', _⟩
  · simp [Value.ownBlock] at hk2
  simp [Value.ownBlock] at hk hk2
  subst hk hk2
  rw [hg] at hg'
  simp at hg'
  exact he hg'.2

theorem ownsRow_mono {w : World} {base base' : Nat} {e : TypeId} {size : Nat} {v : Value} {n : Nat} {xs : List Value} (h : w.ownsRow base e size v n xs) (hb : base' ≤ base) : w.ownsRow base' e size v n xs := by
  refine ⟨h.1, ?_⟩
  rcases h.2 with hn | ⟨g, cap, cur, hv, hg, r⟩
  · exact .inl hn
  · exact .inr ⟨g, cap, cur, hv, Nat.le_trans hb hg, r⟩

theorem grownBy_weaken {w w' : World} {row : Option Nat} (h : w.grownBy w' none) : w.grownBy w' row := ⟨h.os, h.tape, h.output, h.size, fun k hk _ => h.block k hk (by simp)⟩

section
variable {P : Program} (w : World)

theorem run_append_mine (base : Nat) (t ty e : TypeId) (i : TypeInfo) (z : Value) (size bytes : Nat) (ht : P.underlying t = some (.slice e)) (hi : P.info? e = some i) (hz : i.zero = some z)
    (hsize : i.size = size) (hby : i.bytes = bytes) (hzs : z.cells.size = size) (hsz : 0 < size)
    (v : Value) (n : Nat) (xs : List Value) (hown : w.ownsRow base e size v n xs)
    (a : Addr) (m c : Nat) (news : List Value) (hl : news.length = m * size) (hnews : ∀ j u, news[j]? = some u → w.cell? (a.add j) = some u) (h1 : ∀ u ∈ news, u.oneCell' = true)
    (h63 : n + m ≤ maxLen) (hbytes : (n + m) * bytes ≤ 140737488355328) (hbase : base ≤ w.heap.size) :
    ∃ v' w', (Builtin.append_ #[t, t] ty #[v, .slice (some a) m c]).run P w = .ok v' w' ∧ w'.ownsRow base e size v' (n + m) (xs ++ news) ∧ w.grownBy w' v.ownBlock ∧
      ∀ k, v'.ownBlock = some k → v.ownBlock = some k ∨ w.heap.size ≤ k := by
  rcases hown.2 with ⟨rfl, rfl⟩ | ⟨g, cap, cur, rfl, hbg, hg, hnc, hcm, hcs, htake⟩
  · obtain rfl : xs = [] := List.eq_nil_of_length_eq_zero (by simpa using hown.1)
    obtain ⟨v', w', hr, ho, hgr, _⟩ := run_append_own (P := P) w w.heap.size t ty e i z size bytes ht hi hz hsize hby hzs hsz (.slice none 0 0) 0 [] (World.ownsRow_nil w _ e size) a m c news hl hnews h1 h63 hbytes (Nat.le_refl _)
    exact ⟨v', w', hr, ownsRow_mono ho hbase, hgr, fun k hk => .inr (ho.lt k hk).1⟩
  · by_cases hroom : n + m ≤ cap
    · obtain ⟨w', hr, ho, hgr⟩ := run_append_fits (P := P) w base t ty e i size ht hi hsize g n cap xs hown a m c news hl hnews h1 hroom
      exact ⟨_, w', hr, ho, hgr, fun k hk => .inl (by simpa [Value.ownBlock] using hk)⟩
    · obtain ⟨v', w', hr, ho, hgr⟩ := run_append_arg_grows (P := P) w t ty e i z size bytes ht hi hz hsize hby hzs hsz ⟨g, 0, none⟩ n cap xs hown.1 (hown.cells rfl) a m c news hl hnews (by omega) h63 hbytes
      exact ⟨v', w', hr, ownsRow_mono ho hbase, grownBy_weaken hgr, fun k hk => .inr (ho.lt k hk).1⟩
end

theorem step_append_mine {P : Program} {ops : Array Oper} {o : Oper} {a : Act} {w : World} {K : Act → World → Prop} {Q : Exit → Act → World → Prop} {E : Prop}
    (hg : o.guard = none) (s x : Operand) (t : TypeId) (hop : o.op = Op.call { callee := Callee.builtin Builtin.append, args := #[s, x], argTypes := #[t, t] })
    (base : Nat) (e : TypeId) (i : TypeInfo) (z : Value) (size bytes : Nat) (ht : P.underlying t = some (.slice e)) (hi : P.info? e = some i) (hz : i.zero = some z)
    (hsize : i.size = size) (hby : i.bytes = bytes) (hzs : z.cells.size = size) (hsz : 0 < size)
    (v : Value) (n : Nat) (xs : List Value) (hs : a.eval s = v) (hown : w.ownsRow base e size v n xs)
    (ad : Addr) (m c : Nat) (news : List Value) (hx : a.eval x = .slice (some ad) m c) (hl : news.length = m * size) (hnews : ∀ j u, news[j]? = some u → w.cell? (ad.add j) = some u) (h1 : ∀ u ∈ news, u.oneCell' = true)
    (h63 : n + m ≤ maxLen) (hbytes : (n + m) * bytes ≤ 140737488355328) (hbase : base ≤ w.heap.size)
    (hK : ∀ v' w', w'.ownsRow base e size v' (n + m) (xs ++ news) → w.grownBy w' v.ownBlock → (∀ k, v'.ownBlock = some k → v.ownBlock = some k ∨ w.heap.size ≤ k) → K (a.put o.dst v') w') :
    if Region.wanted o (yielded ops a.tmps) = true then Oper.wp P o a w K Q else E := by
  have hw : Region.wanted o (yielded ops a.tmps) = true := by simp [Region.wanted, hg]
  rw [if_pos hw]
  obtain ⟨v', w', hr, h2, h3, h4⟩ := run_append_mine (P := P) w base t o.type e i z size bytes ht hi hz hsize hby hzs hsz v n xs hown ad m c news hl hnews h1 h63 hbytes hbase
  unfold Oper.wp execOp
  simp only [hop, resolve, invoke, builtin, Sem.run_bind, Sem.run_pure, Result.andThen_ok, List.map_toArray, List.map_cons, List.map_nil, hs, hx, hr]
  exact hK v' w' h2 h3 h4

theorem wpList_append_mine {P : Program} {w : World} {ops : Array Oper} {rest : List Oper} {o : Oper} {a : Act} {Q : Exit → Act → World → Prop} (hgd : o.guard = none) (s x : Operand) (t : TypeId)
    (ho : o.op = .call { callee := .builtin .append, args := #[s, x], argTypes := #[t, t] })
    (base : Nat) (e : TypeId) (i : TypeInfo) (z : Value) (size bytes : Nat) (ht : P.underlying t = some (.slice e)) (hi : P.info? e = some i) (hz : i.zero = some z)
    (hsize : i.size = size) (hby : i.bytes = bytes) (hzs : z.cells.size = size) (hsz : 0 < size)
    (v : Value) (n : Nat) (xs : List Value) (hs : a.eval s = v) (hown : w.ownsRow base e size v n xs)
    (ad : Addr) (m c : Nat) (news : List Value) (hx : a.eval x = .slice (some ad) m c) (hl : news.length = m * size) (hnews : ∀ j u, news[j]? = some u → w.cell? (ad.add j) = some u) (h1 : ∀ u ∈ news, u.oneCell' = true)
    (h63 : n + m ≤ maxLen) (hbytes : (n + m) * bytes ≤ 140737488355328) (hbase : base ≤ w.heap.size)
    (h : ∀ v' w', w'.ownsRow base e size v' (n + m) (xs ++ news) → w.grownBy w' v.ownBlock → (∀ k, v'.ownBlock = some k → v.ownBlock = some k ∨ w.heap.size ≤ k) → wpList P ops Q rest (a.put o.dst v') w') : wpList P ops Q (o :: rest) a w := by
  refine wpList_plain hgd fun K hK => ?_
  obtain ⟨v', w', hr, h2, h3, h4⟩ := run_append_mine (P := P) w base t o.type e i z size bytes ht hi hz hsize hby hzs hsz v n xs hown ad m c news hl hnews h1 h63 hbytes hbase
  unfold Oper.wp execOp
  simp only [ho, resolve, invoke, builtin, Sem.run_bind, Sem.run_pure, Result.andThen_ok, List.map_toArray, List.map_cons, List.map_nil, hs, hx, hr]
  exact hK _ _ (h v' w' h2 h3 h4)


theorem Tryz.infoInt : (Tryz.prog.info? 3).map (fun i => (i.zero, i.size, i.bytes)) = some (some (.int .i64 0), 1, 8) := by kernel_rfl

def mi : Option Nat → Int
  | none => -1
  | some m => m

def intCells (l : List Nat) : List Value := l.map fun (x : Nat) => Value.int .i64 x
theorem intCells_len (l : List Nat) : (intCells l).length = l.length := by simp [intCells]
theorem intCells_get {l : List Nat} {i x : Nat} (h : l[i]? = some x) : (intCells l)[i]? = some (.int .i64 x) := by simp [intCells, h]
theorem intCells_append (l r : List Nat) : intCells (l ++ r) = intCells l ++ intCells r := by simp [intCells]

/-- A list of numbers of the call's own. -/
def Ints (w : World) (base : Nat) (v : Value) (l : List Nat) : Prop := w.ownsRow base 3 1 v l.length (intCells l)

theorem Ints.shape {w : World} {base : Nat} {v : Value} {l : List Nat} (h : Ints w base v l) : ∃ ao cap, v = .slice ao l.length cap := ownsRow_shape h

theorem Ints.at {w : World} {base : Nat} {v : Value} {l : List Nat} (h : Ints w base v l) {i x : Nat} (hi : l[i]? = some x) : ∃ g cap, v = .slice (some ⟨g, 0, none⟩) l.length cap ∧ base ≤ g ∧ g < w.heap.size ∧ w.cell? ⟨g, i, none⟩ = some (.int .i64 x) := by
  have hl := (List.getElem?_eq_some_iff.1 hi).1
  obtain ⟨g, cap, rfl, h1, h2, h3, h4⟩ := ownsRow_at h (by omega)
  exact ⟨g, cap, rfl, h1, h2, (h3 i (by omega)).trans (intCells_get hi)⟩

/-- Block k is the forest's own: its block, or its queue's row. -/
def FMine (w : World) (B k : Nat) : Prop := k = B ∨ ∃ v, w.cell? ⟨B, 697, none⟩ = some v ∧ v.ownBlock = some k

structure FAt (w : World) (B : Nat) (g : Gr) (mate : Nat → Option Nat) (f : Fo) : Prop where
  near : ∀ k, k < 24 → ∃ m : Nat, w.cell? ⟨B, k, none⟩ = some (.int .u32 m) ∧ m < 4294967296 ∧ ∀ j, j < 24 → m.testBit j = g.adj k j
  n : w.cell? ⟨B, 24, none⟩ = some (.int .i64 g.n)
  mate : ∀ k, k < 24 → w.cell? ⟨B, 25 + k, none⟩ = some (.int .i64 (mi (mate k)))
  ring : ∀ v x, v < 24 → x < 24 → w.cell? ⟨B, 49 + v * 24 + x, none⟩ = some (.bool (f.ring v x))
  next : ∀ k, k < 24 → w.cell? ⟨B, 625 + k, none⟩ = some (.int .i64 (f.next k))
  outer : ∀ k, k < 24 → w.cell? ⟨B, 649 + k, none⟩ = some (.bool (f.outer k))
  inner : ∀ k, k < 24 → w.cell? ⟨B, 673 + k, none⟩ = some (.bool (f.inner k))
  queue : ∃ v, w.cell? ⟨B, 697, none⟩ = some v ∧ Ints w 0 v f.queue ∧ v.ownBlock ≠ some B
  free : ∀ i, w.frozen? ⟨B, i, none⟩ = false

/-- What a call of the forest's may have turned: the forest's own blocks, and new ones. -/
structure FFr (B : Nat) (w w' : World) : Prop where
  os : w'.os = w.os
  tape : w'.tape = w.tape
  output : w'.output = w.output
  size : w.heap.size ≤ w'.heap.size
  block : ∀ k, k < w.heap.size → ¬ FMine w B k → w'.heap[k]? = w.heap[k]?
  mine : ∀ k, k < w.heap.size → FMine w' B k → FMine w B k

section
variable {w w' : World} {B : Nat} {g : Gr} {mate : Nat → Option Nat} {f : Fo}

theorem FAt.lt (h : FAt w B g mate f) : B < w.heap.size := World.block_lt_of_cell? w ⟨B, 24, none⟩ h.n

theorem FMine.same {k : Nat} (hB : w'.heap[B]? = w.heap[B]?) : FMine w' B k ↔ FMine w B k := by
  have h1 : w'.cell? ⟨B, 697, none⟩ = w.cell? ⟨B, 697, none⟩ := World.cell?_of_block (w := w) hB
  unfold FMine
  rw [h1]

theorem FAt.mine (h : FAt w B g mate f) {k : Nat} (hk : FMine w B k) : 0 ≤ k ∧ k < w.heap.size := by
  rcases hk with rfl | ⟨v, hv, hk⟩
  · exact ⟨Nat.zero_le _, h.lt⟩
  · obtain ⟨v', hv', ho, _⟩ := h.queue
    rw [hv] at hv'; cases hv'
    have := ho.lt k hk
    omega

theorem FAt.same (h : FAt w B g mate f) (hs : ∀ k, FMine w B k → w'.heap[k]? = w.heap[k]?) : FAt w' B g mate f := by
  have hB := hs B (.inl rfl)
  have hc : ∀ i, w'.cell? ⟨B, i, none⟩ = w.cell? ⟨B, i, none⟩ := fun i => World.cell?_of_block (w := w) hB
  have hf : ∀ i, w'.frozen? ⟨B, i, none⟩ = w.frozen? ⟨B, i, none⟩ := fun i => World.frozen?_of_block (w := w) hB
  obtain ⟨v, hv, ho, hne⟩ := h.queue
  exact ⟨fun k hk => by rw [hc]; exact h.near k hk, by rw [hc]; exact h.n, fun k hk => by rw [hc]; exact h.mate k hk, fun v x hv hx => by rw [hc]; exact h.ring v x hv hx, fun k hk => by rw [hc]; exact h.next k hk,
    fun k hk => by rw [hc]; exact h.outer k hk, fun k hk => by rw [hc]; exact h.inner k hk, ⟨v, by rw [hc]; exact hv, ownsRow_same ho fun k hk => hs k (.inr ⟨v, hv, hk⟩), hne⟩, fun i => by rw [hf]; exact h.free i⟩

theorem FAt.drewN (h : FAt w B g mate f) (n : Nat) : FAt (w.drewN n) B g mate f := h.same fun _ _ => rfl
theorem FAt.drew (h : FAt w B g mate f) : FAt w.drew B g mate f := h.same fun _ _ => rfl
theorem FAt.alloc (h : FAt w B g mate f) (o : Obj) : FAt (w.alloc o) B g mate f := h.same fun k hk => heap_alloc_lt w o k (h.mine hk).2
theorem FAt.below (h : FAt w B g mate f) (hb : Below w.heap.size w w') : FAt w' B g mate f := h.same fun k hk => hb.block k (h.mine hk).2

theorem FFr.refl (B : Nat) (w : World) : FFr B w w := ⟨rfl, rfl, rfl, Nat.le_refl _, fun _ _ _ => rfl, fun _ _ h => h⟩
theorem FFr.trans {a b c : World} (h : FFr B a b) (k : FFr B b c) : FFr B a c :=
  ⟨k.os.trans h.os, k.tape.trans h.tape, k.output.trans h.output, Nat.le_trans h.size k.size,
    fun i hi hm => (k.block i (Nat.lt_of_lt_of_le hi h.size) (fun e => hm (h.mine i hi e))).trans (h.block i hi hm),
    fun i hi hm => h.mine i hi (k.mine i (Nat.lt_of_lt_of_le hi h.size) hm)⟩
theorem FFr.of_below (h : Below w.heap.size w w') (hB : B < w.heap.size) : FFr B w w' :=
  ⟨h.os, h.tape, h.output, h.size, fun k hk _ => h.block k hk, fun _ _ hm => (FMine.same (h.block B hB)).1 hm⟩
theorem FFr.drewN {a : World} (h : FFr B a w) (n : Nat) : FFr B a (w.drewN n) := h.trans ⟨rfl, rfl, rfl, Nat.le_refl _, fun _ _ _ => rfl, fun _ _ h => h⟩

/-- One cell of the forest's block, not its queue's. -/
theorem FFr.set {a : World} (h : FFr B a w) {i : Nat} (hi : i ≠ 697) (u : Value) : FFr B a (w.setCell ⟨B, i, none⟩ u) := by
  have hm : ∀ k, FMine (w.setCell ⟨B, i, none⟩ u) B k → FMine w B k := by
    intro k hk
    unfold FMine at hk ⊢
    rw [cell_set_ne hi] at hk
    exact hk
  refine ⟨h.os, h.tape, h.output, by simpa using h.size, fun k hk hn => ?_, fun k hk hk' => h.mine k hk (hm k hk')⟩
  rw [Below.heap_setCell w _ u k (by rintro rfl; exact hn (.inl rfl))]
  exact h.block k hk hn

theorem FFr.ints (h : FFr B w w') {base : Nat} {v : Value} {l : List Nat} (hi : Ints w base v l) (hn : ∀ k, v.ownBlock = some k → ¬ FMine w B k) : Ints w' base v l := ownsRow_same hi fun k hk => h.block k (hi.lt k hk).2 (hn k hk)

theorem FAt.cellSet (h : FAt w B g mate f) {i : Nat} (hi : i ≠ 697) (u : Value) : (∀ j, j ≠ i → (w.setCell ⟨B, i, none⟩ u).cell? ⟨B, j, none⟩ = w.cell? ⟨B, j, none⟩) ∧ (∃ v, (w.setCell ⟨B, i, none⟩ u).cell? ⟨B, 697, none⟩ = some v ∧ Ints (w.setCell ⟨B, i, none⟩ u) 0 v f.queue ∧ v.ownBlock ≠ some B) ∧ ∀ j, (w.setCell ⟨B, i, none⟩ u).frozen? ⟨B, j, none⟩ = false := by
  obtain ⟨v, hv, ho, hne⟩ := h.queue
  refine ⟨fun j hj => cell_set_ne (fun e => hj e.symm) u, ⟨v, by rw [cell_set_ne hi]; exact hv, ownsRow_setCell_other ho hne u, hne⟩, fun j => by rw [World.frozen?_setCell]; exact h.free j⟩

theorem FAt.setOuter (h : FAt w B g mate f) {u : Nat} (hu : u < 24) (b : Bool) : FAt (w.setCell ⟨B, 649 + u, none⟩ (.bool b)) B g mate { f with outer := setAt f.outer u b } := by
  obtain ⟨hc, hq, hf⟩ := h.cellSet (i := 649 + u) (by omega) (.bool b)
  refine ⟨fun k hk => by rw [hc _ (by omega)]; exact h.near k hk, by rw [hc _ (by omega)]; exact h.n, fun k hk => by rw [hc _ (by omega)]; exact h.mate k hk, fun v x hv hx => by rw [hc _ (by omega)]; exact h.ring v x hv hx, fun k hk => by rw [hc _ (by omega)]; exact h.next k hk, ?_, fun k hk => by rw [hc _ (by omega)]; exact h.inner k hk, hq, hf⟩
  intro k hk
  by_cases e : k = u
  · subst e
    rw [World.cell?_setCell_same w _ _ (h.outer k hk)]
    simp [setAt]
  · rw [hc _ (by omega)]
    simp only [setAt, if_neg e]
    exact h.outer k hk

theorem FAt.setInner (h : FAt w B g mate f) {u : Nat} (hu : u < 24) (b : Bool) : FAt (w.setCell ⟨B, 673 + u, none⟩ (.bool b)) B g mate { f with inner := setAt f.inner u b } := by
  obtain ⟨hc, hq, hf⟩ := h.cellSet (i := 673 + u) (by omega) (.bool b)
  refine ⟨fun k hk => by rw [hc _ (by omega)]; exact h.near k hk, by rw [hc _ (by omega)]; exact h.n, fun k hk => by rw [hc _ (by omega)]; exact h.mate k hk, fun v x hv hx => by rw [hc _ (by omega)]; exact h.ring v x hv hx, fun k hk => by rw [hc _ (by omega)]; exact h.next k hk, fun k hk => by rw [hc _ (by omega)]; exact h.outer k hk, ?_, hq, hf⟩
  intro k hk
  by_cases e : k = u
  · subst e
    rw [World.cell?_setCell_same w _ _ (h.inner k hk)]
    simp [setAt]
  · rw [hc _ (by omega)]
    simp only [setAt, if_neg e]
    exact h.inner k hk

theorem FAt.setNext (h : FAt w B g mate f) {u : Nat} (hu : u < 24) (b : Nat) : FAt (w.setCell ⟨B, 625 + u, none⟩ (.int .i64 b)) B g mate { f with next := setAt f.next u b } := by
  obtain ⟨hc, hq, hf⟩ := h.cellSet (i := 625 + u) (by omega) (.int .i64 b)
  refine ⟨fun k hk => by rw [hc _ (by omega)]; exact h.near k hk, by rw [hc _ (by omega)]; exact h.n, fun k hk => by rw [hc _ (by omega)]; exact h.mate k hk, fun v x hv hx => by rw [hc _ (by omega)]; exact h.ring v x hv hx, ?_, fun k hk => by rw [hc _ (by omega)]; exact h.outer k hk, fun k hk => by rw [hc _ (by omega)]; exact h.inner k hk, hq, hf⟩
  intro k hk
  by_cases e : k = u
  · subst e
    rw [World.cell?_setCell_same w _ _ (h.next k hk)]
    simp [setAt]
  · rw [hc _ (by omega)]
    simp only [setAt, if_neg e]
    exact h.next k hk
end
end Go.Proofs.YtcabaecbmkgclaaGreatDoor.Mg

namespace Go.Proofs.YtcabaecbmkgclaaGreatDoor.Mg
open Go.RowKit Mt

section
variable {w w' : World} {B : Nat} {g : Gr} {mate : Nat → Option Nat} {f : Fo}

theorem cells1 (w : World) (x : Value) (t : TypeId) : ∀ j u, [x][j]? = some u → (w.alloc (.cells #[x] t)).cell? ((⟨w.heap.size, 0, none⟩ : Addr).add j) = some u := by
  intro j u hj
  have hadd : (⟨w.heap.size, 0, none⟩ : Addr).add j = ⟨w.heap.size, j, none⟩ := by unfold Addr.add; split <;> simp_all
  rw [hadd, World.cell?_alloc_new]
  simpa using hj
theorem cells2 (w : World) (x y : Value) (t : TypeId) : ∀ j u, [x, y][j]? = some u → (w.alloc (.cells #[x, y] t)).cell? ((⟨w.heap.size, 0, none⟩ : Addr).add j) = some u := by
  intro j u hj
  have hadd : (⟨w.heap.size, 0, none⟩ : Addr).add j = ⟨w.heap.size, j, none⟩ := by unfold Addr.add; split <;> simp_all
  rw [hadd, World.cell?_alloc_new]
  simpa using hj

/-- The queue made longer. -/
theorem FAt.queued {w2 : World} (h : FAt w B g mate f) {qv : Value} (hq : w.cell? ⟨B, 697, none⟩ = some qv) (l : List Nat) (v' : Value) (ho : Ints w2 0 v' l) (hg : w.grownBy w2 qv.ownBlock) (hk : ∀ k, v'.ownBlock = some k → qv.ownBlock = some k ∨ w.heap.size ≤ k) :
    FAt (w2.setCell ⟨B, 697, none⟩ v') B g mate { f with queue := l } ∧ FFr B w (w2.setCell ⟨B, 697, none⟩ v') := by
  obtain ⟨v, hv, oq, hne⟩ := h.queue
  rw [hq] at hv
  cases hv
  have hlt := h.lt
  have hne' : v'.ownBlock ≠ some B := fun e => by
    rcases hk B e with e | e
    · exact hne e
    · omega
  have hB : w2.heap[B]? = w.heap[B]? := hg.block B h.lt (fun e => hne e.symm)
  have hc : ∀ i, w2.cell? ⟨B, i, none⟩ = w.cell? ⟨B, i, none⟩ := fun i => World.cell?_of_block (w := w) hB
  have hf : ∀ i, w2.frozen? ⟨B, i, none⟩ = w.frozen? ⟨B, i, none⟩ := fun i => World.frozen?_of_block (w := w) hB
  have e : ∀ i, i ≠ 697 → (w2.setCell ⟨B, 697, none⟩ v').cell? ⟨B, i, none⟩ = w.cell? ⟨B, i, none⟩ := fun i hi => by rw [cell_set_ne (fun e => hi e.symm), hc]
  have h697 : (w2.setCell ⟨B, 697, none⟩ v').cell? ⟨B, 697, none⟩ = some v' := World.cell?_setCell_same w2 _ _ (by rw [hc]; exact hq)
  refine ⟨⟨fun k hk => by rw [e _ (by omega)]; exact h.near k hk, by rw [e _ (by omega)]; exact h.n, fun k hk => by rw [e _ (by omega)]; exact h.mate k hk, fun v x hv hx => by rw [e _ (by omega)]; exact h.ring v x hv hx, fun k hk => by rw [e _ (by omega)]; exact h.next k hk, fun k hk => by rw [e _ (by omega)]; exact h.outer k hk,
    fun k hk => by rw [e _ (by omega)]; exact h.inner k hk, ⟨v', h697, ownsRow_setCell_other ho hne' _, hne'⟩, fun i => by rw [World.frozen?_setCell, hf]; exact h.free i⟩, ⟨hg.os, hg.tape, hg.output, by simpa using hg.size, ?_, ?_⟩⟩
  · intro k hk hm
    rw [Below.heap_setCell w2 _ _ k (by rintro rfl; exact hm (.inl rfl))]
    exact hg.block k hk (fun e => hm (.inr ⟨qv, hq, e.symm⟩))
  · intro k hk hm
    rcases hm with rfl | ⟨v, hv1, hv2⟩
    · exact .inl rfl
    · rw [h697] at hv1
      cases hv1
      rcases (‹∀ k, v'.ownBlock = some k → qv.ownBlock = some k ∨ w.heap.size ≤ k›) k hv2 with e | e
      · exact .inr ⟨qv, hq, e⟩
      · omega

set_option maxHeartbeats 1000000 in
theorem reach_any (h : FAt w B g mate f) {v : Nat} (hv : v < 24) (hn : f.queue.length ≤ 1000) :
    Calls Tryz.prog 63 #[.pointer (some ⟨B, 0, none⟩), .int .i64 v] w fun e w' => e = .returned (.tuple #[]) ∧ FAt w' B g mate { f with outer := setAt f.outer v true, queue := f.queue ++ [v] } ∧ FFr B w w' := by
  obtain ⟨i0, hi, hz0, hz1, hz2⟩ := info_parts Tryz.infoInt
  have v24 : (v : Int) < 24 := by omega
  have co := h.outer v hv
  have fo := h.free (649 + v)
  have HF : Hid (FAt (w.setCell ⟨B, 649 + v, none⟩ (.bool true)) B g mate { f with outer := setAt f.outer v true }) := h.setOuter hv true
  have HR : Hid (FFr B w (w.setCell ⟨B, 649 + v, none⟩ (.bool true))) := (FFr.refl B w).set (by omega) _
  have hB := h.lt
  go_enter Tryz.func63, Tryz.ntmps63
  obtain ⟨qv, hq, oq, hqB⟩ := HF.out.queue
  have HQB : Hid (qv.ownBlock ≠ some B) := hqB
  clear h hqB
  have hq0 : w.cell? ⟨B, 697, none⟩ = some qv := by rw [← hq, cell_set_ne (by omega)]
  have HF1 : Hid (∀ ob, FAt ((w.setCell ⟨B, 649 + v, none⟩ (.bool true)).alloc ob) B g mate { f with outer := setAt f.outer v true }) := fun ob => HF.out.alloc ob
  have HQ1 : Hid (∀ ob, ((w.setCell ⟨B, 649 + v, none⟩ (.bool true)).alloc ob).cell? ⟨B, 697, none⟩ = some qv) := fun ob => by rw [World.cell?_alloc_lt _ _ _ (by simpa using hB)]; exact hq
  have HOQ : Hid (Ints (w.setCell ⟨B, 649 + v, none⟩ (.bool true)) 0 qv f.queue) := oq
  have HN1 : Hid (∀ t, ∀ j u, [Value.int .i64 (v : Int)][j]? = some u → ((w.setCell ⟨B, 649 + v, none⟩ (.bool true)).alloc (.cells #[.int .i64 (v : Int)] t)).cell? ((⟨w.heap.size, 0, none⟩ : Addr).add j) = some u) := fun t j u hj => by
    have := cells1 (w.setCell ⟨B, 649 + v, none⟩ (.bool true)) (.int .i64 (v : Int)) t j u hj
    simpa using this
  clear oq hq
  go_wp2_with (at_builtin; go_must (refine wpList_append_mine rfl (.tmp 13) (.tmp 15) 25 rfl 0 3 i0 (.int .i64 0) 1 8 Tryz.underlying25 hi hz0 hz1 hz2 rfl (by decide) qv f.queue.length (intCells f.queue) rfl (by exact HOQ.out.alloc _) ⟨w.heap.size, 0, none⟩ 1 1 [.int .i64 (v : Int)] rfl rfl (by exact HN1.out _) (by intro u hu; simp at hu; subst hu; rfl) (by unfold maxLen; omega) (by omega) (Nat.zero_le _) ?_))
  intro v' w2 ho hg hk
  have X := (HF1.out _).queued (HQ1.out _) (f.queue ++ [v]) v' (by unfold Ints; rw [List.length_append, intCells_append]; exact ho) hg (by simpa using hk)
  have hsz := hg.size
  obtain ⟨c697, f697⟩ : w2.cell? ⟨B, 697, none⟩ = some qv ∧ w2.frozen? ⟨B, 697, none⟩ = false := by
    have hb : w2.heap[B]? = _ := hg.block B (by simp; omega) (fun e => HQB.out e.symm)
    exact ⟨(World.cell?_of_block (a := ⟨B, 697, none⟩) hb).trans (HQ1.out _), (World.frozen?_of_block (a := ⟨B, 697, none⟩) hb).trans ((HF1.out _).free 697)⟩
  obtain ⟨ao, cap, hv'⟩ := ownsRow_shape ho
  subst hv'
  have HX : Hid _ := X
  have HFR : Hid (∀ ob, FFr B w ((w.setCell ⟨B, 649 + v, none⟩ (.bool true)).alloc ob)) := fun ob => HR.out.trans (FFr.of_below ((Below.refl _ _).alloc (Nat.le_refl _) _) HF.out.lt)
  clear X ho hg hk
  go_wp2_with fail
  go_end0
  exact ⟨rfl, HX.out.1, (HFR.out _).trans HX.out.2⟩

set_option maxHeartbeats 1000000 in
theorem take_any (h : FAt w B g mate f) {v w0 u : Nat} (hw : w0 < 24) (hm : mate w0 = some u) (hu : u < 24) (hn : f.queue.length ≤ 1000) :
    Calls Tryz.prog 86 #[.pointer (some ⟨B, 0, none⟩), .int .i64 v, .int .i64 w0] w fun e w' => e = .returned (.tuple #[]) ∧ FAt w' B g mate (taken f v w0 u) ∧ FFr B w w' := by
  have w24 : (w0 : Int) < 24 := by omega
  have ci := h.inner w0 hw
  have fi := h.free (673 + w0)
  have F1 := h.setInner hw true
  have cn : (w.setCell ⟨B, 673 + w0, none⟩ (.bool true)).cell? ⟨B, 625 + w0, none⟩ = some (.int .i64 (f.next w0)) := F1.next w0 hw
  have cn0 := h.next w0 hw
  have fn := h.free (625 + w0)
  have F2 := F1.setNext hw v
  have cm0 := h.mate w0 hw
  rw [hm] at cm0
  simp only [mi] at cm0
  have RC := reach_any F2 hu hn
  have HFR : Hid (FFr B w ((w.setCell ⟨B, 673 + w0, none⟩ (.bool true)).setCell ⟨B, 625 + w0, none⟩ (.int .i64 v))) := ((FFr.refl B w).set (by omega) _).set (by omega) _
  have hB := h.lt
  clear h F1 F2 cn
  go_enter Tryz.func86, Tryz.ntmps86
  go_wp2_with fail
  refine RC.mono ?_
  rintro e w2 ⟨rfl, hF, hf⟩
  go_wp2_with fail
  go_end0
  exact ⟨rfl, hF, HFR.out.trans hf⟩

theorem bit_u32 (m b : Nat) (hm : m < 4294967296) : (bits .and .u32 ((m : Int) / 2 ^ b) 1 == 1) = m.testBit b := by
  have h1 : ((m : Int) / 2 ^ b) = ((m / 2 ^ b : Nat) : Int) := by simp
  have h2 : m / 2 ^ b < 4294967296 := Nat.lt_of_le_of_lt (Nat.div_le_self _ _) hm
  rw [h1, show (1 : Int) = ((1 : Nat) : Int) from rfl, u32_and_nat _ 1 h2 (by decide)]
  rw [Nat.testBit_eq_decide_div_mod_eq, Nat.and_one_is_mod]
  rw [Bool.eq_iff_iff]
  simp
  omega

set_option maxHeartbeats 1000000 in
theorem joined_any (h : FAt w B g mate f) {a b : Nat} (ha : a < 24) (hb : b < 24) :
    Calls Tryz.prog 64 #[.pointer (some ⟨B, 0, none⟩), .int .i64 a, .int .i64 b] w fun e w' => e = .returned (.bool (g.adj a b)) ∧ w' = w := by
  obtain ⟨m, ca, hm, ta⟩ := h.near a ha
  have a24 : (a : Int) < 24 := by omega
  have b24 : (b : Int) < 24 := by omega
  rw [← ta b hb]
  have hbt := bit_u32 m b hm
  have HB : Hid _ := hbt
  clear hbt ta
  go_enter Tryz.func64, Tryz.ntmps64
  go_wp2
  go_ret
  exact ⟨ret_bool HB.out, rfl⟩
end
end Go.Proofs.YtcabaecbmkgclaaGreatDoor.Mg

namespace Go.Proofs.YtcabaecbmkgclaaGreatDoor.Mg
open Go.RowKit Mt

theorem ints_fresh (w : World) (l : List Nat) (hm : l.length ≤ maxLen) : Ints (w.alloc (.cells (intCells l).toArray 3)) w.heap.size (.slice (some ⟨w.heap.size, 0, none⟩) l.length l.length) l :=
  ⟨by simp [intCells], .inr ⟨w.heap.size, l.length, (intCells l).toArray, rfl, Nat.le_refl _, heap_alloc_new w _, Nat.le_refl _, hm, by simp [intCells], by rw [Nat.mul_one]; exact List.take_of_length_le (by simp [intCells])⟩⟩

section
variable {w w' : World} {B : Nat} {g : Gr} {mate : Nat → Option Nat} {f : Fo}

/-- Where route stands. -/
def RtAt (w : World) (g : Gr) (mate : Nat → Option Nat) (f : Fo) (t : Nat) (l : List Nat) (k : Nat) (v1 v5 : Value) (wr : World) : Prop :=
  ∃ pre cur rest, l = pre ++ cur :: rest ∧ rest.length ≤ k ∧ v1 = .int .i64 (cur : Nat) ∧ Alt g mate f.next t (cur :: rest) ∧ Ints wr w.heap.size v5 (pre ++ [cur]) ∧ Below w.heap.size w wr

set_option maxRecDepth 100000 in
set_option maxHeartbeats 1000000 in
theorem route_any (h : FAt w B g mate f) {v t : Nat} {l : List Nat} (ha : Alt g mate f.next t l) (ht : mate t = none) (hv : l.head? = some v) (hl : l.length ≤ 24) (h24 : ∀ x ∈ l, x < 24) :
    Calls Tryz.prog 111 #[.pointer (some ⟨B, 0, none⟩), .int .i64 v] w fun e w' => ∃ rv, e = .returned rv ∧ Ints w' w.heap.size rv l ∧ Below w.heap.size w w' := by
  obtain ⟨i0, hi, hz0, hz1, hz2⟩ := info_parts Tryz.infoInt
  have HF : Hid (FAt w B g mate f) := h
  have HA : Hid (Alt g mate f.next t l) := ha
  have HT : Hid (mate t = none) := ht
  have H24 : Hid (∀ x ∈ l, x < 24) := h24
  have HI0 : Hid (Ints (w.alloc (.cells #[.int .i64 (v : Int)] 3)) w.heap.size (.slice (some ⟨w.heap.size, 0, none⟩) 1 1) [v]) := ints_fresh w [v] (by unfold maxLen; simp)
  have HB0 : Hid (Below w.heap.size w (w.alloc (.cells #[.int .i64 (v : Int)] 3))) := (Below.refl _ w).alloc (Nat.le_refl _) _
  have HV : Hid (∃ rest, l = v :: rest) := by
    cases l with
    | nil => cases hv
    | cons a r =>
      simp at hv
      exact ⟨r, by rw [hv]⟩
  clear h ha ht h24 hv
  go_enter Tryz.func111, Tryz.ntmps111
  go_wp2_with fail
  go_loopg [1, 5] 24 (fun k v1 v5 wr => RtAt w g mate f t l k v1 v5 wr)
  case atStart =>
    obtain ⟨r, hr⟩ := HV.out
    refine ⟨[], v, r, by rw [hr]; rfl, ?_, rfl, by rw [← hr]; exact HA.out, HI0.out, HB0.out⟩
    rw [hr] at hl
    simp at hl
    omega
  case round =>
    obtain ⟨pre, cur, rest, hsp, hk, rfl, halt, hints, hbel⟩ := hrel
    have hcur : cur < 24 := H24.out cur (by rw [hsp]; simp)
    have c24 : (cur : Int) < 24 := by omega
    have hF := HF.out.below hbel
    have cm := hF.mate cur hcur
    obtain ⟨ro, rc, hrs⟩ := hints.shape
    rw [show (pre ++ [cur]).length = pre.length + 1 by simp] at hrs
    subst hrs
    have HIN : Hid (Ints wr w.heap.size (.slice ro (pre.length + 1) rc) (pre ++ [cur])) := hints
    have HBE : Hid (Below w.heap.size w wr) := hbel
    have HSP : Hid (l = pre ++ cur :: rest) := hsp
    have hpl : pre.length + rest.length + 1 ≤ 24 := by rw [hsp] at hl; simp at hl; omega
    clear HI0 HB0 hints hbel hsp
    match rest, halt, hk, HSP, hpl with
    | [], halt, hk, HSP, hpl =>
      have e : cur = t := halt
      have emc : mate cur = none := by rw [e]; exact HT.out
      rw [emc] at cm
      simp only [mi] at cm
      clear e emc halt hF
      go_wp2_with fail
      go_ret
      exact ⟨_, rfl, by rw [HSP.out]; exact HIN.out, HBE.out⟩
    | [m], halt, hk, HSP, hpl => exact absurd halt.2.2.1 (by simp)
    | m :: y :: r, halt, hk, HSP, hpl =>
      obtain ⟨a1, a2, a3, a4⟩ := halt
      have ey : y = f.next m := by simpa using a3
      have hm24 : m < 24 := H24.out m (by rw [HSP.out]; simp)
      have m24 : (m : Int) < 24 := by omega
      have cn := hF.next m hm24
      rw [← ey] at cn
      rw [a1] at cm
      simp only [mi] at cm
      have tne : ((m : Int) != -1) = true := by simp
      have HALT : Hid (Alt g mate f.next t (y :: r)) := a4
      have hws : w.heap.size ≤ wr.heap.size := HBE.out.size
      have HN2 : Hid (∀ t, ∀ j u, [Value.int .i64 (m : Int), .int .i64 (y : Int)][j]? = some u → (wr.alloc (.cells #[.int .i64 (m : Int), .int .i64 (y : Int)] t)).cell? ((⟨wr.heap.size, 0, none⟩ : Addr).add j) = some u) := fun t => cells2 wr _ _ t
      have HINA : Hid (∀ ob, (wr.alloc ob).ownsRow w.heap.size 3 1 (.slice ro (pre.length + 1) rc) (pre.length + 1) (intCells (pre ++ [cur]))) := fun ob => by
        have := HIN.out.alloc ob
        rw [show (pre ++ [cur]).length = pre.length + 1 by simp] at this
        exact this
      clear hF a1 a2 a3 a4 ey
      go_wp2_with (at_builtin; go_must (refine wpList_append_mine rfl (.tmp 30) (.tmp 33) 25 rfl w.heap.size 3 i0 (.int .i64 0) 1 8 Tryz.underlying25 hi hz0 hz1 hz2 rfl (by decide) (.slice ro (pre.length + 1) rc) (pre.length + 1) (intCells (pre ++ [cur])) rfl (by exact HINA.out _) ⟨wr.heap.size, 0, none⟩ 2 2 [.int .i64 (m : Int), .int .i64 (y : Int)] rfl rfl (by exact HN2.out _) (by intro u hu; simp at hu; rcases hu with rfl | rfl <;> rfl) (by unfold maxLen; omega) (by omega) (by simp; omega) ?_))
      intro v' w2 ho hg hkk
      have HI2 : Hid (Ints w2 w.heap.size v' ((pre ++ [cur, m]) ++ [y])) := by
        unfold Hid Ints
        have e1 : ((pre ++ [cur, m]) ++ [y]).length = pre.length + 1 + 2 := by simp
        have e2 : intCells ((pre ++ [cur, m]) ++ [y]) = intCells (pre ++ [cur]) ++ [.int .i64 (m : Int), .int .i64 (y : Int)] := by simp [intCells]
        rw [e1, e2]
        exact ho
      have HB2 : Hid (Below w.heap.size w w2) := (HBE.out.alloc hws _).grown hg (by simp; omega) (fun k hk => (HIN.out.lt k hk).1)
      clear ho hg hkk
      go_wp2_with fail
      go_roundg (r.length)
      case measure => simp at hk; omega
      case rel => exact ⟨pre ++ [cur, m], y, r, by rw [HSP.out]; simp, Nat.le_refl _, rfl, HALT.out, HI2.out, HB2.out⟩

/-- Where turn stands. -/
def TnAt (w : World) (B : Nat) (g : Gr) (mate : Nat → Option Nat) (f : Fo) (base : Nat) (sv : Value) (L : List Nat) (b : Nat) (k : Nat) (v2 v6 : Value) (wr : World) : Prop :=
  ∃ pre rest b' nx, L = pre ++ rest ∧ rest.length ≤ k ∧ v6 = .int .i64 (pre.length : Nat) ∧ v2 = .int .i64 (b' : Nat) ∧ turn nx rest b' = turn f.next L b ∧ FAt wr B g mate { f with next := nx } ∧ Ints wr base sv L ∧ (∀ k, sv.ownBlock = some k → ¬ FMine wr B k) ∧ FFr B w wr

set_option maxRecDepth 100000 in
set_option maxHeartbeats 1000000 in
theorem turn_any (h : FAt w B g mate f) {base : Nat} {sv : Value} {L : List Nat} (hs : Ints w base sv L) (hnm : ∀ k, sv.ownBlock = some k → ¬ FMine w B k) (hL : L.length ≤ 24) (h24 : ∀ x ∈ L, x < 24) (b : Nat) :
    Calls Tryz.prog 144 #[.pointer (some ⟨B, 0, none⟩), sv, .int .i64 b] w fun e w' => e = .returned (.tuple #[]) ∧ FAt w' B g mate { f with next := turn f.next L b } ∧ FFr B w w' := by
  obtain ⟨so, sc, hss⟩ := hs.shape
  subst hss
  have HST : Hid (TnAt w B g mate f base (.slice so L.length sc) L b 24 (.int .i64 (b : Nat)) (.int .i64 (0 : Nat)) w) := ⟨[], L, b, f.next, rfl, hL, rfl, rfl, rfl, h, hs, hnm, FFr.refl B w⟩
  have H24 : Hid (∀ x ∈ L, x < 24) := h24
  clear h hs hnm h24
  go_enter Tryz.func144, Tryz.ntmps144
  go_wp2_with fail
  go_loopg [2, 6] 24 (fun k v2 v6 wr => TnAt w B g mate f base (.slice so L.length sc) L b k v2 v6 wr)
  case atStart => exact HST.out
  case round =>
    obtain ⟨pre, rest, b', nx, hsp, hk, rfl, rfl, hturn, hF, hints, hnm, hfr⟩ := hrel
    clear HST
    have HF : Hid (FAt wr B g mate { f with next := nx }) := hF
    have HIN : Hid (Ints wr base (.slice so L.length sc) L) := hints
    have HNM : Hid (∀ k, (Value.slice so L.length sc).ownBlock = some k → ¬ FMine wr B k) := hnm
    have HFR : Hid (FFr B w wr) := hfr
    have HSP : Hid (L = pre ++ rest) := hsp
    have HTU : Hid (turn nx rest b' = turn f.next L b) := hturn
    have hpl : pre.length + rest.length = L.length := by rw [hsp]; simp
    clear hF hints hnm hfr hsp hturn
    match rest, hk, HSP, HTU, hpl with
    | [], hk, HSP, HTU, hpl =>
      simp at hpl
      have hc : ¬ ((pre.length : Int) + 1 < (L.length : Int)) := by omega
      go_wp2_with fail
      go_end0
      refine ⟨rfl, ?_, HFR.out⟩
      have e : turn f.next L b = nx := HTU.out.symm
      rw [e]
      exact HF.out
    | [x], hk, HSP, HTU, hpl =>
      simp at hpl
      have hc : ¬ ((pre.length : Int) + 1 < (L.length : Int)) := by omega
      go_wp2_with fail
      go_end0
      refine ⟨rfl, ?_, HFR.out⟩
      have e : turn f.next L b = nx := HTU.out.symm
      rw [e]
      exact HF.out
    | x :: m :: r, hk, HSP, HTU, hpl =>
      simp at hpl
      have hc : ((pre.length : Int) + 1 < (L.length : Int)) := by omega
      have hc0 : ((pre.length : Int) < (L.length : Int)) := by omega
      have gx : L[pre.length]? = some x := by rw [HSP.out]; simp
      have gm : L[pre.length + 1]? = some m := by rw [HSP.out]; simp
      have hx24 := H24.out x (List.mem_of_getElem? gx)
      have hm24 := H24.out m (List.mem_of_getElem? gm)
      have x24 : (x : Int) < 24 := by omega
      obtain ⟨gg, cap, es, _, hgl, cx⟩ := HIN.out.at gx
      obtain ⟨gg', cap', es', _, _, cm⟩ := HIN.out.at gm
      simp only [Value.slice.injEq, true_and] at es es'
      obtain ⟨rfl, rfl⟩ := es
      obtain ⟨e1, _⟩ := es'
      simp only [Option.some.injEq, Addr.mk.injEq, and_true] at e1
      subst e1
      have hgB : gg ≠ B := fun e => HNM.out gg rfl (.inl e)
      have cn := HF.out.next x hx24
      simp only at cn
      have fn := HF.out.free (625 + x)
      have hB := HF.out.lt
      have HF2 : Hid (∀ n, FAt ((wr.setCell ⟨B, 625 + x, none⟩ (.int .i64 (b' : Nat))).drewN n) B g mate { f with next := setAt nx x b' }) := fun n => (HF.out.setNext hx24 b').drewN n
      have HI2 : Hid (∀ n, Ints ((wr.setCell ⟨B, 625 + x, none⟩ (.int .i64 (b' : Nat))).drewN n) base (.slice (some ⟨gg, 0, none⟩) L.length sc) L) := fun n => ownsRow_same HIN.out fun k hk => by
        show ((wr.setCell ⟨B, 625 + x, none⟩ (.int .i64 (b' : Nat)))).heap[k]? = _
        exact Below.heap_setCell wr _ _ k (fun e => HNM.out k hk (.inl e))
      have HR2 : Hid (∀ n, FFr B w ((wr.setCell ⟨B, 625 + x, none⟩ (.int .i64 (b' : Nat))).drewN n)) := fun n => (HFR.out.set (by omega) _).drewN n
      have HM2 : Hid (∀ n k, (Value.slice (some ⟨gg, 0, none⟩) L.length sc).ownBlock = some k → ¬ FMine ((wr.setCell ⟨B, 625 + x, none⟩ (.int .i64 (b' : Nat))).drewN n) B k) := fun n k hk hm => HNM.out k hk (by
        have h9 : FMine (wr.setCell ⟨B, 625 + x, none⟩ (.int .i64 (b' : Nat))) B k := hm
        unfold FMine at h9 ⊢
        rw [cell_set_ne (by omega)] at h9
        exact h9)
      have HT2 : Hid (turn (setAt nx x b') r m = turn f.next L b) := HTU.out
      clear gx gm
      go_wp2_with fail
      go_region
      all_goals
        go_wp2_with fail
        go_roundg (r.length)
        case measure => simp at hk; omega
        case rel => exact ⟨pre ++ [x, m], r, m, setAt nx x b', by rw [HSP.out]; simp, Nat.le_refl _, by simp, rfl, HT2.out, HF2.out 1, HI2.out 1, HM2.out 1, HR2.out 1⟩
end
end Go.Proofs.YtcabaecbmkgclaaGreatDoor.Mg

namespace Go.Proofs.YtcabaecbmkgclaaGreatDoor.Mg
open Go.RowKit Mt

def ringCells (r : Nat → Bool) : List Value := (List.range 24).map fun x => .bool (r x)
theorem ringCells_len (r : Nat → Bool) : (ringCells r).length = 24 := by simp [ringCells]
theorem ringCells_get (r : Nat → Bool) {x : Nat} (hx : x < 24) : (ringCells r)[x]? = some (.bool (r x)) := by simp [ringCells, hx]
theorem ringCells_one (r : Nat → Bool) : ∀ v ∈ ringCells r, v.oneCell' = true := by
  intro v hv
  obtain ⟨x, _, rfl⟩ := List.mem_map.1 hv
  rfl

theorem Tryz.sizeRing : (Tryz.prog.info? 110).map (·.size) = some 24 := by kernel_rfl
theorem Tryz.infoBool : (Tryz.prog.info? 4).map (fun i => (i.zero, i.size, i.bytes)) = some (some (.bool false), 1, 1) := by kernel_rfl

theorem size_bool (w : World) : (sizeOf 4).run Tryz.prog w = .ok 1 w := by
  obtain ⟨i, hi, _, h1, _⟩ := info_parts Tryz.infoBool
  simp [sizeOf, typeInfo, hi, h1]

theorem run_equal_ring (w : World) (d : Nat) (r s : Nat → Bool) : (Op.equalIn (d + 2) 110 (.agg (ringCells r).toArray) (.agg (ringCells s).toArray)).run Tryz.prog w = .ok (ringEq r s) w := by
  unfold ringEq
  rw [List.range_eq_range', Op.equalIn]
  simp only [Sem.run_bind, run_underlying Tryz.underlying110, Result.andThen_ok, size_bool, Std.Legacy.Range.forIn_eq_forIn_range', Std.Legacy.Range.size, Nat.sub_zero, Nat.add_sub_cancel, Nat.div_one]
  have hl : ∀ i ∈ List.range' 0 24 1, i < 24 := fun i hi => by simpa using (List.mem_range'_1.1 hi).2
  generalize List.range' 0 24 1 = l at hl ⊢
  induction l with
  | nil => simp
  | cons i l ih =>
    have hi : i < 24 := hl i (by simp)
    have px : ∀ q : Nat → Bool, (Go.part 4 (ringCells q).toArray (i * 1)).run Tryz.prog w = .ok (.bool (q i)) w := fun q => by
      simp [Go.part, isAgg, run_underlying Tryz.underlying4, ringCells_get q hi]
    have pe : (Op.equalIn (d + 1) 4 (.bool (r i)) (.bool (s i))).run Tryz.prog w = .ok (r i == s i) w := run_equalIn_bool' w d 4 _ _ Tryz.underlying4
    simp only [List.forIn_cons, Sem.run_bind, px, pe, Result.andThen_ok, List.all_cons]
    cases hb : (r i == s i)
    · simp
    · simp only [Bool.not_true, Bool.false_eq_true, if_false, Sem.run_pure, Result.andThen_ok, Bool.true_and]
      exact ih fun j hj => hl j (by simp [hj])

theorem ownsRow_pre {w : World} {base : Nat} {e : TypeId} {size g n n' cap : Nat} {xs' : List Value} (h : w.ownsRow base e size (.slice (some ⟨g, 0, none⟩) n' cap) n' xs') (hn : n ≤ n') : w.ownsRow base e size (.slice (some ⟨g, 0, none⟩) n cap) n (xs'.take (n * size)) := by
  have hm : n * size ≤ n' * size := Nat.mul_le_mul_right _ hn
  rcases h.2 with ⟨h0, _⟩ | ⟨g', cap', cur, hv, hb, hg, hnc, hcm, hcs, ht⟩
  · cases h0
  · cases hv
    refine ⟨by rw [List.length_take, h.1]; omega, .inr ⟨g, cap, cur, rfl, hb, hg, by omega, hcm, hcs, ?_⟩⟩
    rw [← ht, List.take_take, Nat.min_eq_left hm]

theorem Ints.cap {w : World} {base g cap : Nat} {l : List Nat} (h : Ints w base (.slice (some ⟨g, 0, none⟩) l.length cap) l) : l.length ≤ cap ∧ cap ≤ maxLen := by
  rcases h.2 with ⟨h0, _⟩ | ⟨g', cap', cur, hv, hb, hg, hnc, hcm, hcs, ht⟩
  · cases h0
  · cases hv
    exact ⟨hnc, hcm⟩

theorem Ints.take {w : World} {base g cap : Nat} {l : List Nat} (h : Ints w base (.slice (some ⟨g, 0, none⟩) l.length cap) l) {i : Nat} (hi : i ≤ l.length) : Ints w base (.slice (some ⟨g, 0, none⟩) i cap) (l.take i) := by
  unfold Ints at h ⊢
  have := ownsRow_pre h hi
  have e1 : (l.take i).length = i := by rw [List.length_take]; omega
  have e2 : intCells (l.take i) = (intCells l).take (i * 1) := by rw [Nat.mul_one]; unfold intCells; rw [List.map_take]
  rw [e1, e2]
  exact this

theorem takeWhile_at {p : Nat → Bool} : ∀ {l : List Nat} {i : Nat} {x : Nat}, l[i]? = some x → p x = false → (∀ (j : Nat) y, j < i → l[j]? = some y → p y = true) → l.takeWhile p = l.take i
  | [], _, _, h, _, _ => by simp at h
  | a :: l, 0, x, h, hx, _ => by
    simp at h
    subst h
    simp [hx]
  | a :: l, i + 1, x, h, hx, hb => by
    have ha := hb 0 a (by omega) rfl
    rw [List.takeWhile_cons_of_pos ha, List.take_succ_cons, takeWhile_at (by simpa using h) hx fun j y hj hy => hb (j + 1) y (by omega) (by simpa using hy)]

theorem takeWhile_full {p : Nat → Bool} : ∀ {l : List Nat}, (∀ (j : Nat) y, l[j]? = some y → p y = true) → l.takeWhile p = l
  | [], _ => rfl
  | a :: l, hb => by
    rw [List.takeWhile_cons_of_pos (hb 0 a rfl), takeWhile_full fun j y hy => hb (j + 1) y (by simpa using hy)]

section
variable {w w' : World} {B : Nat} {g : Gr} {mate : Nat → Option Nat} {f : Fo}

theorem FAt.rangeRing (h : FAt w B g mate f) {v : Nat} (hv : v < 24) : w.rangeAt B (49 + v * 24) (ringCells (f.ring v)) := by
  intro j u hj
  have hj24 : j < 24 := by
    have := (List.getElem?_eq_some_iff.1 hj).1
    simpa [ringCells_len] using this
  rw [ringCells_get _ hj24] at hj
  cases hj
  exact h.ring v j hv hj24

theorem load_ring {wx : World} {b o : Nat} {r : Nat → Bool} (h : wx.rangeAt b o (ringCells r)) : (Instr.loadAt 110 (.pointer (some ⟨b, o, none⟩))).run Tryz.prog wx = .ok (.agg (ringCells r).toArray) wx :=
  run_loadAt_mid wx b o 110 (ringCells r) _ h Tryz.underlying110 rfl (by rw [Tryz.sizeRing, ringCells_len])

theorem range_alloc (w : World) (r : Nat → Bool) (t : TypeId) : (w.alloc (.cells (ringCells r).toArray t)).rangeAt w.heap.size 0 (ringCells r) := by
  intro j u hj
  rw [Nat.zero_add, World.cell?_alloc_new]
  simpa using hj

theorem quiet_load {P : Program} {ops : Array Oper} {C : World → Prop} {Q : Act → Prop} {a : Act} {o : Oper} {rest : List Oper} {ty : TypeId} {x : Operand} {v : Value} (hw : Region.wanted o (yielded ops a.tmps) = true) (ho : o.op = .load ty x) (hl : ∀ w, C w → (Instr.loadAt ty (a.eval x)).run P w = .ok v w) (hr : wpQuiet P ops C Q rest (a.put o.dst v)) : wpQuiet P ops C Q (o :: rest) a := by
  refine wpQuiet_step fun K hK => ?_
  rw [if_pos hw]
  refine ⟨v, fun wx hC => ?_, hK _ hr⟩
  unfold Oper.quietAt execOp
  rw [ho]
  simp only [Sem.run_bind, hl wx hC, Result.andThen_ok, Sem.run_pure, Oper.quietUpon, and_self]

theorem takeWhile_take {p : Nat → Bool} : ∀ (l : List Nat), l.takeWhile p = l.take (l.takeWhile p).length
  | [] => rfl
  | a :: l => by
    cases h : p a
    · simp [h]
    · rw [List.takeWhile_cons_of_pos h, List.length_cons, List.take_succ_cons, ← takeWhile_take l]

theorem belowF_len (T : Nat → Bool) (l : List Nat) : (belowF f T l).length ≤ l.length := by
  unfold belowF
  have := congrArg List.length (takeWhile_take (p := fun x => !ringEq (f.ring x) T) l)
  rw [List.length_take] at this
  omega

theorem belowF_sub {T : Nat → Bool} {l : List Nat} {x : Nat} (h : x ∈ belowF f T l) : x ∈ l := by
  unfold belowF at h
  rw [takeWhile_take] at h
  exact List.mem_of_mem_take h

theorem Ints.below {base : Nat} {so : Option Addr} {sc : Nat} {l : List Nat} (hs : Ints w base (.slice so l.length sc) l) (T : Nat → Bool) : Ints w base (.slice so (belowF f T l).length sc) (belowF f T l) := by
  rcases hs.2 with ⟨h0, h1⟩ | ⟨g', cap', cur, hv, hb, hg, hnc, hcm, hcs, ht⟩
  · have e : l = [] := List.eq_nil_of_length_eq_zero h1
    subst e
    exact hs
  · have e : so = some ⟨g', 0, none⟩ := by injection hv
    subst e
    have := hs.take (belowF_len (f := f) T l)
    rw [show l.take (belowF f T l).length = belowF f T l from (takeWhile_take l).symm] at this
    exact this

set_option maxRecDepth 100000 in
set_option maxHeartbeats 1000000 in
theorem below_any (h : FAt w B g mate f) (T : Nat → Bool) {base : Nat} {so : Option Addr} {sc : Nat} {l : List Nat} (hs : Ints w base (.slice so l.length sc) l) (hl : l.length ≤ 24) (h24 : ∀ x ∈ l, x < 24) :
    Calls Tryz.prog 141 #[.pointer (some ⟨B, 0, none⟩), .agg (ringCells T).toArray, .slice so l.length sc] w fun e w' => e = .returned (.slice so (belowF f T l).length sc) ∧ Below w.heap.size w w' := by
  have HF : Hid (FAt w B g mate f) := h
  have HS : Hid (Ints w base (.slice so l.length sc) l) := hs
  have H24 : Hid (∀ x ∈ l, x < 24) := h24
  have HB1 : Hid (Below w.heap.size w (w.alloc (.cells (ringCells T).toArray 110))) := (Below.refl _ w).alloc (Nat.le_refl _) _
  clear h hs h24
  go_enter Tryz.func141, Tryz.ntmps141
  have HR1 : Hid ((w.alloc (.cells (ringCells T).toArray 110)).rangeAt w.heap.size 0 (ringCells T)) := range_alloc w T _
  go_wp2_with fail
  go_loopg [11] (l.length + 1) (fun k vi wr => ∃ i : Nat, i ≤ l.length ∧ l.length - i ≤ k ∧ vi = .int .i64 i ∧ (∀ (j : Nat) y, j < i → l[j]? = some y → ringEq (f.ring y) T = false) ∧ Below w.heap.size w wr ∧ wr.rangeAt w.heap.size 0 (ringCells T))
  case atStart => exact ⟨0, by omega, by omega, rfl, by intro j y hj; omega, HB1.out, HR1.out⟩
  case round =>
    obtain ⟨i, hi, hk, rfl, hno, hbel, hbox⟩ := hrel
    have HNO : Hid (∀ (j : Nat) y, j < i → l[j]? = some y → ringEq (f.ring y) T = false) := hno
    have HBE : Hid (Below w.heap.size w wr) := hbel
    have HBX : Hid (wr.rangeAt w.heap.size 0 (ringCells T)) := hbox
    have HSr : Hid (Ints wr base (.slice so l.length sc) l) := ownsRow_same HS.out fun k hk => hbel.block k (HS.out.lt k hk).2
    have HFr : Hid (FAt wr B g mate f) := HF.out.below hbel
    clear HB1 HR1 hno hbel hbox
    by_cases hlt : i < l.length
    · have hlt' : (i : Int) < (l.length : Int) := by omega
      have gi := List.getElem?_eq_getElem hlt
      generalize l[i] = x at gi
      have hx24 := H24.out x (List.mem_of_getElem? gi)
      have x24 : (x : Int) < 24 := by omega
      obtain ⟨gg, cap, es, hbg, hgl, cx⟩ := HSr.out.at gi
      simp only [Value.slice.injEq, true_and] at es
      obtain ⟨rfl, rfl⟩ := es
      have hcap := HSr.out.cap
      have hl1 : ∀ n, (Instr.loadAt 110 (.pointer (some ⟨B, 49 + x * 24, none⟩))).run Tryz.prog (wr.drewN n) = .ok (.agg (ringCells (f.ring x)).toArray) (wr.drewN n) := fun n => load_ring ((HFr.out.drewN n).rangeRing hx24)
      have hl2 : ∀ n, (Instr.loadAt 110 (.pointer (some ⟨w.heap.size, 0, none⟩))).run Tryz.prog (wr.drewN n) = .ok (.agg (ringCells T).toArray) (wr.drewN n) := fun n => load_ring (show (wr.drewN n).rangeAt w.heap.size 0 (ringCells T) from HBX.out)
      have heq : ∀ (wx : World) r s, (Op.equalIn 10000 110 (.agg (ringCells r).toArray) (.agg (ringCells s).toArray)).run Tryz.prog wx = .ok (ringEq r s) wx := fun wx r s => run_equal_ring wx 9998 r s
      have HG : Hid (l[i]? = some x) := gi
      have HB2 : Hid (∀ n, Below w.heap.size w (wr.drewN n)) := fun n => below_drewN HBE.out n
      have HX2 : Hid (∀ n, (wr.drewN n).rangeAt w.heap.size 0 (ringCells T)) := fun n => HBX.out
      have HS2 : Hid (∀ n, Ints (wr.drewN n) base (.slice (some ⟨gg, 0, none⟩) i sc) (l.take i)) := fun n => ownsRow_same (HSr.out.take (Nat.le_of_lt hlt)) fun _ _ => rfl
      clear gi
      cases hre : ringEq (f.ring x) T
      · go_wp2_with fail
        refine wp_region_quiet_lit (by kernel_rfl) (by kernel_rfl) ?_
        quiet_step (fail)
        quiet_step (fail)
        quiet_step (fail)
        quiet_step (fail)
        quiet_step (fail)
        refine quiet_load (v := .agg (ringCells (f.ring x)).toArray) (by kernel_rfl) rfl (fun wx hC => by obtain ⟨n, rfl⟩ := hC; exact hl1 n) ?_
        try simp only [Act.put, List.setIfInBounds_toArray, List.set_cons_zero, List.set_cons_succ]
        refine quiet_load (v := .agg (ringCells T).toArray) (by kernel_rfl) rfl (fun wx hC => by obtain ⟨n, rfl⟩ := hC; exact hl2 n) ?_
        try simp only [Act.put, List.setIfInBounds_toArray, List.set_cons_zero, List.set_cons_succ]
        quiet_step (fail)
        refine wpQuiet_nil ?_
        intro _ hw'
        obtain ⟨nq, hw''⟩ := hw'
        subst hw''
        go_wp2_with fail
        go_roundg (l.length - (i + 1))
        case measure => omega
        case rel =>
          refine ⟨i + 1, by omega, Nat.le_refl _, by go_num, ?_, HB2.out _, HX2.out _⟩
          intro j y hj hy
          by_cases e : j = i
          · subst e
            rw [HG.out] at hy
            cases hy
            exact hre
          · exact HNO.out j y (by omega) hy
      · have HT : Hid (belowF f T l = l.take i) := takeWhile_at HG.out (by rw [hre]; rfl) fun j y hj hy => by rw [HNO.out j y hj hy]; rfl
        go_wp2_with fail
        refine wp_region_quiet_lit (by kernel_rfl) (by kernel_rfl) ?_
        quiet_step (fail)
        quiet_step (fail)
        quiet_step (fail)
        quiet_step (fail)
        quiet_step (fail)
        refine quiet_load (v := .agg (ringCells (f.ring x)).toArray) (by kernel_rfl) rfl (fun wx hC => by obtain ⟨n, rfl⟩ := hC; exact hl1 n) ?_
        try simp only [Act.put, List.setIfInBounds_toArray, List.set_cons_zero, List.set_cons_succ]
        refine quiet_load (v := .agg (ringCells T).toArray) (by kernel_rfl) rfl (fun wx hC => by obtain ⟨n, rfl⟩ := hC; exact hl2 n) ?_
        try simp only [Act.put, List.setIfInBounds_toArray, List.set_cons_zero, List.set_cons_succ]
        quiet_step (fail)
        refine wpQuiet_nil ?_
        intro _ hw'
        obtain ⟨nq, hw''⟩ := hw'
        subst hw''
        go_wp2_with fail
        go_ret
        exact ⟨by rw [HT.out, List.length_take, Nat.min_eq_left (Nat.le_of_lt hlt)]; rfl, HB2.out _⟩
    · have hlt' : ¬ (i : Int) < (l.length : Int) := by omega
      have HT : Hid (belowF f T l = l) := takeWhile_full fun j y hy => by
        have hj := (List.getElem?_eq_some_iff.1 hy).1
        rw [HNO.out j y (by omega) hy]
        rfl
      go_wp2_with fail
      go_ret
      exact ⟨by rw [HT.out]; rfl, HBE.out⟩
end
end Go.Proofs.YtcabaecbmkgclaaGreatDoor.Mg

namespace Go.Proofs.YtcabaecbmkgclaaGreatDoor.Mg
open Go.RowKit Mt

theorem alloc_ring (w : World) : (Instr.alloc 110 true (.tuple #[])).run Tryz.prog w = .ok (.pointer (some ⟨w.heap.size, 0, none⟩)) (w.alloc (.cells (ringCells fun _ => false).toArray 110)) := by kernel_rfl
theorem build_ring (w : World) : (Instr.build 110 #[]).run Tryz.prog w = .ok (.agg (ringCells fun _ => false).toArray) w := by kernel_rfl

theorem ring_there (w : World) (r : Nat → Bool) (t : TypeId) : (w.alloc (.cells (ringCells r).toArray t)).there w.heap.size 0 24 := by
  intro j hj
  rw [Nat.zero_add]
  refine ⟨?_, by simp⟩
  rw [World.cell?_alloc_new]
  simp [ringCells_len, hj]

theorem ring_stored {wx : World} {L : Nat} (r : Nat → Bool) (ht : wx.there L 0 24) : (loadVar 110 ⟨L, 0, none⟩).run Tryz.prog (wx.setCells L 0 (ringCells r)) = .ok (.agg (ringCells r).toArray) (wx.setCells L 0 (ringCells r)) :=
  run_loadVar_mid _ L 0 _ (ringCells r) _ (World.rangeAt_setCells_same wx L 0 (ringCells r) (by rw [ringCells_len]; exact ht)) Tryz.underlying110 rfl (by rw [ringCells_len]; exact Tryz.sizeRing)

theorem ring_one (r : Nat → Bool) : (ringCells r).toArray.all (·.oneCell') = true := all_oneCell_toArray (ringCells_one r)
theorem ring_size (r : Nat → Bool) : (ringCells r).toArray.size = 24 := by simp [ringCells_len]

theorem there_drewN {w : World} {b o n : Nat} (h : w.there b o n) (m : Nat) : (w.drewN m).there b o n := h

theorem below_cells {B b : Nat} {a : World} (hb : B ≤ b) : ∀ (vs : List Value) (o : Nat) (w : World), Below B a w → Below B a (w.setCells b o vs)
  | [], _, _, h => h
  | v :: r, o, _, h => below_cells hb r (o + 1) _ (h.setCell hb v)

theorem find_at {p : Nat → Bool} : ∀ {l : List Nat} {i : Nat} {x : Nat}, l[i]? = some x → p x = true → (∀ (j : Nat) y, j < i → l[j]? = some y → p y = false) → l.find? p = some x
  | [], _, _, h, _, _ => by simp at h
  | a :: l, 0, x, h, hx, _ => by
    simp at h
    subst h
    simp [hx]
  | a :: l, i + 1, x, h, hx, hb => by
    have ha := hb 0 a (by omega) rfl
    rw [List.find?_cons_of_neg (by simp [ha])]
    exact find_at (by simpa using h) hx fun j y hj hy => hb (j + 1) y (by omega) (by simpa using hy)

section
variable {w w' : World} {B : Nat} {g : Gr} {mate : Nat → Option Nat} {f : Fo}

set_option maxRecDepth 100000 in
set_option maxHeartbeats 1000000 in
theorem meeting_any (h : FAt w B g mate f) {base base' : Nat} {sv tv : Value} {l r : List Nat} (hs : Ints w base sv l) (hl : l.length ≤ 24) (h24 : ∀ x ∈ l, x < 24) (ht : Ints w base' tv r) (hr : r.length ≤ 24) (hr24 : ∀ x ∈ r, x < 24) :
    Calls Tryz.prog 140 #[.pointer (some ⟨B, 0, none⟩), sv, tv] w fun e w' => e = .returned (.agg (ringCells (meetingF f l r)).toArray) ∧ Below w.heap.size w w' := by
  obtain ⟨so, sc, hss⟩ := hs.shape
  subst hss
  obtain ⟨tz, tc, htt⟩ := ht.shape
  subst htt
  have HF : Hid (FAt w B g mate f) := h
  have HS : Hid (Ints w base (.slice so l.length sc) l) := hs
  have HTT : Hid (Ints w base' (.slice tz r.length tc) r) := ht
  have H24 : Hid (∀ x ∈ l, x < 24) := h24
  have HR24 : Hid (∀ x ∈ r, x < 24) := hr24
  have HB1 : Hid (Below w.heap.size w (w.alloc (.cells (ringCells fun _ => false).toArray 110))) := (Below.refl _ w).alloc (Nat.le_refl _) _
  have HR1 : Hid ((w.alloc (.cells (ringCells fun _ => false).toArray 110)).there w.heap.size 0 24) := ring_there w _ _
  clear h hs ht h24 hr24
  go_enter Tryz.func140, Tryz.ntmps140
  go_wp2_with (refine wpList_alloc rfl 110 rfl _ _ (alloc_ring _) ?_; simp only [Act.put, List.setIfInBounds_toArray, List.set_cons_zero, List.set_cons_succ])
  go_loopg [13] (l.length + 1) (fun k vi wr => ∃ i : Nat, i ≤ l.length ∧ l.length - i ≤ k ∧ vi = .int .i64 i ∧ (∀ (j : Nat) y, j < i → l[j]? = some y → (r.any fun z => ringEq (f.ring y) (f.ring z)) = false) ∧ Below w.heap.size w wr ∧ wr.there w.heap.size 0 24)
  case atStart => exact ⟨0, by omega, by omega, rfl, by intro j y hj; omega, HB1.out, HR1.out⟩
  case round =>
    obtain ⟨i, hi, hk, rfl, hno, hbel, hbox⟩ := hrel
    have HNO : Hid (∀ (j : Nat) y, j < i → l[j]? = some y → (r.any fun z => ringEq (f.ring y) (f.ring z)) = false) := hno
    have HBE : Hid (Below w.heap.size w wr) := hbel
    have HBX : Hid (wr.there w.heap.size 0 24) := hbox
    have HSr : Hid (Ints wr base (.slice so l.length sc) l) := ownsRow_same HS.out fun k hk => hbel.block k (HS.out.lt k hk).2
    clear HB1 HR1 hno hbel hbox
    by_cases hlt : i < l.length
    · have hlt' : (i : Int) < (l.length : Int) := by omega
      have gi := List.getElem?_eq_getElem hlt
      generalize l[i] = x at gi
      have hx24 := H24.out x (List.mem_of_getElem? gi)
      have x24 : (x : Int) < 24 := by omega
      obtain ⟨gg, cap, es, hbg, hgl, cx⟩ := HSr.out.at gi
      simp only [Value.slice.injEq, true_and] at es
      obtain ⟨rfl, rfl⟩ := es
      have HG : Hid (l[i]? = some x) := gi
      clear gi
      go_wp2_with fail
      go_loopg [19] (r.length + 1) (fun k vj wq => ∃ j : Nat, j ≤ r.length ∧ r.length - j ≤ k ∧ vj = .int .i64 j ∧ (∀ (k : Nat) y, k < j → r[k]? = some y → ringEq (f.ring x) (f.ring y) = false) ∧ Below w.heap.size w wq ∧ wq.there w.heap.size 0 24)
      case atStart => exact ⟨0, by omega, by omega, rfl, by intro j y hj; omega, HBE.out, HBX.out⟩
      case round =>
        obtain ⟨j, hj, hkj, rfl, hnj, hbj, hxj⟩ := hrel
        have HNJ : Hid (∀ (k : Nat) y, k < j → r[k]? = some y → ringEq (f.ring x) (f.ring y) = false) := hnj
        have HBJ : Hid (Below w.heap.size w wr) := hbj
        have HXJ : Hid (wr.there w.heap.size 0 24) := hxj
        have HSr' : Hid (Ints wr base (.slice (some ⟨gg, 0, none⟩) l.length sc) l) := ownsRow_same HS.out fun k hk => hbj.block k (HS.out.lt k hk).2
        have HTr : Hid (Ints wr base' (.slice tz r.length tc) r) := ownsRow_same HTT.out fun k hk => hbj.block k (HTT.out.lt k hk).2
        have HFr : Hid (FAt wr B g mate f) := HF.out.below hbj
        clear hnj hbj hxj
        by_cases hlj : j < r.length
        · have hlj' : (j : Int) < (r.length : Int) := by omega
          have gj := List.getElem?_eq_getElem hlj
          generalize r[j] = y at gj
          have hy24 := HR24.out y (List.mem_of_getElem? gj)
          have y24 : (y : Int) < 24 := by omega
          obtain ⟨gt, cat, et, hbt, htl, cy⟩ := HTr.out.at gj
          simp only [Value.slice.injEq, true_and] at et
          obtain ⟨rfl, rfl⟩ := et
          have hl1 : ∀ n, (Instr.loadAt 110 (.pointer (some ⟨B, 49 + x * 24, none⟩))).run Tryz.prog (wr.drewN n) = .ok (.agg (ringCells (f.ring x)).toArray) (wr.drewN n) := fun n => load_ring ((HFr.out.drewN n).rangeRing hx24)
          have hl2 : ∀ n, (Instr.loadAt 110 (.pointer (some ⟨B, 49 + y * 24, none⟩))).run Tryz.prog (wr.drewN n) = .ok (.agg (ringCells (f.ring y)).toArray) (wr.drewN n) := fun n => load_ring ((HFr.out.drewN n).rangeRing hy24)
          have heq : ∀ (wx : World) r s, (Op.equalIn 10000 110 (.agg (ringCells r).toArray) (.agg (ringCells s).toArray)).run Tryz.prog wx = .ok (ringEq r s) wx := fun wx r s => run_equal_ring wx 9998 r s
          have HGJ : Hid (r[j]? = some y) := gj
          have HB2 : Hid (∀ n, Below w.heap.size w (wr.drewN n)) := fun n => below_drewN HBJ.out n
          have HX2 : Hid (∀ n, (wr.drewN n).there w.heap.size 0 24) := fun n => HXJ.out
          have HRG : Hid (∀ n, (wr.drewN n).rangeAt B (49 + x * 24) (ringCells (f.ring x))) := fun n => (HFr.out.drewN n).rangeRing hx24
          clear gj
          cases hre : ringEq (f.ring x) (f.ring y)
          · go_wp2_with fail
            refine wp_region_quiet_lit (by kernel_rfl) (by kernel_rfl) ?_
            quiet_step (fail)
            quiet_step (fail)
            quiet_step (fail)
            quiet_step (fail)
            quiet_step (fail)
            refine quiet_load (v := .agg (ringCells (f.ring x)).toArray) (by kernel_rfl) rfl (fun wx hC => by obtain ⟨n, rfl⟩ := hC; exact hl1 n) ?_
            try simp only [Act.put, List.setIfInBounds_toArray, List.set_cons_zero, List.set_cons_succ]
            quiet_step (fail)
            quiet_step (fail)
            quiet_step (fail)
            quiet_step (fail)
            quiet_step (fail)
            refine quiet_load (v := .agg (ringCells (f.ring y)).toArray) (by kernel_rfl) rfl (fun wx hC => by obtain ⟨n, rfl⟩ := hC; exact hl2 n) ?_
            try simp only [Act.put, List.setIfInBounds_toArray, List.set_cons_zero, List.set_cons_succ]
            quiet_step (fail)
            refine wpQuiet_nil ?_
            intro _ hw'
            obtain ⟨nq, hw''⟩ := hw'
            subst hw''
            go_wp2_with fail
            go_roundg (r.length - (j + 1))
            case measure => omega
            case rel =>
              refine ⟨j + 1, by omega, Nat.le_refl _, by go_num, ?_, HB2.out _, HX2.out _⟩
              intro k z hk hz
              by_cases e : k = j
              · subst e
                rw [HGJ.out] at hz
                cases hz
                exact hre
              · exact HNJ.out k z (by omega) hz
          · have HT : Hid (meetingF f l r = f.ring x) := by
              unfold meetingF
              have : l.find? (fun x => r.any fun y => ringEq (f.ring x) (f.ring y)) = some x := find_at HG.out (List.any_eq_true.2 ⟨y, List.mem_of_getElem? HGJ.out, hre⟩) HNO.out
              rw [this]
              exact rfl
            go_wp2_with fail
            refine wp_region_quiet_lit (by kernel_rfl) (by kernel_rfl) ?_
            quiet_step (fail)
            quiet_step (fail)
            quiet_step (fail)
            quiet_step (fail)
            quiet_step (fail)
            refine quiet_load (v := .agg (ringCells (f.ring x)).toArray) (by kernel_rfl) rfl (fun wx hC => by obtain ⟨n, rfl⟩ := hC; exact hl1 n) ?_
            try simp only [Act.put, List.setIfInBounds_toArray, List.set_cons_zero, List.set_cons_succ]
            quiet_step (fail)
            quiet_step (fail)
            quiet_step (fail)
            quiet_step (fail)
            quiet_step (fail)
            refine quiet_load (v := .agg (ringCells (f.ring y)).toArray) (by kernel_rfl) rfl (fun wx hC => by obtain ⟨n, rfl⟩ := hC; exact hl2 n) ?_
            try simp only [Act.put, List.setIfInBounds_toArray, List.set_cons_zero, List.set_cons_succ]
            quiet_step (fail)
            refine wpQuiet_nil ?_
            intro _ hw'
            obtain ⟨nq, hw''⟩ := hw'
            subst hw''
            go_wp2_with (first | (refine wpList_load_mid rfl 110 (.tmp 40) rfl B (49 + x * 24) (by simp [Act.eval]) (ringCells (f.ring x)) _ (HRG.out _) Tryz.underlying110 rfl (by rw [Tryz.sizeRing, ringCells_len]) ?_; simp only [Act.put, List.setIfInBounds_toArray, List.set_cons_zero, List.set_cons_succ]) | (refine wpList_store_mid rfl 110 (.tmp 6) (.tmp 41) rfl w.heap.size 0 (ringCells (f.ring x)).toArray (by simp [Act.eval]) (by rfl) (by rw [ring_size]; exact HX2.out _) (by rw [ring_size]; exact Tryz.sizeRing) (ring_one _) ?_; simp only [Act.put]))
            have HLD := ring_stored (f.ring x) (HX2.out nq)
            refine bodyPost_ret (v := .agg (ringCells (f.ring x)).toArray) ?_ rfl ⟨by rw [HT.out], below_cells (Nat.le_refl _) _ _ _ (HB2.out _)⟩
            simp [results, Tryz.results140, asAddr, HLD]
        · have hlj' : ¬ (j : Int) < (r.length : Int) := by omega
          have HNX : Hid ((r.any fun z => ringEq (f.ring x) (f.ring z)) = false) := List.any_eq_false.2 fun z hz => by
            obtain ⟨k, hk⟩ := List.getElem?_of_mem hz
            have hkl := (List.getElem?_eq_some_iff.1 hk).1
            rw [HNJ.out k z (by omega) hk]
            simp
          go_wp2_with fail
          go_roundg (l.length - (i + 1))
          case measure => omega
          case rel =>
            refine ⟨i + 1, by omega, Nat.le_refl _, by go_num, ?_, HBJ.out, HXJ.out⟩
            intro k z hk hz
            by_cases e : k = i
            · subst e
              rw [HG.out] at hz
              cases hz
              exact HNX.out
            · exact HNO.out k z (by omega) hz
    · have hlt' : ¬ (i : Int) < (l.length : Int) := by omega
      have HT : Hid (meetingF f l r = fun _ => false) := by
        unfold meetingF
        have : l.find? (fun x => r.any fun y => ringEq (f.ring x) (f.ring y)) = none := List.find?_eq_none.2 fun y hy => by
          obtain ⟨j, hj⟩ := List.getElem?_of_mem hy
          have hjl := (List.getElem?_eq_some_iff.1 hj).1
          rw [HNO.out j y (by omega) hj]
          simp
        rw [this]
        exact rfl
      go_wp2_with (first | (refine wpList_store_mid rfl 110 (.tmp 6) (.tmp 44) rfl w.heap.size 0 (ringCells fun _ => false).toArray (by simp [Act.eval]) (by rfl) (by rw [ring_size]; exact HBX.out) (by rw [ring_size]; exact Tryz.sizeRing) (ring_one _) ?_; simp only [Act.put]))
      have HLD := ring_stored (fun _ => false) HBX.out
      refine bodyPost_ret (v := .agg (ringCells fun _ => false).toArray) ?_ rfl ⟨by rw [HT.out], below_cells (Nat.le_refl _) _ _ _ HBE.out⟩
      simp [results, Tryz.results140, asAddr, HLD]
end
end Go.Proofs.YtcabaecbmkgclaaGreatDoor.Mg
