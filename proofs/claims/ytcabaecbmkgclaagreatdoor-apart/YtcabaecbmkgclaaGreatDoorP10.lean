/-
  What is seen of the pairs and of the barrier.
  What the graph's below and Join do.
  What graph.Of does.
  What benzol.Match does.
  What the molecule's Candidates does.
  Where all have a mate there is no barrier; two numbers and one edge.
  Pieces found one by one, each from its least number on: what stands while they are found; a naming at the end.
-/
import Derived.Test.YtcabaecbmkgclaaGreatDoorP09

namespace Go.Proofs.YtcabaecbmkgclaaGreatDoor.Mt

section
variable {g : Gr} {mate : Nat → Option Nat} {f : Fo} {h : Gh} {n : Nat}

theorem pairsF_mem {p : Nat × Nat} (hp : p ∈ pairsF n mate) : mate p.1 = some p.2 ∧ p.1 < p.2 ∧ p.1 < n := by
  unfold pairsF at hp
  obtain ⟨v, hv, rfl⟩ := List.mem_map.1 hp
  obtain ⟨h1, h2⟩ := List.mem_filter.1 hv
  simp only [Bool.and_eq_true, decide_eq_true_eq] at h2
  obtain ⟨m, hm⟩ := Option.isSome_iff_exists.1 h2.1
  have e : mateOf mate v = m := by unfold mateOf; rw [hm]; rfl
  rw [e] at h2
  exact ⟨by rw [e]; exact hm, by rw [e]; exact h2.2, List.mem_range.1 h1⟩

theorem filter_rising (n : Nat) (p : Nat → Bool) : ((List.range n).filter p).Pairwise (· < ·) := List.Pairwise.filter _ List.pairwise_lt_range

theorem pairsF_rising : (pairsF n mate).Pairwise fun a b => a.1 < b.1 := by
  unfold pairsF
  rw [List.pairwise_map]
  exact filter_rising n _

theorem barF_rising (n : Nat) (f : Fo) : (barF n f).Pairwise (· < ·) := filter_rising n _

theorem barF_mem {x : Nat} : x ∈ barF n f ↔ x < n ∧ bar f x = true := by
  unfold barF
  rw [List.mem_filter, List.mem_range]

theorem pairwise_get {α : Type} {R : α → α → Prop} {l : List α} (h : l.Pairwise R) {i j : Nat} (hij : i < j) {a b : α} (ha : l[i]? = some a) (hb : l[j]? = some b) : R a b := by
  obtain ⟨hi, rfl⟩ := List.getElem?_eq_some_iff.1 ha
  obtain ⟨hj, rfl⟩ := List.getElem?_eq_some_iff.1 hb
  exact List.pairwise_iff_getElem.1 h i j hi hj hij

def usedBy (l : List (Nat × Nat)) (x : Nat) : Bool := l.any fun p => p.1 == x || p.2 == x

theorem usedBy_snoc (l : List (Nat × Nat)) (p : Nat × Nat) : usedBy (l ++ [p]) = setAt (setAt (usedBy l) p.1 true) p.2 true := by
  funext x
  unfold usedBy setAt
  rw [List.any_append]
  by_cases e2 : x = p.2
  · subst e2
    simp
  · by_cases e1 : x = p.1
    · subst e1
      simp
    · rw [if_neg e2, if_neg e1]
      have k1 : (p.1 == x) = false := by simp; exact fun k => e1 k.symm
      have k2 : (p.2 == x) = false := by simp; exact fun k => e2 k.symm
      simp [k1, k2]

theorem take_snoc {α : Type} {l : List α} {i : Nat} {a : α} (h : l[i]? = some a) : l.take (i + 1) = l.take i ++ [a] := by
  rw [List.take_add_one, h]
  rfl

/-- Neither number of a pair was in an earlier one. -/
theorem pairs_apart (M : MtOk g mate) {i : Nat} {a b : Nat} (hi : (pairsF n mate)[i]? = some (a, b)) : usedBy ((pairsF n mate).take i) a = false ∧ usedBy ((pairsF n mate).take i) b = false := by
  obtain ⟨h1, h2, h3⟩ := pairsF_mem (List.mem_of_getElem? hi)
  simp only at h1 h2 h3
  have key : ∀ p ∈ (pairsF n mate).take i, p.1 < a ∧ mate p.1 = some p.2 ∧ p.1 < p.2 := by
    intro p hp
    obtain ⟨j, hj⟩ := List.mem_iff_getElem?.1 hp
    have hji : j < i := by
      have := (List.getElem?_eq_some_iff.1 hj).1
      rw [List.length_take] at this
      omega
    rw [List.getElem?_take_of_lt hji] at hj
    obtain ⟨k1, k2, _⟩ := pairsF_mem (List.mem_of_getElem? hj)
    exact ⟨pairwise_get pairsF_rising hji hj hi, k1, k2⟩
  have hb := M.back a b h1
  constructor
  · cases hc : usedBy ((pairsF n mate).take i) a
    · rfl
    · obtain ⟨p, hp, hx⟩ := List.any_eq_true.1 hc
      obtain ⟨k1, k2, k3⟩ := key p hp
      simp only [Bool.or_eq_true, beq_iff_eq] at hx
      rcases hx with hx | hx
      · omega
      · rw [hx] at k2
        have := M.back _ _ k2
        rw [h1] at this
        simp only [Option.some.injEq] at this
        omega
  · cases hc : usedBy ((pairsF n mate).take i) b
    · rfl
    · obtain ⟨p, hp, hx⟩ := List.any_eq_true.1 hc
      obtain ⟨k1, k2, k3⟩ := key p hp
      simp only [Bool.or_eq_true, beq_iff_eq] at hx
      rcases hx with hx | hx
      · omega
      · rw [hx] at k2
        have := M.back _ _ k2
        rw [hb] at this
        simp only [Option.some.injEq] at this
        omega

def outBy (l : List Nat) (x : Nat) : Bool := l.any fun y => y == x

theorem outBy_snoc (l : List Nat) (p : Nat) : outBy (l ++ [p]) = setAt (outBy l) p true := by
  funext x
  unfold outBy setAt
  rw [List.any_append]
  by_cases e : x = p
  · subst e
    simp
  · rw [if_neg e]
    have k1 : (p == x) = false := by simp; exact fun k => e k.symm
    simp [k1]

theorem outBy_bar {x : Nat} (hx : x < n) : outBy (barF n f) x = bar f x := by
  rw [Bool.eq_iff_iff]
  unfold outBy
  rw [List.any_eq_true]
  constructor
  · rintro ⟨y, hy, e⟩
    rw [beq_iff_eq] at e
    subst e
    exact (barF_mem.1 hy).2
  · intro hb
    exact ⟨x, barF_mem.2 ⟨hx, hb⟩, by simp⟩

theorem bar_apart {i x : Nat} (hi : (barF n f)[i]? = some x) : outBy ((barF n f).take i) x = false := by
  cases hc : outBy ((barF n f).take i) x
  · rfl
  · obtain ⟨y, hy, hx⟩ := List.any_eq_true.1 hc
    rw [beq_iff_eq] at hx
    subst hx
    obtain ⟨j, hj⟩ := List.mem_iff_getElem?.1 hy
    have hji : j < i := by
      have := (List.getElem?_eq_some_iff.1 hj).1
      rw [List.length_take] at this
      omega
    rw [List.getElem?_take_of_lt hji] at hj
    have := pairwise_get (barF_rising n f) hji hj hi
    omega

theorem total_congr {n : Nat} {f g : Nat → Nat} (h : ∀ k, k < n → f k = g k) : total n f = total n g := by
  induction n with
  | zero => rfl
  | succ n ih => rw [total, total, ih fun k hk => h k (by omega), h n (by omega)]
end
end Go.Proofs.YtcabaecbmkgclaaGreatDoor.Mt

namespace Go.Proofs.YtcabaecbmkgclaaGreatDoor.Mg
open Go.RowKit Mt

def inR (n x : Int) : Bool := decide (0 ≤ x ∧ x < n)

set_option maxRecDepth 100000 in
theorem gbelow_any (w : World) (n x : Int) : Calls Tryz.prog 101 #[.int .i64 n, .int .i64 x] w fun e w' => e = .returned (.bool (inR n x)) ∧ w' = w := by
  by_cases h1 : 0 ≤ x
  · by_cases h2 : x < n
    · have HE : Hid (inR n x = true) := decide_eq_true ⟨h1, h2⟩
      go_enter Tryz.func101, Tryz.ntmps101
      go_wp2_with fail
      go_ret
      exact ⟨by rw [HE.out]; rfl, rfl⟩
    · have HE : Hid (inR n x = false) := decide_eq_false fun h => h2 h.2
      go_enter Tryz.func101, Tryz.ntmps101
      go_wp2_with fail
      go_ret
      exact ⟨by rw [HE.out]; rfl, rfl⟩
  · have HE : Hid (inR n x = false) := decide_eq_false fun h => h1 h.1
    go_enter Tryz.func101, Tryz.ntmps101
    go_wp2_with fail
    go_ret
    exact ⟨by rw [HE.out]; rfl, rfl⟩

def joinN (nr : Nat → Nat) (a b : Nat) : Nat → Nat := setAt (setAt nr a (nr a ||| 2 ^ b)) b (setAt nr a (nr a ||| 2 ^ b) b ||| 2 ^ a)

/-- A graph lies in block G. -/
structure NAt (w : World) (G : Nat) (nr : Nat → Nat) : Prop where
  near : ∀ k, k < 24 → w.cell? ⟨G, k, none⟩ = some (.int .u32 (nr k : Int))
  free : ∀ i, w.frozen? ⟨G, i, none⟩ = false

theorem NAt.set {w : World} {G : Nat} {nr : Nat → Nat} (h : NAt w G nr) {a : Nat} (ha : a < 24) (x : Nat) : NAt (w.setCell ⟨G, a, none⟩ (.int .u32 (x : Int))) G (setAt nr a x) := by
  refine ⟨fun k hk => ?_, fun i => by rw [World.frozen?_setCell]; exact h.free i⟩
  by_cases e : k = a
  · subst e
    rw [World.cell?_setCell_same w _ _ (h.near k hk)]
    simp [setAt]
  · rw [cell_set_ne (fun e' => e e'.symm)]
    simp only [setAt, if_neg e]
    exact h.near k hk

theorem NAt.same {w w' : World} {G : Nat} {nr : Nat → Nat} (h : NAt w G nr) (hs : w'.heap[G]? = w.heap[G]?) : NAt w' G nr :=
  ⟨fun k hk => (World.cell?_of_block (a := ⟨G, k, none⟩) hs).trans (h.near k hk), fun i => (World.frozen?_of_block (a := ⟨G, i, none⟩) hs).trans (h.free i)⟩

theorem NAt.lt {w : World} {G : Nat} {nr : Nat → Nat} (h : NAt w G nr) : G < w.heap.size := World.block_lt_of_cell? w ⟨G, 0, none⟩ (h.near 0 (by omega))

theorem or_lt32 {x y : Nat} (hx : x < 4294967296) (hy : y < 4294967296) : x ||| y < 4294967296 := Nat.or_lt_two_pow (n := 32) hx hy
theorem pow_lt32 {b : Nat} (h : b < 24) : 2 ^ b < 4294967296 := Nat.lt_of_lt_of_le (Nat.pow_lt_pow_right (by omega) (show b < 32 by omega)) (Nat.le_refl _)

theorem or_pow {x b : Nat} (hx : x < 4294967296) (hb : b < 24) : bits .or .u32 (x : Int) (2 ^ b % 4294967296) = ((x ||| 2 ^ b : Nat) : Int) := by
  have h1 : ((2 : Int) ^ b % 4294967296) = ((2 ^ b : Nat) : Int) := by
    have h2 : ((2 ^ b : Nat) : Int) < ((4294967296 : Nat) : Int) := Int.ofNat_lt.2 (pow_lt32 hb)
    rw [show ((2 : Int) ^ b) = ((2 ^ b : Nat) : Int) by simp]
    exact Int.emod_eq_of_lt (Int.natCast_nonneg _) h2
  rw [h1, u32_or_nat _ _ hx (pow_lt32 hb)]

set_option maxRecDepth 100000 in
set_option maxHeartbeats 1000000 in
theorem join_any {w : World} {G : Nat} {nr : Nat → Nat} (h : NAt w G nr) (h32 : ∀ k, k < 24 → nr k < 4294967296) {a b : Nat} (ha : a < 24) (hb : b < 24) :
    Calls Tryz.prog 33 #[.pointer (some ⟨G, 0, none⟩), .int .i64 (a : Int), .int .i64 (b : Int)] w fun e w' => e = .returned (.tuple #[]) ∧ NAt w' G (joinN nr a b) ∧ MFr G w w' := by
  have a24 : (a : Int) < 24 := by omega
  have b24 : (b : Int) < 24 := by omega
  have ca := h.near a ha
  have fa := h.free a
  have fb := h.free b
  have o1 := or_pow (h32 a ha) hb
  have x1 := or_lt32 (h32 a ha) (pow_lt32 hb)
  have o2 := or_pow (x := setAt nr a (nr a ||| 2 ^ b) b) (b := a) (by unfold setAt; split; exact x1; exact h32 b hb) ha
  have H1 : Hid (NAt (w.setCell ⟨G, a, none⟩ (.int .u32 ((nr a ||| 2 ^ b : Nat) : Int))).drew G (setAt nr a (nr a ||| 2 ^ b))) := (h.set ha _).same rfl
  have HF1 : Hid (MFr G w (w.setCell ⟨G, a, none⟩ (.int .u32 ((nr a ||| 2 ^ b : Nat) : Int))).drew) := ((MFr.refl G w).set _ _).drew
  clear h h32
  go_enter Tryz.func33, Tryz.ntmps33
  go_wp2_with fail
  go_region
  generalize (w.setCell ⟨G, a, none⟩ (.int .u32 ((nr a ||| 2 ^ b : Nat) : Int))).drew = w2 at H1 HF1 ⊢
  clear ca fa fb o1
  generalize hn1 : setAt nr a (nr a ||| 2 ^ b) = n1 at *
  have HJ : Hid (joinN nr a b = setAt n1 b (n1 b ||| 2 ^ a)) := by unfold Hid joinN; rw [hn1]
  clear hn1 x1
  have cb := H1.out.near b hb
  have fb := H1.out.free b
  have H2 : Hid (NAt (w2.setCell ⟨G, b, none⟩ (.int .u32 ((n1 b ||| 2 ^ a : Nat) : Int))).drew G (setAt n1 b (n1 b ||| 2 ^ a))) := (H1.out.set hb _).same rfl
  have HF2 : Hid (MFr G w (w2.setCell ⟨G, b, none⟩ (.int .u32 ((n1 b ||| 2 ^ a : Nat) : Int))).drew) := (HF1.out.set _ _).drew
  go_wp2_with fail
  go_region
  generalize (w2.setCell ⟨G, b, none⟩ (.int .u32 ((n1 b ||| 2 ^ a : Nat) : Int))).drew = w3 at H2 HF2 ⊢
  go_wp2_with fail
  go_end0
  exact ⟨rfl, by rw [HJ.out]; exact H2.out, HF2.out⟩
end Go.Proofs.YtcabaecbmkgclaaGreatDoor.Mg

namespace Go.Proofs.YtcabaecbmkgclaaGreatDoor.Mg
open Go.RowKit Mt

/-- A list of pairs of numbers, whatever they are, that is read. -/
def IPr (w : World) (v : Value) (l : List (Int × Int)) : Prop := ∃ so cap, v = .slice so l.length cap ∧ ∀ (i : Nat) (a c : Int), l[i]? = some (a, c) → ∃ b o, so = some ⟨b, o, none⟩ ∧ w.cell? ⟨b, o + i * 2, none⟩ = some (.int .i64 a) ∧ w.cell? ⟨b, o + i * 2 + 1, none⟩ = some (.int .i64 c)

theorem IPr.below {w w' : World} {v : Value} {l : List (Int × Int)} (h : IPr w v l) (hb : Below w.heap.size w w') : IPr w' v l := by
  obtain ⟨so, cap, rfl, hx⟩ := h
  refine ⟨so, cap, rfl, fun i a c hi => ?_⟩
  obtain ⟨b, o, rfl, h1, h2⟩ := hx i a c hi
  have hlt : b < w.heap.size := World.block_lt_of_cell? w ⟨b, o + i * 2, none⟩ h1
  exact ⟨b, o, rfl, (hb.cell (p := ⟨b, o + i * 2, none⟩) hlt).trans h1, (hb.cell (p := ⟨b, o + i * 2 + 1, none⟩) hlt).trans h2⟩

def natL (l : List (Int × Int)) : List (Nat × Nat) := l.map fun p => (p.1.toNat, p.2.toNat)
def edgeOk (n : Int) (p : Int × Int) : Bool := inR n p.1 && inR n p.2 && !(p.1 == p.2)
def okG (n : Int) (l : List (Int × Int)) : Bool := decide (0 ≤ n) && decide (n ≤ 24) && l.all (edgeOk n)

/-- The bits of nr are the edges. -/
def NrOk (l : List (Nat × Nat)) (nr : Nat → Nat) : Prop := ∀ k, k < 24 → nr k < 4294967296 ∧ ∀ j, j < 24 → (nr k).testBit j = adjL l k j

theorem NrOk.nil : NrOk [] fun _ => 0 := fun k _ => ⟨by show 0 < 4294967296; omega, fun j _ => by simp [adjL]⟩

theorem adjL_snoc (l : List (Nat × Nat)) (a b k j : Nat) : adjL (l ++ [(a, b)]) k j = (adjL l k j || ((a == k && b == j) || (a == j && b == k))) := by
  unfold adjL
  rw [List.any_append]
  simp

theorem bit_or (x b j : Nat) : (x ||| 2 ^ b).testBit j = (x.testBit j || (b == j)) := by
  rw [Nat.testBit_or, Nat.testBit_two_pow]
  rfl

theorem NrOk.join {l : List (Nat × Nat)} {nr : Nat → Nat} (h : NrOk l nr) {a b : Nat} (ha : a < 24) (hb : b < 24) (hab : a ≠ b) : NrOk (l ++ [(a, b)]) (joinN nr a b) := by
  intro k hk
  obtain ⟨h1, h2⟩ := h k hk
  have ea : joinN nr a b a = nr a ||| 2 ^ b := by
    unfold joinN setAt
    rw [if_neg hab, if_pos rfl]
  have eb : joinN nr a b b = nr b ||| 2 ^ a := by
    unfold joinN setAt
    rw [if_pos rfl, if_neg (Ne.symm hab)]
  by_cases ka : k = a
  · subst ka
    rw [ea]
    refine ⟨or_lt32 h1 (pow_lt32 hb), fun j hj => ?_⟩
    rw [bit_or, adjL_snoc, h2 j hj]
    have : (b == k) = false := by simp; exact fun e => hab e.symm
    simp [this]
  · by_cases kb : k = b
    · subst kb
      rw [eb]
      refine ⟨or_lt32 h1 (pow_lt32 ha), fun j hj => ?_⟩
      rw [bit_or, adjL_snoc, h2 j hj]
      have : (a == k) = false := by simp; exact hab
      simp [this]
    · have e : joinN nr a b k = nr k := by
        unfold joinN setAt
        rw [if_neg kb, if_neg ka]
      rw [e]
      refine ⟨h1, fun j hj => ?_⟩
      rw [adjL_snoc, h2 j hj]
      have t1 : (a == k) = false := by simp; exact fun e => ka e.symm
      have t2 : (b == k) = false := by simp; exact fun e => kb e.symm
      simp [t1, t2]

/-- Where Of stands: its result's cells in block A, its graph in block A + 1. -/
structure OfAt (A : Nat) (w wr : World) (nr : Nat → Nat) : Prop where
  below : Below A w wr
  res : wr.there A 0 24
  g : NAt wr (A + 1) nr

def OfIs (w : World) (n : Int) (l : List (Int × Int)) (e : Ending) (w' : World) : Prop :=
  Below w.heap.size w w' ∧ ((okG n l = true ∧ ∃ nr, NrOk (natL l) nr ∧ e = .returned (.tuple #[.agg (nearCells nr).toArray, .bool true])) ∨
    (okG n l = false ∧ e = .returned (.tuple #[.agg (nearCells fun _ => 0).toArray, .bool false])))

set_option maxRecDepth 100000 in
theorem build_gr0 (w : World) : (Instr.build 65 #[]).run Tryz.prog w = .ok (.agg (nearCells fun _ => 0).toArray) w := by kernel_rfl
theorem alloc_gr0 (w : World) : (Instr.alloc 65 true (.tuple #[])).run Tryz.prog w = .ok (.pointer (some ⟨w.heap.size, 0, none⟩)) (w.alloc (.cells (nearCells fun _ => 0).toArray 65)) := by kernel_rfl

theorem near_size (nr : Nat → Nat) : (nearCells nr).toArray.size = 24 := by simp [nearCells_len]
theorem near_one (nr : Nat → Nat) : (nearCells nr).toArray.all (·.oneCell') = true := all_oneCell_toArray (by
  intro v hv
  unfold nearCells at hv
  obtain ⟨_, _, rfl⟩ := List.mem_map.1 hv
  rfl)
theorem near_at (nr : Nat → Nat) {k : Nat} (hk : k < 24) : (nearCells nr)[k]? = some (.int .u32 (nr k : Int)) := by simp [nearCells, hk]

theorem near_there (w : World) (nr : Nat → Nat) (t : TypeId) : (w.alloc (.cells (nearCells nr).toArray t)).there w.heap.size 0 24 := by
  intro j hj
  rw [Nat.zero_add]
  refine ⟨?_, by simp⟩
  rw [World.cell?_alloc_new]
  simp [nearCells_len, hj]

theorem OfAt.start (w : World) (t : TypeId) : OfAt w.heap.size w ((w.alloc (.cells (nearCells fun _ => 0).toArray t)).alloc (.cells (nearCells fun _ => 0).toArray t)) fun _ => 0 := by
  have h1 : (w.alloc (.cells (nearCells fun _ => 0).toArray t)).heap.size = w.heap.size + 1 := by simp
  refine ⟨((Below.refl _ w).alloc (Nat.le_refl _) _).alloc (by omega) _, World.there_alloc (near_there _ _ _) _, ⟨fun k hk => ?_, fun i => ?_⟩⟩
  · rw [← h1, World.cell?_alloc_new]
    have := near_at (fun _ => 0) hk
    simpa using this
  · rw [← h1]
    simp

theorem NAt.range {w : World} {G : Nat} {nr : Nat → Nat} (h : NAt w G nr) : w.rangeAt G 0 (nearCells nr) := by
  intro j v hj
  have hl := (List.getElem?_eq_some_iff.1 hj).1
  rw [nearCells_len] at hl
  rw [near_at nr hl] at hj
  cases hj
  rw [Nat.zero_add]
  exact h.near j hl

/-- What is handed back lies in block A. -/
theorem of_stored {wx : World} {A : Nat} (nr : Nat → Nat) (ht : wx.there A 0 24) : (loadVar 65 ⟨A, 0, none⟩).run Tryz.prog (wx.setCells A 0 (nearCells nr)) = .ok (.agg (nearCells nr).toArray) (wx.setCells A 0 (nearCells nr)) :=
  run_loadVar_mid _ A 0 _ (nearCells nr) _ (World.rangeAt_setCells_same wx A 0 (nearCells nr) (by rw [nearCells_len]; exact ht)) Tryz.underlying65 rfl (by rw [nearCells_len]; exact Tryz.sizeGraph)

theorem OfAt.same {A : Nat} {w wr w' : World} {nr nr' : Nat → Nat} (h : OfAt A w wr nr) (hA : A = w.heap.size) (hf : MFr (A + 1) wr w') (hg : NAt w' (A + 1) nr') : OfAt A w w' nr' := by
  have h1 := h.g.lt
  have hb : w'.heap[A]? = wr.heap[A]? := hf.block A (by omega) (by omega)
  exact ⟨h.below.trans (hf.toBelow (by omega) (by omega)), fun j hj => ⟨by rw [World.cell?_of_block (a := ⟨A, 0 + j, none⟩) hb]; exact (h.res j hj).1, (World.frozen?_of_block (a := ⟨A, 0 + j, none⟩) hb).trans (h.res j hj).2⟩, hg⟩

theorem OfAt.on {A : Nat} {w wr w' : World} {nr : Nat → Nat} (h : OfAt A w wr nr) (hA : A = w.heap.size) (hb : Below wr.heap.size wr w') : OfAt A w w' nr := h.same hA (MFr.of_below hb) (h.g.same (hb.block _ h.g.lt))

theorem OfAt.no {w wr : World} {nr : Nat → Nat} {n : Int} {l : List (Int × Int)} (h : OfAt w.heap.size w wr nr) (hok : okG n l = false) : OfIs w n l (.returned (.tuple #[.agg (nearCells fun _ => 0).toArray, .bool false])) (wr.setCells w.heap.size 0 (nearCells fun _ => 0)) :=
  ⟨below_cells (Nat.le_refl _) _ _ _ h.below, .inr ⟨hok, rfl⟩⟩

theorem OfAt.yes {w wr : World} {nr : Nat → Nat} {n : Int} {l : List (Int × Int)} (h : OfAt w.heap.size w wr nr) (hok : okG n l = true) (hnr : NrOk (natL l) nr) : OfIs w n l (.returned (.tuple #[.agg (nearCells nr).toArray, .bool true])) (wr.setCells w.heap.size 0 (nearCells nr)) :=
  ⟨below_cells (Nat.le_refl _) _ _ _ h.below, .inl ⟨hok, nr, hnr, rfl⟩⟩

theorem okG_bad {n : Int} {l : List (Int × Int)} {i : Nat} {p : Int × Int} (hi : l[i]? = some p) (h : edgeOk n p = false) : okG n l = false := by
  have : l.all (edgeOk n) = false := by
    cases hc : l.all (edgeOk n)
    · rfl
    · have := List.all_eq_true.1 hc p (List.mem_of_getElem? hi)
      rw [h] at this
      cases this
  unfold okG
  rw [this]
  simp

theorem edgeOk_1 {n x y : Int} (h : inR n x = false) : edgeOk n (x, y) = false := by unfold edgeOk; simp [h]
theorem edgeOk_2 {n x y : Int} (h : inR n y = false) : edgeOk n (x, y) = false := by unfold edgeOk; simp [h]
theorem edgeOk_3 {n x y : Int} (h : (x == y) = true) : edgeOk n (x, y) = false := by unfold edgeOk; simp [h]
theorem edgeOk_yes {n x y : Int} (h1 : inR n x = true) (h2 : inR n y = true) (h3 : (x == y) = false) : edgeOk n (x, y) = true := by unfold edgeOk; simp [h1, h2, h3]

theorem inR_iff {n x : Int} : inR n x = true ↔ 0 ≤ x ∧ x < n := by unfold inR; simp

set_option maxRecDepth 100000 in
set_option maxHeartbeats 1000000 in
theorem of_any (w : World) {v : Value} {l : List (Int × Int)} (h : IPr w v l) (n : Int) (hl : l.length ≤ 1000000000000000) :
    Calls Tryz.prog 75 #[.int .i64 n, v] w fun e w' => OfIs w n l e w' := by
  have HR : Hid (IPr w v l) := h
  obtain ⟨so, cap, hv, hcc⟩ := h
  subst hv
  clear hcc
  go_enter Tryz.func75, Tryz.ntmps75
  go_upto_region 2 with (refine wpList_alloc rfl 65 rfl _ _ (alloc_gr0 _) ?_; simp only [Act.put, List.setIfInBounds_toArray, List.set_cons_zero, List.set_cons_succ])
  have e1 : (w.alloc (.cells (nearCells fun _ => 0).toArray 65)).heap.size = w.heap.size + 1 := by simp
  rw [e1]
  clear e1
  have HST : Hid (OfAt w.heap.size w ((w.alloc (.cells (nearCells fun _ => 0).toArray 65)).alloc (.cells (nearCells fun _ => 0).toArray 65)) fun _ => 0) := OfAt.start w _
  generalize (w.alloc (.cells (nearCells fun _ => 0).toArray 65)).alloc (.cells (nearCells fun _ => 0).toArray 65) = wm at HST ⊢
  by_cases hn0 : n < 0
  · have HE : Hid (OfIs w n l (.returned (.tuple #[.agg (nearCells fun _ => 0).toArray, .bool false])) (wm.setCells w.heap.size 0 (nearCells fun _ => 0))) := HST.out.no (show okG n l = false by unfold okG; rw [decide_eq_false (by omega)]; rfl)
    have HLD : Hid _ := of_stored (fun _ => 0) HST.out.res
    go_wp2_with (first | (refine wpList_build rfl 65 #[] rfl #[] (by simp) (.agg (nearCells fun _ => 0).toArray) (build_gr0 _) ?_; simp only [Act.put, List.setIfInBounds_toArray, List.set_cons_zero, List.set_cons_succ]) | (refine wpList_store_mid rfl 65 (.tmp 4) (.tmp 15) rfl w.heap.size 0 (nearCells fun _ => 0).toArray (by simp [Act.eval]) (by rfl) (by rw [near_size]; exact HST.out.res) (by rw [near_size]; exact Tryz.sizeGraph) (near_one _) ?_; simp only [Act.put]))
    refine bodyPost_ret (v := .tuple #[.agg (nearCells fun _ => 0).toArray, .bool false]) ?_ rfl HE.out
    have HLD := HLD.out
    simp [results, Tryz.results75, asAddr, HLD]
  · by_cases hn24 : n > 24
    · have HE : Hid (OfIs w n l (.returned (.tuple #[.agg (nearCells fun _ => 0).toArray, .bool false])) (wm.setCells w.heap.size 0 (nearCells fun _ => 0))) := HST.out.no (show okG n l = false by unfold okG; rw [decide_eq_false (p := n ≤ 24) (by omega)]; simp)
      have HLD : Hid _ := of_stored (fun _ => 0) HST.out.res
      go_wp2_with (first | (refine wpList_build rfl 65 #[] rfl #[] (by simp) (.agg (nearCells fun _ => 0).toArray) (build_gr0 _) ?_; simp only [Act.put, List.setIfInBounds_toArray, List.set_cons_zero, List.set_cons_succ]) | (refine wpList_store_mid rfl 65 (.tmp 4) (.tmp 15) rfl w.heap.size 0 (nearCells fun _ => 0).toArray (by simp [Act.eval]) (by rfl) (by rw [near_size]; exact HST.out.res) (by rw [near_size]; exact Tryz.sizeGraph) (near_one _) ?_; simp only [Act.put]))
      refine bodyPost_ret (v := .tuple #[.agg (nearCells fun _ => 0).toArray, .bool false]) ?_ rfl HE.out
      have HLD := HLD.out
      simp [results, Tryz.results75, asAddr, HLD]
    · go_wp2_with fail
      go_loopg [18] (l.length + 1) (fun k v18 wr => ∃ (i : Nat) (nr : Nat → Nat), i ≤ l.length ∧ l.length - i < k ∧ v18 = .int .i64 (i : Nat) ∧ (l.take i).all (edgeOk n) = true ∧ NrOk (natL (l.take i)) nr ∧ OfAt w.heap.size w wr nr)
      case atStart => exact ⟨0, fun _ => 0, by omega, by omega, rfl, rfl, NrOk.nil, HST.out⟩
      case round =>
        clear HST
        obtain ⟨i, nr, hi, hk, rfl, hall, hnr, hat⟩ := hrel
        have HAL : Hid ((l.take i).all (edgeOk n) = true) := hall
        have HNR : Hid (NrOk (natL (l.take i)) nr) := hnr
        have HAT : Hid (OfAt w.heap.size w wr nr) := hat
        clear hall hnr hat
        by_cases hlt : i < l.length
        · have hlt' : (i : Int) < (l.length : Int) := by omega
          obtain ⟨x, y, gi⟩ : ∃ x y, l[i]? = some (x, y) := ⟨_, _, List.getElem?_eq_getElem hlt⟩
          obtain ⟨so', cap', es, hx⟩ := HR.out.below HAT.out.below
          simp only [Value.slice.injEq, true_and] at es
          obtain ⟨rfl, rfl⟩ := es
          obtain ⟨bb, oo, rfl, c0, c1⟩ := hx i x y gi
          have HGI : Hid (l[i]? = some (x, y)) := gi
          clear gi hx
          have HA2 : Hid (OfAt w.heap.size w (wr.alloc (.cells #[.int .i64 x, .int .i64 y] 48)) nr) := HAT.out.on rfl ((Below.refl _ _).alloc (Nat.le_refl _) _)
          have B1 := gbelow_any (wr.alloc (.cells #[.int .i64 x, .int .i64 y] 48)) n x
          have B2 := gbelow_any (wr.alloc (.cells #[.int .i64 x, .int .i64 y] 48)) n y
          have q0 : (wr.alloc (.cells #[.int .i64 x, .int .i64 y] 48)).cell? ⟨wr.heap.size, 0, none⟩ = some (.int .i64 x) := by rw [World.cell?_alloc_new]; rfl
          have q1 : (wr.alloc (.cells #[.int .i64 x, .int .i64 y] 48)).cell? ⟨wr.heap.size, 1, none⟩ = some (.int .i64 y) := by rw [World.cell?_alloc_new]; rfl
          go_wp2_with fail
          generalize wr.alloc (.cells #[.int .i64 x, .int .i64 y] 48) = wq at *
          clear c0 c1
          cases hx1 : inR n x
          · rw [hx1] at B1
            refine B1.mono ?_
            rintro e w2 ⟨rfl, rfl⟩
            have HE : Hid (OfIs w n l (.returned (.tuple #[.agg (nearCells fun _ => 0).toArray, .bool false])) (w2.setCells w.heap.size 0 (nearCells fun _ => 0))) := HA2.out.no (okG_bad HGI.out (edgeOk_1 hx1))
            have HLD : Hid _ := of_stored (fun _ => 0) HA2.out.res
            go_wp2_with (first | (refine wpList_build rfl 65 #[] rfl #[] (by simp) (.agg (nearCells fun _ => 0).toArray) (build_gr0 _) ?_; simp only [Act.put, List.setIfInBounds_toArray, List.set_cons_zero, List.set_cons_succ]) | (refine wpList_store_mid rfl 65 (.tmp 4) (.tmp 41) rfl w.heap.size 0 (nearCells fun _ => 0).toArray (by simp [Act.eval]) (by rfl) (by rw [near_size]; exact HA2.out.res) (by rw [near_size]; exact Tryz.sizeGraph) (near_one _) ?_; simp only [Act.put]))
            refine bodyPost_ret (v := .tuple #[.agg (nearCells fun _ => 0).toArray, .bool false]) ?_ rfl HE.out
            have HLD := HLD.out
            simp [results, Tryz.results75, asAddr, HLD]
          · rw [hx1] at B1
            refine B1.mono ?_
            rintro e w2 ⟨rfl, rfl⟩
            cases hy1 : inR n y
            · rw [hy1] at B2
              go_wp2_with fail
              refine B2.mono ?_
              rintro e w3 ⟨rfl, rfl⟩
              have HE : Hid (OfIs w n l (.returned (.tuple #[.agg (nearCells fun _ => 0).toArray, .bool false])) (w3.setCells w.heap.size 0 (nearCells fun _ => 0))) := HA2.out.no (okG_bad HGI.out (edgeOk_2 hy1))
              have HLD : Hid _ := of_stored (fun _ => 0) HA2.out.res
              go_wp2_with (first | (refine wpList_build rfl 65 #[] rfl #[] (by simp) (.agg (nearCells fun _ => 0).toArray) (build_gr0 _) ?_; simp only [Act.put, List.setIfInBounds_toArray, List.set_cons_zero, List.set_cons_succ]) | (refine wpList_store_mid rfl 65 (.tmp 4) (.tmp 41) rfl w.heap.size 0 (nearCells fun _ => 0).toArray (by simp [Act.eval]) (by rfl) (by rw [near_size]; exact HA2.out.res) (by rw [near_size]; exact Tryz.sizeGraph) (near_one _) ?_; simp only [Act.put]))
              refine bodyPost_ret (v := .tuple #[.agg (nearCells fun _ => 0).toArray, .bool false]) ?_ rfl HE.out
              have HLD := HLD.out
              simp [results, Tryz.results75, asAddr, HLD]
            · rw [hy1] at B2
              cases hxy : (x == y)
              · have HXY : Hid ((x == y) = false) := hxy
                have HX1 : Hid (inR n x = true ∧ inR n y = true) := ⟨hx1, hy1⟩
                obtain ⟨a, rfl⟩ := Int.eq_ofNat_of_zero_le (inR_iff.1 hx1).1
                obtain ⟨b, rfl⟩ := Int.eq_ofNat_of_zero_le (inR_iff.1 hy1).1
                have ha : a < 24 := by have := (inR_iff.1 hx1).2; omega
                have hb : b < 24 := by have := (inR_iff.1 hy1).2; omega
                have hab : a ≠ b := by rintro rfl; simp at hxy
                have JN := join_any HA2.out.g (fun k hk => (HNR.out k hk).1) ha hb
                clear hx1 hy1 hn0 hn24
                go_wp2_with fail
                refine B2.mono ?_
                rintro e w3 ⟨rfl, rfl⟩
                clear B1 B2
                go_wp2_with fail
                refine JN.mono ?_
                rintro e w4 ⟨rfl, hA4, hf4⟩
                have et : l.take (i + 1) = l.take i ++ [((a : Int), (b : Int))] := take_snoc HGI.out
                have HN : Hid ((l.take (i + 1)).all (edgeOk n) = true ∧ NrOk (natL (l.take (i + 1))) (joinN nr a b) ∧ OfAt w.heap.size w w4 (joinN nr a b)) := by
                  refine ⟨?_, ?_, HA2.out.same rfl hf4 hA4⟩
                  · rw [et, List.all_append, HAL.out]
                    simp [edgeOk_yes HX1.out.1 HX1.out.2 HXY.out]
                  · rw [et]
                    have := HNR.out.join ha hb hab
                    simpa [natL] using this
                clear et JN hA4 hf4 hxy
                go_wp2_with fail
                go_roundg (l.length - i)
                case measure => omega
                case rel => exact ⟨i + 1, joinN nr a b, by omega, by omega, by go_num, HN.out.1, HN.out.2.1, HN.out.2.2⟩
              · go_wp2_with fail
                refine B2.mono ?_
                rintro e w3 ⟨rfl, rfl⟩
                have HE : Hid (OfIs w n l (.returned (.tuple #[.agg (nearCells fun _ => 0).toArray, .bool false])) (w3.setCells w.heap.size 0 (nearCells fun _ => 0))) := HA2.out.no (okG_bad HGI.out (edgeOk_3 hxy))
                have HLD : Hid _ := of_stored (fun _ => 0) HA2.out.res
                go_wp2_with (first | (refine wpList_build rfl 65 #[] rfl #[] (by simp) (.agg (nearCells fun _ => 0).toArray) (build_gr0 _) ?_; simp only [Act.put, List.setIfInBounds_toArray, List.set_cons_zero, List.set_cons_succ]) | (refine wpList_store_mid rfl 65 (.tmp 4) (.tmp 41) rfl w.heap.size 0 (nearCells fun _ => 0).toArray (by simp [Act.eval]) (by rfl) (by rw [near_size]; exact HA2.out.res) (by rw [near_size]; exact Tryz.sizeGraph) (near_one _) ?_; simp only [Act.put]))
                refine bodyPost_ret (v := .tuple #[.agg (nearCells fun _ => 0).toArray, .bool false]) ?_ rfl HE.out
                have HLD := HLD.out
                simp [results, Tryz.results75, asAddr, HLD]
        · have hlt' : ¬ (i : Int) < (l.length : Int) := by omega
          have et : l.take i = l := List.take_of_length_le (by omega)
          have HE : Hid (OfIs w n l (.returned (.tuple #[.agg (nearCells nr).toArray, .bool true])) (wr.setCells w.heap.size 0 (nearCells nr))) := HAT.out.yes (n := n) (l := l) (by have := HAL.out; rw [et] at this; unfold okG; rw [this, decide_eq_true (by omega), decide_eq_true (by omega)]; rfl) (by have := HNR.out; rw [et] at this; exact this)
          have HLD : Hid _ := of_stored nr HAT.out.res
          have HRG : Hid (wr.rangeAt (w.heap.size + 1) 0 (nearCells nr)) := HAT.out.g.range
          clear et
          go_wp2_with (first | (refine wpList_load_mid rfl 65 (.tmp 6) rfl (w.heap.size + 1) 0 (by simp [Act.eval]) (nearCells nr) _ HRG.out Tryz.underlying65 rfl (by rw [Tryz.sizeGraph, nearCells_len]) ?_; simp only [Act.put, List.setIfInBounds_toArray, List.set_cons_zero, List.set_cons_succ]) | (refine wpList_store_mid rfl 65 (.tmp 4) (.tmp 48) rfl w.heap.size 0 (nearCells nr).toArray (by simp [Act.eval]) (by rfl) (by rw [near_size]; exact HAT.out.res) (by rw [near_size]; exact Tryz.sizeGraph) (near_one _) ?_; simp only [Act.put]))
          refine bodyPost_ret (v := .tuple #[.agg (nearCells nr).toArray, .bool true]) ?_ rfl HE.out
          have HLD := HLD.out
          simp [results, Tryz.results75, asAddr, HLD]
end Go.Proofs.YtcabaecbmkgclaaGreatDoor.Mg

namespace Go.Proofs.YtcabaecbmkgclaaGreatDoor.Mg
open Go.RowKit Mt

/-- What Match hands back. -/
def MtIs (w : World) (n : Int) (l : List (Int × Int)) (e : Ending) (w' : World) : Prop :=
  Below w.heap.size w w' ∧ ((okG n l = true ∧ ∃ mate f h, Best (grL n.toNat (natL l)) mate f h ∧ ∃ pv uv, e = .returned (.tuple #[pv, uv, .int .i64 0]) ∧ Prs w' w.heap.size pv (pairsF n.toNat mate) ∧ Ints w' w.heap.size uv (barF n.toNat f)) ∨
    (okG n l = false ∧ e = .returned (.tuple #[.slice none 0 0, .slice none 0 0, .int .i64 7])))

theorem okG_ed {n : Int} {l : List (Int × Int)} (h : okG n l = true) : n.toNat ≤ 24 ∧ (n.toNat : Int) = n ∧ EdOk n.toNat (natL l) := by
  unfold okG at h
  simp only [Bool.and_eq_true, decide_eq_true_eq] at h
  obtain ⟨⟨h1, h2⟩, h3⟩ := h
  refine ⟨by omega, by omega, fun p hp => ?_⟩
  obtain ⟨q, hq, rfl⟩ := List.mem_map.1 hp
  have := List.all_eq_true.1 h3 q hq
  unfold edgeOk at this
  simp only [Bool.and_eq_true, inR_iff, Bool.not_eq_true', beq_eq_false_iff_ne] at this
  obtain ⟨⟨⟨k1, k2⟩, k3, k4⟩, k5⟩ := this
  refine ⟨by simp only; omega, by simp only; omega, ?_⟩
  simp only
  omega

theorem gr_there (w : World) (nr : Nat → Nat) (t : TypeId) : ((w.alloc (.cells (nearCells fun _ => 0).toArray t)).setCells w.heap.size 0 (nearCells nr)).rangeAt w.heap.size 0 (nearCells nr) :=
  World.rangeAt_setCells_same _ _ _ _ (by rw [nearCells_len]; exact near_there _ _ _)

theorem gr0_obj : Obj.cells (nearCells fun _ => 0).toArray 65 = Obj.cells #[.int .u32 0, .int .u32 0, .int .u32 0, .int .u32 0, .int .u32 0, .int .u32 0, .int .u32 0, .int .u32 0, .int .u32 0, .int .u32 0, .int .u32 0, .int .u32 0, .int .u32 0, .int .u32 0, .int .u32 0, .int .u32 0, .int .u32 0, .int .u32 0, .int .u32 0, .int .u32 0, .int .u32 0, .int .u32 0, .int .u32 0, .int .u32 0] 65 := rfl

set_option maxRecDepth 100000 in
set_option maxHeartbeats 1000000 in
theorem match_any (w : World) {v : Value} {l : List (Int × Int)} (h : IPr w v l) (n : Int) (hl : l.length ≤ 1000000000000000) :
    Calls Tryz.prog 46 #[.int .i64 n, v] w fun e w' => MtIs w n l e w' := by
  have OF := of_any w h n hl
  obtain ⟨so, cap, hv, hcc⟩ := h
  subst hv
  clear hcc
  go_enter Tryz.func46, Tryz.ntmps46
  go_wp2_with fail
  refine OF.mono ?_
  rintro e w1 ⟨hb1, hcase⟩
  clear OF
  have HB1 : Hid (Below w.heap.size w w1) := hb1
  clear hb1
  rcases hcase with ⟨hok, nr, hnr, rfl⟩ | ⟨hok, rfl⟩
  · obtain ⟨hn24, hnn, hed⟩ := okG_ed hok
    have HTH : Hid ((w1.alloc (.cells (nearCells fun _ => 0).toArray 65)).there w1.heap.size 0 24) := near_there _ _ _
    have HRG : Hid (((w1.alloc (.cells (nearCells fun _ => 0).toArray 65)).setCells w1.heap.size 0 (nearCells nr)).rangeAt w1.heap.size 0 (nearCells nr)) := gr_there _ _ _
    have HB2 : Hid (Below w.heap.size w ((w1.alloc (.cells (nearCells fun _ => 0).toArray 65)).setCells w1.heap.size 0 (nearCells nr))) := below_cells HB1.out.size _ _ _ (HB1.out.alloc HB1.out.size _)
    have HOK : Hid (okG n l = true) := hok
    have GM := greatest_any ((w1.alloc (.cells (nearCells fun _ => 0).toArray 65)).setCells w1.heap.size 0 (nearCells nr)) (nr := nr) (g := grL n.toNat (natL l)) hnr (hed.gr hn24)
    rw [show (((grL n.toNat (natL l)).n : Nat) : Int) = n from hnn] at GM
    clear hok hnr hed hn24 hnn
    go_upto_region 2 with (first | (refine wpList_alloc rfl 65 rfl _ _ (alloc_gr0 _) ?_; simp only [Act.put, List.setIfInBounds_toArray, List.set_cons_zero, List.set_cons_succ]) | (refine wpList_store_mid rfl 65 (.tmp 7) (.tmp 15) rfl w1.heap.size 0 (nearCells nr).toArray (by simp [Act.eval]) (by simp [Act.eval]) (by rw [near_size]; with_reducible exact HTH.out) (by rw [near_size]; exact Tryz.sizeGraph) (near_one _) ?_; simp only [Act.put]))
    generalize World.setCells _ _ _ _ = w2 at HRG HB2 GM ⊢
    generalize w1.heap.size = L at HRG ⊢
    clear HTH
    go_wp2_with (refine wpList_load_mid rfl 65 (.tmp 7) rfl L 0 (by simp [Act.eval]) (nearCells nr) _ HRG.out Tryz.underlying65 rfl (by rw [Tryz.sizeGraph, nearCells_len]) ?_; simp only [Act.put, List.setIfInBounds_toArray, List.set_cons_zero, List.set_cons_succ])
    refine GM.mono ?_
    rintro e w3 ⟨mate, f, h, hbest, pv, uv, rfl, hP, hU, hb3⟩
    have HE : Hid (MtIs w n l (.returned (.tuple #[pv, uv, .int .i64 0])) w3) := ⟨HB2.out.trans (hb3.mono HB2.out.size), .inl ⟨HOK.out, mate, f, h, hbest, pv, uv, rfl, ownsRow_mono hP HB2.out.size, ownsRow_mono hU HB2.out.size⟩⟩
    clear GM hbest hP hU hb3
    go_wp2_with fail
    refine bodyPost_ret (v := .tuple #[pv, uv, .int .i64 0]) ?_ rfl HE.out
    simp [results, Tryz.results46]
  · have HTH : Hid ((w1.alloc (.cells (nearCells fun _ => 0).toArray 65)).there w1.heap.size 0 24) := near_there _ _ _
    have HE : Hid (MtIs w n l (.returned (.tuple #[.slice none 0 0, .slice none 0 0, .int .i64 7])) ((w1.alloc (.cells (nearCells fun _ => 0).toArray 65)).setCells w1.heap.size 0 (nearCells fun _ => 0))) := ⟨below_cells HB1.out.size _ _ _ (HB1.out.alloc HB1.out.size _), .inr ⟨hok, rfl⟩⟩
    clear hok
    go_upto_region 2 with (first | (refine wpList_alloc rfl 65 rfl _ _ (alloc_gr0 _) ?_; simp only [Act.put, List.setIfInBounds_toArray, List.set_cons_zero, List.set_cons_succ]) | (refine wpList_store_mid rfl 65 (.tmp 7) (.tmp 15) rfl w1.heap.size 0 (nearCells fun _ => 0).toArray (by simp [Act.eval]) (by simp [Act.eval]) (by rw [near_size]; with_reducible exact HTH.out) (by rw [near_size]; exact Tryz.sizeGraph) (near_one _) ?_; simp only [Act.put]))
    generalize World.setCells _ _ _ _ = w2 at HE ⊢
    clear HTH
    go_wp2_with fail
    refine bodyPost_ret (v := .tuple #[.slice none 0 0, .slice none 0 0, .int .i64 7]) ?_ rfl HE.out
    simp [results, Tryz.results46]
end Go.Proofs.YtcabaecbmkgclaaGreatDoor.Mg

namespace Go.Proofs.YtcabaecbmkgclaaGreatDoor.Kd
open Go.RowKit Bz Mt Mg

/-- Is it a candidate? -/
def cand (q : St) (i : Nat) : Bool := match q.atoms[i]? with
  | some a => a.aro && (match valences a.el a.ch with
    | x :: _ => fill q i a == x - 1
    | [] => false)
  | none => false

section
variable {w : World} {B base : Nat} {s : ByteArray} {p : St}

theorem candidate_any (h : Kd w B base p) (o : Ok s p) (hs : s.size ≤ 160) (i : Nat) (hi : i < p.atoms.length) :
    Calls Tryz.prog 32 #[.pointer (some ⟨B, 0, none⟩), .int .i64 (i : Int)] w fun e w' => e = .returned (.bool (cand p i)) ∧ Below w.heap.size w w' := by
  have gi := List.getElem?_eq_getElem hi
  generalize p.atoms[i] = a at gi
  cases ha : a.aro with
  | false =>
    have : cand p i = false := by unfold cand; rw [gi]; simp [ha]
    rw [this]
    exact candidate_no h i a gi ha
  | true =>
    cases hx : valences a.el a.ch with
    | nil => exact absurd hx (o.aros a (List.mem_of_getElem? gi) ha)
    | cons x r =>
      have : cand p i = (fill p i a == x - 1) := by unfold cand; rw [gi]; simp [ha, hx]
      rw [this]
      exact candidate_yes h o hs i a gi ha x r hx

def isEdge (p : St) (b : Bnd) : Bool := b.o == 4 && (cand p b.a && cand p b.b)
/-- The aromatic bonds between candidates. -/
def candEdges (p : St) (l : List Bnd) : List (Nat × Nat) := (l.filter (isEdge p)).map fun b => (b.a, b.b)

theorem candEdges_yes {l : List Bnd} {i : Nat} {b : Bnd} (hi : l[i]? = some b) (h : isEdge p b = true) : candEdges p (l.take (i + 1)) = candEdges p (l.take i) ++ [(b.a, b.b)] := by
  rw [take_snoc hi]
  unfold candEdges
  rw [List.filter_append, List.map_append]
  simp [h]
theorem candEdges_no {l : List Bnd} {i : Nat} {b : Bnd} (hi : l[i]? = some b) (h : isEdge p b = false) : candEdges p (l.take (i + 1)) = candEdges p (l.take i) := by
  rw [take_snoc hi]
  unfold candEdges
  rw [List.filter_append, List.map_append]
  simp [h]

/-- What Candidates hands back. -/
def CdIs (w : World) (p : St) (e : Ending) (w' : World) : Prop :=
  ∃ nr, NrOk (candEdges p p.bonds) nr ∧ e = .returned (.tuple #[.agg (nearCells nr).toArray, .int .i64 (cnt p.atoms.length (cand p) : Nat)]) ∧ Below w.heap.size w w'

set_option maxRecDepth 100000 in
set_option maxHeartbeats 4000000 in
theorem candidates_any (h : Kd w B base p) (o : Ok s p) (hs : s.size ≤ 160) (en : En p.atoms.length p.bonds s.size) :
    Calls Tryz.prog 23 #[.pointer (some ⟨B, 0, none⟩)] w fun e w' => CdIs w p e w' := by
  have HK : Hid (Kd w B base p) := h
  have HO : Hid (Ok s p) := o
  have HEN : Hid (En p.atoms.length p.bonds s.size) := en
  have hbl : p.bonds.length ≤ 160 := by have := o.bonds; have := o.pos; omega
  have hal := o.atoms
  have hBl := h.lt
  clear h o en
  go_enter Tryz.func23, Tryz.ntmps23
  go_upto_region 2 with (refine wpList_alloc rfl 65 rfl _ _ (alloc_gr0 _) ?_; simp only [Act.put, List.setIfInBounds_toArray, List.set_cons_zero, List.set_cons_succ])
  have e1 : (w.alloc (.cells (nearCells fun _ => 0).toArray 65)).heap.size = w.heap.size + 1 := by simp
  rw [e1]
  clear e1
  have HST : Hid (OfAt w.heap.size w ((w.alloc (.cells (nearCells fun _ => 0).toArray 65)).alloc (.cells (nearCells fun _ => 0).toArray 65)) fun _ => 0) := OfAt.start w _
  generalize (w.alloc (.cells (nearCells fun _ => 0).toArray 65)).alloc (.cells (nearCells fun _ => 0).toArray 65) = wm at HST ⊢
  obtain ⟨bv, hbv0, hbo⟩ := HK.out.bonds
  obtain ⟨bso, bcap, hbs⟩ := ownsRow_shape hbo
  subst hbs
  have HBV : Hid (w.cell? ⟨B, 25, none⟩ = some (.slice bso p.bonds.length bcap)) := hbv0
  have hbv := (HST.out.below.cell (p := ⟨B, 25, none⟩) hBl).trans hbv0
  clear hbo hbv0
  go_wp2_with fail
  go_loopg [14] (p.bonds.length + 1) (fun k v14 wr => ∃ (i : Nat) (nr : Nat → Nat), i ≤ p.bonds.length ∧ p.bonds.length - i < k ∧ v14 = .int .i64 (i : Nat) ∧ NrOk (candEdges p (p.bonds.take i)) nr ∧ OfAt w.heap.size w wr nr)
  case atStart => exact ⟨0, fun _ => 0, by omega, by omega, rfl, NrOk.nil, HST.out⟩
  case round =>
    clear hbv HST
    obtain ⟨i, nr, hi, hk, rfl, hnr, hat⟩ := hrel
    have HNR : Hid (NrOk (candEdges p (p.bonds.take i)) nr) := hnr
    have HAT : Hid (OfAt w.heap.size w wr nr) := hat
    clear hnr hat
    by_cases hlt : i < p.bonds.length
    · have hlt' : (i : Int) < (p.bonds.length : Int) := by omega
      have gi := List.getElem?_eq_getElem hlt
      obtain ⟨g, cap, hv, hc, _, _, hgl⟩ := HK.out.bondsAt (by omega)
      have es := hv.symm.trans HBV.out
      simp only [Option.some.injEq, Value.slice.injEq, true_and] at es
      obtain ⟨rfl, rfl⟩ := es
      have c0 := (HAT.out.below.cell (p := ⟨g, i * 4, none⟩) hgl).trans (hc i _ 0 _ gi rfl)
      have c1 := (HAT.out.below.cell (p := ⟨g, i * 4 + 1, none⟩) hgl).trans (hc i _ 1 _ gi rfl)
      have c2 := (HAT.out.below.cell (p := ⟨g, i * 4 + 2, none⟩) hgl).trans (hc i _ 2 _ gi rfl)
      have c3 := (HAT.out.below.cell (p := ⟨g, i * 4 + 3, none⟩) hgl).trans (hc i _ 3 _ gi rfl)
      have hends := HEN.out.ends _ (List.mem_of_getElem? gi)
      generalize p.bonds[i] = b at *
      obtain ⟨ba, bb, bo, bpl⟩ := b
      simp only at c0 c1 c2 c3 hends
      obtain ⟨hab, hbn⟩ := hends
      have HGI : Hid (p.bonds[i]? = some ⟨ba, bb, bo, bpl⟩) := gi
      clear gi hc hv
      have HA2 : Hid (OfAt w.heap.size w (wr.alloc (.cells #[.int .i64 (ba : Int), .int .i64 (bb : Int), .int .i64 bo, .int .i64 (bpl : Int)] 102)) nr) := HAT.out.on rfl ((Below.refl _ _).alloc (Nat.le_refl _) _)
      have q0 : (wr.alloc (.cells #[.int .i64 (ba : Int), .int .i64 (bb : Int), .int .i64 bo, .int .i64 (bpl : Int)] 102)).cell? ⟨wr.heap.size, 0, none⟩ = some (.int .i64 (ba : Int)) := by rw [World.cell?_alloc_new]; rfl
      have q1 : (wr.alloc (.cells #[.int .i64 (ba : Int), .int .i64 (bb : Int), .int .i64 bo, .int .i64 (bpl : Int)] 102)).cell? ⟨wr.heap.size, 1, none⟩ = some (.int .i64 (bb : Int)) := by rw [World.cell?_alloc_new]; rfl
      have q2 : (wr.alloc (.cells #[.int .i64 (ba : Int), .int .i64 (bb : Int), .int .i64 bo, .int .i64 (bpl : Int)] 102)).cell? ⟨wr.heap.size, 2, none⟩ = some (.int .i64 bo) := by rw [World.cell?_alloc_new]; rfl
      have hX : wr.heap.size < (wr.alloc (.cells #[.int .i64 (ba : Int), .int .i64 (bb : Int), .int .i64 bo, .int .i64 (bpl : Int)] 102)).heap.size := by simp
      clear HAT
      go_upto_region 5 with fail
      generalize wr.alloc (.cells #[.int .i64 (ba : Int), .int .i64 (bb : Int), .int .i64 bo, .int .i64 (bpl : Int)] 102) = wq at *
      generalize wr.heap.size = X at *
      clear c0 c1 c2 c3
      cases h4 : (bo == 4)
      · have HWH : Hid (isEdge p ⟨ba, bb, bo, bpl⟩ = false) := (by unfold isEdge; simp only [h4]; rfl : isEdge p ⟨ba, bb, bo, bpl⟩ = false)
        have HN : Hid (NrOk (candEdges p (p.bonds.take (i + 1))) nr) := by unfold Hid; rw [candEdges_no HGI.out HWH.out]; exact HNR.out
        go_wp2_with fail
        go_roundg (p.bonds.length - i)
        case measure => omega
        case rel => exact ⟨i + 1, nr, by omega, by omega, by go_num, HN.out, HA2.out⟩
      · have C1 := candidate_any (HK.out.below HA2.out.below) HO.out hs ba (by omega)
        cases hca : cand p ba
        · rw [hca] at C1
          have HWH : Hid (isEdge p ⟨ba, bb, bo, bpl⟩ = false) := (by unfold isEdge; simp only [hca]; simp : isEdge p ⟨ba, bb, bo, bpl⟩ = false)
          clear hca
          go_wp2_with fail
          refine C1.mono ?_
          rintro e w2 ⟨rfl, hb2⟩
          have HA3 : Hid (OfAt w.heap.size w w2 nr) := HA2.out.on rfl hb2
          clear C1 hb2
          have HN : Hid (NrOk (candEdges p (p.bonds.take (i + 1))) nr) := by unfold Hid; rw [candEdges_no HGI.out HWH.out]; exact HNR.out
          go_wp2_with fail
          go_roundg (p.bonds.length - i)
          case measure => omega
          case rel => exact ⟨i + 1, nr, by omega, by omega, by go_num, HN.out, HA3.out⟩
        · rw [hca] at C1
          have HCA : Hid (cand p ba = true) := hca
          clear hca
          go_wp2_with fail
          refine C1.mono ?_
          rintro e w2 ⟨rfl, hb2⟩
          have HA3 : Hid (OfAt w.heap.size w w2 nr) := HA2.out.on rfl hb2
          have r0 : w2.cell? ⟨X, 0, none⟩ = some (.int .i64 (ba : Int)) := (hb2.cell (p := ⟨X, 0, none⟩) hX).trans q0
          have r1 : w2.cell? ⟨X, 1, none⟩ = some (.int .i64 (bb : Int)) := (hb2.cell (p := ⟨X, 1, none⟩) hX).trans q1
          have hX2 : X < w2.heap.size := Nat.lt_of_lt_of_le hX hb2.size
          clear C1 hb2 q0 q1 q2 HA2 hX
          have C2 := candidate_any (HK.out.below HA3.out.below) HO.out hs bb (by omega)
          cases hcb : cand p bb
          · rw [hcb] at C2
            have HWH : Hid (isEdge p ⟨ba, bb, bo, bpl⟩ = false) := (by unfold isEdge; simp only [hcb]; simp : isEdge p ⟨ba, bb, bo, bpl⟩ = false)
            clear hcb
            go_wp2_with fail
            refine C2.mono ?_
            rintro e w3 ⟨rfl, hb3⟩
            have HA4 : Hid (OfAt w.heap.size w w3 nr) := HA3.out.on rfl hb3
            clear C2 hb3
            have HN : Hid (NrOk (candEdges p (p.bonds.take (i + 1))) nr) := by unfold Hid; rw [candEdges_no HGI.out HWH.out]; exact HNR.out
            go_wp2_with fail
            go_roundg (p.bonds.length - i)
            case measure => omega
            case rel => exact ⟨i + 1, nr, by omega, by omega, by go_num, HN.out, HA4.out⟩
          · rw [hcb] at C2
            have HWH : Hid (isEdge p ⟨ba, bb, bo, bpl⟩ = true) := (by unfold isEdge; simp only [h4, hcb, HCA.out]; rfl : isEdge p ⟨ba, bb, bo, bpl⟩ = true)
            clear hcb
            go_wp2_with fail
            refine C2.mono ?_
            rintro e w3 ⟨rfl, hb3⟩
            have HA4 : Hid (OfAt w.heap.size w w3 nr) := HA3.out.on rfl hb3
            have u0 : w3.cell? ⟨X, 0, none⟩ = some (.int .i64 (ba : Int)) := (hb3.cell (p := ⟨X, 0, none⟩) hX2).trans r0
            have u1 : w3.cell? ⟨X, 1, none⟩ = some (.int .i64 (bb : Int)) := (hb3.cell (p := ⟨X, 1, none⟩) hX2).trans r1
            clear C2 hb3 r0 r1 HA3
            have JN := Mg.join_any HA4.out.g (fun k hk => (HNR.out k hk).1) (show ba < 24 by omega) (show bb < 24 by omega)
            go_wp2_with fail
            refine JN.mono ?_
            rintro e w4 ⟨rfl, hA4, hf4⟩
            have HA5 : Hid (OfAt w.heap.size w w4 (joinN nr ba bb)) := HA4.out.same rfl hf4 hA4
            have HN : Hid (NrOk (candEdges p (p.bonds.take (i + 1))) (joinN nr ba bb)) := by unfold Hid; rw [candEdges_yes HGI.out HWH.out]; exact HNR.out.join (show ba < 24 by omega) (show bb < 24 by omega) (show ba ≠ bb by omega)
            clear JN hA4 hf4
            go_wp2_with fail
            go_roundg (p.bonds.length - i)
            case measure => omega
            case rel => exact ⟨i + 1, joinN nr ba bb, by omega, by omega, by go_num, HN.out, HA5.out⟩
    · have hlt' : ¬ (i : Int) < (p.bonds.length : Int) := by omega
      have HNR2 : Hid (NrOk (candEdges p p.bonds) nr) := by have := HNR.out; rw [List.take_of_length_le (by omega)] at this; exact this
      obtain ⟨av, hav0, hao⟩ := HK.out.atoms
      obtain ⟨aso, acap, has⟩ := ownsRow_shape hao
      subst has
      have hav := (HAT.out.below.cell (p := ⟨B, 24, none⟩) hBl).trans hav0
      clear hao hav0 HNR
      generalize wr = wn at HAT hav ⊢
      go_wp2_with fail
      go_loopg [7, 49] 26 (fun k v7 v49 wr => ∃ j : Nat, j ≤ p.atoms.length ∧ 25 - j ≤ k ∧ v49 = .int .i64 (j : Nat) ∧ v7 = .int .i64 (cnt j (cand p) : Nat) ∧ OfAt w.heap.size w wr nr)
      case atStart => exact ⟨0, by omega, by omega, rfl, rfl, HAT.out⟩
      case round =>
        clear HAT hav
        obtain ⟨j, hj, hkj, rfl, rfl, hat⟩ := hrel
        have HAT : Hid (OfAt w.heap.size w wr nr) := hat
        clear hat
        have hcb : cnt j (cand p) ≤ j := cnt_le
        have HCS : Hid (cnt (j + 1) (cand p) = cnt j (cand p) + if cand p j then 1 else 0) := rfl
        by_cases hjn : j < p.atoms.length
        · have hjn' : (j : Int) < (p.atoms.length : Int) := by omega
          have C1 := candidate_any (HK.out.below HAT.out.below) HO.out hs j hjn
          generalize cnt j (cand p) = C at hcb HCS ⊢
          cases hcj : cand p j
          · rw [hcj] at C1
            have HC2 : Hid (cnt (j + 1) (cand p) = C) := by rw [HCS.out, hcj]; rfl
            clear hcj HCS
            go_wp2_with fail
            refine C1.mono ?_
            rintro e w2 ⟨rfl, hb2⟩
            have HA2 : Hid (OfAt w.heap.size w w2 nr) := HAT.out.on rfl hb2
            clear C1 hb2
            go_wp2_with fail
            go_roundg (25 - (j + 1))
            case measure => omega
            case rel => exact ⟨j + 1, by omega, Nat.le_refl _, by go_num, by rw [HC2.out], HA2.out⟩
          · rw [hcj] at C1
            have HC2 : Hid (cnt (j + 1) (cand p) = C + 1) := by rw [HCS.out, hcj]; rfl
            clear hcj HCS
            go_wp2_with fail
            refine C1.mono ?_
            rintro e w2 ⟨rfl, hb2⟩
            have HA2 : Hid (OfAt w.heap.size w w2 nr) := HAT.out.on rfl hb2
            clear C1 hb2
            go_wp2_with fail
            go_roundg (25 - (j + 1))
            case measure => omega
            case rel => exact ⟨j + 1, by omega, Nat.le_refl _, by go_num, by rw [HC2.out]; go_num, HA2.out⟩
        · have hjn' : ¬ (j : Int) < (p.atoms.length : Int) := by omega
          have HE : Hid (CdIs w p (.returned (.tuple #[.agg (nearCells nr).toArray, .int .i64 (cnt j (cand p) : Nat)])) (wr.setCells w.heap.size 0 (nearCells nr))) := by
            have ej : j = p.atoms.length := by omega
            rw [ej]
            exact ⟨nr, HNR2.out, rfl, below_cells (Nat.le_refl _) _ _ _ HAT.out.below⟩
          have HLD : Hid _ := of_stored nr HAT.out.res
          have HRG : Hid (wr.rangeAt (w.heap.size + 1) 0 (nearCells nr)) := HAT.out.g.range
          clear HCS
          generalize cnt j (cand p) = C at hcb HE ⊢
          go_wp2_with (first | (refine wpList_load_mid rfl 65 (.tmp 4) rfl (w.heap.size + 1) 0 (by simp [Act.eval]) (nearCells nr) _ HRG.out Tryz.underlying65 rfl (by rw [Tryz.sizeGraph, nearCells_len]) ?_; simp only [Act.put, List.setIfInBounds_toArray, List.set_cons_zero, List.set_cons_succ]) | (refine wpList_store_mid rfl 65 (.tmp 2) (.tmp 58) rfl w.heap.size 0 (nearCells nr).toArray (by simp [Act.eval]) (by simp [Act.eval]) (by rw [near_size]; with_reducible exact HAT.out.res) (by rw [near_size]; exact Tryz.sizeGraph) (near_one _) ?_; simp only [Act.put]))
          refine bodyPost_ret (v := .tuple #[.agg (nearCells nr).toArray, .int .i64 (C : Nat)]) ?_ rfl HE.out
          have HLD := HLD.out
          simp [results, Tryz.results23, asAddr, HLD]
end
end Go.Proofs.YtcabaecbmkgclaaGreatDoor.Kd

namespace Go.Proofs.YtcabaecbmkgclaaGreatDoor.Mt

section
variable {g : Gr} {mate : Nat → Option Nat} {f : Fo} {h : Gh} {n : Nat}

theorem Inv.rooted (I : Inv g mate f h) : ∀ (N v : Nat), h.lev v ≤ N → f.outer v = true → ∃ r, r < g.n ∧ mate r = none := by
  intro N
  induction N with
  | zero =>
    intro v hl hv
    have hb := I.base v hv
    have ho := I.rout v _ hv hb
    obtain ⟨k1, k2, _⟩ := I.baseC v _ hv hb
    cases hm : mate (h.base v) with
    | none => exact ⟨_, I.olt _ ho, hm⟩
    | some m =>
      obtain ⟨_, _, _, _, h5, _⟩ := I.up _ m ho k1 hm
      omega
  | succ N ih =>
    intro v hl hv
    have hb := I.base v hv
    have ho := I.rout v _ hv hb
    obtain ⟨k1, k2, _⟩ := I.baseC v _ hv hb
    cases hm : mate (h.base v) with
    | none => exact ⟨_, I.olt _ ho, hm⟩
    | some m =>
      obtain ⟨_, _, _, h4, h5, _⟩ := I.up _ m ho k1 hm
      exact ih _ (by omega) h4

theorem Inv.noBar (I : Inv g mate f h) (hf : ∀ r, r < g.n → mate r ≠ none) : barF g.n f = [] := by
  cases hc : barF g.n f with
  | nil => rfl
  | cons x l =>
    have hx : x ∈ barF g.n f := by rw [hc]; simp
    obtain ⟨_, hb⟩ := barF_mem.1 hx
    obtain ⟨h1, h2⟩ := bar_iff.1 hb
    obtain ⟨b, _, hb2, _⟩ := I.inn x h1 h2
    obtain ⟨r, hr, hm⟩ := I.rooted _ b (Nat.le_refl _) hb2
    exact absurd hm (hf r hr)

theorem cnt_zero {p : Nat → Bool} : ∀ {n : Nat}, cnt n p = 0 → ∀ k, k < n → p k = false
  | 0, _, k, hk => by omega
  | n + 1, hc, k, hk => by
    rw [cnt] at hc
    by_cases e : k = n
    · subst e
      cases hp : p k
      · rfl
      · rw [hp] at hc
        simp at hc
    · exact cnt_zero (n := n) (by omega) k (by omega)

theorem two_pairs (b : Best (grL 2 [(1, 0)]) mate f h) : pairsF 2 mate = [(0, 1)] ∧ barF 2 f = [] := by
  have E : EdOk 2 [(1, 0)] := by
    intro p hp
    simp at hp
    subst hp
    decide
  have h1 : (pairsF 2 mate).length = 1 := (b.most E (by omega)).trans (by decide)
  have h3 := pairs_count (E.gr (by omega)) b.m
  have e1 : (pairsF 2 mate).length = cnt 2 (fun v => (mate v).isSome && decide (v < mateOf mate v)) := by
    unfold pairsF
    rw [List.length_map, cnt_len]
  simp only [grL] at h3
  have h0 : cnt 2 (fun x => (mate x).isNone) = 0 := by omega
  refine ⟨?_, b.inv.noBar fun r hr hm => ?_⟩
  · match hp : pairsF 2 mate, h1 with
    | [(x, y)], _ =>
      obtain ⟨k1, k2, k3⟩ := pairsF_mem (n := 2) (mate := mate) (p := (x, y)) (by rw [hp]; simp)
      simp only at k1 k2 k3
      have := ((E.gr (by omega)).lt x y (b.m.adj x y k1)).2
      simp only [grL] at this
      obtain rfl : x = 0 := by omega
      obtain rfl : y = 1 := by omega
      rfl
  · have := cnt_zero h0 r hr
    rw [hm] at this
    cases this
end
end Go.Proofs.YtcabaecbmkgclaaGreatDoor.Mt

namespace Go.Proofs.YtcabaecbmkgclaaGreatDoor.Mt

def Shutin (g : Gr) (blk : Nat → Bool) (P : Nat → Prop) : Prop := ∀ x y, P x → g.adj x y = true → blk y = false → P y

/-- All pieces of the numbers below i are found. -/
structure Bf (g : Gr) (blk : Nat → Bool) (i : Nat) (S : Nat → Bool) (name : Nat → Nat) : Prop where
  free : ∀ k, S k = true → blk k = false ∧ k < g.n
  nlt : ∀ k, S k = true → name k < i
  ns : ∀ k, S k = false → name k = k
  closed : ∀ k j, S k = true → g.adj k j = true → blk j = false → S j = true ∧ name j = name k
  hang : ∀ k, S k = true → ∀ P, Shutin g blk P → (P (name k) ↔ P k)
  all : ∀ k, k < i → blk k = false → S k = true

theorem Bf.start (g : Gr) (blk : Nat → Bool) : Bf g blk 0 (fun _ => false) fun k => k :=
  ⟨fun _ h => (by cases h), fun _ h => (by cases h), fun _ _ => rfl, fun _ _ h => (by cases h), fun _ h => (by cases h), fun k hk => (by omega)⟩

theorem Bf.skip {g : Gr} {blk : Nat → Bool} {i : Nat} {S : Nat → Bool} {name : Nat → Nat} (h : Bf g blk i S name) (hi : S i = true ∨ blk i = true) : Bf g blk (i + 1) S name := by
  refine ⟨h.free, fun k hk => by have := h.nlt k hk; omega, h.ns, h.closed, h.hang, fun k hk hb => ?_⟩
  by_cases e : k = i
  · subst e
    rcases hi with hi | hi
    · exact hi
    · rw [hi] at hb; cases hb
  · exact h.all k (by omega) hb

/-- One piece is being found, from i on: its m-th is looked at, with all below j. -/
structure Bi (g : Gr) (blk : Nat → Bool) (i : Nat) (S0 : Nat → Bool) (m j : Nat) (S : Nat → Bool) (piece : List Nat) : Prop where
  mem : ∀ k, S k = true ↔ S0 k = true ∨ k ∈ piece
  new : ∀ x ∈ piece, S0 x = false ∧ blk x = false ∧ x < g.n
  nodup : piece.Nodup
  head : i ∈ piece
  conn : ∀ x ∈ piece, ∀ P, Shutin g blk P → (P i ↔ P x)
  done : ∀ p x, p < m → piece[p]? = some x → ∀ y, g.adj x y = true → blk y = false → S y = true
  cur : ∀ x, piece[m]? = some x → ∀ y, y < j → g.adj x y = true → blk y = false → S y = true

section
variable {g : Gr} {blk : Nat → Bool} {i m j : Nat} {S0 S : Nat → Bool} {name0 : Nat → Nat} {piece : List Nat}

theorem Bi.start (hi : S0 i = false) (hb : blk i = false) (hn : i < g.n) : Bi g blk i S0 0 0 (setAt S0 i true) [i] := by
  refine ⟨fun k => ?_, fun x hx => by simp at hx; subst hx; exact ⟨hi, hb, hn⟩, by simp, by simp, fun x hx P _ => by simp at hx; subst hx; exact Iff.rfl, fun p _ hp => by omega, fun _ _ y hy => by omega⟩
  simp only [setAt, List.mem_singleton]
  by_cases e : k = i
  · rw [if_pos e]; simp [e]
  · rw [if_neg e]; simp [e]

theorem Bi.len (h : Bi g blk i S0 m j S piece) : piece.length ≤ g.n := by
  have := len_inj piece (fun x => x) (List.range g.n) h.nodup (fun x hx => List.mem_range.2 (h.new x hx).2.2) (fun x _ y _ e => e)
  simpa using this

/-- j is no neighbour, or is blocked, or was seen. -/
theorem Bi.pass (h : Bi g blk i S0 m j S piece) {x : Nat} (hx : piece[m]? = some x) (hj : g.adj x j = false ∨ S j = true ∨ blk j = true) : Bi g blk i S0 m (j + 1) S piece := by
  refine ⟨h.mem, h.new, h.nodup, h.head, h.conn, h.done, fun y hy z hz ha hb => ?_⟩
  rw [hx] at hy
  cases hy
  by_cases e : z = j
  · subst e
    rcases hj with hj | hj | hj
    · rw [hj] at ha; cases ha
    · exact hj
    · rw [hj] at hb; cases hb
  · exact h.cur x hx z (by omega) ha hb

/-- j is a new neighbour. -/
theorem Bi.add (G : GrOk g) (h : Bi g blk i S0 m j S piece) {x : Nat} (hx : piece[m]? = some x) (ha : g.adj x j = true) (hs : S j = false) (hb : blk j = false) : Bi g blk i S0 m (j + 1) (setAt S j true) (piece ++ [j]) := by
  have hm := (List.getElem?_eq_some_iff.1 hx).1
  have hjn := (G.lt x j ha).2
  have hj0 : S0 j = false := by
    cases e : S0 j
    · rfl
    · rw [(h.mem j).2 (.inl e)] at hs; cases hs
  have hjp : j ∉ piece := fun e => by rw [(h.mem j).2 (.inr e)] at hs; cases hs
  have up : ∀ k, S k = true → setAt S j true k = true := fun k hk => by
    unfold setAt
    split
    · rfl
    · exact hk
  have hxm := List.mem_of_getElem? hx
  refine ⟨fun k => ?_, fun z hz => ?_, ?_, by simp [h.head], fun z hz P hP => ?_, fun p z hp hz y hy hby => ?_, fun z hz y hy hay hby => ?_⟩
  · simp only [setAt, List.mem_append, List.mem_singleton]
    by_cases e : k = j
    · rw [if_pos e]; simp [e]
    · rw [if_neg e, h.mem k]; simp [e]
  · rcases List.mem_append.1 hz with hz | hz
    · exact h.new z hz
    · simp at hz; subst hz; exact ⟨hj0, hb, hjn⟩
  · rw [List.nodup_append]
    refine ⟨h.nodup, by simp, fun a ha' b hb' e => ?_⟩
    simp at hb'
    subst hb' e
    exact hjp ha'
  · rcases List.mem_append.1 hz with hz | hz
    · exact h.conn z hz P hP
    · simp at hz
      subst hz
      refine (h.conn x hxm P hP).trans ⟨fun k => hP x z k ha hb, fun k => hP z x k (G.sym x z ha) (h.new x hxm).2.1⟩
  · rw [List.getElem?_append_left (by omega)] at hz
    exact up y (h.done p z hp hz y hy hby)
  · rw [List.getElem?_append_left hm, hx] at hz
    cases hz
    by_cases e : y = j
    · subst e
      unfold setAt
      rw [if_pos rfl]
    · exact up y (h.cur x hx y (by omega) hay hby)

theorem Bi.row (G : GrOk g) (h : Bi g blk i S0 m g.n S piece) : Bi g blk i S0 (m + 1) 0 S piece := by
  refine ⟨h.mem, h.new, h.nodup, h.head, h.conn, fun p x hp hx y hy hb => ?_, fun _ _ y hy => by omega⟩
  by_cases e : p = m
  · subst e
    exact h.cur x hx y (G.lt x y hy).2 hy hb
  · exact h.done p x (by omega) hx y hy hb

def namedBy (name : Nat → Nat) (piece : List Nat) (i : Nat) : Nat → Nat := fun k => if k ∈ piece then i else name k

theorem Bi.finish (G : GrOk g) (hf : Bf g blk i S0 name0) (h : Bi g blk i S0 m j S piece) (hm : piece.length ≤ m) : Bf g blk (i + 1) S (namedBy name0 piece i) := by
  have dn : ∀ x ∈ piece, ∀ y, g.adj x y = true → blk y = false → S y = true := fun x hx y hy hb => by
    obtain ⟨p, hp⟩ := List.mem_iff_getElem?.1 hx
    have := (List.getElem?_eq_some_iff.1 hp).1
    exact h.done p x (by omega) hp y hy hb
  have old : ∀ k, S0 k = true → k ∉ piece := fun k hk hp => by rw [(h.new k hp).1] at hk; cases hk
  have nold : ∀ k, S0 k = true → namedBy name0 piece i k = name0 k := fun k hk => by unfold namedBy; rw [if_neg (old k hk)]
  have nnew : ∀ k, k ∈ piece → namedBy name0 piece i k = i := fun k hk => by unfold namedBy; rw [if_pos hk]
  refine ⟨fun k hk => ?_, fun k hk => ?_, fun k hk => ?_, fun k y hk ha hb => ?_, fun k hk P hP => ?_, fun k hk hb => ?_⟩
  · rcases (h.mem k).1 hk with hk | hk
    · exact hf.free k hk
    · exact (h.new k hk).2
  · rcases (h.mem k).1 hk with hk | hk
    · rw [nold k hk]; have := hf.nlt k hk; omega
    · rw [nnew k hk]; omega
  · have : k ∉ piece := fun e => by rw [(h.mem k).2 (.inr e)] at hk; cases hk
    unfold namedBy
    rw [if_neg this]
    refine hf.ns k ?_
    cases e : S0 k
    · rfl
    · rw [(h.mem k).2 (.inl e)] at hk; cases hk
  · rcases (h.mem k).1 hk with hk | hk
    · obtain ⟨h1, h2⟩ := hf.closed k y hk ha hb
      exact ⟨(h.mem y).2 (.inl h1), by rw [nold y h1, nold k hk, h2]⟩
    · have hy := dn k hk y ha hb
      refine ⟨hy, ?_⟩
      rcases (h.mem y).1 hy with hy | hy
      · have := (hf.closed y k hy (G.sym k y ha) (h.new k hk).2.1).1
        rw [(h.new k hk).1] at this
        cases this
      · rw [nnew y hy, nnew k hk]
  · rcases (h.mem k).1 hk with hk | hk
    · rw [nold k hk]; exact hf.hang k hk P hP
    · rw [nnew k hk]; exact h.conn k hk P hP
  · by_cases e : k = i
    · subst e
      exact (h.mem k).2 (.inr h.head)
    · exact (h.mem k).2 (.inl (hf.all k (by omega) hb))

/-- How many are in the piece named h. -/
def pieceCnt (n : Nat) (S : Nat → Bool) (name : Nat → Nat) (h : Nat) : Nat := cnt n (fun k => S k && (name k == h))

theorem Bf.none (hf : Bf g blk i S0 name0) {h : Nat} (hh : i ≤ h) : pieceCnt g.n S0 name0 h = 0 := by
  refine cnt_none fun k _ => ?_
  cases e : S0 k
  · rfl
  · have := hf.nlt k e
    simp
    omega

theorem Bi.same (h : Bi g blk i S0 m j S piece) {a : Nat} (ha : a < i) : pieceCnt g.n S (namedBy name0 piece i) a = pieceCnt g.n S0 name0 a := by
  refine cnt_congr fun k _ => ?_
  by_cases hp : k ∈ piece
  · have h1 := (h.mem k).2 (.inr hp)
    have h2 := (h.new k hp).1
    unfold namedBy
    rw [if_pos hp, h1, h2]
    simp
    omega
  · unfold namedBy
    rw [if_neg hp]
    have : S k = S0 k := by
      rw [Bool.eq_iff_iff, h.mem k]
      simp [hp]
    rw [this]

theorem Bi.size (hf : Bf g blk i S0 name0) (h : Bi g blk i S0 m j S piece) : pieceCnt g.n S (namedBy name0 piece i) i = piece.length := by
  unfold pieceCnt
  rw [← cnt_len]
  have key : ∀ k, (k ∈ (List.range g.n).filter fun k => S k && (namedBy name0 piece i k == i)) ↔ k ∈ piece := by
    intro k
    rw [List.mem_filter, List.mem_range]
    constructor
    · rintro ⟨_, hk⟩
      simp only [Bool.and_eq_true, beq_iff_eq] at hk
      rcases (h.mem k).1 hk.1 with h0 | h0
      · have h1 := hf.nlt k h0
        have hp : k ∉ piece := fun e => by rw [(h.new k e).1] at h0; cases h0
        have h2 := hk.2
        unfold namedBy at h2
        rw [if_neg hp] at h2
        omega
      · exact h0
    · intro hk
      refine ⟨(h.new k hk).2.2, ?_⟩
      unfold namedBy
      rw [if_pos hk, (h.mem k).2 (.inr hk)]
      simp
  refine Nat.le_antisymm (len_inj _ (fun x => x) _ (List.Pairwise.filter _ List.nodup_range) (fun x hx => (key x).1 hx) (fun x _ y _ e => e)) (len_inj _ (fun x => x) _ h.nodup (fun x hx => (key x).2 hx) (fun x _ y _ e => e))

theorem Bf.naming (hf : Bf g blk g.n S0 name0) (G : GrOk g) : Naming g blk name0 := by
  refine ⟨fun k hk => ?_, fun a b hab ha hb => ?_, fun P a b ha hb oa ob e hP pa => ?_⟩
  · cases e : S0 k
    · rw [hf.ns k e]; exact hk
    · exact hf.nlt k e
  · exact (hf.closed a b (hf.all a (G.lt a b hab).1 ha) hab hb).2.symm
  · have h1 := (hf.hang a (hf.all a ha oa) P hP).2 pa
    rw [e] at h1
    exact (hf.hang b (hf.all b hb ob) P hP).1 h1

theorem Bf.total (hf : Bf g blk g.n S0 name0) : total g.n (fun a => pieceCnt g.n S0 name0 a % 2) = total g.n (fun a => cnt g.n (fun k => !blk k && (name0 k == a)) % 2) := by
  refine total_congr fun a _ => ?_
  unfold pieceCnt
  rw [cnt_congr (q := fun k => !blk k && (name0 k == a))]
  intro k hk
  cases e : blk k
  · rw [hf.all k hk e]; rfl
  · have : S0 k = false := by
      cases e2 : S0 k
      · rfl
      · rw [(hf.free k e2).1] at e; cases e
    rw [this]
    rfl
end
end Go.Proofs.YtcabaecbmkgclaaGreatDoor.Mt
