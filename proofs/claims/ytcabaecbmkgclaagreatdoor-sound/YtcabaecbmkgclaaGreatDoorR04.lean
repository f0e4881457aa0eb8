/-
  What Joined, Bind, BothAromatic and order do.
  What bondEnd and link do.
  What link, ringAhead and ringNumber do.
  What ringNumber does.
-/
import Derived.Test.YtcabaecbmkgclaaGreatDoorR02
import Derived.Deep.DeepCutAuto
import Derived.Deep.Light
namespace Go.Proofs.YtcabaecbmkgclaaGreatDoor
open Go.RowKit Bz
section
variable {w : World} {B : Nat} {s : ByteArray} {p : St}
theorem bit_u32 (m b : Nat) (hm : m < 4294967296) : (bits .and .u32 ((m : Int) / 2 ^ b) 1 == 1) = m.testBit b := by
  have h1 : ((m : Int) / 2 ^ b) = ((m / 2 ^ b : Nat) : Int) := by simp
  have h2 : m / 2 ^ b < 4294967296 := Nat.lt_of_le_of_lt (Nat.div_le_self _ _) hm
  rw [h1, show (1 : Int) = ((1 : Nat) : Int) from rfl, u32_and_nat _ 1 h2 (by decide)]
  rw [Nat.testBit_eq_decide_div_mod_eq, Nat.and_one_is_mod]
  rw [Bool.eq_iff_iff]
  simp
  omega

set_option maxHeartbeats 1000000 in
theorem joined_any (h : Rd w B s p) (a b : Nat) (ha : a < 24) (hb : b < 24) :
    Calls Tryz.prog 64 #[.pointer (some ⟨B, 2, none⟩), .int .i64 a, .int .i64 b] w fun e w' => e = .returned (.bool (bonded p.bonds a b)) ∧ w' = w := by
  obtain ⟨m, ca, hm, ta⟩ := h.near a ha
  have a24 : (a : Int) < 24 := by omega
  have b24 : (b : Int) < 24 := by omega
  rw [← ta b hb]
  have hbt := bit_u32 m b hm
  have HB : Hid _ := hbt
  clear hbt ta
  go_enter Tryz.func64, Tryz.ntmps64
  go_wp2
  go_ret
  exact ⟨ret_bool HB.out, rfl⟩

set_option maxHeartbeats 1000000 in
theorem both_any (h : Rd w B s p) (a b : Nat) (ha : a < p.atoms.length) (hb : b < p.atoms.length) (hn : p.atoms.length ≤ 24) :
    Calls Tryz.prog 154 #[.pointer (some ⟨B, 2, none⟩), .int .i64 a, .int .i64 b] w fun e w' => e = .returned (.bool (aro p a && aro p b)) ∧ w' = w := by
  obtain ⟨g, cap, hv, hc, _, _, _⟩ := h.atomsAt (by omega)
  have ga := List.getElem?_eq_getElem ha
  have gb := List.getElem?_eq_getElem hb
  have ca := hc a _ 1 (.bool (p.atoms[a]).aro) ga rfl
  have cb := hc b _ 1 (.bool (p.atoms[b]).aro) gb rfl
  have ea : aro p a = (p.atoms[a]).aro := by simp [aro, ga]
  have eb : aro p b = (p.atoms[b]).aro := by simp [aro, gb]
  rw [ea, eb]
  generalize (p.atoms[a]).aro = xa at *
  generalize (p.atoms[b]).aro = xb at *
  clear hc ga gb ea eb
  have ha' : (a : Int) < (p.atoms.length : Int) := by omega
  have hb' : (b : Int) < (p.atoms.length : Int) := by omega
  go_enter Tryz.func154, Tryz.ntmps154
  cases xa
  · go_wp2
    go_ret
    exact ⟨rfl, rfl⟩
  · go_wp2
    go_ret
    exact ⟨rfl, rfl⟩

set_option maxHeartbeats 1000000 in
theorem order_any (h : Rd w B s p) (mark : Int) (a b : Nat) (ha : a < p.atoms.length) (hb : b < p.atoms.length) (hn : p.atoms.length ≤ 24) :
    Calls Tryz.prog 130 #[.pointer (some ⟨B, 0, none⟩), .int .u8 mark, .int .i64 a, .int .i64 b] w fun e w' => e = .returned (.int .i64 (order p mark a b)) ∧ w' = w := by
  have hb2 := both_any h a b ha hb hn
  by_cases h1 : mark = 45
  · have e : order p mark a b = 1 := by simp [order, h1]
    rw [e, h1]
    go_enter Tryz.func130, Tryz.ntmps130
    go_wp2_with fail
    go_ret
    exact ⟨rfl, rfl⟩
  by_cases h2 : mark = 61
  · have e : order p mark a b = 2 := by simp [order, h2]
    rw [e, h2]
    go_enter Tryz.func130, Tryz.ntmps130
    go_wp2_with fail
    go_ret
    exact ⟨rfl, rfl⟩
  by_cases h3 : mark = 35
  · have e : order p mark a b = 3 := by simp [order, h3]
    rw [e, h3]
    go_enter Tryz.func130, Tryz.ntmps130
    go_wp2_with fail
    go_ret
    exact ⟨rfl, rfl⟩
  by_cases h4 : mark = 58
  · have e : order p mark a b = 4 := by simp [order, h4]
    rw [e, h4]
    go_enter Tryz.func130, Tryz.ntmps130
    go_wp2_with fail
    go_ret
    exact ⟨rfl, rfl⟩
  have t1 : (mark == 45) = false := by simpa using h1
  have t2 : (mark == 61) = false := by simpa using h2
  have t3 : (mark == 35) = false := by simpa using h3
  have t4 : (mark == 58) = false := by simpa using h4
  have e : order p mark a b = if aro p a && aro p b then 4 else 1 := by simp [order, h1, h2, h3, h4]
  rw [e]
  clear e h1 h2 h3 h4
  cases hx : (aro p a && aro p b)
  · rw [hx] at hb2
    simp only [Bool.false_eq_true, if_false]
    clear hx
    go_enter Tryz.func130, Tryz.ntmps130
    go_wp2_with fail
    refine hb2.mono ?_
    rintro e w' ⟨rfl, rfl⟩
    go_wp2_with fail
    go_ret
    exact ⟨rfl, rfl⟩
  · rw [hx] at hb2
    simp only [if_true]
    clear hx
    go_enter Tryz.func130, Tryz.ntmps130
    go_wp2_with fail
    refine hb2.mono ?_
    rintro e w' ⟨rfl, rfl⟩
    go_wp2_with fail
    go_ret
    exact ⟨rfl, rfl⟩

theorem RdJ.lt {l : List Bnd} (h : RdJ w B s p l) : B < w.heap.size := World.block_lt_of_cell? w ⟨B, 0, none⟩ h.text

theorem RdJ.cell27 {l : List Bnd} {w2 : World} (h : RdJ w B s p l) {bv : Value} (hbv : w.cell? ⟨B, 27, none⟩ = some bv) (hg : w.grownBy w2 bv.ownBlock) : w2.cell? ⟨B, 27, none⟩ = some bv ∧ w2.frozen? ⟨B, 27, none⟩ = false := by
  obtain ⟨va, ha, oa⟩ := h.bonds
  rw [hbv] at ha
  cases ha
  have hB : w2.heap[B]? = w.heap[B]? := hg.block B h.lt (fun e => by have := (oa.lt B e.symm).1; omega)
  exact ⟨by rw [World.cell?_of_block (w := w) hB]; exact hbv, by rw [World.frozen?_of_block (w := w) hB]; exact h.free 27⟩

theorem RdJ.alloc {l : List Bnd} (h : RdJ w B s p l) (o : Obj) : RdJ (w.alloc o) B s p l := by
  have hB := heap_alloc_lt w o B h.lt
  have hc : ∀ i, (w.alloc o).cell? ⟨B, i, none⟩ = w.cell? ⟨B, i, none⟩ := fun i => World.cell?_of_block (w := w) hB
  have hf : ∀ i, (w.alloc o).frozen? ⟨B, i, none⟩ = w.frozen? ⟨B, i, none⟩ := fun i => World.frozen?_of_block (w := w) hB
  obtain ⟨va, ha, oa⟩ := h.atoms
  obtain ⟨vb, hb, ob⟩ := h.bonds
  exact ⟨by rw [hc]; exact h.text, by rw [hc]; exact h.pos, fun k hk => by rw [hc]; exact h.near k hk, ⟨va, by rw [hc]; exact ha, oa.alloc o⟩, ⟨vb, by rw [hc]; exact hb, ob.alloc o⟩,
    by rw [hc]; exact h.err, by rw [hc]; exact h.plc, fun n j v hn hv => by rw [hc]; exact h.rings n j v hn hv, fun i => by rw [hf]; exact h.free i⟩

theorem RdJ.drew {l : List Bnd} (h : RdJ w B s p l) : RdJ w.drew B s p l := by
  obtain ⟨va, ha, oa⟩ := h.atoms
  obtain ⟨vb, hb, ob⟩ := h.bonds
  exact ⟨h.text, h.pos, h.near, ⟨va, ha, oa.drew⟩, ⟨vb, hb, ob.drew⟩, h.err, h.plc, h.rings, h.free⟩

theorem RdJ.bondAdded {w2 : World} (d : Bnd) (h : RdJ w B s p (p.bonds ++ [d])) {bv : Value} (hbv : w.cell? ⟨B, 27, none⟩ = some bv) (v' : Value)
    (hown : w2.ownsRow (B + 1) 102 4 v' (p.bonds.length + 1) (p.bonds.flatMap pbCells ++ pbCells d)) (hg : w.grownBy w2 bv.ownBlock)
    (hv : ∀ k, v'.ownBlock = some k → bv.ownBlock = some k ∨ w.heap.size ≤ k) :
    Rd (w2.setCell ⟨B, 27, none⟩ v') B s { p with bonds := p.bonds ++ [d] } ∧ Fr B w (w2.setCell ⟨B, 27, none⟩ v') := by
  obtain ⟨va, ha, oa⟩ := h.atoms
  obtain ⟨vb, hb, ob⟩ := h.bonds
  rw [hbv] at hb
  cases hb
  have hB : w2.heap[B]? = w.heap[B]? := hg.block B h.lt (fun e => by have := (ob.lt B e.symm).1; omega)
  have hc : ∀ i, w2.cell? ⟨B, i, none⟩ = w.cell? ⟨B, i, none⟩ := fun i => World.cell?_of_block (w := w) hB
  have hf : ∀ i, w2.frozen? ⟨B, i, none⟩ = w.frozen? ⟨B, i, none⟩ := fun i => World.frozen?_of_block (w := w) hB
  have oa2 : w2.ownsRow (B + 1) 124 6 va p.atoms.length (p.atoms.flatMap atmCells) :=
    ownsRow_same oa fun k hk => hg.block k (oa.lt k hk).2 (fun e => ownBlock_ne oa ob (by decide) k hk e.symm)
  have h27 : (w2.setCell ⟨B, 27, none⟩ v').cell? ⟨B, 27, none⟩ = some v' := World.cell?_setCell_same w2 _ _ (by rw [hc]; exact hbv)
  refine ⟨⟨by rw [cell_set_ne (by omega), hc]; exact h.text, by rw [cell_set_ne (by omega), hc]; exact h.pos, fun k hk => by rw [cell_set_ne (by omega), hc]; exact h.near k hk,
    ⟨va, by rw [cell_set_ne (by omega), hc]; exact ha, ownsRow_setB oa2 _ _⟩, ⟨v', h27, ?_⟩,
    by rw [cell_set_ne (by omega), hc]; exact h.err, by rw [cell_set_ne (by omega), hc]; exact h.plc, fun n j v hn hv => by rw [cell_set_ne (by omega), hc]; exact h.rings n j v hn hv,
    fun i => by rw [World.frozen?_setCell, hf]; exact h.free i⟩, ⟨hg.os, hg.tape, hg.output, by simpa using hg.size, ?_, ?_⟩⟩
  · have := ownsRow_setB hown 27 v'
    simpa using this
  · intro k hk hm
    rw [Below.heap_setCell w2 _ _ k (by rintro rfl; exact hm (.inl rfl))]
    exact hg.block k hk (fun e => hm (.inr (.inr ⟨bv, hbv, e.symm⟩)))
  · intro k hk hm
    rcases hm with rfl | ⟨v, hv1, hv2⟩ | ⟨v, hv1, hv2⟩
    · exact .inl rfl
    · rw [cell_set_ne (by omega), hc] at hv1
      exact .inr (.inl ⟨v, hv1, hv2⟩)
    · rw [h27] at hv1
      cases hv1
      rcases hv k hv2 with e | e
      · exact .inr (.inr ⟨bv, hbv, e⟩)
      · omega

theorem cells4 (w : World) (x y z u0 : Value) (t : TypeId) : ∀ j u, [x, y, z, u0][j]? = some u → (w.alloc (.cells #[x, y, z, u0] t)).cell? ((⟨w.heap.size, 0, none⟩ : Addr).add j) = some u := by
  intro j u hj
  have hadd : (⟨w.heap.size, 0, none⟩ : Addr).add j = ⟨w.heap.size, j, none⟩ := by unfold Addr.add; split <;> simp_all
  rw [hadd, World.cell?_alloc_new]
  simpa using hj

theorem pbCells_min (a b : Nat) (o : Int) (pl : Nat) (h : a < b) : pbCells ⟨min a b, max a b, o, pl⟩ = [.int .i64 (a : Int), .int .i64 (b : Int), .int .i64 o, .int .i64 (pl : Int)] := by
  unfold pbCells
  rw [Nat.min_eq_left (by omega), Nat.max_eq_right (by omega)]
theorem pbCells_max (a b : Nat) (o : Int) (pl : Nat) (h : b < a) : pbCells ⟨min a b, max a b, o, pl⟩ = [.int .i64 (b : Int), .int .i64 (a : Int), .int .i64 o, .int .i64 (pl : Int)] := by
  unfold pbCells
  rw [Nat.min_eq_right (by omega), Nat.max_eq_left (by omega)]

set_option maxHeartbeats 1000000 in
theorem bind_any (h : Rd w B s p) (a b : Nat) (o : Int) (pl : Nat) (ha : a < 24) (hb : b < 24) (hab : a ≠ b) (hn : p.bonds.length ≤ 1000) :
    Calls Tryz.prog 129 #[.pointer (some ⟨B, 2, none⟩), .int .i64 a, .int .i64 b, .int .i64 o, .int .i64 pl] w fun e w' => e = .returned (.tuple #[]) ∧ Rd w' B s (bind p a b o pl) ∧ Fr B w w' := by
  obtain ⟨i0, hi, hz0, hz1, hz2⟩ := info_parts Tryz.infoMBond
  have hJ := join_any h a b o pl ha hb hab
  go_enter Tryz.func129, Tryz.ntmps129
  go_wp2_with fail
  refine hJ.mono ?_
  rintro e w1 ⟨rfl, hj, hf⟩
  have hB := hj.lt
  obtain ⟨bv, hbv, ob⟩ := hj.bonds
  have hb2 : Hid (∀ o o' : Obj, (((w1.alloc o).alloc o').drew).cell? ⟨B, 27, none⟩ = some bv) := by
    intro o o'
    rw [World.cell?_drew, World.cell?_alloc_lt _ _ _ (by simp; omega), World.cell?_alloc_lt _ _ _ (by simpa using hB)]
    exact hbv
  clear hJ
  rcases Nat.lt_or_gt_of_ne hab with hlt | hlt
  · have hlt' : (a : Int) < (b : Int) := by omega
    have HC : Hid (pbCells ⟨min a b, max a b, o, pl⟩ = [.int .i64 (a : Int), .int .i64 (b : Int), .int .i64 o, .int .i64 (pl : Int)]) := pbCells_min a b o pl hlt
    have hnews : Hid (∀ (o1 : Obj) (t : TypeId), ∀ j u, [Value.int .i64 (a : Int), .int .i64 (b : Int), .int .i64 o, .int .i64 (pl : Int)][j]? = some u → (((w1.alloc o1).alloc (.cells #[.int .i64 (a : Int), .int .i64 (b : Int), .int .i64 o, .int .i64 (pl : Int)] t)).drew).cell? ((⟨w1.heap.size + 1, 0, none⟩ : Addr).add j) = some u) := by
      intro o1 t j u hj
      have := cells4 (w1.alloc o1) (.int .i64 (a : Int)) (.int .i64 (b : Int)) (.int .i64 o) (.int .i64 (pl : Int)) t j u hj
      simpa using this
    clear hlt hab
    go_wp2_with fail
    go_region_law (refine step_append_mine rfl (.tmp 29) (.tmp 34) 67 rfl (B + 1) 102 i0 (.agg #[.int .i64 0, .int .i64 0, .int .i64 0, .int .i64 0]) 4 32 Tryz.underlying67 hi hz0 hz1 hz2 rfl (by decide) bv p.bonds.length (p.bonds.flatMap pbCells) rfl (by exact ((ob.alloc _).alloc _).drew) ⟨w1.heap.size + 1, 0, none⟩ 1 1 [.int .i64 (a : Int), .int .i64 (b : Int), .int .i64 o, .int .i64 (pl : Int)] rfl rfl (by exact hnews.out _ _) (by intro u hu; simp at hu; rcases hu with rfl | rfl | rfl | rfl <;> rfl) (by unfold maxLen; omega) (by omega) (by simp; omega) ?_; intro v' w2 ho hg hk; obtain ⟨ao, cap, hv'⟩ := ownsRow_shape ho; subst hv'; have X := (((hj.alloc _).alloc _).drew).bondAdded ⟨min a b, max a b, o, pl⟩ (hb2.out _ _) _ (by rw [HC.out]; exact ho) hg hk; obtain ⟨c27, f27⟩ := (((hj.alloc _).alloc _).drew).cell27 (hb2.out _ _) hg; clear ho hg hk)
    all_goals
      go_wp2_with fail
      go_end0
      exact ⟨rfl, X.1, hf.trans ((Fr.two hB _ _).trans X.2)⟩
  · have hlt' : (b : Int) < (a : Int) := by omega
    have HC : Hid (pbCells ⟨min a b, max a b, o, pl⟩ = [.int .i64 (b : Int), .int .i64 (a : Int), .int .i64 o, .int .i64 (pl : Int)]) := pbCells_max a b o pl hlt
    have hnews : Hid (∀ (o1 : Obj) (t : TypeId), ∀ j u, [Value.int .i64 (b : Int), .int .i64 (a : Int), .int .i64 o, .int .i64 (pl : Int)][j]? = some u → (((w1.alloc o1).alloc (.cells #[.int .i64 (b : Int), .int .i64 (a : Int), .int .i64 o, .int .i64 (pl : Int)] t)).drew).cell? ((⟨w1.heap.size + 1, 0, none⟩ : Addr).add j) = some u) := by
      intro o1 t j u hj
      have := cells4 (w1.alloc o1) (.int .i64 (b : Int)) (.int .i64 (a : Int)) (.int .i64 o) (.int .i64 (pl : Int)) t j u hj
      simpa using this
    clear hlt hab
    go_wp2_with fail
    go_region_law (refine step_append_mine rfl (.tmp 29) (.tmp 34) 67 rfl (B + 1) 102 i0 (.agg #[.int .i64 0, .int .i64 0, .int .i64 0, .int .i64 0]) 4 32 Tryz.underlying67 hi hz0 hz1 hz2 rfl (by decide) bv p.bonds.length (p.bonds.flatMap pbCells) rfl (by exact ((ob.alloc _).alloc _).drew) ⟨w1.heap.size + 1, 0, none⟩ 1 1 [.int .i64 (b : Int), .int .i64 (a : Int), .int .i64 o, .int .i64 (pl : Int)] rfl rfl (by exact hnews.out _ _) (by intro u hu; simp at hu; rcases hu with rfl | rfl | rfl | rfl <;> rfl) (by unfold maxLen; omega) (by omega) (by simp; omega) ?_; intro v' w2 ho hg hk; obtain ⟨ao, cap, hv'⟩ := ownsRow_shape ho; subst hv'; have X := (((hj.alloc _).alloc _).drew).bondAdded ⟨min a b, max a b, o, pl⟩ (hb2.out _ _) _ (by rw [HC.out]; exact ho) hg hk; obtain ⟨c27, f27⟩ := (((hj.alloc _).alloc _).drew).cell27 (hb2.out _ _) hg; clear ho hg hk)
    all_goals
      go_wp2_with fail
      go_end0
      exact ⟨rfl, X.1, hf.trans ((Fr.two hB _ _).trans X.2)⟩
end
section
variable {w : World} {B : Nat} {s : ByteArray} {p : St}
def BePost (w : World) (B : Nat) (s : ByteArray) (r : R (Hung × St)) (e : Ending) (w' : World) : Prop :=
  (match r with
  | .ok x => e = .returned (.tuple #[hungV x.1, .bool true]) ∧ Rd w' B s x.2
  | .error er => (∃ g, e = .returned (.tuple #[hungV g, .bool false])) ∧ Wrong w' B er) ∧ Fr B w w'

theorem BePost.ok {w w' : World} {r : R (Hung × St)} {e : Ending} {g : Hung} {q : St} (hr : r = .ok (g, q)) (he : e = .returned (.tuple #[hungV g, .bool true])) (h1 : Rd w' B s q) (h2 : Fr B w w') : BePost w B s r e w' := by
  subst hr; exact ⟨⟨he, h1⟩, h2⟩
theorem BePost.error {w w' : World} {r : R (Hung × St)} {e : Ending} {g : Hung} {er : Int × Int} (hr : r = .error er) (he : e = .returned (.tuple #[hungV g, .bool false])) (h1 : Wrong w' B er) (h2 : Fr B w w') : BePost w B s r e w' := by
  subst hr; exact ⟨⟨⟨g, he⟩, h1⟩, h2⟩

theorem Rd.below {w' : World} (h : Rd w B s p) (hb : Below w.heap.size w w') : Rd w' B s p := h.same fun k hk => hb.block k (h.mine hk).2
theorem Fr.below {B : Nat} {w w' : World} (hB : B < w.heap.size) (hb : Below w.heap.size w w') : Fr B w w' :=
  ⟨hb.os, hb.tape, hb.output, hb.size, fun k hk _ => hb.block k hk, fun _ _ hm => (Mine.same (hb.block B hB)).1 hm⟩

/-- The reader stands so, and all that is its own lies below block N. -/
structure RdN (w : World) (B : Nat) (s : ByteArray) (p : St) (N : Nat) : Prop where
  rd : Rd w B s p
  mine : ∀ k, Mine w B k → k < N

theorem Rd.n (h : Rd w B s p) : RdN w B s p w.heap.size := ⟨h, fun _ hk => (h.mine hk).2⟩
theorem RdN.below {w' : World} {N : Nat} (h : RdN w B s p N) (hb : Below N w w') : RdN w' B s p N :=
  ⟨h.rd.same fun k hk => hb.block k (h.mine k hk), fun k hk => h.mine k ((Mine.same (hb.block B (h.mine B (.inl rfl)))).1 hk)⟩
theorem Mine.setB {w : World} {B i k : Nat} (h1 : i ≠ 26) (h2 : i ≠ 27) (u : Value) : Mine (w.setCell ⟨B, i, none⟩ u) B k ↔ Mine w B k := by
  unfold Mine
  rw [cell_set_ne h1, cell_set_ne h2]
theorem RdN.setPos {N : Nat} (h : RdN w B s p N) (n : Nat) (u : Value) (hu : u = .int .i64 n) : RdN (w.setCell ⟨B, 1, none⟩ u) B s { p with pos := n } N :=
  ⟨h.rd.setPos n u hu, fun k hk => h.mine k ((Mine.setB (by decide) (by decide) u).1 hk)⟩

theorem RdN.drewN {N : Nat} (h : RdN w B s p N) (n : Nat) : RdN (w.drewN n) B s p N := ⟨h.rd.drewN n, h.mine⟩
theorem RdN.drew {N : Nat} (h : RdN w B s p N) : RdN w.drew B s p N := ⟨h.rd.drew, h.mine⟩
theorem RdN.setL {N L : Nat} (h : RdN w B s p N) (hL : N ≤ L) (i : Nat) (u : Value) : RdN (w.setCell ⟨L, i, none⟩ u) B s p N := h.below ((Below.refl _ _).setCell hL u)
theorem RdN.allocL {N : Nat} (h : RdN w B s p N) (hN : N ≤ w.heap.size) (o : Obj) : RdN (w.alloc o) B s p N := h.below ((Below.refl _ _).alloc hN o)

theorem Fr.setL {B L : Nat} {a w : World} (h : Fr B a w) (hL : a.heap.size ≤ L) (hB : B < a.heap.size) (i : Nat) (u : Value) : Fr B a (w.setCell ⟨L, i, none⟩ u) :=
  h.setCell (.inr hL) (fun e => absurd e (by simp; omega)) u
theorem Fr.allocL {B : Nat} {a w : World} (h : Fr B a w) (hB : B < a.heap.size) (o : Obj) : Fr B a (w.alloc o) := h.alloc (Nat.lt_of_lt_of_le hB h.size) o

set_option maxHeartbeats 1000000 in
theorem bondEnd_none (h : Rd w B s p) (hs : s.size ≤ 160) (hp : p.pos ≤ s.size) (a : Nat) (hc : isSign (byteAt s p.pos) = false) :
    Calls Tryz.prog 133 #[.pointer (some ⟨B, 0, none⟩), .int .i64 a] w (BePost w B s (bondEnd s a p)) := by
  have hB := h.lt
  have HR : Hid (bondEnd s a p = .ok (⟨0, 0, a⟩, p)) := by unfold Hid bondEnd; simp [hc]
  have HS := isSign_any (byteAt s p.pos)
  rw [hc] at HS
  have HS' : Hid _ := HS
  clear HS hc
  go_enter Tryz.func133, Tryz.ntmps133
  go_wp2_with fail
  refine (peek0 ((h.alloc _).alloc _) hs hp).mono ?_
  rintro e w1 ⟨rfl, k, rfl⟩
  go_wp2_with fail
  refine (HS'.out _).mono ?_
  rintro e w1 ⟨rfl, rfl⟩
  go_wp2_with fail
  refine bodyPost_ret (v := .tuple #[.agg #[.int .u8 0, .int .i64 0, .int .i64 a], .bool true]) (by simp [results, Tryz.results133, go_sem]) rfl ?_
  refine BePost.ok HR.out rfl (RdN.rd (N := w.heap.size) ?_) ?_
  · exact (by repeat (first | with_reducible exact Rd.n h | with_reducible refine RdN.drewN ?_ _ | with_reducible refine RdN.drew ?_ | with_reducible refine RdN.setL ?_ (by simp) _ _ | with_reducible refine RdN.allocL ?_ (by simp; try omega) _ | with_reducible refine RdN.setPos ?_ _ _ (by go_num)))
  · exact (by repeat (first | with_reducible exact Fr.refl _ _ | with_reducible refine Fr.drewN ?_ _ | with_reducible refine Fr.drew ?_ | with_reducible refine Fr.setPos ?_ _ | with_reducible refine Fr.setL ?_ (by simp) hB _ _ | with_reducible refine Fr.allocL ?_ hB _))

theorem Rd.aroCell (h : Rd w B s p) (a : Nat) (ha : a < p.atoms.length) : ∃ g cap, w.cell? ⟨B, 26, none⟩ = some (.slice (some ⟨g, 0, none⟩) p.atoms.length cap) ∧ w.cell? ⟨g, a * 6 + 1, none⟩ = some (.bool (aro p a)) ∧ B < g ∧ g < w.heap.size := by
  obtain ⟨g, cap, hv, hc, _, h1, h2⟩ := h.atomsAt (by omega)
  have ga := List.getElem?_eq_getElem ha
  have ca := hc a _ 1 (.bool (p.atoms[a]).aro) ga rfl
  have ea : aro p a = (p.atoms[a]).aro := by simp [aro, ga]
  exact ⟨g, cap, hv, by rw [ea]; exact ca, h1, h2⟩

/-- A box of three cells. -/
structure B3 (w : World) (L : Nat) (x y z : Value) : Prop where
  c0 : w.cell? ⟨L, 0, none⟩ = some x
  c1 : w.cell? ⟨L, 1, none⟩ = some y
  c2 : w.cell? ⟨L, 2, none⟩ = some z
  fz : ∀ i, w.frozen? ⟨L, i, none⟩ = false

theorem B3.lt {L : Nat} {x y z : Value} (h : B3 w L x y z) : L < w.heap.size := World.block_lt_of_cell? w ⟨L, 0, none⟩ h.c0
theorem B3.same {w' : World} {L : Nat} {x y z : Value} (h : B3 w L x y z) (hs : w'.heap[L]? = w.heap[L]?) : B3 w' L x y z := by
  have hc : ∀ i, w'.cell? ⟨L, i, none⟩ = w.cell? ⟨L, i, none⟩ := fun i => World.cell?_of_block (w := w) hs
  have hf : ∀ i, w'.frozen? ⟨L, i, none⟩ = w.frozen? ⟨L, i, none⟩ := fun i => World.frozen?_of_block (w := w) hs
  exact ⟨by rw [hc]; exact h.c0, by rw [hc]; exact h.c1, by rw [hc]; exact h.c2, fun i => by rw [hf]; exact h.fz i⟩
theorem B3.fr {w' : World} {L : Nat} {x y z : Value} (h : B3 w L x y z) (hf : Fr B w w') (hm : ¬ Mine w B L) : B3 w' L x y z := h.same (hf.block L h.lt hm)

theorem B3.stored {L : Nat} {x y z : Value} (h : B3 w L x y z) (a b c : Value) : (w.setCell ⟨L, 0, none⟩ a).cell? ⟨L, 0, none⟩ = some a ∧ ((w.setCell ⟨L, 0, none⟩ a).setCell ⟨L, 1, none⟩ b).cell? ⟨L, 1, none⟩ = some b ∧
    (((w.setCell ⟨L, 0, none⟩ a).setCell ⟨L, 1, none⟩ b).setCell ⟨L, 2, none⟩ c).cell? ⟨L, 2, none⟩ = some c :=
  ⟨World.cell?_setCell_same w _ _ h.c0, World.cell?_setCell_same _ _ _ (by rw [cell_set_ne (by omega)]; exact h.c1),
    World.cell?_setCell_same _ _ _ (by rw [cell_set_ne (by omega), cell_set_ne (by omega)]; exact h.c2)⟩
theorem B3.drew {L : Nat} {x y z : Value} (h : B3 w L x y z) : B3 w.drew L x y z := ⟨h.c0, h.c1, h.c2, h.fz⟩
theorem B3.setB {L : Nat} {x y z : Value} (h : B3 w L x y z) (hL : L ≠ B) (i : Nat) (u : Value) : B3 (w.setCell ⟨B, i, none⟩ u) L x y z := h.same (Below.heap_setCell w _ u L hL)

theorem Wrong.setL {w : World} {B L : Nat} {e : Int × Int} (h : Wrong w B e) (hL : L ≠ B) (i : Nat) (u : Value) : Wrong (w.setCell ⟨L, i, none⟩ u) B e :=
  ⟨by rw [World.cell?_setCell_other _ _ _ _ (fun e => hL (by simpa using congrArg Addr.block e))]; exact h.err,
   by rw [World.cell?_setCell_other _ _ _ _ (fun e => hL (by simpa using congrArg Addr.block e))]; exact h.plc⟩

theorem notMine_set {w : World} {B L : Nat} (hm : ¬ Mine w B L) (i : Nat) (u : Value) : ¬ Mine (w.setCell ⟨L, i, none⟩ u) B L := fun e =>
  hm ((Mine.same (Below.heap_setCell w _ u B (fun e => hm (.inl e.symm)))).1 e)
theorem Rd.set3 {L : Nat} (h : Rd w B s p) (hm : ¬ Mine w B L) (a b c : Value) : Rd (((w.setCell ⟨L, 0, none⟩ a).setCell ⟨L, 1, none⟩ b).setCell ⟨L, 2, none⟩ c) B s p :=
  ((h.setOther hm a).setOther (notMine_set hm _ _) b).setOther (notMine_set (notMine_set hm _ _) _ _) c

/-- Behind 'e.sign = sign{..}'. -/
structure BeCut (w wc : World) (B : Nat) (s : ByteArray) (p : St) (c : Int) (a : Nat) : Prop where
  rd : RdN wc B s p w.heap.size
  b0 : B3 wc w.heap.size (.int .u8 0) (.int .i64 0) (.int .i64 0)
  b1 : B3 wc (w.heap.size + 1) (.int .u8 c) (.int .i64 p.pos) (.int .i64 a)
  fr : Fr B w wc

theorem beCut_mk (h : Rd w B s p) (c : Int) (a k : Nat) (t : TypeId) : BeCut w (((((w.alloc (.cells #[.int .u8 0, .int .i64 0, .int .i64 0] t)).alloc (.cells #[.int .u8 0, .int .i64 0, .int .i64 (a : Int)] t)).drewN k).setCell ⟨w.heap.size + 1, 0, none⟩ (.int .u8 c)).setCell ⟨w.heap.size + 1, 1, none⟩ (.int .i64 p.pos)) B s p c a := by
  have hB := h.lt
  refine ⟨(by repeat (first | with_reducible exact Rd.n h | with_reducible refine RdN.drewN ?_ _ | with_reducible refine RdN.drew ?_ | with_reducible refine RdN.setL ?_ (by simp) _ _ | with_reducible refine RdN.allocL ?_ (by simp; try omega) _ | with_reducible refine RdN.setPos ?_ _ _ (by go_num))), ⟨?_, ?_, ?_, ?_⟩, ⟨?_, ?_, ?_, ?_⟩, (by repeat (first | with_reducible exact Fr.refl _ _ | with_reducible refine Fr.drewN ?_ _ | with_reducible refine Fr.drew ?_ | with_reducible refine Fr.setPos ?_ _ | with_reducible refine Fr.setL ?_ (by simp) hB _ _ | with_reducible refine Fr.allocL ?_ hB _))⟩
  · simp [go_sem]
  · simp [go_sem]
  · simp [go_sem]
  · intro i; simp [go_sem]
  · simp [go_sem]
  · simp [go_sem]
  · simp [go_sem]
  · intro i; simp [go_sem]

set_option maxHeartbeats 1000000 in
theorem bondEnd_sign (h : Rd w B s p) (hs : s.size ≤ 160) (hp : p.pos ≤ s.size) (a : Nat) (ha : a < p.atoms.length) (_hn : p.atoms.length ≤ 24) (hc : isSign (byteAt s p.pos) = true) :
    Calls Tryz.prog 133 #[.pointer (some ⟨B, 0, none⟩), .int .i64 a] w (BePost w B s (bondEnd s a p)) := by
  have hB := h.lt
  have HR : Hid (bondEnd s a p = if byteAt s p.pos = 58 ∧ aro p a = false then .error (3, (p.pos : Int)) else .ok (⟨byteAt s p.pos, p.pos, a⟩, { p with pos := p.pos + 1 })) := by unfold Hid bondEnd; simp only [hc, if_true]
  have HS := isSign_any (byteAt s p.pos)
  rw [hc] at HS
  have HS' : Hid _ := HS
  have hq := h.pos
  clear HS hc
  generalize hcc : byteAt s p.pos = c at *
  have HP : ∀ w, Rd w B s p → Calls Tryz.prog 80 #[.pointer (some ⟨B, 0, none⟩), .int .i64 0] w fun e w' => e = .returned (.int .u8 c) ∧ ∃ k, w' = w.drewN k := by
    intro w h
    have := peek0 h hs hp
    rw [hcc] at this
    exact this
  have HP' : Hid _ := HP
  clear HP hcc
  go_enter Tryz.func133, Tryz.ntmps133
  go_wp2_with fail
  refine (HP'.out _ ((h.alloc _).alloc _)).mono ?_
  rintro e w1 ⟨rfl, k, rfl⟩
  go_wp2_with fail
  refine (HS'.out _).mono ?_
  rintro e w1 ⟨rfl, rfl⟩
  go_upto_region 4 with fail
  go_cut [] (fun wc => BeCut w wc B s p c a)
  case first =>
    go_region_with (go_at_call 80; refine (HP'.out _ (((h.alloc _).alloc _).drewN _)).mono ?_; rintro e w1 ⟨rfl, k1, rfl⟩)
    all_goals
      go_wp2_with fail
      go_meet
      case rel => exact beCut_mk h c a _ _
  case rest =>
    have hq1 := hcut.rd.rd.pos
    have hz1 := hcut.rd.rd.free 1
    obtain ⟨g, cap, h26, hg, hBg, hgl⟩ := hcut.rd.rd.aroCell a ha
    have ha' : (a : Int) < (p.atoms.length : Int) := by omega
    have n0 : ¬ Mine wc B w.heap.size := fun e => Nat.lt_irrefl _ (hcut.rd.mine _ e)
    have n1 : ¬ Mine wc B (w.heap.size + 1) := fun e => by have := hcut.rd.mine _ e; omega
    have hgw : g < w.heap.size := hcut.rd.mine g (.inr (.inl ⟨_, h26, rfl⟩))
    have d0 := hcut.b0.c0
    have d1 := hcut.b0.c1
    have d2 := hcut.b0.c2
    have e0 := hcut.b1.c0
    have e1 := hcut.b1.c1
    have e2 := hcut.b1.c2
    have fd0 := hcut.b0.fz 0
    have fd1 := hcut.b0.fz 1
    have fd2 := hcut.b0.fz 2
    have r1 := hcut.rd.setPos (p.pos + 1) (.int .i64 ((p.pos : Int) + 1)) (by go_num)
    have hf1 := hcut.fr.setPos (.int .i64 ((p.pos : Int) + 1))
    have HLB : w.heap.size ≠ B := by omega
    have HLB' : w.heap.size + 1 ≠ B := by omega
    by_cases h58 : c = 58
    · subst h58
      cases har : aro p a
      · rw [har] at hg HR
        simp only [and_self, if_true] at HR
        clear har
        have b0' := hcut.b0.setB HLB 1 (.int .i64 ((p.pos : Int) + 1))
        have b1' := hcut.b1.setB HLB' 1 (.int .i64 ((p.pos : Int) + 1))
        have n0' : ¬ Mine (wc.setCell ⟨B, 1, none⟩ (.int .i64 ((p.pos : Int) + 1))) B w.heap.size := fun e => Nat.lt_irrefl _ (r1.mine _ e)
        have n1' : ¬ Mine (wc.setCell ⟨B, 1, none⟩ (.int .i64 ((p.pos : Int) + 1))) B (w.heap.size + 1) := fun e => by have := r1.mine _ e; omega
        have hfa := fail_any r1.rd.drew 3 (p.pos : Int)
        go_wp2_with fail
        go_region_with (go_at_call 57; refine hfa.mono ?_; rintro e w' ⟨rfl, hw, hf6⟩; have x0 := B3.fr b0'.drew hf6 n0'; have x1 := B3.fr b1'.drew hf6 n1'; have a0 := x0.c0; have a1 := x0.c1; have a2 := x0.c2; have g0 := x0.fz 0; have g1 := x0.fz 1; have g2 := x0.fz 2; have i0 := x1.c0; have i1 := x1.c1; have i2 := x1.c2)
        all_goals
          go_wp2_with fail
          obtain ⟨q0, q1, q2⟩ := x0.stored (.int .u8 58) (.int .i64 p.pos) (.int .i64 a)
          refine bodyPost_ret (v := .tuple #[.agg #[.int .u8 58, .int .i64 p.pos, .int .i64 a], .bool false]) (by simp [results, Tryz.results133, go_sem, q0, q1, q2]) rfl ?_
          exact BePost.error (g := ⟨58, p.pos, a⟩) HR.out rfl (((hw.setL HLB _ _).setL HLB _ _).setL HLB _ _) (((((hf1.drew).trans hf6).setL (Nat.le_refl _) hB _ _).setL (Nat.le_refl _) hB _ _).setL (Nat.le_refl _) hB _ _)
      · rw [har] at hg HR
        simp only [Bool.true_eq_false, and_false, if_false] at HR
        clear har
        go_wp2_with fail
        obtain ⟨q0, q1, q2⟩ := (hcut.b0.setB HLB 1 (.int .i64 ((p.pos : Int) + 1))).stored (.int .u8 58) (.int .i64 p.pos) (.int .i64 a)
        refine bodyPost_ret (v := .tuple #[.agg #[.int .u8 58, .int .i64 p.pos, .int .i64 a], .bool true]) (by simp [results, Tryz.results133, go_sem, q0, q1, q2]) rfl ?_
        refine BePost.ok HR.out rfl ((((r1.setL (Nat.le_refl _) _ _).setL (Nat.le_refl _) _ _).setL (Nat.le_refl _) _ _).rd) ((((hf1.setL (Nat.le_refl _) hB _ _).setL (Nat.le_refl _) hB _ _).setL (Nat.le_refl _) hB _ _))
    · have t58 : (c == 58) = false := by simpa using h58
      rw [if_neg (by simp [h58])] at HR
      clear h58
      go_wp2_with fail
      obtain ⟨q0, q1, q2⟩ := (hcut.b0.setB HLB 1 (.int .i64 ((p.pos : Int) + 1))).stored (.int .u8 c) (.int .i64 p.pos) (.int .i64 a)
      refine bodyPost_ret (v := .tuple #[.agg #[.int .u8 c, .int .i64 p.pos, .int .i64 a], .bool true]) (by simp [results, Tryz.results133, go_sem, q0, q1, q2]) rfl ?_
      refine BePost.ok HR.out rfl ((((r1.setL (Nat.le_refl _) _ _).setL (Nat.le_refl _) _ _).setL (Nat.le_refl _) _ _).rd) ((((hf1.setL (Nat.le_refl _) hB _ _).setL (Nat.le_refl _) hB _ _).setL (Nat.le_refl _) hB _ _))

theorem bondEnd_any (h : Rd w B s p) (hs : s.size ≤ 160) (hp : p.pos ≤ s.size) (a : Nat) (ha : a < p.atoms.length) (hn : p.atoms.length ≤ 24) :
    Calls Tryz.prog 133 #[.pointer (some ⟨B, 0, none⟩), .int .i64 a] w (BePost w B s (bondEnd s a p)) := by
  cases hc : isSign (byteAt s p.pos)
  · exact bondEnd_none h hs hp a hc
  · exact bondEnd_sign h hs hp a ha hn hc
end
section
variable {w : World} {B : Nat} {s : ByteArray} {p : St}
theorem b3_new (w : World) (x y z : Value) (t : TypeId) : B3 (w.alloc (.cells #[x, y, z] t)) w.heap.size x y z := ⟨by simp, by simp, by simp, by simp⟩

set_option maxHeartbeats 1000000 in
theorem link_any (h : Rd w B s p) (hs : s.size ≤ 160) (hp : p.pos ≤ s.size) (a : Nat) (ha : a < p.atoms.length) (hn : p.atoms.length ≤ 24) :
    Calls Tryz.prog 107 #[.pointer (some ⟨B, 0, none⟩), .int .i64 a] w (BePost w B s (link s a p)) := by
  have hB := h.lt
  have HLB : w.heap.size ≠ B := by omega
  have b0 := b3_new w (.int .u8 0) (.int .i64 0) (.int .i64 0) 92
  have n0 := h.notMine (.cells #[.int .u8 0, .int .i64 0, .int .i64 0] 92)
  have hT := take1 (h.alloc (.cells #[.int .u8 0, .int .i64 0, .int .i64 0] 92)) hs hp 46 46 rfl (by decide)
  by_cases h46 : byteAt s p.pos = 46
  · have HR : Hid (link s a p = .ok (⟨0, 0, -1⟩, { p with pos := p.pos + 1 })) := by unfold Hid link; rw [if_pos h46]
    simp only [h46, if_true, BEq.rfl] at hT
    clear h46
    go_enter Tryz.func107, Tryz.ntmps107
    go_wp2_with fail
    refine hT.mono ?_
    rintro e w1 ⟨rfl, hr1, hf1⟩
    have x0 := b0.fr hf1 n0
    have a0 := x0.c0
    have a1 := x0.c1
    have a2 := x0.c2
    have g0 := x0.fz 0
    have g1 := x0.fz 1
    have g2 := x0.fz 2
    have m1 := hf1.notMine (by simp) n0
    obtain ⟨q0, q1, q2⟩ := x0.stored (.int .u8 0) (.int .i64 0) (.int .i64 (-1))
    go_wp2_with fail
    refine bodyPost_ret (v := .tuple #[.agg #[.int .u8 0, .int .i64 0, .int .i64 (-1)], .bool true]) (by simp [results, Tryz.results107, go_sem, q0, q1, q2]) rfl ?_
    refine BePost.ok HR.out rfl (hr1.set3 m1 _ _ _) ((((((Fr.refl B w).allocL hB _).trans hf1).setL (Nat.le_refl _) hB _ _).setL (Nat.le_refl _) hB _ _).setL (Nat.le_refl _) hB _ _)
  · have t46 : (byteAt s p.pos == 46) = false := by simpa using h46
    have HR : Hid (link s a p = bondEnd s a p) := by unfold Hid link; rw [if_neg h46]
    simp only [h46, t46, if_false] at hT
    clear h46 t46
    go_enter Tryz.func107, Tryz.ntmps107
    go_wp2_with fail
    refine hT.mono ?_
    rintro e w1 ⟨rfl, hr1, hf1⟩
    have x0 := b0.fr hf1 n0
    have m1 := hf1.notMine (by simp) n0
    have hBE := bondEnd_any hr1 hs hp a ha hn
    go_wp2_with fail
    refine hBE.mono ?_
    rintro e w2 ⟨hm, hf2⟩
    have x2 := x0.fr hf2 m1
    have m2 := hf2.notMine x0.lt m1
    have a0 := x2.c0
    have a1 := x2.c1
    have a2 := x2.c2
    have g0 := x2.fz 0
    have g1 := x2.fz 1
    have g2 := x2.fz 2
    cases hbe : bondEnd s a p with
    | ok x =>
      rw [hbe] at hm HR
      obtain ⟨rfl, hr2⟩ := hm
      obtain ⟨q0, q1, q2⟩ := x2.stored (.int .u8 x.1.mark) (.int .i64 x.1.spot) (.int .i64 x.1.atom)
      clear hbe
      unfold hungV
      go_wp2_with fail
      refine bodyPost_ret (v := .tuple #[.agg #[.int .u8 x.1.mark, .int .i64 x.1.spot, .int .i64 x.1.atom], .bool true]) (by simp [results, Tryz.results107, go_sem, q0, q1, q2]) rfl ?_
      refine BePost.ok (g := x.1) (q := x.2) HR.out rfl (hr2.set3 m2 _ _ _) (((((((Fr.refl B w).allocL hB _).trans hf1).trans hf2).setL (Nat.le_refl _) hB _ _).setL (Nat.le_refl _) hB _ _).setL (Nat.le_refl _) hB _ _)
    | error er =>
      rw [hbe] at hm HR
      obtain ⟨⟨g, rfl⟩, hw2⟩ := hm
      obtain ⟨q0, q1, q2⟩ := x2.stored (.int .u8 g.mark) (.int .i64 g.spot) (.int .i64 g.atom)
      clear hbe
      unfold hungV
      go_wp2_with fail
      refine bodyPost_ret (v := .tuple #[.agg #[.int .u8 g.mark, .int .i64 g.spot, .int .i64 g.atom], .bool false]) (by simp [results, Tryz.results107, go_sem, q0, q1, q2]) rfl ?_
      refine BePost.error (g := g) HR.out rfl (((hw2.setL HLB _ _).setL HLB _ _).setL HLB _ _) (((((((Fr.refl B w).allocL hB _).trans hf1).trans hf2).setL (Nat.le_refl _) hB _ _).setL (Nat.le_refl _) hB _ _).setL (Nat.le_refl _) hB _ _)

set_option maxHeartbeats 1000000 in
theorem ringAhead_any (h : Rd w B s p) (hs : s.size ≤ 160) (hp : p.pos ≤ s.size) :
    Calls Tryz.prog 103 #[.pointer (some ⟨B, 0, none⟩)] w fun e w' => e = .returned (.bool (ringAhead s p)) ∧ ∃ k, w' = w.drewN k := by
  cases hc : isSign (byteAt s p.pos)
  · have HR : Hid (ringAhead s p = startsRing (byteAt s p.pos)) := by unfold Hid ringAhead; rw [hc]; rfl
    have HS := isSign_any (byteAt s p.pos)
    rw [hc] at HS
    have HS' : Hid _ := HS
    clear HS hc
    go_enter Tryz.func103, Tryz.ntmps103
    go_wp2_with fail
    refine (peek0 h hs hp).mono ?_
    rintro e w1 ⟨rfl, k, rfl⟩
    go_wp2_with fail
    refine (HS'.out _).mono ?_
    rintro e w1 ⟨rfl, rfl⟩
    go_wp2_with fail
    refine (peek0 (h.drewN k) hs hp).mono ?_
    rintro e w1 ⟨rfl, k1, rfl⟩
    go_wp2_with fail
    refine (startsRing_any _ _).mono ?_
    rintro e w1 ⟨rfl, rfl⟩
    go_wp2_with fail
    go_ret
    exact ⟨ret_bool HR.out.symm, _, rfl⟩
  · have HR : Hid (ringAhead s p = startsRing (byteAt s (p.pos + 1))) := by unfold Hid ringAhead; rw [hc]; rfl
    have HS := isSign_any (byteAt s p.pos)
    rw [hc] at HS
    have HS' : Hid _ := HS
    clear HS hc
    go_enter Tryz.func103, Tryz.ntmps103
    go_wp2_with fail
    refine (peek0 h hs hp).mono ?_
    rintro e w1 ⟨rfl, k, rfl⟩
    go_wp2_with fail
    refine (HS'.out _).mono ?_
    rintro e w1 ⟨rfl, rfl⟩
    go_wp2_with fail
    refine (peek1 (h.drewN k) hs hp).mono ?_
    rintro e w1 ⟨rfl, k1, rfl⟩
    go_wp2_with fail
    refine (startsRing_any _ _).mono ?_
    rintro e w1 ⟨rfl, rfl⟩
    go_wp2_with fail
    go_ret
    exact ⟨ret_bool HR.out.symm, _, rfl⟩
end
section
variable {w : World} {B : Nat} {s : ByteArray} {p : St}
def RnPost (w : World) (B : Nat) (s : ByteArray) (p : St) (e : Ending) (w' : World) : Prop :=
  (match ringNumber s p.pos with
  | .ok x => e = .returned (.tuple #[.int .i64 x.1, .bool true]) ∧ Rd w' B s { p with pos := x.2 }
  | .error er => ∃ (v : Int) (j : Nat), e = .returned (.tuple #[.int .i64 v, .bool false]) ∧ Rd w' B s { p with pos := j } ∧ er = (2, (j : Int)) ∧ j ≤ s.size) ∧ Fr B w w'

theorem RnPost.ok {w w' : World} {e : Ending} {n j : Nat} (hr : ringNumber s p.pos = .ok (n, j)) (he : e = .returned (.tuple #[.int .i64 n, .bool true])) (h1 : Rd w' B s { p with pos := j }) (h2 : Fr B w w') : RnPost w B s p e w' := by
  unfold RnPost; rw [hr]; exact ⟨⟨he, h1⟩, h2⟩
theorem RnPost.error {w w' : World} {e : Ending} {v : Int} {j : Nat} (hr : ringNumber s p.pos = .error (2, (j : Int))) (he : e = .returned (.tuple #[.int .i64 v, .bool false])) (h1 : Rd w' B s { p with pos := j }) (hj : j ≤ s.size) (h2 : Fr B w w') : RnPost w B s p e w' := by
  unfold RnPost; rw [hr]; exact ⟨⟨v, j, he, h1, rfl, hj⟩, h2⟩

theorem isDigit_iff (c : Int) : isDigit c = true ↔ 48 ≤ c ∧ c ≤ 57 := by simp [isDigit]

/-- One digit. -/
theorem digit_yes {q : St} (h : Rd w B s q) (hs : s.size ≤ 160) (hp : q.pos ≤ s.size) (hd : 48 ≤ byteAt s q.pos ∧ byteAt s q.pos ≤ 57) :
    Calls Tryz.prog 152 #[.pointer (some ⟨B, 0, none⟩), .int .u8 48, .int .u8 57] w fun e w' => e = .returned (.tuple #[.int .i64 (byteAt s q.pos - 48), .bool true]) ∧ Rd w' B s { q with pos := q.pos + 1 } ∧ Fr B w w' := by
  have := digit_any h hs hp 48 57 (by decide)
  rw [if_pos hd, if_pos hd] at this
  exact this
theorem digit_no {q : St} (h : Rd w B s q) (hs : s.size ≤ 160) (hp : q.pos ≤ s.size) (hd : ¬ (48 ≤ byteAt s q.pos ∧ byteAt s q.pos ≤ 57)) :
    Calls Tryz.prog 152 #[.pointer (some ⟨B, 0, none⟩), .int .u8 48, .int .u8 57] w fun e w' => e = .returned (.tuple #[.int .i64 0, .bool false]) ∧ Rd w' B s q ∧ Fr B w w' := by
  have := digit_any h hs hp 48 57 (by decide)
  rw [if_neg hd, if_neg hd] at this
  exact this

theorem digit_lt {s : ByteArray} {i : Nat} (hd : 48 ≤ byteAt s i ∧ byteAt s i ≤ 57) : i < s.size := lt_of_byteAt (by omega)

theorem ret_pair {a b : Int} {c : Bool} (h : a = b) : Ending.returned (.tuple #[.int .i64 a, .bool c]) = .returned (.tuple #[.int .i64 b, .bool c]) := by rw [h]

set_option maxHeartbeats 1000000 in
theorem ringNumber_any (h : Rd w B s p) (hs : s.size ≤ 160) (hp : p.pos ≤ s.size) :
    Calls Tryz.prog 134 #[.pointer (some ⟨B, 0, none⟩)] w (RnPost w B s p) := by
  have hT := take1 h hs hp 37 37 rfl (by decide)
  by_cases h37 : byteAt s p.pos = 37
  · have hlt := byte_lt h37 (by decide)
    simp only [h37, if_true, BEq.rfl] at hT
    by_cases hd : 48 ≤ byteAt s (p.pos + 1) ∧ byteAt s (p.pos + 1) ≤ 57
    · have hlt1 := digit_lt hd
      by_cases hd2 : 48 ≤ byteAt s (p.pos + 2) ∧ byteAt s (p.pos + 2) ≤ 57
      · have HR : Hid (ringNumber s p.pos = .ok ((10 * (byteAt s (p.pos + 1) - 48) + (byteAt s (p.pos + 2) - 48)).toNat, p.pos + 3)) := by
          unfold Hid ringNumber; rw [if_pos h37, if_pos ((isDigit_iff _).2 hd), if_pos ((isDigit_iff _).2 hd2)]
        have k1 := hd.1
        have k2 := hd.2
        have k3 : 48 ≤ byteAt s (p.pos + 1 + 1) := hd2.1
        have k4 : byteAt s (p.pos + 1 + 1) ≤ 57 := hd2.2
        clear h37
        go_enter Tryz.func134, Tryz.ntmps134
        go_wp2_with fail
        refine hT.mono ?_
        rintro e w1 ⟨rfl, hr1, hf1⟩
        go_wp2_with fail
        refine (digit_yes hr1 hs (by show p.pos + 1 ≤ s.size; omega) hd).mono ?_
        rintro e w2 ⟨rfl, hr2, hf2⟩
        clear hd hT
        simp only at hr2
        go_wp2_with fail
        refine (digit_yes hr2 hs (by show p.pos + 1 + 1 ≤ s.size; omega) hd2).mono ?_
        rintro e w3 ⟨rfl, hr3, hf3⟩
        clear hd2
        simp only at hr3
        go_wp2_with fail
        go_ret2
        exact RnPost.ok HR.out (ret_pair (by show 10 * (byteAt s (p.pos + 1) - 48) + (byteAt s (p.pos + 1 + 1) - 48) = ((10 * (byteAt s (p.pos + 1) - 48) + (byteAt s (p.pos + 1 + 1) - 48)).toNat : Int); rw [Int.toNat_of_nonneg (by omega)])) hr3 ((hf1.trans hf2).trans hf3)
      · have HR : Hid (ringNumber s p.pos = .error (2, ((p.pos + 2 : Nat) : Int))) := by
          unfold Hid ringNumber; rw [if_pos h37, if_pos ((isDigit_iff _).2 hd), if_neg (fun e => hd2 ((isDigit_iff _).1 e))]; rfl
        have k1 := hd.1
        have k2 := hd.2
        clear h37
        go_enter Tryz.func134, Tryz.ntmps134
        go_wp2_with fail
        refine hT.mono ?_
        rintro e w1 ⟨rfl, hr1, hf1⟩
        go_wp2_with fail
        refine (digit_yes hr1 hs (by show p.pos + 1 ≤ s.size; omega) hd).mono ?_
        rintro e w2 ⟨rfl, hr2, hf2⟩
        clear hd hT
        simp only at hr2
        go_wp2_with fail
        refine (digit_no hr2 hs (by show p.pos + 1 + 1 ≤ s.size; omega) hd2).mono ?_
        rintro e w3 ⟨rfl, hr3, hf3⟩
        clear hd2
        go_wp2_with fail
        go_ret2
        exact RnPost.error HR.out rfl hr3 (by omega) ((hf1.trans hf2).trans hf3)
    · have HR : Hid (ringNumber s p.pos = .error (2, ((p.pos + 1 : Nat) : Int))) := by
        unfold Hid ringNumber; rw [if_pos h37, if_neg (fun e => hd ((isDigit_iff _).1 e))]; rfl
      clear h37
      go_enter Tryz.func134, Tryz.ntmps134
      go_wp2_with fail
      refine hT.mono ?_
      rintro e w1 ⟨rfl, hr1, hf1⟩
      go_wp2_with fail
      refine (digit_no hr1 hs (by show p.pos + 1 ≤ s.size; omega) hd).mono ?_
      rintro e w2 ⟨rfl, hr2, hf2⟩
      clear hd hT
      go_wp2_with fail
      go_ret2
      exact RnPost.error HR.out rfl hr2 (by omega) (hf1.trans hf2)
  · have t37 : (byteAt s p.pos == 37) = false := by simpa using h37
    simp only [h37, t37, if_false] at hT
    by_cases hd : 48 ≤ byteAt s p.pos ∧ byteAt s p.pos ≤ 57
    · have HR : Hid (ringNumber s p.pos = .ok ((byteAt s p.pos - 48).toNat, p.pos + 1)) := by
        unfold Hid ringNumber; rw [if_neg h37, if_pos ((isDigit_iff _).2 hd)]
      have k1 := hd.1
      have k2 := hd.2
      clear h37 t37
      go_enter Tryz.func134, Tryz.ntmps134
      go_wp2_with fail
      refine hT.mono ?_
      rintro e w1 ⟨rfl, hr1, hf1⟩
      go_wp2_with fail
      refine (digit_yes hr1 hs hp hd).mono ?_
      rintro e w2 ⟨rfl, hr2, hf2⟩
      clear hd hT
      go_wp2_with fail
      go_ret2
      exact RnPost.ok HR.out (ret_pair (by rw [Int.toNat_of_nonneg (by omega)])) hr2 (hf1.trans hf2)
    · have HR : Hid (ringNumber s p.pos = .error (2, (p.pos : Int))) := by
        unfold Hid ringNumber; rw [if_neg h37, if_neg (fun e => hd ((isDigit_iff _).1 e))]
      clear h37 t37
      go_enter Tryz.func134, Tryz.ntmps134
      go_wp2_with fail
      refine hT.mono ?_
      rintro e w1 ⟨rfl, hr1, hf1⟩
      go_wp2_with fail
      refine (digit_no hr1 hs hp hd).mono ?_
      rintro e w2 ⟨rfl, hr2, hf2⟩
      clear hd hT
      go_wp2_with fail
      go_ret2
      exact RnPost.error HR.out rfl hr2 hp (hf1.trans hf2)
end
end Go.Proofs.YtcabaecbmkgclaaGreatDoor
