/-
  The document's reader beside the plain one; its lists made longer.
  The document's name.
-/
import Derived.Test.YtcabaecbmkgclaaGreatDoorP05
import Derived.Laws.BytesArg

namespace Go.Proofs.YtcabaecbmkgclaaGreatDoor
open Go.RowKit Bz

/-- The document's reader stands where the plain one stands. -/
structure RTie (s : ByteArray) (q : RSt) (p : St) : Prop where
  e : q.e = 0
  pos : q.pos = p.pos
  atoms : q.atoms = p.atoms
  bonds : q.bonds = p.bonds
  opens : ∀ n, (p.rings n).map (fun o => (o.hung.atom, o.place, o.hung.mark)) = (q.opens.find? (fun x => x.num == n)).map (fun x => ((x.atom : Int), x.place, x.sign))
  apart : q.opens.Pairwise (fun x y => x.num ≠ y.num)
  nums : ∀ x ∈ q.opens, x.num < 100 ∧ x.place < s.size
  count : q.opens.length ≤ p.pos
  chs : ∀ a ∈ p.atoms, (a.ch = 0 ∨ a.ch = 1 ∨ a.ch = -1) ∧ (a.br = false → a.ch = 0)

def RS (w : World) (B : Nat) (s : ByteArray) (p : St) : Prop := ∃ q, RRd w B s q ∧ RTie s q p

/-- Something is wrong: the document's reader says what, and where. -/
structure RErr (w : World) (B : Nat) (er : Int × Int) : Prop where
  nz : er.1 ≠ 0
  pos : ∃ x : Int, w.cell? ⟨B, 1, none⟩ = some (.int .i64 x)
  atoms : ∃ v n xs, w.cell? ⟨B, 2, none⟩ = some v ∧ w.ownsRow (B + 1) 50 4 v n xs
  err : w.cell? ⟨B, 7, none⟩ = some (.int .i64 er.1)
  plc : w.cell? ⟨B, 8, none⟩ = some (.int .i64 er.2)
  free : ∀ i, w.frozen? ⟨B, i, none⟩ = false

section
variable {w : World} {B : Nat} {s : ByteArray} {p : RSt}

theorem RRd.wrong (h : RRd w B s p) {er : Int × Int} (h1 : p.e = er.1) (h2 : p.place = er.2) (h0 : er.1 ≠ 0) : RErr w B er := by
  obtain ⟨v, hv, ho⟩ := h.atoms
  exact ⟨h0, ⟨_, h.pos⟩, ⟨v, _, _, hv, ho⟩, by rw [← h1]; exact h.err, by rw [← h2]; exact h.plc, h.free⟩

theorem RErr.lt {er : Int × Int} (h : RErr w B er) : B < w.heap.size := World.block_lt_of_cell? w ⟨B, 7, none⟩ h.err

theorem RErr.drewN {er : Int × Int} (h : RErr w B er) (n : Nat) : RErr (w.drewN n) B er := ⟨h.nz, h.pos, h.atoms, h.err, h.plc, h.free⟩

theorem RErr.setPos {er : Int × Int} (h : RErr w B er) (x : Int) : RErr (w.setCell ⟨B, 1, none⟩ (.int .i64 x)) B er := by
  obtain ⟨y, hy⟩ := h.pos
  obtain ⟨v, n, xs, hv, ho⟩ := h.atoms
  exact ⟨h.nz, ⟨x, World.cell?_setCell_same w _ _ hy⟩, ⟨v, n, xs, by rw [cell_set_ne (by omega)]; exact hv, ownsRow_setB ho _ _⟩, by rw [cell_set_ne (by omega)]; exact h.err, by rw [cell_set_ne (by omega)]; exact h.plc, fun i => by rw [World.frozen?_setCell]; exact h.free i⟩

/-- The reader's lists, each by itself. -/
structure RL (w : World) (B : Nat) (s : ByteArray) (p : RSt) (la : List Atm) (lc : List Nat) (ld : List Bool) : Prop where
  text : w.cell? ⟨B, 0, none⟩ = some (.string s)
  pos : w.cell? ⟨B, 1, none⟩ = some (.int .i64 p.pos)
  atoms : ∃ v, w.cell? ⟨B, 2, none⟩ = some v ∧ w.ownsRow (B + 1) 50 4 v la.length (la.flatMap plainCells)
  bonds : ∃ v, w.cell? ⟨B, 3, none⟩ = some v ∧ w.ownsRow (B + 1) 46 3 v p.bonds.length (p.bonds.flatMap bndCells)
  ats : ∃ v, w.cell? ⟨B, 4, none⟩ = some v ∧ w.ownsRow (B + 1) 3 1 v lc.length (lc.map fun (a : Nat) => .int .i64 a)
  brs : ∃ v, w.cell? ⟨B, 5, none⟩ = some v ∧ w.ownsRow (B + 1) 4 1 v ld.length (ld.map fun a => .bool a)
  opens : ∃ v, w.cell? ⟨B, 6, none⟩ = some v ∧ w.ownsRow (B + 1) 166 4 v p.opens.length (p.opens.flatMap ropnCells)
  err : w.cell? ⟨B, 7, none⟩ = some (.int .i64 p.e)
  plc : w.cell? ⟨B, 8, none⟩ = some (.int .i64 p.place)
  free : ∀ i, w.frozen? ⟨B, i, none⟩ = false

theorem RRd.rl (h : RRd w B s p) : RL w B s p p.atoms (p.atoms.map (·.pl)) (p.atoms.map (·.br)) := by
  obtain ⟨vc, hc, oc⟩ := h.ats
  obtain ⟨vd, hd, od⟩ := h.brs
  refine ⟨h.text, h.pos, h.atoms, h.bonds, ⟨vc, hc, ?_⟩, ⟨vd, hd, ?_⟩, h.opens, h.err, h.plc, h.free⟩
  · rw [List.length_map, List.map_map]; exact oc
  · rw [List.length_map, List.map_map]; exact od

theorem RL.rrd (h : RL w B s p p.atoms (p.atoms.map (·.pl)) (p.atoms.map (·.br))) : RRd w B s p := by
  obtain ⟨vc, hc, oc⟩ := h.ats
  obtain ⟨vd, hd, od⟩ := h.brs
  rw [List.length_map, List.map_map] at oc od
  exact ⟨h.text, h.pos, h.atoms, h.bonds, ⟨vc, hc, oc⟩, ⟨vd, hd, od⟩, h.opens, h.err, h.plc, h.free⟩

theorem RL.lt {la : List Atm} {lc : List Nat} {ld : List Bool} (h : RL w B s p la lc ld) : B < w.heap.size := World.block_lt_of_cell? w ⟨B, 0, none⟩ h.text

theorem RL.row {la : List Atm} {lc : List Nat} {ld : List Bool} (h : RL w B s p la lc ld) (j : Nat) (h2 : 2 ≤ j) (h6 : j ≤ 6) : ∃ v t z n xs, w.cell? ⟨B, j, none⟩ = some v ∧ w.ownsRow (B + 1) t z v n xs := by
  rcases (by omega : j = 2 ∨ j = 3 ∨ j = 4 ∨ j = 5 ∨ j = 6) with rfl | rfl | rfl | rfl | rfl
  · obtain ⟨v, a, b⟩ := h.atoms; exact ⟨v, _, _, _, _, a, b⟩
  · obtain ⟨v, a, b⟩ := h.bonds; exact ⟨v, _, _, _, _, a, b⟩
  · obtain ⟨v, a, b⟩ := h.ats; exact ⟨v, _, _, _, _, a, b⟩
  · obtain ⟨v, a, b⟩ := h.brs; exact ⟨v, _, _, _, _, a, b⟩
  · obtain ⟨v, a, b⟩ := h.opens; exact ⟨v, _, _, _, _, a, b⟩

theorem RL.mine {la : List Atm} {lc : List Nat} {ld : List Bool} (h : RL w B s p la lc ld) {k : Nat} (hk : RMine w B k) : B ≤ k ∧ k < w.heap.size := by
  rcases hk with rfl | ⟨j, v, h2, h6, hv, hk⟩
  · exact ⟨Nat.le_refl _, h.lt⟩
  · obtain ⟨v', t, z, n, xs, hv', ho⟩ := h.row j h2 h6
    rw [hv] at hv'; cases hv'
    have := ho.lt k hk
    omega

theorem RL.same {la : List Atm} {lc : List Nat} {ld : List Bool} {w' : World} (h : RL w B s p la lc ld) (hs : ∀ k, RMine w B k → w'.heap[k]? = w.heap[k]?) : RL w' B s p la lc ld := by
  have hB := hs B (.inl rfl)
  have hc : ∀ i, w'.cell? ⟨B, i, none⟩ = w.cell? ⟨B, i, none⟩ := fun i => World.cell?_of_block (w := w) hB
  have hf : ∀ i, w'.frozen? ⟨B, i, none⟩ = w.frozen? ⟨B, i, none⟩ := fun i => World.frozen?_of_block (w := w) hB
  obtain ⟨va, ha, oa⟩ := h.atoms
  obtain ⟨vb, hb, ob⟩ := h.bonds
  obtain ⟨vc, hcc, oc⟩ := h.ats
  obtain ⟨vd, hd, od⟩ := h.brs
  obtain ⟨ve, he, oe⟩ := h.opens
  exact ⟨by rw [hc]; exact h.text, by rw [hc]; exact h.pos,
    ⟨va, by rw [hc]; exact ha, ownsRow_same oa fun k hk => hs k (.inr ⟨2, va, by omega, by omega, ha, hk⟩)⟩,
    ⟨vb, by rw [hc]; exact hb, ownsRow_same ob fun k hk => hs k (.inr ⟨3, vb, by omega, by omega, hb, hk⟩)⟩,
    ⟨vc, by rw [hc]; exact hcc, ownsRow_same oc fun k hk => hs k (.inr ⟨4, vc, by omega, by omega, hcc, hk⟩)⟩,
    ⟨vd, by rw [hc]; exact hd, ownsRow_same od fun k hk => hs k (.inr ⟨5, vd, by omega, by omega, hd, hk⟩)⟩,
    ⟨ve, by rw [hc]; exact he, ownsRow_same oe fun k hk => hs k (.inr ⟨6, ve, by omega, by omega, he, hk⟩)⟩,
    by rw [hc]; exact h.err, by rw [hc]; exact h.plc, fun i => by rw [hf]; exact h.free i⟩

theorem RL.drewN {la : List Atm} {lc : List Nat} {ld : List Bool} (h : RL w B s p la lc ld) (n : Nat) : RL (w.drewN n) B s p la lc ld := h.same fun _ _ => rfl
theorem RL.drew {la : List Atm} {lc : List Nat} {ld : List Bool} (h : RL w B s p la lc ld) : RL w.drew B s p la lc ld := h.same fun _ _ => rfl
theorem RL.alloc {la : List Atm} {lc : List Nat} {ld : List Bool} (h : RL w B s p la lc ld) (o : Obj) : RL (w.alloc o) B s p la lc ld := h.same fun k hk => heap_alloc_lt w o k (h.mine hk).2

/-- What a longer list leaves: the block's cells, and the frame. -/
theorem RL.grew {la : List Atm} {lc : List Nat} {ld : List Bool} {w2 : World} (h : RL w B s p la lc ld) {j : Nat} (h2 : 2 ≤ j) (h6 : j ≤ 6) {av : Value} (hav : w.cell? ⟨B, j, none⟩ = some av) (v' : Value) (hg : w.grownBy w2 av.ownBlock)
    (hv : ∀ k, v'.ownBlock = some k → av.ownBlock = some k ∨ w.heap.size ≤ k) :
    (∀ i, w2.cell? ⟨B, i, none⟩ = w.cell? ⟨B, i, none⟩) ∧ (∀ i, w2.frozen? ⟨B, i, none⟩ = false) ∧ RFr B w (w2.setCell ⟨B, j, none⟩ v') := by
  obtain ⟨v0, t, z, n, xs, hv0, o0⟩ := h.row j h2 h6
  rw [hav] at hv0
  cases hv0
  have hB : w2.heap[B]? = w.heap[B]? := hg.block B h.lt (fun e => by have := (o0.lt B e.symm).1; omega)
  have hc : ∀ i, w2.cell? ⟨B, i, none⟩ = w.cell? ⟨B, i, none⟩ := fun i => World.cell?_of_block (w := w) hB
  refine ⟨hc, fun i => by rw [World.frozen?_of_block (w := w) hB]; exact h.free i, ⟨hg.os, hg.tape, hg.output, by simpa using hg.size, ?_, ?_⟩⟩
  · intro k hk hm
    rw [Below.heap_setCell w2 _ _ k (by rintro rfl; exact hm (.inl rfl))]
    exact hg.block k hk (fun e => hm (.inr ⟨j, av, h2, h6, hav, e.symm⟩))
  · intro k hk hm
    rcases hm with rfl | ⟨i, v, i2, i6, hv1, hv2⟩
    · exact .inl rfl
    · by_cases e : i = j
      · subst e
        rw [World.cell?_setCell_same w2 _ _ (by rw [hc]; exact hav)] at hv1
        cases hv1
        rcases hv k hv2 with e | e
        · exact .inr ⟨i, av, i2, i6, hav, e⟩
        · omega
      · rw [cell_set_ne (by omega), hc] at hv1
        exact .inr ⟨i, v, i2, i6, hv1, hv2⟩

theorem ownsRow_other {w w2 : World} {B j : Nat} {t t' : TypeId} {z z' n n' : Nat} {v av v' : Value} {xs xs' : List Value} (o : w.ownsRow (B + 1) t z v n xs) (oa : w.ownsRow (B + 1) t' z' av n' xs') (he : t ≠ t') (hg : w.grownBy w2 av.ownBlock) : (w2.setCell ⟨B, j, none⟩ v').ownsRow (B + 1) t z v n xs :=
  ownsRow_setB (ownsRow_same o fun k hk => hg.block k (o.lt k hk).2 (fun e => ownBlock_ne o oa he k hk e.symm)) _ _

theorem RL.addAtom {la la' : List Atm} {lc : List Nat} {ld : List Bool} {w2 : World} (h : RL w B s p la lc ld) {av : Value} (hav : w.cell? ⟨B, 2, none⟩ = some av) (v' : Value)
    (hown : w2.ownsRow (B + 1) 50 4 v' la'.length (la'.flatMap plainCells)) (hg : w.grownBy w2 av.ownBlock) (hv : ∀ k, v'.ownBlock = some k → av.ownBlock = some k ∨ w.heap.size ≤ k) :
    RL (w2.setCell ⟨B, 2, none⟩ v') B s p la' lc ld ∧ RFr B w (w2.setCell ⟨B, 2, none⟩ v') := by
  obtain ⟨hc, hf, fr⟩ := h.grew (by omega) (by omega) hav v' hg hv
  obtain ⟨va, ha, oa⟩ := h.atoms
  obtain ⟨vb, hb, ob⟩ := h.bonds
  obtain ⟨vc, hcc, oc⟩ := h.ats
  obtain ⟨vd, hd, od⟩ := h.brs
  obtain ⟨ve, he, oe⟩ := h.opens
  rw [hav] at ha; cases ha
  refine ⟨⟨by rw [cell_set_ne (by omega), hc]; exact h.text, by rw [cell_set_ne (by omega), hc]; exact h.pos, ⟨v', World.cell?_setCell_same w2 _ _ (by rw [hc]; exact hav), ownsRow_setB hown _ _⟩,
    ⟨vb, by rw [cell_set_ne (by omega), hc]; exact hb, ownsRow_other ob oa (by decide) hg⟩, ⟨vc, by rw [cell_set_ne (by omega), hc]; exact hcc, ownsRow_other oc oa (by decide) hg⟩,
    ⟨vd, by rw [cell_set_ne (by omega), hc]; exact hd, ownsRow_other od oa (by decide) hg⟩, ⟨ve, by rw [cell_set_ne (by omega), hc]; exact he, ownsRow_other oe oa (by decide) hg⟩,
    by rw [cell_set_ne (by omega), hc]; exact h.err, by rw [cell_set_ne (by omega), hc]; exact h.plc, fun i => by rw [World.frozen?_setCell]; exact hf i⟩, fr⟩

theorem RL.addBond {la : List Atm} {lc : List Nat} {ld : List Bool} {w2 : World} (h : RL w B s p la lc ld) (lb : List Bnd) {av : Value} (hav : w.cell? ⟨B, 3, none⟩ = some av) (v' : Value)
    (hown : w2.ownsRow (B + 1) 46 3 v' lb.length (lb.flatMap bndCells)) (hg : w.grownBy w2 av.ownBlock) (hv : ∀ k, v'.ownBlock = some k → av.ownBlock = some k ∨ w.heap.size ≤ k) :
    RL (w2.setCell ⟨B, 3, none⟩ v') B s { p with bonds := lb } la lc ld ∧ RFr B w (w2.setCell ⟨B, 3, none⟩ v') := by
  obtain ⟨hc, hf, fr⟩ := h.grew (by omega) (by omega) hav v' hg hv
  obtain ⟨va, ha, oa⟩ := h.atoms
  obtain ⟨vb, hb, ob⟩ := h.bonds
  obtain ⟨vc, hcc, oc⟩ := h.ats
  obtain ⟨vd, hd, od⟩ := h.brs
  obtain ⟨ve, he, oe⟩ := h.opens
  rw [hav] at hb; cases hb
  refine ⟨⟨by rw [cell_set_ne (by omega), hc]; exact h.text, by rw [cell_set_ne (by omega), hc]; exact h.pos, ⟨va, by rw [cell_set_ne (by omega), hc]; exact ha, ownsRow_other oa ob (by decide) hg⟩,
    ⟨v', World.cell?_setCell_same w2 _ _ (by rw [hc]; exact hav), ownsRow_setB hown _ _⟩, ⟨vc, by rw [cell_set_ne (by omega), hc]; exact hcc, ownsRow_other oc ob (by decide) hg⟩,
    ⟨vd, by rw [cell_set_ne (by omega), hc]; exact hd, ownsRow_other od ob (by decide) hg⟩, ⟨ve, by rw [cell_set_ne (by omega), hc]; exact he, ownsRow_other oe ob (by decide) hg⟩,
    by rw [cell_set_ne (by omega), hc]; exact h.err, by rw [cell_set_ne (by omega), hc]; exact h.plc, fun i => by rw [World.frozen?_setCell]; exact hf i⟩, fr⟩

theorem RL.addAt {la : List Atm} {lc lc' : List Nat} {ld : List Bool} {w2 : World} (h : RL w B s p la lc ld) {av : Value} (hav : w.cell? ⟨B, 4, none⟩ = some av) (v' : Value)
    (hown : w2.ownsRow (B + 1) 3 1 v' lc'.length (lc'.map fun (a : Nat) => .int .i64 a)) (hg : w.grownBy w2 av.ownBlock) (hv : ∀ k, v'.ownBlock = some k → av.ownBlock = some k ∨ w.heap.size ≤ k) :
    RL (w2.setCell ⟨B, 4, none⟩ v') B s p la lc' ld ∧ RFr B w (w2.setCell ⟨B, 4, none⟩ v') := by
  obtain ⟨hc, hf, fr⟩ := h.grew (by omega) (by omega) hav v' hg hv
  obtain ⟨va, ha, oa⟩ := h.atoms
  obtain ⟨vb, hb, ob⟩ := h.bonds
  obtain ⟨vc, hcc, oc⟩ := h.ats
  obtain ⟨vd, hd, od⟩ := h.brs
  obtain ⟨ve, he, oe⟩ := h.opens
  rw [hav] at hcc; cases hcc
  refine ⟨⟨by rw [cell_set_ne (by omega), hc]; exact h.text, by rw [cell_set_ne (by omega), hc]; exact h.pos, ⟨va, by rw [cell_set_ne (by omega), hc]; exact ha, ownsRow_other oa oc (by decide) hg⟩,
    ⟨vb, by rw [cell_set_ne (by omega), hc]; exact hb, ownsRow_other ob oc (by decide) hg⟩, ⟨v', World.cell?_setCell_same w2 _ _ (by rw [hc]; exact hav), ownsRow_setB hown _ _⟩,
    ⟨vd, by rw [cell_set_ne (by omega), hc]; exact hd, ownsRow_other od oc (by decide) hg⟩, ⟨ve, by rw [cell_set_ne (by omega), hc]; exact he, ownsRow_other oe oc (by decide) hg⟩,
    by rw [cell_set_ne (by omega), hc]; exact h.err, by rw [cell_set_ne (by omega), hc]; exact h.plc, fun i => by rw [World.frozen?_setCell]; exact hf i⟩, fr⟩

theorem RL.addBr {la : List Atm} {lc : List Nat} {ld ld' : List Bool} {w2 : World} (h : RL w B s p la lc ld) {av : Value} (hav : w.cell? ⟨B, 5, none⟩ = some av) (v' : Value)
    (hown : w2.ownsRow (B + 1) 4 1 v' ld'.length (ld'.map fun a => .bool a)) (hg : w.grownBy w2 av.ownBlock) (hv : ∀ k, v'.ownBlock = some k → av.ownBlock = some k ∨ w.heap.size ≤ k) :
    RL (w2.setCell ⟨B, 5, none⟩ v') B s p la lc ld' ∧ RFr B w (w2.setCell ⟨B, 5, none⟩ v') := by
  obtain ⟨hc, hf, fr⟩ := h.grew (by omega) (by omega) hav v' hg hv
  obtain ⟨va, ha, oa⟩ := h.atoms
  obtain ⟨vb, hb, ob⟩ := h.bonds
  obtain ⟨vc, hcc, oc⟩ := h.ats
  obtain ⟨vd, hd, od⟩ := h.brs
  obtain ⟨ve, he, oe⟩ := h.opens
  rw [hav] at hd; cases hd
  refine ⟨⟨by rw [cell_set_ne (by omega), hc]; exact h.text, by rw [cell_set_ne (by omega), hc]; exact h.pos, ⟨va, by rw [cell_set_ne (by omega), hc]; exact ha, ownsRow_other oa od (by decide) hg⟩,
    ⟨vb, by rw [cell_set_ne (by omega), hc]; exact hb, ownsRow_other ob od (by decide) hg⟩, ⟨vc, by rw [cell_set_ne (by omega), hc]; exact hcc, ownsRow_other oc od (by decide) hg⟩,
    ⟨v', World.cell?_setCell_same w2 _ _ (by rw [hc]; exact hav), ownsRow_setB hown _ _⟩, ⟨ve, by rw [cell_set_ne (by omega), hc]; exact he, ownsRow_other oe od (by decide) hg⟩,
    by rw [cell_set_ne (by omega), hc]; exact h.err, by rw [cell_set_ne (by omega), hc]; exact h.plc, fun i => by rw [World.frozen?_setCell]; exact hf i⟩, fr⟩

theorem RL.addOpen {la : List Atm} {lc : List Nat} {ld : List Bool} {w2 : World} (h : RL w B s p la lc ld) (lo : List ROpn) {av : Value} (hav : w.cell? ⟨B, 6, none⟩ = some av) (v' : Value)
    (hown : w2.ownsRow (B + 1) 166 4 v' lo.length (lo.flatMap ropnCells)) (hg : w.grownBy w2 av.ownBlock) (hv : ∀ k, v'.ownBlock = some k → av.ownBlock = some k ∨ w.heap.size ≤ k) :
    RL (w2.setCell ⟨B, 6, none⟩ v') B s { p with opens := lo } la lc ld ∧ RFr B w (w2.setCell ⟨B, 6, none⟩ v') := by
  obtain ⟨hc, hf, fr⟩ := h.grew (by omega) (by omega) hav v' hg hv
  obtain ⟨va, ha, oa⟩ := h.atoms
  obtain ⟨vb, hb, ob⟩ := h.bonds
  obtain ⟨vc, hcc, oc⟩ := h.ats
  obtain ⟨vd, hd, od⟩ := h.brs
  obtain ⟨ve, he, oe⟩ := h.opens
  rw [hav] at he; cases he
  refine ⟨⟨by rw [cell_set_ne (by omega), hc]; exact h.text, by rw [cell_set_ne (by omega), hc]; exact h.pos, ⟨va, by rw [cell_set_ne (by omega), hc]; exact ha, ownsRow_other oa oe (by decide) hg⟩,
    ⟨vb, by rw [cell_set_ne (by omega), hc]; exact hb, ownsRow_other ob oe (by decide) hg⟩, ⟨vc, by rw [cell_set_ne (by omega), hc]; exact hcc, ownsRow_other oc oe (by decide) hg⟩,
    ⟨vd, by rw [cell_set_ne (by omega), hc]; exact hd, ownsRow_other od oe (by decide) hg⟩, ⟨v', World.cell?_setCell_same w2 _ _ (by rw [hc]; exact hav), ownsRow_setB hown _ _⟩,
    by rw [cell_set_ne (by omega), hc]; exact h.err, by rw [cell_set_ne (by omega), hc]; exact h.plc, fun i => by rw [World.frozen?_setCell]; exact hf i⟩, fr⟩

/-- The frame and the reader stand over a step that leaves all that was there. -/
theorem RFr.below {a w' : World} (h : RFr B a w) (hB : B < w.heap.size) (hb : Below w.heap.size w w') : RFr B a w' :=
  h.trans ⟨hb.os, hb.tape, hb.output, hb.size, fun k hk _ => hb.block k hk, fun _ _ hm => (RMine.same (hb.block B hB)).1 hm⟩
theorem RRd.below {w' : World} (h : RRd w B s p) (hb : Below w.heap.size w w') : RRd w' B s p := h.same fun k hk => hb.block k (h.mine hk).2
theorem RL.below {la : List Atm} {lc : List Nat} {ld : List Bool} {w' : World} (h : RL w B s p la lc ld) (hb : Below w.heap.size w w') : RL w' B s p la lc ld := h.same fun k hk => hb.block k (h.mine hk).2
theorem RL.setOther {la : List Atm} {lc : List Nat} {ld : List Bool} (h : RL w B s p la lc ld) {q : Addr} (hq : ¬ RMine w B q.block) (u : Value) : RL (w.setCell q u) B s p la lc ld :=
  h.same fun k hk => Below.heap_setCell w q u k (by rintro rfl; exact hq hk)
theorem RRd.notMineNew (h : RRd w B s p) {k : Nat} (hk : w.heap.size ≤ k) : ¬ RMine w B k := fun e => by have := (h.mine e).2; omega
end
end Go.Proofs.YtcabaecbmkgclaaGreatDoor

namespace Go.Proofs.YtcabaecbmkgclaaGreatDoor
open Go.RowKit Bz

/-- The element that is written at a place, or nothing. -/
def rname (s : ByteArray) (i : Nat) : ByteArray × Bool × Nat := match element s i with
  | some x => x
  | none => (⟨#[]⟩, false, 0)

def nameV (x : ByteArray × Bool × Nat) : Value := .tuple #[.string x.1, .bool x.2.1, .int .i64 x.2.2]

theorem bytes_ext {a b : ByteArray} (h : a.data.toList = b.data.toList) : a = b := by
  cases a; cases b; simp only at h; rw [Array.toList_inj.1 h]

theorem extract_toList (t : ByteArray) (n : Nat) : (t.extract 0 n).data.toList = t.data.toList.take n := by
  simp [ByteArray.data_extract, Array.toList_extract, List.extract_eq_take_drop]

theorem extract1 {t : ByteArray} (h : 0 < t.size) : t.extract 0 1 = one (byteAt t 0) := by
  apply bytes_ext
  rw [extract_toList]
  have := drop_one t 0 h
  rw [List.drop_zero] at this
  rw [this]
  rfl

theorem extract2 {t : ByteArray} (h : 1 < t.size) : (t.extract 0 2).data.toList = [(byteAt t 0).toNat.toUInt8, (byteAt t 1).toNat.toUInt8] := by
  rw [extract_toList]
  have h0 := drop_one t 0 (by omega)
  rw [List.drop_zero] at h0
  rw [h0, drop_one t 1 h]
  rfl

theorem extract2_eq {t : ByteArray} (h : 1 < t.size) (c d : UInt8) : ((t.extract 0 2).toList == [c, d]) = (byteAt t 0 == (c.toNat : Int) && byteAt t 1 == (d.toNat : Int)) := by
  rw [ByteArray.toList_eq, extract2 h, Bool.eq_iff_iff]
  simp only [List.cons_beq_cons, beq_iff_eq, Bool.and_true, BEq.rfl, u8_eq, Bool.and_eq_true]

theorem extract2_is {t : ByteArray} (h : 1 < t.size) (c d : UInt8) (h0 : byteAt t 0 = (c.toNat : Int)) (h1 : byteAt t 1 = (d.toNat : Int)) : t.extract 0 2 = ⟨#[c, d]⟩ := by
  apply bytes_ext
  rw [extract2 h, (u8_eq t 0 c).2 h0, (u8_eq t 1 d).2 h1]

def bigBytes : ByteArray := ⟨#[66, 67, 78, 79, 80, 83, 70, 73]⟩
def smallBytes : ByteArray := ⟨#[99, 110, 111, 112, 115]⟩

theorem isOne_big (c : Int) : isOne bigBytes c = decide (c = 67 ∨ c = 66 ∨ c = 78 ∨ c = 79 ∨ c = 80 ∨ c = 83 ∨ c = 70 ∨ c = 73) := by
  have r : List.range bigBytes.size = [0, 1, 2, 3, 4, 5, 6, 7] := rfl
  have b0 : byteAt bigBytes 0 = 66 := rfl
  have b1 : byteAt bigBytes 1 = 67 := rfl
  have b2 : byteAt bigBytes 2 = 78 := rfl
  have b3 : byteAt bigBytes 3 = 79 := rfl
  have b4 : byteAt bigBytes 4 = 80 := rfl
  have b5 : byteAt bigBytes 5 = 83 := rfl
  have b6 : byteAt bigBytes 6 = 70 := rfl
  have b7 : byteAt bigBytes 7 = 73 := rfl
  unfold isOne
  rw [r, Bool.eq_iff_iff]
  simp only [List.any_cons, List.any_nil, b0, b1, b2, b3, b4, b5, b6, b7, Bool.or_false, Bool.or_eq_true, beq_iff_eq, decide_eq_true_eq]
  omega

theorem isOne_small (c : Int) : isOne smallBytes c = decide (c = 99 ∨ c = 110 ∨ c = 111 ∨ c = 112 ∨ c = 115) := by
  have r : List.range smallBytes.size = [0, 1, 2, 3, 4] := rfl
  have b0 : byteAt smallBytes 0 = 99 := rfl
  have b1 : byteAt smallBytes 1 = 110 := rfl
  have b2 : byteAt smallBytes 2 = 111 := rfl
  have b3 : byteAt smallBytes 3 = 112 := rfl
  have b4 : byteAt smallBytes 4 = 115 := rfl
  unfold isOne
  rw [r, Bool.eq_iff_iff]
  simp only [List.any_cons, List.any_nil, b0, b1, b2, b3, b4, Bool.or_false, Bool.or_eq_true, beq_iff_eq, decide_eq_true_eq]
  omega

/-- What name answers: five ways. -/
theorem rname_cases (t : ByteArray) : (1 < t.size ∧ byteAt t 0 = 67 ∧ byteAt t 1 = 108 ∧ rname t 0 = (⟨#[67, 108]⟩, false, 2)) ∨ (1 < t.size ∧ byteAt t 0 = 66 ∧ byteAt t 1 = 114 ∧ rname t 0 = (⟨#[66, 114]⟩, false, 2)) ∨
    (¬ (byteAt t 0 = 67 ∧ byteAt t 1 = 108) ∧ ¬ (byteAt t 0 = 66 ∧ byteAt t 1 = 114) ∧
      ((t.size = 0 ∧ rname t 0 = (⟨#[]⟩, false, 0)) ∨
       (0 < t.size ∧ isOne bigBytes (byteAt t 0) = true ∧ rname t 0 = (one (byteAt t 0), false, 1)) ∨
       (0 < t.size ∧ isOne bigBytes (byteAt t 0) = false ∧ isOne smallBytes (byteAt t 0) = true ∧ rname t 0 = (one (byteAt t 0 - 32), true, 1) ∧ 99 ≤ byteAt t 0 ∧ byteAt t 0 ≤ 115) ∨
       (0 < t.size ∧ isOne bigBytes (byteAt t 0) = false ∧ isOne smallBytes (byteAt t 0) = false ∧ rname t 0 = (⟨#[]⟩, false, 0)))) := by
  by_cases ha : byteAt t 0 = 67 ∧ byteAt t 1 = 108
  · exact .inl ⟨byte_lt ha.2 (by decide), ha.1, ha.2, by simp [rname, element, ha]⟩
  by_cases hb : byteAt t 0 = 66 ∧ byteAt t 1 = 114
  · exact .inr (.inl ⟨byte_lt hb.2 (by decide), hb.1, hb.2, by simp [rname, element, hb]⟩)
  refine .inr (.inr ⟨ha, hb, ?_⟩)
  by_cases h0 : t.size = 0
  · refine .inl ⟨h0, ?_⟩
    have : byteAt t 0 = 0 := byteAt_ge t 0 (by omega)
    simp [rname, element, this]
  have h0' : 0 < t.size := by omega
  have he : ∀ x, rname t 0 = x ↔ (match (if byteAt t 0 = 67 ∨ byteAt t 0 = 66 ∨ byteAt t 0 = 78 ∨ byteAt t 0 = 79 ∨ byteAt t 0 = 80 ∨ byteAt t 0 = 83 ∨ byteAt t 0 = 70 ∨ byteAt t 0 = 73 then some (one (byteAt t 0), false, 1)
      else if byteAt t 0 = 99 ∨ byteAt t 0 = 110 ∨ byteAt t 0 = 111 ∨ byteAt t 0 = 112 ∨ byteAt t 0 = 115 then some (one (byteAt t 0 - 32), true, 1) else none : Option (ByteArray × Bool × Nat)) with
      | some x => x
      | none => (⟨#[]⟩, false, 0)) = x := by
    intro x
    unfold rname element
    simp only
    rw [if_neg ha, if_neg hb]
  rw [isOne_big, isOne_small]
  by_cases h1 : byteAt t 0 = 67 ∨ byteAt t 0 = 66 ∨ byteAt t 0 = 78 ∨ byteAt t 0 = 79 ∨ byteAt t 0 = 80 ∨ byteAt t 0 = 83 ∨ byteAt t 0 = 70 ∨ byteAt t 0 = 73
  · exact .inr (.inl ⟨h0', by simpa using h1, (he _).2 (by rw [if_pos h1])⟩)
  by_cases h2 : byteAt t 0 = 99 ∨ byteAt t 0 = 110 ∨ byteAt t 0 = 111 ∨ byteAt t 0 = 112 ∨ byteAt t 0 = 115
  · exact .inr (.inr (.inl ⟨h0', by simpa using h1, by simpa using h2, (he _).2 (by rw [if_neg h1, if_pos h2]), by omega, by omega⟩))
  · exact .inr (.inr (.inr ⟨h0', by simpa using h1, by simpa using h2, (he _).2 (by rw [if_neg h1, if_neg h2])⟩))

theorem one_small {c : Int} : one (c - 97 + 65) = one (c - 32) := by
  rw [show c - 97 + 65 = c - 32 by omega]

theorem conv1 (w : World) (x : Int) (t : TypeId) (c : Nat) : (convert 149 9 (.slice (some ⟨w.heap.size, 0, none⟩) 1 c)).run Tryz.prog (w.alloc (.cells #[.int .u8 x] t)) = .ok (.string (one x)) (w.alloc (.cells #[.int .u8 x] t)) := by
  rw [run_convert_bytes_arg (P := Tryz.prog) (w.alloc (.cells #[.int .u8 x] t)) 149 5 Tryz.underlying149 Tryz.underlying5 w.heap.size 0 1 c [x] rfl ?_ _ Tryz.underlying9]
  · rfl
  · intro i hi
    have : i = 0 := by omega
    subst this
    simp [go_sem]

set_option maxRecDepth 100000 in
set_option maxHeartbeats 2000000 in
theorem rname_any (w : World) (t : ByteArray) (ht : t.size ≤ 160) : Calls Tryz.prog 120 #[.string t] w fun e w' => e = .returned (nameV (rname t 0)) ∧ Below w.heap.size w w' := by
  have HOB := fun w' : World => rone_any w' (byteAt t 0) bigBytes (by decide)
  have HOS := fun w' : World => rone_any w' (byteAt t 0) smallBytes (by decide)
  rcases rname_cases t with ⟨h1, h2, h3, hr⟩ | ⟨h1, h2, h3, hr⟩ | ⟨hn1, hn2, hc⟩
  · have HR : Hid _ := hr
    have e1 : ((t.extract 0 2).toList == [67, 108]) = true := by rw [extract2_eq h1]; simp [h2, h3]
    have HX : Hid (t.extract 0 2 = ⟨#[67, 108]⟩) := extract2_is h1 67 108 h2 h3
    have hi : (1 : Int) < (t.size : Int) := by omega
    have hi2 : (2 : Int) ≤ (t.size : Int) := by omega
    clear hr HOB HOS
    go_enter Tryz.func120, Tryz.ntmps120
    go_wp2_with fail
    go_ret3
    exact ⟨by rw [HR.out, HX.out]; rfl, (by repeat (first | with_reducible exact Below.refl _ _ | with_reducible refine below_drewN ?_ _ | with_reducible refine Below.drew ?_ | with_reducible refine Below.setCell ?_ (by simp) _ | with_reducible refine Below.alloc ?_ (by simp; try omega) _))⟩
  · have HR : Hid _ := hr
    have e1 : ((t.extract 0 2).toList == [67, 108]) = false := by rw [extract2_eq h1]; simp [h2]
    have e2 : ((t.extract 0 2).toList == [66, 114]) = true := by rw [extract2_eq h1]; simp [h2, h3]
    have HX : Hid (t.extract 0 2 = ⟨#[66, 114]⟩) := extract2_is h1 66 114 h2 h3
    have hi : (1 : Int) < (t.size : Int) := by omega
    have hi2 : (2 : Int) ≤ (t.size : Int) := by omega
    clear hr HOB HOS
    go_enter Tryz.func120, Tryz.ntmps120
    go_wp2_with fail
    go_ret3
    exact ⟨by rw [HR.out, HX.out]; rfl, (by repeat (first | with_reducible exact Below.refl _ _ | with_reducible refine below_drewN ?_ _ | with_reducible refine Below.drew ?_ | with_reducible refine Below.setCell ?_ (by simp) _ | with_reducible refine Below.alloc ?_ (by simp; try omega) _))⟩
  · have e1 : 1 < t.size → ((t.extract 0 2).toList == [67, 108]) = false := by
      intro h; rw [extract2_eq h]; simpa using hn1
    have e2 : 1 < t.size → ((t.extract 0 2).toList == [66, 114]) = false := by
      intro h; rw [extract2_eq h]; simpa using hn2
    clear hn1 hn2
    rcases hc with ⟨h0, hr⟩ | ⟨h0, hB, hr⟩ | ⟨h0, hB, hS, hr, hlo, hhi⟩ | ⟨h0, hB, hS, hr⟩
    · have HR : Hid _ := hr
      have hi : ¬ (1 : Int) < (t.size : Int) := by omega
      have hi2 : (t.size : Int) = 0 := by omega
      clear hr HOB HOS e1 e2
      go_enter Tryz.func120, Tryz.ntmps120
      go_wp2_with fail
      go_ret3
      exact ⟨by rw [HR.out]; rfl, (by repeat (first | with_reducible exact Below.refl _ _ | with_reducible refine below_drewN ?_ _ | with_reducible refine Below.drew ?_ | with_reducible refine Below.setCell ?_ (by simp) _ | with_reducible refine Below.alloc ?_ (by simp; try omega) _))⟩
    · have HR : Hid _ := hr
      have HX : Hid _ := extract1 h0
      rw [hB] at HOB
      rw [byteAt_lt _ _ h0] at HOB
      clear hr HOS hB
      have hi1 : (1 : Int) ≤ (t.size : Int) := by omega
      have hi0 : ((t.size : Int) == 0) = false := beq_eq_false_iff_ne.2 (by omega)
      have hip : (0 : Int) < (t.size : Int) := by omega
      by_cases h1 : 1 < t.size
      · have e1 := e1 h1
        have e2 := e2 h1
        have hi : (1 : Int) < (t.size : Int) := by omega
        have hi2 : (2 : Int) ≤ (t.size : Int) := by omega
        go_enter Tryz.func120, Tryz.ntmps120
        go_wp2_with fail
        refine (HOB _).mono ?_
        rintro e w' ⟨rfl, rfl⟩
        go_wp2_with fail
        go_ret3
        exact ⟨by rw [HR.out, HX.out]; rfl, (by repeat (first | with_reducible exact Below.refl _ _ | with_reducible refine below_drewN ?_ _ | with_reducible refine Below.drew ?_ | with_reducible refine Below.setCell ?_ (by simp) _ | with_reducible refine Below.alloc ?_ (by simp; try omega) _))⟩
      · have hi : ¬ (1 : Int) < (t.size : Int) := by omega
        clear e1 e2
        go_enter Tryz.func120, Tryz.ntmps120
        go_wp2_with fail
        refine (HOB _).mono ?_
        rintro e w' ⟨rfl, rfl⟩
        go_wp2_with fail
        go_ret3
        exact ⟨by rw [HR.out, HX.out]; rfl, (by repeat (first | with_reducible exact Below.refl _ _ | with_reducible refine below_drewN ?_ _ | with_reducible refine Below.drew ?_ | with_reducible refine Below.setCell ?_ (by simp) _ | with_reducible refine Below.alloc ?_ (by simp; try omega) _))⟩
    · have HR : Hid _ := hr
      rw [hB] at HOB
      rw [hS] at HOS
      rw [byteAt_lt _ _ h0] at HOB HOS hlo hhi HR
      clear hr hB hS
      have hi1 : (1 : Int) ≤ (t.size : Int) := by omega
      have hi0 : ((t.size : Int) == 0) = false := beq_eq_false_iff_ne.2 (by omega)
      have hip : (0 : Int) < (t.size : Int) := by omega
      by_cases h1 : 1 < t.size
      · have e1 := e1 h1
        have e2 := e2 h1
        have hi : (1 : Int) < (t.size : Int) := by omega
        have hi2 : (2 : Int) ≤ (t.size : Int) := by omega
        have kc := conv1
        go_enter Tryz.func120, Tryz.ntmps120
        go_wp2_with fail
        refine (HOB _).mono ?_
        rintro e w' ⟨rfl, rfl⟩
        go_wp2_with fail
        refine (HOS _).mono ?_
        rintro e w' ⟨rfl, rfl⟩
        go_wp2_with fail
        go_ret3
        exact ⟨by rw [HR.out, ← one_small]; rfl, (by repeat (first | with_reducible exact Below.refl _ _ | with_reducible refine below_drewN ?_ _ | with_reducible refine Below.drew ?_ | with_reducible refine Below.setCell ?_ (by simp) _ | with_reducible refine Below.alloc ?_ (by simp; try omega) _))⟩
      · have hi : ¬ (1 : Int) < (t.size : Int) := by omega
        clear e1 e2
        have kc := conv1
        go_enter Tryz.func120, Tryz.ntmps120
        go_wp2_with fail
        refine (HOB _).mono ?_
        rintro e w' ⟨rfl, rfl⟩
        go_wp2_with fail
        refine (HOS _).mono ?_
        rintro e w' ⟨rfl, rfl⟩
        go_wp2_with fail
        go_ret3
        exact ⟨by rw [HR.out, ← one_small]; rfl, (by repeat (first | with_reducible exact Below.refl _ _ | with_reducible refine below_drewN ?_ _ | with_reducible refine Below.drew ?_ | with_reducible refine Below.setCell ?_ (by simp) _ | with_reducible refine Below.alloc ?_ (by simp; try omega) _))⟩
    · have HR : Hid _ := hr
      rw [hB] at HOB
      rw [hS] at HOS
      rw [byteAt_lt _ _ h0] at HOB HOS
      clear hr hB hS
      have hi1 : (1 : Int) ≤ (t.size : Int) := by omega
      have hi0 : ((t.size : Int) == 0) = false := beq_eq_false_iff_ne.2 (by omega)
      have hip : (0 : Int) < (t.size : Int) := by omega
      by_cases h1 : 1 < t.size
      · have e1 := e1 h1
        have e2 := e2 h1
        have hi : (1 : Int) < (t.size : Int) := by omega
        have hi2 : (2 : Int) ≤ (t.size : Int) := by omega
        go_enter Tryz.func120, Tryz.ntmps120
        go_wp2_with fail
        refine (HOB _).mono ?_
        rintro e w' ⟨rfl, rfl⟩
        go_wp2_with fail
        refine (HOS _).mono ?_
        rintro e w' ⟨rfl, rfl⟩
        go_wp2_with fail
        go_ret3
        exact ⟨by rw [HR.out]; rfl, (by repeat (first | with_reducible exact Below.refl _ _ | with_reducible refine below_drewN ?_ _ | with_reducible refine Below.drew ?_ | with_reducible refine Below.setCell ?_ (by simp) _ | with_reducible refine Below.alloc ?_ (by simp; try omega) _))⟩
      · have hi : ¬ (1 : Int) < (t.size : Int) := by omega
        clear e1 e2
        go_enter Tryz.func120, Tryz.ntmps120
        go_wp2_with fail
        refine (HOB _).mono ?_
        rintro e w' ⟨rfl, rfl⟩
        go_wp2_with fail
        refine (HOS _).mono ?_
        rintro e w' ⟨rfl, rfl⟩
        go_wp2_with fail
        go_ret3
        exact ⟨by rw [HR.out]; rfl, (by repeat (first | with_reducible exact Below.refl _ _ | with_reducible refine below_drewN ?_ _ | with_reducible refine Below.drew ?_ | with_reducible refine Below.setCell ?_ (by simp) _ | with_reducible refine Below.alloc ?_ (by simp; try omega) _))⟩
end Go.Proofs.YtcabaecbmkgclaaGreatDoor
