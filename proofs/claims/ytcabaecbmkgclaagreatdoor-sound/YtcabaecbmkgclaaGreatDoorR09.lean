/-
  What reader.Read does with a text in which something is wrong.
  What the molecule's Plain does.
  What benzol.Parse does.
  The document's reader in memory: its block and its five lists.
-/
import Derived.Test.YtcabaecbmkgclaaGreatDoorR08
import Derived.Lib.SliceRun
namespace Go.Proofs.YtcabaecbmkgclaaGreatDoor
open Go.RowKit Bz
theorem wp_store_mol (L : Nat) (d : Option Tmp) (t : TypeId) (pos : String) (af : Array Edge) (x y : Operand) (a : Act) (w : World) (K : Act → World → Prop) (Q : Exit → Act → World → Prop) (hx : a.eval x = .pointer (some ⟨L, 0, none⟩)) (hy : a.eval y = .agg zeroMol) (ht : w.there L 0 26)
    (hK : K (a.put d undef) (w.setCells L 0 zeroMol.toList)) : Oper.wp Tryz.prog ⟨d, .store 69 x y, t, pos, af, none⟩ a w K Q :=
  wp_store_mid 69 x y rfl L 0 zeroMol hx hy ht Tryz.sizeMol zeroMol_one hK

section
set_option maxRecDepth 100000 in
set_option maxHeartbeats 1000000 in
theorem read_err (s : ByteArray) (w : World) (hs : s.size ≤ 160) (er : Int × Int) (hq : wholeR s = .error er) :
    Calls Tryz.prog 22 #[.string s] w fun e w' => e = .returned (.tuple #[.agg zeroMol, .int .i64 er.1, .int .i64 er.2]) ∧ Below w.heap.size w w' := by
  have hlt : ¬ (160 : Int) < (s.size : Int) := by omega
  have hR := rd_start s (w.alloc (.cells zeroMol 69))
  have hsz : (w.alloc (.cells zeroMol 69)).heap.size = w.heap.size + 1 := by simp
  rw [hsz] at hR
  have hW := whole_any hR hs
  have HTh : Hid (((w.alloc (.cells zeroMol 69)).alloc (.cells (readerList ⟨#[]⟩).toArray 97)).there (w.heap.size + 1) 0 530) := by
    intro j hj
    have e : (w.alloc (.cells zeroMol 69)).heap.size = w.heap.size + 1 := hsz
    rw [← e, Nat.zero_add]
    refine ⟨?_, by simp⟩
    rw [World.cell?_alloc_new]
    simp
    rw [readerList_len]
    exact hj
  have HRd : Hid (Rd (((w.alloc (.cells zeroMol 69)).alloc (.cells (readerList ⟨#[]⟩).toArray 97)).setCells (w.heap.size + 1) 0 (readerList s)) (w.heap.size + 1) s Bz.start) := hR
  clear hR hsz
  go_enter Tryz.func22, Tryz.ntmps22
  go_upto_region 1 with (refine wpList_alloc rfl 69 rfl _ _ (alloc_mol _) ?_)
  go_upto_region 3 with fail
  go_upto_region 4 with (first | (refine wpList_build rfl 97 #[(0, .tmp 11)] rfl #[(0, .agg #[.string s, .int .i64 0])] (by simp [Act.eval]) (.agg (readerList s).toArray) (build_reader s _) ?_; simp only [Act.put, List.setIfInBounds_toArray, List.set_cons_zero, List.set_cons_succ]) | (refine wpList_alloc rfl 97 rfl _ _ (alloc_reader _) ?_; simp only [Act.put, List.setIfInBounds_toArray, List.set_cons_zero, List.set_cons_succ]; have tokS : True := trivial) | (have _t := tokS; go_must (refine wpList_store_mid rfl 97 (.tmp 5) (.tmp 12) rfl (w.heap.size + 1) 0 (readerList s).toArray (by simp [Act.eval]) (by simp [Act.eval]) (by simp only [List.size_toArray, readerList_len]; exact HTh.out) (by simp only [List.size_toArray, readerList_len]; exact Tryz.sizeReader) (readerList_one s) ?_); simp only [Act.put]; clear tokS))
  go_wp2_with fail
  refine hW.mono ?_
  rintro e w1 ⟨hm, hf1⟩
  clear hW
  rw [hq] at hm
  obtain ⟨rfl, hw1⟩ := hm
  have hbel : Below w.heap.size w w1 := frame_below rfl rfl _ _ _ hf1 (fun k hk => (HRd.out.mine hk).1)
  have hL0 : ∀ j, w1.cell? ⟨w.heap.size, j, none⟩ = zeroMol[j]? ∧ w1.frozen? ⟨w.heap.size, j, none⟩ = false := by
    intro j
    have hnm : ¬ Mine (((w.alloc (.cells zeroMol 69)).alloc (.cells (readerList ⟨#[]⟩).toArray 97)).setCells (w.heap.size + 1) 0 (readerList s)) (w.heap.size + 1) w.heap.size := fun e => by have := (HRd.out.mine e).1; omega
    have hlt0 : w.heap.size < (((w.alloc (.cells zeroMol 69)).alloc (.cells (readerList ⟨#[]⟩).toArray 97)).setCells (w.heap.size + 1) 0 (readerList s)).heap.size := by
      have := (below_setCells (B := 0) (Nat.zero_le (w.heap.size + 1)) (readerList s) 0 _ (Below.refl 0 ((w.alloc (.cells zeroMol 69)).alloc (.cells (readerList ⟨#[]⟩).toArray 97)))).size
      simp at this
      omega
    rw [hf1.cell hlt0 hnm, hf1.frozen hlt0 hnm, World.frozen?_setCells, World.cell?_setCells_out _ _ _ _ _ (by intro e; simp at e)]
    rw [World.cell?_alloc_lt _ _ _ (by simp), World.cell?_alloc_new, World.frozen?_alloc_past _ _ _ (by simp), World.frozen?_alloc_new]
    exact ⟨rfl, rfl⟩
  have HTL : Hid (w1.there w.heap.size 0 26) := mol_there _ (fun j hj => by obtain ⟨v, hv⟩ := zeroMol_get j hj; exact ⟨v, (hL0 j).1.trans hv⟩) (fun j => (hL0 j).2)
  have e28 := hw1.err
  have e29 := hw1.plc
  clear hq
  clear hL0 hf1 HRd HTh
  go_wp2_with fail
  have hT := HTL.out
  clear HTL
  refine wp_region_held_drew (S := fun w' => w'.cell? ⟨w.heap.size + 1, 28, none⟩ = some (.int .i64 er.1) ∧ w'.cell? ⟨w.heap.size + 1, 29, none⟩ = some (.int .i64 er.2) ∧ w'.there w.heap.size 0 26) (by kernel_rfl) ?_ (fun hHeld => ?_)
  · exact ⟨e28, e29, hT⟩
  refine wpAnyH_take (i := 0) (oi := ⟨some 15, .build _ #[], _, _, _, none⟩) (v := (.agg zeroMol)) rfl (by kernel_rfl) (by kernel_rfl) (by kernel_rfl) (fun _ _ _ h => h) (Or.inl ⟨by rfl, ?hy0⟩) (by assumption) ?rest0
  case hy0 =>
    intro w0 hS
    unfold execOp
    simp only [Sem.run_bind, Sem.run_pure, Array.map_empty, build_mol, Result.andThen_ok]
  try simp only [Act.put, List.setIfInBounds_toArray, List.set_cons_zero, List.set_cons_succ]
  refine wpAnyH_take (i := 1) (oi := ⟨some 16, .fieldAddr _ (.tmp 5) 2, _, _, _, none⟩) (v := (.pointer (some ⟨w.heap.size + 1, 28, none⟩))) rfl (by kernel_rfl) (by kernel_rfl) (by kernel_rfl) (fun _ _ _ h => h) (Or.inl ⟨by rfl, ?hy1⟩) (by assumption) ?rest1
  case hy1 =>
    intro w0 hS
    try dsimp only at hS
    obtain ⟨hS1, hS2, -⟩ := hS
    go_simp
    try (with_reducible rfl)
  try simp only [Act.put, List.setIfInBounds_toArray, List.set_cons_zero, List.set_cons_succ]
  refine wpAnyH_take (i := 2) (oi := ⟨some 17, .fieldAddr _ (.tmp 16) 0, _, _, _, none⟩) (v := (.pointer (some ⟨w.heap.size + 1, 28, none⟩))) rfl (by kernel_rfl) (by kernel_rfl) (by kernel_rfl) (fun _ _ _ h => h) (Or.inl ⟨by rfl, ?hy2⟩) (by assumption) ?rest2
  case hy2 =>
    intro w0 hS
    try dsimp only at hS
    obtain ⟨hS1, hS2, -⟩ := hS
    go_simp
    try (with_reducible rfl)
  try simp only [Act.put, List.setIfInBounds_toArray, List.set_cons_zero, List.set_cons_succ]
  refine wpAnyH_take (i := 3) (oi := ⟨some 18, .load _ (.tmp 17), _, _, _, none⟩) (v := (.int .i64 er.1)) rfl (by kernel_rfl) (by kernel_rfl) (by kernel_rfl) (fun _ _ _ h => h) (Or.inl ⟨by rfl, ?hy3⟩) (by assumption) ?rest3
  case hy3 =>
    intro w0 hS
    try dsimp only at hS
    obtain ⟨hS1, hS2, -⟩ := hS
    go_simp
    try (with_reducible rfl)
  try simp only [Act.put, List.setIfInBounds_toArray, List.set_cons_zero, List.set_cons_succ]
  refine wpAnyH_take (i := 4) (oi := ⟨some 19, .fieldAddr _ (.tmp 5) 2, _, _, _, none⟩) (v := (.pointer (some ⟨w.heap.size + 1, 28, none⟩))) rfl (by kernel_rfl) (by kernel_rfl) (by kernel_rfl) (fun _ _ _ h => h) (Or.inl ⟨by rfl, ?hy4⟩) (by assumption) ?rest4
  case hy4 =>
    intro w0 hS
    try dsimp only at hS
    obtain ⟨hS1, hS2, -⟩ := hS
    go_simp
    try (with_reducible rfl)
  try simp only [Act.put, List.setIfInBounds_toArray, List.set_cons_zero, List.set_cons_succ]
  refine wpAnyH_take (i := 5) (oi := ⟨some 20, .fieldAddr _ (.tmp 19) 1, _, _, _, none⟩) (v := (.pointer (some ⟨w.heap.size + 1, 29, none⟩))) rfl (by kernel_rfl) (by kernel_rfl) (by kernel_rfl) (fun _ _ _ h => h) (Or.inl ⟨by rfl, ?hy5⟩) (by assumption) ?rest5
  case hy5 =>
    intro w0 hS
    try dsimp only at hS
    obtain ⟨hS1, hS2, -⟩ := hS
    go_simp
    try (with_reducible rfl)
  try simp only [Act.put, List.setIfInBounds_toArray, List.set_cons_zero, List.set_cons_succ]
  refine wpAnyH_take (i := 6) (oi := ⟨some 21, .load _ (.tmp 20), _, _, _, none⟩) (v := (.int .i64 er.2)) rfl (by kernel_rfl) (by kernel_rfl) (by kernel_rfl) (fun _ _ _ h => h) (Or.inl ⟨by rfl, ?hy6⟩) (by assumption) ?rest6
  case hy6 =>
    intro w0 hS
    try dsimp only at hS
    obtain ⟨hS1, hS2, -⟩ := hS
    go_simp
    try (with_reducible rfl)
  try simp only [Act.put, List.setIfInBounds_toArray, List.set_cons_zero, List.set_cons_succ]
  refine wpAnyH_ready (rs := [7]) (by kernel_rfl) (by simp) ?_
  refine AllReadyH.cons (o := ⟨none, .store _ (.tmp 2) (.tmp 15), _, _, _, none⟩) rfl (fun K hK => ?_) AllReadyH.nil
  rw [if_pos (by rfl)]
  refine wp_store_mol w.heap.size _ _ _ _ _ _ _ _ _ _ (by simp [Act.eval]) (by simp [Act.eval]) hHeld.2.2 ?_
  try simp only [Act.put]
  refine hK.out _ _ ?_ (fun hHeld2 => ?_)
  · obtain ⟨h1, h2, h3⟩ := hHeld
    exact ⟨(World.cell?_setCells_out _ _ _ _ _ (fun e => by simp at e)).trans h1, (World.cell?_setCells_out _ _ _ _ _ (fun e => by simp at e)).trans h2, World.there_setCells h3 _ _ _⟩
  clear hK K
  refine wpAnyH_take (i := 8) (oi := ⟨some 3, .assign (.tmp 18), _, _, _, none⟩) (v := (.int .i64 er.1)) rfl (by kernel_rfl) (by kernel_rfl) (by kernel_rfl) (fun _ _ _ h => h) (Or.inl ⟨by rfl, ?hy8⟩) (by assumption) ?rest8
  case hy8 =>
    intro w0 hS
    try dsimp only at hS
    obtain ⟨hS1, hS2, -⟩ := hS
    go_simp
    try (with_reducible rfl)
  try simp only [Act.put, List.setIfInBounds_toArray, List.set_cons_zero, List.set_cons_succ]
  refine wpAnyH_take (i := 9) (oi := ⟨some 4, .assign (.tmp 21), _, _, _, none⟩) (v := (.int .i64 er.2)) rfl (by kernel_rfl) (by kernel_rfl) (by kernel_rfl) (fun _ _ _ h => h) (Or.inl ⟨by rfl, ?hy9⟩) (by assumption) ?rest9
  case hy9 =>
    intro w0 hS
    try dsimp only at hS
    obtain ⟨hS1, hS2, -⟩ := hS
    go_simp
    try (with_reducible rfl)
  try simp only [Act.put, List.setIfInBounds_toArray, List.set_cons_zero, List.set_cons_succ]
  refine wpAnyH_done (by kernel_rfl) ?_ _
  go_wp2_with fail
  have HLD := mol_stored zeroMol.toList rfl (show w1.drew.there w.heap.size 0 26 from hHeld.2.2)
  have HZ : zeroMol.toList.toArray = zeroMol := rfl
  rw [HZ] at HLD
  refine bodyPost_ret (v := .tuple #[.agg zeroMol, .int .i64 er.1, .int .i64 er.2]) ?_ rfl ⟨rfl, below_setCells (Nat.le_refl _) _ _ _ hbel.drew⟩
  simp [results, Tryz.results22, asAddr, HLD]
end
/-- An atom's cells as the caller gets them. -/
def plainCells (a : Atm) : List Value := [.string a.el, .bool a.aro, .int .i64 a.ch, .int .i64 a.hy]

theorem plainCells_len (a : Atm) : (plainCells a).length = 4 := rfl

theorem Tryz.infoPAtom : (Tryz.prog.info? 50).map (fun i => (i.zero, i.size, i.bytes)) = some (some (.agg #[.string ⟨#[]⟩, .bool false, .int .i64 0, .int .i64 0]), 4, 40) := by kernel_rfl

theorem plain_step (ats : List Atm) (xs : List Value) (i : Nat) (a : Atm) (hi : ats[i]? = some a) (hx : xs.length = ats.length * 4) (ht : xs.take (i * 4) = (ats.take i).flatMap plainCells) :
    ((((xs.set (i * 4) (.string a.el)).set (i * 4 + 1) (.bool a.aro)).set (i * 4 + 2) (.int .i64 a.ch)).set (i * 4 + 3) (.int .i64 a.hy)).take ((i + 1) * 4) = (ats.take (i + 1)).flatMap plainCells := by
  have hlt : i < ats.length := (List.getElem?_eq_some_iff.1 hi).1
  have e1 : ats.take (i + 1) = ats.take i ++ [a] := by rw [List.take_add_one, hi]; rfl
  rw [e1, List.flatMap_append, ← ht]
  have hr : xs = xs.take (i * 4) ++ xs.drop (i * 4) := (List.take_append_drop _ _).symm
  have hl : (xs.take (i * 4)).length = i * 4 := by rw [List.length_take]; omega
  have hd : (xs.drop (i * 4)).length = ats.length * 4 - i * 4 := by rw [List.length_drop, hx]
  generalize xs.take (i * 4) = p at *
  generalize xs.drop (i * 4) = q at *
  subst hr
  match q, hd with
  | [], hd => simp at hd; omega
  | [_], hd => simp at hd; omega
  | [_, _], hd => simp at hd; omega
  | [_, _, _], hd => simp at hd; omega
  | q0 :: q1 :: q2 :: q3 :: q, hd =>
    rw [← hl]
    have t : (p ++ q0 :: q1 :: q2 :: q3 :: q).set p.length (.string a.el) = p ++ .string a.el :: q1 :: q2 :: q3 :: q := by simp
    have t1 : (p ++ Value.string a.el :: q1 :: q2 :: q3 :: q).set (p.length + 1) (.bool a.aro) = p ++ .string a.el :: .bool a.aro :: q2 :: q3 :: q := by simp
    have t2 : (p ++ Value.string a.el :: .bool a.aro :: q2 :: q3 :: q).set (p.length + 2) (.int .i64 a.ch) = p ++ .string a.el :: .bool a.aro :: .int .i64 a.ch :: q3 :: q := by simp
    have t3 : (p ++ Value.string a.el :: .bool a.aro :: .int .i64 a.ch :: q3 :: q).set (p.length + 3) (.int .i64 a.hy) = p ++ .string a.el :: .bool a.aro :: .int .i64 a.ch :: .int .i64 a.hy :: q := by simp
    rw [t, t1, t2, t3]
    have : (i + 1) * 4 = p.length + 4 := by omega
    rw [this, List.take_length_add_append]
    rfl

theorem bnd_step (l : List Bnd) (xs : List Value) (i : Nat) (b : Bnd) (hi : l[i]? = some b) (hx : xs.length = l.length * 3) (ht : xs.take (i * 3) = (l.take i).flatMap bndCells) :
    (((xs.set (i * 3) (.int .i64 b.a)).set (i * 3 + 1) (.int .i64 b.b)).set (i * 3 + 2) (.int .i64 b.o)).take ((i + 1) * 3) = (l.take (i + 1)).flatMap bndCells := by
  have hlt : i < l.length := (List.getElem?_eq_some_iff.1 hi).1
  have e1 : l.take (i + 1) = l.take i ++ [b] := by rw [List.take_add_one, hi]; rfl
  rw [e1, List.flatMap_append, ← ht]
  have hr : xs = xs.take (i * 3) ++ xs.drop (i * 3) := (List.take_append_drop _ _).symm
  have hl : (xs.take (i * 3)).length = i * 3 := by rw [List.length_take]; omega
  have hd : (xs.drop (i * 3)).length = l.length * 3 - i * 3 := by rw [List.length_drop, hx]
  generalize xs.take (i * 3) = p at *
  generalize xs.drop (i * 3) = q at *
  subst hr
  match q, hd with
  | [], hd => simp at hd; omega
  | [_], hd => simp at hd; omega
  | [_, _], hd => simp at hd; omega
  | q0 :: q1 :: q2 :: q, hd =>
    rw [← hl]
    have t : (p ++ q0 :: q1 :: q2 :: q).set p.length (.int .i64 b.a) = p ++ .int .i64 b.a :: q1 :: q2 :: q := by simp
    have t1 : (p ++ Value.int .i64 b.a :: q1 :: q2 :: q).set (p.length + 1) (.int .i64 b.b) = p ++ .int .i64 b.a :: .int .i64 b.b :: q2 :: q := by simp
    have t2 : (p ++ Value.int .i64 b.a :: .int .i64 b.b :: q2 :: q).set (p.length + 2) (.int .i64 b.o) = p ++ .int .i64 b.a :: .int .i64 b.b :: .int .i64 b.o :: q := by simp
    rw [t, t1, t2]
    have : (i + 1) * 3 = p.length + 3 := by omega
    rw [this, List.take_length_add_append]
    rfl

section
set_option maxRecDepth 100000 in
set_option maxHeartbeats 1000000 in
theorem plain_any (w : World) (L base : Nat) (av bv : Value) (ats : List Atm) (l : List Bnd) (hl : l.length ≤ 1000) (hn : ats.length ≤ 24) (hne : 0 < ats.length) (hL : L < w.heap.size)
    (h24 : w.cell? ⟨L, 24, none⟩ = some av) (h25 : w.cell? ⟨L, 25, none⟩ = some bv) (ha : w.ownsRow base 124 6 av ats.length (ats.flatMap atmCells)) (hb : w.ownsRow base 102 4 bv l.length (l.flatMap pbCells)) :
    Calls Tryz.prog 26 #[.pointer (some ⟨L, 0, none⟩)] w fun e w' => ∃ v v', e = .returned (.agg #[v, v']) ∧ w'.ownsRow w.heap.size 50 4 v ats.length (ats.flatMap plainCells) ∧ w'.ownsRow w.heap.size 46 3 v' l.length (l.flatMap bndCells) ∧ Below w.heap.size w w' := by
  obtain ⟨bo, bc, hbv⟩ := ownsRow_shape hb
  subst hbv
  obtain ⟨i0, hi, hz0, hz1, hz2⟩ := info_parts Tryz.infoPAtom
  obtain ⟨j0, hj, hjz0, hjz1, hjz2⟩ := info_parts Tryz.infoBond
  obtain ⟨g, cap, hA, _, hgl, hcell, _⟩ := ownsRow_at ha hne
  subst hA
  have HC : Hid _ := hcell
  clear hcell
  go_enter Tryz.func26, Tryz.ntmps26
  go_wp2_with (at_make; go_must (refine wpList_make_full _ rfl _ _ 36 rfl (w.heap.size + 1) 50 i0 (.agg #[.string ⟨#[]⟩, .bool false, .int .i64 0, .int .i64 0]) 4 Tryz.underlying36 hi hz0 hz1 .i64 .i64 _ _ ats.length rfl rfl rfl rfl ?c1 ?c2 ?c3 ?_))
  case c1 => rw [hz2]; omega
  case c2 => unfold maxLen; omega
  case c3 => simp
  intro w2 hown hgrow
  have hbel : Below w.heap.size w w2 := ((Below.refl _ w).alloc (Nat.le_refl _) _).grown hgrow (by simp) (by simp)
  have HR : w2.heap[w.heap.size]? = (w.alloc (.cells #[.slice none 0 0, .slice none 0 0] 39)).heap[w.heap.size]? := hgrow.block _ (by simp) (by simp)
  have hsz2 : w.heap.size + 1 < w2.heap.size := (by simpa using (hown.lt _ rfl).2)
  have h24' : w2.cell? ⟨L, 24, none⟩ = some (.slice (some ⟨g, 0, none⟩) ats.length cap) := (hbel.cell (p := ⟨L, 24, none⟩) hL).trans h24
  have hxl := hown.1
  generalize hxs : Array.toList _ = xs0 at hown
  clear hgrow hxs
  go_wp2_with fail
  obtain ⟨G, hG⟩ : ∃ G, G = w.heap.size + 1 := ⟨_, rfl⟩
  rw [← hG] at hown hsz2
  have HG : Hid (G = w.heap.size + 1) := hG
  simp only [← hG]
  clear hG
  go_loopg [20] (ats.length + 1) (fun k vi wr => ∃ i : Nat, ∃ xs : List Value, i ≤ ats.length ∧ ats.length - i ≤ k ∧ vi = .int .i64 i ∧ wr.ownsRow G 50 4 (.slice (some ⟨G, 0, none⟩) ats.length ats.length) ats.length xs ∧ xs.take (i * 4) = (ats.take i).flatMap plainCells ∧
      wr.heap[w.heap.size]? = (w.alloc (.cells #[.slice none 0 0, .slice none 0 0] 39)).heap[w.heap.size]? ∧ Below w.heap.size w wr)
  case atStart => exact ⟨0, xs0, by omega, by omega, rfl, hown, by simp, HR, hbel⟩
  case round =>
    obtain ⟨i, xs, hi', hk, rfl, ho, ht, hr, hbw⟩ := hrel
    by_cases hlt : i < ats.length
    · have gi := List.getElem?_eq_getElem hlt
      have hlt' : (i : Int) < (ats.length : Int) := by omega
      have cc : ∀ j v, (atmCells ats[i])[j]? = some v → wr.cell? ⟨g, i * 6 + j, none⟩ = some v := by
        intro j v hj
        have hj6 : j < 6 := by
          have := (List.getElem?_eq_some_iff.1 hj).1
          simpa [atmCells_len] using this
        rw [hbw.cell (p := ⟨g, i * 6 + j, none⟩) hgl, HC.out (i * 6 + j) (by omega), flatMap_get atmCells 6 atmCells_len _ i j _ gi hj6, hj]
      generalize ats[i] = a at *
      have q0 : wr.cell? ⟨g, i * 6, none⟩ = some (.string a.el) := cc 0 _ rfl
      have q1 : wr.cell? ⟨g, i * 6 + 1, none⟩ = some (.bool a.aro) := cc 1 _ rfl
      have q2 : wr.cell? ⟨g, i * 6 + 2, none⟩ = some (.int .i64 a.ch) := cc 2 _ rfl
      have q3 : wr.cell? ⟨g, i * 6 + 3, none⟩ = some (.int .i64 a.hy) := cc 3 _ rfl
      have q4 : wr.cell? ⟨g, i * 6 + 4, none⟩ = some (.int .i64 a.pl) := cc 4 _ rfl
      have q5 : wr.cell? ⟨g, i * 6 + 5, none⟩ = some (.bool a.br) := cc 5 _ rfl
      clear cc
      obtain ⟨g2, cap2, e2, _, hg2, hc2, hf2⟩ := ownsRow_at ho hne
      simp only [Value.slice.injEq, Option.some.injEq, Addr.mk.injEq, and_true, true_and] at e2
      obtain ⟨rfl, rfl⟩ := e2
      have hxl := ho.1
      have d : ∀ j, j < 4 → ∃ v, wr.cell? ⟨G, i * 4 + j, none⟩ = some v := fun j hj => ⟨xs[i * 4 + j]'(by omega), (hc2 _ (by omega)).trans (List.getElem?_eq_getElem (by omega))⟩
      obtain ⟨v0, d0⟩ := d 0 (by omega)
      obtain ⟨v1, d1⟩ := d 1 (by omega)
      obtain ⟨v2, d2⟩ := d 2 (by omega)
      obtain ⟨v3, d3⟩ := d 3 (by omega)
      rw [Nat.add_zero] at d0
      have f0 := hf2 (i * 4)
      have f1 := hf2 (i * 4 + 1)
      have f2 := hf2 (i * 4 + 2)
      have f3 := hf2 (i * 4 + 3)
      clear hc2 hf2 d
      have hgs : g < wr.heap.size := by have := hbw.size; omega
      have HPS : Hid _ := plain_step ats xs i a gi hxl ht
      have HS := (((ho.stored (i * 4) (.string a.el)).1.stored (i * 4 + 1) (.bool a.aro)).1.stored (i * 4 + 2) (.int .i64 a.ch)).1.stored (i * 4 + 3) (.int .i64 a.hy)
      have HOWN : Hid _ := HS.1.alloc (.cells #[.string a.el, .bool a.aro, .int .i64 a.ch, .int .i64 a.hy, .int .i64 a.pl, .bool a.br] 124)
      have hGne : w.heap.size ≠ G := by have := HG.out; omega
      have HHR : Hid ((((((wr.setCell ⟨G, i * 4, none⟩ (.string a.el)).setCell ⟨G, i * 4 + 1, none⟩ (.bool a.aro)).setCell ⟨G, i * 4 + 2, none⟩ (.int .i64 a.ch)).setCell ⟨G, i * 4 + 3, none⟩ (.int .i64 a.hy)).alloc (.cells #[.string a.el, .bool a.aro, .int .i64 a.ch, .int .i64 a.hy, .int .i64 a.pl, .bool a.br] 124)).heap[w.heap.size]? = (w.alloc (.cells #[.slice none 0 0, .slice none 0 0] 39)).heap[w.heap.size]?) := by
        show _ = _
        rw [heap_alloc_lt _ _ _ (by simp; have := HG.out; omega), Below.heap_setCell _ _ _ _ hGne, Below.heap_setCell _ _ _ _ hGne, Below.heap_setCell _ _ _ _ hGne, Below.heap_setCell _ _ _ _ hGne]
        exact hr
      have hGle : w.heap.size ≤ G := by have := HG.out; omega
      have HB : Hid _ := ((((hbw.setCell (p := ⟨G, i * 4, none⟩) hGle (.string a.el)).setCell (p := ⟨G, i * 4 + 1, none⟩) hGle (.bool a.aro)).setCell (p := ⟨G, i * 4 + 2, none⟩) hGle (.int .i64 a.ch)).setCell (p := ⟨G, i * 4 + 3, none⟩) hGle (.int .i64 a.hy)).alloc (by simpa using hbw.size) (.cells #[.string a.el, .bool a.aro, .int .i64 a.ch, .int .i64 a.hy, .int .i64 a.pl, .bool a.br] 124)
      clear HS
      go_wp2_with fail
      go_roundg (ats.length - (i + 1))
      case measure => omega
      case rel => exact ⟨i + 1, _, by omega, Nat.le_refl _, by go_num, HOWN.out, HPS.out, HHR.out, HB.out⟩
    · have hlt' : ¬ (i : Int) < (ats.length : Int) := by omega
      have hin : i = ats.length := by omega
      rw [hin, List.take_length, ← ho.1, List.take_length] at ht
      subst ht
      have h25' : wr.cell? ⟨L, 25, none⟩ = some (.slice bo l.length bc) := (hbw.cell (p := ⟨L, 25, none⟩) hL).trans h25
      have HBB : Hid (wr.ownsRow base 102 4 (.slice bo l.length bc) l.length (l.flatMap pbCells)) := ownsRow_same hb fun k hk => hbw.block k (hb.lt k hk).2
      have HO : Hid (wr.ownsRow G 50 4 (.slice (some ⟨G, 0, none⟩) ats.length ats.length) ats.length (ats.flatMap plainCells)) := ho
      have HRR : Hid (wr.heap[w.heap.size]? = (w.alloc (.cells #[.slice none 0 0, .slice none 0 0] 39)).heap[w.heap.size]?) := hr
      have HBW : Hid (Below w.heap.size w wr) := hbw
      have hGs := (ho.lt _ rfl).2
      have hLr : L < wr.heap.size := by have := hbw.size; omega
      have hl' : l.length ≤ 1000 := hl
      clear ho hr hbw hlt hin hk
      clear h24' HR hbel hown hsz2 HC
      obtain ⟨wa, ewa⟩ : ∃ x, x = wr := ⟨_, rfl⟩
      subst ewa
      go_wp2_with (at_make; go_must (refine wpList_make_full _ rfl _ _ 37 rfl wa.heap.size 46 j0 (.agg #[.int .i64 0, .int .i64 0, .int .i64 0]) 3 Tryz.underlying37 hj hjz0 hjz1 .i64 .i64 _ _ l.length rfl rfl rfl rfl ?d1 ?d2 ?d3 ?_))
      case d1 => (try rw [hjz2]); omega
      case d2 => unfold maxLen; omega
      intro w3 hown3 hgrow3
      have hb3 : Below wa.heap.size wa w3 := (Below.refl _ wa).grown hgrow3 (Nat.le_refl _) (by simp)
      have h25'' : w3.cell? ⟨L, 25, none⟩ = some (.slice bo l.length bc) := (hb3.cell (p := ⟨L, 25, none⟩) hLr).trans h25'
      generalize hys : Array.toList _ = ys0 at hown3
      clear hgrow3 hys h25'
      go_wp2_with fail
      obtain ⟨H, hH⟩ : ∃ H, H = wa.heap.size := ⟨_, rfl⟩
      rw [← hH] at hown3
      have HH : Hid (H = wa.heap.size) := hH
      simp only [← hH]
      clear hH
      go_loopg [42] (l.length + 1) (fun k vi wr => ∃ i : Nat, ∃ ys : List Value, i ≤ l.length ∧ l.length - i ≤ k ∧ vi = .int .i64 i ∧ wr.ownsRow H 46 3 (.slice (some ⟨H, 0, none⟩) l.length l.length) l.length ys ∧ ys.take (i * 3) = (l.take i).flatMap bndCells ∧ Below wa.heap.size wa wr)
      case atStart => exact ⟨0, ys0, by omega, by omega, rfl, hown3, by simp, hb3⟩
      case round =>
        obtain ⟨i, ys, hi', hk, rfl, ho, ht, hbw⟩ := hrel
        by_cases hlt : i < l.length
        · have gi := List.getElem?_eq_getElem hlt
          have hlt' : (i : Int) < (l.length : Int) := by omega
          obtain ⟨g4, cap4, e4, _, hg4, hc4, _⟩ := ownsRow_at HBB.out (by omega)
          simp only [Value.slice.injEq, true_and] at e4
          obtain ⟨rfl, rfl⟩ := e4
          have cc : ∀ j v, (pbCells l[i])[j]? = some v → wr.cell? ⟨g4, i * 4 + j, none⟩ = some v := by
            intro j v hj
            have hj6 : j < 4 := by
              have := (List.getElem?_eq_some_iff.1 hj).1
              simpa [pbCells_len] using this
            rw [hbw.cell (p := ⟨g4, i * 4 + j, none⟩) hg4, hc4 (i * 4 + j) (by omega), flatMap_get pbCells 4 pbCells_len _ i j _ gi hj6, hj]
          generalize l[i] = b at *
          have q0 : wr.cell? ⟨g4, i * 4, none⟩ = some (.int .i64 b.a) := cc 0 _ rfl
          have q1 : wr.cell? ⟨g4, i * 4 + 1, none⟩ = some (.int .i64 b.b) := cc 1 _ rfl
          have q2 : wr.cell? ⟨g4, i * 4 + 2, none⟩ = some (.int .i64 b.o) := cc 2 _ rfl
          have q3 : wr.cell? ⟨g4, i * 4 + 3, none⟩ = some (.int .i64 b.pl) := cc 3 _ rfl
          clear cc hc4
          obtain ⟨g2, cap2, e2, _, hg2, hc2, hf2⟩ := ownsRow_at ho (by omega)
          simp only [Value.slice.injEq, Option.some.injEq, Addr.mk.injEq, and_true, true_and] at e2
          obtain ⟨rfl, rfl⟩ := e2
          have hxl := ho.1
          have d : ∀ j, j < 3 → ∃ v, wr.cell? ⟨H, i * 3 + j, none⟩ = some v := fun j hj => ⟨ys[i * 3 + j]'(by omega), (hc2 _ (by omega)).trans (List.getElem?_eq_getElem (by omega))⟩
          obtain ⟨v0, d0⟩ := d 0 (by omega)
          obtain ⟨v1, d1⟩ := d 1 (by omega)
          obtain ⟨v2, d2⟩ := d 2 (by omega)
          rw [Nat.add_zero] at d0
          have f0 := hf2 (i * 3)
          have f1 := hf2 (i * 3 + 1)
          have f2 := hf2 (i * 3 + 2)
          clear hc2 hf2 d
          have hgs : g4 < wr.heap.size := by have := hbw.size; omega
          have HPS : Hid _ := bnd_step l ys i b gi hxl ht
          have HS := ((ho.stored (i * 3) (.int .i64 b.a)).1.stored (i * 3 + 1) (.int .i64 b.b)).1.stored (i * 3 + 2) (.int .i64 b.o)
          have HOWN : Hid _ := HS.1.alloc (.cells #[.int .i64 b.a, .int .i64 b.b, .int .i64 b.o, .int .i64 b.pl] 102)
          have hHle : wa.heap.size ≤ H := by have := HH.out; omega
          have HB : Hid _ := (((hbw.setCell (p := ⟨H, i * 3, none⟩) hHle (.int .i64 b.a)).setCell (p := ⟨H, i * 3 + 1, none⟩) hHle (.int .i64 b.b)).setCell (p := ⟨H, i * 3 + 2, none⟩) hHle (.int .i64 b.o)).alloc (by simpa using hbw.size) (.cells #[.int .i64 b.a, .int .i64 b.b, .int .i64 b.o, .int .i64 b.pl] 102)
          clear HS
          go_wp2_with fail
          go_roundg (l.length - (i + 1))
          case measure => omega
          case rel => exact ⟨i + 1, _, by omega, Nat.le_refl _, by go_num, HOWN.out, HPS.out, HB.out⟩
        · have hlt' : ¬ (i : Int) < (l.length : Int) := by omega
          have hin : i = l.length := by omega
          rw [hin, List.take_length, ← ho.1, List.take_length] at ht
          subst ht
          have hRw : w.heap.size < wa.heap.size := by have := HG.out; omega
          have hRR : wr.heap[w.heap.size]? = (w.alloc (.cells #[.slice none 0 0, .slice none 0 0] 39)).heap[w.heap.size]? := (hbw.block _ hRw).trans HRR.out
          have r0 : wr.cell? ⟨w.heap.size, 0, none⟩ = some (.slice none 0 0) := (World.cell?_of_block (w := w.alloc (.cells #[.slice none 0 0, .slice none 0 0] 39)) hRR).trans (by simp)
          have r1 : wr.cell? ⟨w.heap.size, 1, none⟩ = some (.slice none 0 0) := (World.cell?_of_block (w := w.alloc (.cells #[.slice none 0 0, .slice none 0 0] 39)) hRR).trans (by simp)
          have rf : ∀ j, wr.frozen? ⟨w.heap.size, j, none⟩ = false := fun j => (World.frozen?_of_block (w := w.alloc (.cells #[.slice none 0 0, .slice none 0 0] 39)) hRR).trans (by simp)
          have rf0 := rf 0
          have rf1 := rf 1
          have HA3 : wr.ownsRow G 50 4 (.slice (some ⟨G, 0, none⟩) ats.length ats.length) ats.length (ats.flatMap plainCells) := ownsRow_same HO.out fun k hk => hbw.block k (HO.out.lt k hk).2
          have hG1 := HG.out
          have hH1 := HH.out
          have HFA : Hid (((wr.setCell ⟨w.heap.size, 0, none⟩ (.slice (some ⟨G, 0, none⟩) ats.length ats.length)).setCell ⟨w.heap.size, 1, none⟩ (.slice (some ⟨H, 0, none⟩) l.length l.length)).ownsRow w.heap.size 50 4 (.slice (some ⟨G, 0, none⟩) ats.length ats.length) ats.length (ats.flatMap plainCells)) :=
            ownsRow_mono (ownsRow_setCell_other (ownsRow_setCell_other HA3 (by simp [Value.ownBlock]; omega) _) (by simp [Value.ownBlock]; omega) _) (by omega)
          have HFB : Hid (((wr.setCell ⟨w.heap.size, 0, none⟩ (.slice (some ⟨G, 0, none⟩) ats.length ats.length)).setCell ⟨w.heap.size, 1, none⟩ (.slice (some ⟨H, 0, none⟩) l.length l.length)).ownsRow w.heap.size 46 3 (.slice (some ⟨H, 0, none⟩) l.length l.length) l.length (l.flatMap bndCells)) :=
            ownsRow_mono (ownsRow_setCell_other (ownsRow_setCell_other ho (by simp [Value.ownBlock]; omega) _) (by simp [Value.ownBlock]; omega) _) (by omega)
          have HFC : Hid (Below w.heap.size w ((wr.setCell ⟨w.heap.size, 0, none⟩ (.slice (some ⟨G, 0, none⟩) ats.length ats.length)).setCell ⟨w.heap.size, 1, none⟩ (.slice (some ⟨H, 0, none⟩) l.length l.length))) :=
            ((HBW.out.trans (hbw.mono (by omega))).setCell (p := ⟨w.heap.size, 0, none⟩) (Nat.le_refl _) _).setCell (p := ⟨w.heap.size, 1, none⟩) (Nat.le_refl _) _
          clear HA3 rf hRR hG1 hH1 hRw ho hbw
          go_wp2_with fail
          refine bodyPost_ret (v := .agg #[.slice (some ⟨G, 0, none⟩) ats.length ats.length, .slice (some ⟨H, 0, none⟩) l.length l.length]) ?_ rfl ⟨_, _, rfl, HFA.out, HFB.out, HFC.out⟩
          simp only [results, Tryz.results26]
          go_simp
end
theorem whole_wf {s : ByteArray} (hs : s.size ≤ 160) {q : St} (h : wholeR s = .ok q) : Ok s q ∧ 0 < q.atoms.length := by
  unfold wholeR at h
  split at h
  · cases h
  rename_i p hp
  have hne := chain_ne hp (start_ok s)
  have ho := (chain_wf s (s.size + 1) _ _ _ (start_ok s) (.inl rfl) hp).1
  unfold finish valencesOk at h
  split at h
  · cases h
  split at h
  · cases h
  split at h
  · cases h
  cases h
  exact ⟨withHy_wf ho hs, by simp [withHy]; exact hne⟩

theorem parse_whole (s : ByteArray) (hs : s.size ≤ 160) : Bz.parse s = (wholeR s).map fun q => (q.atoms, q.bonds) := by
  unfold Bz.parse wholeR
  rw [if_neg (by omega)]
  cases hc : Bz.chain s (s.size + 1) ⟨0, 0, -1⟩ Bz.start with
  | error e => rfl
  | ok p =>
    simp only []
    unfold finish valencesOk withHy
    split
    · rfl
    split
    · rfl
    simp only []
    split <;> rename_i h <;> rw [h] <;> rfl

/-- What a reading gives, said of the molecule's value: something is wrong. -/
structure ReadBad (s : ByteArray) (w : World) (e : Ending) (w' : World) (er : Int × Int) : Prop where
  h : Bz.parse s = .error er
  he : e = .returned (.tuple #[.agg zeroMol, .int .i64 er.1, .int .i64 er.2])
  hne : er.1 ≠ 0
  hb : Below w.heap.size w w'
/-- Or there is a molecule. -/
structure ReadGood (s : ByteArray) (w : World) (e : Ending) (w' : World) (q : St) (ns : List Value) (av bv : Value) : Prop where
  h : Bz.parse s = .ok (q.atoms, q.bonds)
  he : e = .returned (.tuple #[.agg (ns ++ [av, bv]).toArray, .int .i64 0, .int .i64 0])
  hr : ReadOk w w' q ns av bv
  ho : Ok s q
  hne : 0 < q.atoms.length
def ReadIs (s : ByteArray) (w : World) (e : Ending) (w' : World) : Prop := (∃ er, ReadBad s w e w' er) ∨ ∃ q ns av bv, ReadGood s w e w' q ns av bv
theorem ReadIs.bad {s : ByteArray} {w : World} {e : Ending} {w' : World} (er : Int × Int) (h : Bz.parse s = .error er) (he : e = .returned (.tuple #[.agg zeroMol, .int .i64 er.1, .int .i64 er.2])) (hne : er.1 ≠ 0) (hb : Below w.heap.size w w') : ReadIs s w e w' := .inl ⟨er, h, he, hne, hb⟩
theorem ReadIs.good {s : ByteArray} {w : World} {e : Ending} {w' : World} (q : St) (ns : List Value) (av bv : Value) (h : Bz.parse s = .ok (q.atoms, q.bonds)) (he : e = .returned (.tuple #[.agg (ns ++ [av, bv]).toArray, .int .i64 0, .int .i64 0])) (hr : ReadOk w w' q ns av bv) (ho : Ok s q) (hne : 0 < q.atoms.length) : ReadIs s w e w' := .inr ⟨q, ns, av, bv, h, he, hr, ho, hne⟩

theorem read_any (s : ByteArray) (w : World) (hm : s.size ≤ maxLen) : Calls Tryz.prog 22 #[.string s] w (ReadIs s w) := by
  by_cases hs : s.size ≤ 160
  · have hp := parse_whole s hs
    cases hq : wholeR s with
    | error er =>
      rw [hq] at hp
      exact (read_err s w hs er hq).mono fun e w' h => .bad er hp h.1 (whole_nz hq) h.2
    | ok q =>
      rw [hq] at hp
      refine (read_ok s w hs q hq).mono fun e w' h => ?_
      obtain ⟨ns, av, bv, he, hr⟩ := h
      exact .good q ns av bv hp he hr (whole_wf hs hq).1 (whole_wf hs hq).2
  · have hp : Bz.parse s = .error (1, 0) := by unfold Bz.parse; rw [if_pos (by omega)]
    exact (read_long s w (by omega) hm).mono fun e w' h => .bad (1, 0) hp h.1 (by simp) h.2

/-- What Parse gives: something is wrong. -/
structure ParseBad (s : ByteArray) (w : World) (e : Ending) (w' : World) (er : Int × Int) : Prop where
  h : Bz.parse s = .error er
  he : e = .returned (.tuple #[.agg #[.slice none 0 0, .slice none 0 0], .int .i64 er.1, .int .i64 er.2])
  hb : Below w.heap.size w w'
/-- Or there is a molecule. -/
structure ParseGood (s : ByteArray) (w : World) (e : Ending) (w' : World) (ats : List Atm) (l : List Bnd) (v v' : Value) : Prop where
  h : Bz.parse s = .ok (ats, l)
  he : e = .returned (.tuple #[.agg #[v, v'], .int .i64 0, .int .i64 0])
  ha : w'.ownsRow w.heap.size 50 4 v ats.length (ats.flatMap plainCells)
  hl : w'.ownsRow w.heap.size 46 3 v' l.length (l.flatMap bndCells)
  hb : Below w.heap.size w w'
  hne : 0 < ats.length
  hn : ats.length ≤ 24
  hln : l.length ≤ 160
def ParseIs (s : ByteArray) (w : World) (e : Ending) (w' : World) : Prop := (∃ er, ParseBad s w e w' er) ∨ ∃ ats l v v', ParseGood s w e w' ats l v v'
theorem ParseIs.bad {s : ByteArray} {w : World} {e : Ending} {w' : World} (er : Int × Int) (h : Bz.parse s = .error er) (he : e = .returned (.tuple #[.agg #[.slice none 0 0, .slice none 0 0], .int .i64 er.1, .int .i64 er.2])) (hb : Below w.heap.size w w') : ParseIs s w e w' := .inl ⟨er, h, he, hb⟩
theorem ParseIs.good {s : ByteArray} {w : World} {e : Ending} {w' : World} (ats : List Atm) (l : List Bnd) (v v' : Value) (h : Bz.parse s = .ok (ats, l)) (he : e = .returned (.tuple #[.agg #[v, v'], .int .i64 0, .int .i64 0])) (ha : w'.ownsRow w.heap.size 50 4 v ats.length (ats.flatMap plainCells))
    (hl : w'.ownsRow w.heap.size 46 3 v' l.length (l.flatMap bndCells)) (hb : Below w.heap.size w w') (hne : 0 < ats.length) (hn : ats.length ≤ 24) (hln : l.length ≤ 160) : ParseIs s w e w' := .inr ⟨ats, l, v, v', h, he, ha, hl, hb, hne, hn, hln⟩

/-- The result's cell and all below stand as they stood. -/
structure Held (w W : World) : Prop where
  r0 : W.cell? ⟨w.heap.size, 0, none⟩ = some (.slice none 0 0)
  r1 : W.cell? ⟨w.heap.size, 1, none⟩ = some (.slice none 0 0)
  f : ∀ j, W.frozen? ⟨w.heap.size, j, none⟩ = false
  b : Below w.heap.size w W

theorem held_of {w W : World} (h : Below (w.heap.size + 1) (w.alloc (.cells #[.slice none 0 0, .slice none 0 0] 39)) W) : Held w W :=
  ⟨(h.cell (p := ⟨w.heap.size, 0, none⟩) (by simp)).trans (by simp), (h.cell (p := ⟨w.heap.size, 1, none⟩) (by simp)).trans (by simp), fun j => (h.frozen (p := ⟨w.heap.size, j, none⟩) (by simp)).trans (by simp),
    ((Below.refl _ w).alloc (Nat.le_refl _) _).trans (h.mono (by omega))⟩

section
set_option maxRecDepth 100000 in
set_option maxHeartbeats 1000000 in
theorem parse_any (s : ByteArray) (w : World) (hm : s.size ≤ maxLen) : Calls Tryz.prog 15 #[.string s] w (ParseIs s w) := by
  go_enter Tryz.func15, Tryz.ntmps15
  go_wp2_with fail
  refine (read_any s _ hm).mono ?_
  rintro e w1 h
  rcases h with ⟨er, h, he, hne, hb⟩ | ⟨q, ns, av, bv, h, he, hr, ho, hne⟩
  · subst he
    have hsz : (w.alloc (.cells #[.slice none 0 0, .slice none 0 0] 39)).heap.size = w.heap.size + 1 := by simp
    rw [hsz] at hb
    have hs1 := hb.size
    rw [hsz] at hs1
    have HT : Hid ((w1.alloc (.cells zeroMol 69)).there w1.heap.size 0 26) := there_new w1
    have HF : Held w ((w1.alloc (.cells zeroMol 69)).setCells w1.heap.size 0 zeroMol.toList) :=
      held_of (hb.trans ((below_setCells (Nat.le_refl _) _ _ _ ((Below.refl _ w1).alloc (Nat.le_refl _) _)).mono hs1))
    clear hb hsz hs1
    have HP : Hid _ := h
    clear h
    go_wp2_with (first | (refine wpList_alloc rfl 69 rfl _ _ (alloc_mol _) ?_; simp only [Act.put, List.setIfInBounds_toArray, List.set_cons_zero, List.set_cons_succ]; have tokS : True := trivial) | (have _t := tokS; go_must (refine wpList_store_mid rfl 69 (.tmp 5) (.tmp 11) rfl w1.heap.size 0 zeroMol (by simp [Act.eval]) (by simp [Act.eval]) HT.out Tryz.sizeMol zeroMol_one ?_); simp only [Act.put]; clear tokS; revert HF; generalize World.setCells _ _ _ _ = W; rintro ⟨r0, r1, rf, hbW⟩; have rf0 := rf 0; have rf1 := rf 1))
    refine bodyPost_ret (v := .tuple #[.agg #[.slice none 0 0, .slice none 0 0], .int .i64 er.1, .int .i64 er.2]) ?_ rfl (.bad er HP.out rfl ((hbW.setCell (p := ⟨w.heap.size, 0, none⟩) (Nat.le_refl _) _).setCell (p := ⟨w.heap.size, 1, none⟩) (Nat.le_refl _) _))
    simp only [results, Tryz.results15]
    go_simp
  · subst he
    obtain ⟨h1, h2, oa, ob, hb⟩ := hr
    have hsz : (w.alloc (.cells #[.slice none 0 0, .slice none 0 0] 39)).heap.size = w.heap.size + 1 := by simp
    rw [hsz] at hb oa ob
    have hs1 := hb.size
    rw [hsz] at hs1
    have hone : ∀ v ∈ ns ++ [av, bv], v.oneCell' = true := by
      intro v hv
      rcases List.mem_append.1 hv with hv | hv
      · exact h2 v hv
      · obtain ⟨x, y, rfl⟩ := ownsRow_shape oa
        obtain ⟨x', y', rfl⟩ := ownsRow_shape ob
        simp at hv
        rcases hv with rfl | rfl <;> rfl
    have hlen : (ns ++ [av, bv]).length = 26 := by simp [h1]
    have HT : Hid ((w1.alloc (.cells zeroMol 69)).there w1.heap.size 0 26) := there_new w1
    have HBL : Below w1.heap.size w1 ((w1.alloc (.cells zeroMol 69)).setCells w1.heap.size 0 (ns ++ [av, bv])) := below_setCells (Nat.le_refl _) _ _ _ ((Below.refl _ w1).alloc (Nat.le_refl _) _)
    have HF : Held w ((w1.alloc (.cells zeroMol 69)).setCells w1.heap.size 0 (ns ++ [av, bv])) := held_of (hb.trans (HBL.mono hs1))
    have HRA := World.rangeAt_setCells_same (w1.alloc (.cells zeroMol 69)) w1.heap.size 0 (ns ++ [av, bv]) (by rw [hlen]; exact HT.out)
    have C24 := HRA 24 av (by rw [List.getElem?_append_right (by omega), h1]; rfl)
    have C25 := HRA 25 bv (by rw [List.getElem?_append_right (by omega), h1]; rfl)
    have oa' := ownsRow_same oa fun k hk => HBL.block k (oa.lt k hk).2
    have ob' := ownsRow_same ob fun k hk => HBL.block k (ob.lt k hk).2
    have HSZ : w1.heap.size < ((w1.alloc (.cells zeroMol 69)).setCells w1.heap.size 0 (ns ++ [av, bv])).heap.size := World.block_lt_of_cell? _ ⟨w1.heap.size, 0 + 24, none⟩ C24
    have HONE : Hid _ := all_oneCell_toArray hone
    have HSI : Hid (26 = (ns ++ [av, bv]).length) := hlen.symm
    clear hb hsz hone hlen HBL HRA oa ob h1 h2
    generalize ns ++ [av, bv] = cs at *
    have HP : Hid _ := h
    have HO : Hid (Ok s q) := ho
    clear h ho
    go_wp2_with (first | (refine wpList_alloc rfl 69 rfl _ _ (alloc_mol _) ?_; simp only [Act.put, List.setIfInBounds_toArray, List.set_cons_zero, List.set_cons_succ]; have tokS : True := trivial) | (have _t := tokS; go_must (refine wpList_store_mid rfl 69 (.tmp 5) (.tmp 11) rfl w1.heap.size 0 cs.toArray (by simp [Act.eval]) (by simp [Act.eval]) (by simp only [List.size_toArray, ← HSI.out]; exact HT.out) (by simp only [List.size_toArray, ← HSI.out]; exact Tryz.sizeMol) HONE.out ?_); simp only [Act.put]; clear tokS; revert HF C24 C25 oa' ob' HSZ; generalize World.setCells _ _ _ _ = W; rintro ⟨r0, r1, rf, hbW⟩ C24 C25 oa' ob' HSZ; have HRF : Hid (∀ j, W.frozen? ⟨w.heap.size, j, none⟩ = false) := rf; clear rf))
    have hs : s.size ≤ 160 := by
      rcases Nat.lt_or_ge 160 s.size with h | h
      · have := HP.out
        unfold Bz.parse at this
        rw [if_pos h] at this
        cases this
      · exact h
    have hbn : q.bonds.length ≤ 160 := by have := HO.out.bonds; have := HO.out.pos; omega
    refine (plain_any W w1.heap.size (w.heap.size + 1) av bv q.atoms q.bonds (by omega) HO.out.atoms hne HSZ C24 C25 oa' ob').mono ?_
    rintro e w2 ⟨v, v', rfl, hA, hB, hb2⟩
    have hRW : w.heap.size < W.heap.size := by omega
    have x0 := (hb2.cell (p := ⟨w.heap.size, 0, none⟩) hRW).trans r0
    have x1 := (hb2.cell (p := ⟨w.heap.size, 1, none⟩) hRW).trans r1
    have y0 := (hb2.frozen (p := ⟨w.heap.size, 0, none⟩) hRW).trans (HRF.out 0)
    have y1 := (hb2.frozen (p := ⟨w.heap.size, 1, none⟩) hRW).trans (HRF.out 1)
    have n1 : v.ownBlock ≠ some w.heap.size := fun e => by have := (hA.lt _ e).1; omega
    have n2 : v'.ownBlock ≠ some w.heap.size := fun e => by have := (hB.lt _ e).1; omega
    have HA : Hid (((w2.setCell ⟨w.heap.size, 0, none⟩ v).setCell ⟨w.heap.size, 1, none⟩ v').ownsRow w.heap.size 50 4 v q.atoms.length (q.atoms.flatMap plainCells)) :=
      ownsRow_mono (ownsRow_setCell_other (ownsRow_setCell_other hA n1 _) n1 _) (by omega)
    have HB : Hid (((w2.setCell ⟨w.heap.size, 0, none⟩ v).setCell ⟨w.heap.size, 1, none⟩ v').ownsRow w.heap.size 46 3 v' q.bonds.length (q.bonds.flatMap bndCells)) :=
      ownsRow_mono (ownsRow_setCell_other (ownsRow_setCell_other hB n2 _) n2 _) (by omega)
    have HBB : Hid (Below w.heap.size w ((w2.setCell ⟨w.heap.size, 0, none⟩ v).setCell ⟨w.heap.size, 1, none⟩ v')) :=
      ((hbW.trans (hb2.mono (by omega))).setCell (p := ⟨w.heap.size, 0, none⟩) (Nat.le_refl _) _).setCell (p := ⟨w.heap.size, 1, none⟩) (Nat.le_refl _) _
    obtain ⟨ao, ac, hv⟩ := ownsRow_shape hA
    obtain ⟨bo, bc, hv'⟩ := ownsRow_shape hB
    subst hv hv'
    clear hA hB hb2 n1 n2 C24 C25 oa' ob' r0 r1
    go_wp2_with fail
    refine bodyPost_ret (v := .tuple #[.agg #[.slice ao q.atoms.length ac, .slice bo q.bonds.length bc], .int .i64 0, .int .i64 0]) ?_ rfl (.good q.atoms q.bonds _ _ HP.out rfl HA.out HB.out HBB.out hne HO.out.atoms hbn)
    simp only [results, Tryz.results15]
    go_simp
end
/-- A ring number that the document's reader holds open. -/
structure ROpn where
  num : Nat
  atom : Nat
  place : Nat
  sign : Int

structure RSt where
  pos : Nat
  atoms : List Atm
  bonds : List Bnd
  opens : List ROpn
  e : Int
  place : Int

def ropnCells (o : ROpn) : List Value := [.int .i64 o.num, .int .i64 o.atom, .int .i64 o.place, .int .u8 o.sign]

structure RRd (w : World) (B : Nat) (s : ByteArray) (p : RSt) : Prop where
  text : w.cell? ⟨B, 0, none⟩ = some (.string s)
  pos : w.cell? ⟨B, 1, none⟩ = some (.int .i64 p.pos)
  atoms : ∃ v, w.cell? ⟨B, 2, none⟩ = some v ∧ w.ownsRow (B + 1) 50 4 v p.atoms.length (p.atoms.flatMap plainCells)
  bonds : ∃ v, w.cell? ⟨B, 3, none⟩ = some v ∧ w.ownsRow (B + 1) 46 3 v p.bonds.length (p.bonds.flatMap bndCells)
  ats : ∃ v, w.cell? ⟨B, 4, none⟩ = some v ∧ w.ownsRow (B + 1) 3 1 v p.atoms.length (p.atoms.map fun a => .int .i64 a.pl)
  brs : ∃ v, w.cell? ⟨B, 5, none⟩ = some v ∧ w.ownsRow (B + 1) 4 1 v p.atoms.length (p.atoms.map fun a => .bool a.br)
  opens : ∃ v, w.cell? ⟨B, 6, none⟩ = some v ∧ w.ownsRow (B + 1) 166 4 v p.opens.length (p.opens.flatMap ropnCells)
  err : w.cell? ⟨B, 7, none⟩ = some (.int .i64 p.e)
  plc : w.cell? ⟨B, 8, none⟩ = some (.int .i64 p.place)
  free : ∀ i, w.frozen? ⟨B, i, none⟩ = false

theorem RRd.lt {w : World} {B : Nat} {s : ByteArray} {p : RSt} (h : RRd w B s p) : B < w.heap.size := World.block_lt_of_cell? w ⟨B, 0, none⟩ h.text

/-- What the document's next gives. -/
def rnext (s : ByteArray) (p : RSt) : Int := if p.e = 0 then byteAt s p.pos else 0

section
variable {w : World} {B : Nat} {s : ByteArray} {p : RSt}
set_option maxHeartbeats 1000000 in
theorem rnext_any (h : RRd w B s p) :
    Calls Tryz.prog 94 #[.pointer (some ⟨B, 0, none⟩)] w fun e w' => e = .returned (.int .u8 (rnext s p)) ∧ ∃ k, w' = w.drewN k := by
  have q0 := h.text
  have q1 := h.pos
  have q7 := h.err
  unfold rnext
  by_cases he : p.e = 0
  · rw [if_pos he]
    rw [he] at q7
    by_cases hp : p.pos < s.size
    · rw [byteAt_lt _ _ hp]
      have hb : ¬ (s.size : Int) ≤ (p.pos : Int) := by omega
      have hb' : (p.pos : Int) < (s.size : Int) := by omega
      go_enter Tryz.func94, Tryz.ntmps94
      go_wp2
      go_quiet (fail)
      go_wp2
      go_quiet (fail)
      go_wp2
      go_ret
      exact ⟨rfl, _, World.drewN_drewN _ _ _⟩
    · rw [byteAt_ge _ _ hp]
      have hb : (s.size : Int) ≤ (p.pos : Int) := by omega
      go_enter Tryz.func94, Tryz.ntmps94
      go_wp2
      go_quiet (fail)
      go_wp2
      go_ret
      exact ⟨rfl, _, rfl⟩
  · rw [if_neg he]
    have hb : (p.e != 0) = true := by simpa using he
    go_enter Tryz.func94, Tryz.ntmps94
    go_wp2
    go_quiet (fail)
    go_wp2
    go_ret
    exact ⟨rfl, _, rfl⟩

theorem rdigit_any (w : World) (c : Int) : Calls Tryz.prog 95 #[.int .u8 c] w fun e w' => e = .returned (.bool (Bz.isDigit c)) ∧ w' = w := by
  unfold Bz.isDigit
  by_cases ha : 48 ≤ c
  · by_cases hb : c ≤ 57
    all_goals
      go_enter Tryz.func95, Tryz.ntmps95
      go_wp2
      go_ret
      exact ⟨ret_bool (by simp [ha, hb]), rfl⟩
  · go_enter Tryz.func95, Tryz.ntmps95
    go_wp2
    go_ret
    exact ⟨ret_bool (by rw [decide_eq_false (by omega : ¬ 48 ≤ c)]; rfl), rfl⟩

/-- Is a byte one of these? -/
def isOne (all : ByteArray) (c : Int) : Bool := (List.range all.size).any fun k => byteAt all k == c

theorem isOne_true {all : ByteArray} {c : Int} {i : Nat} (hi : i < all.size) (h : byteAt all i = c) : isOne all c = true := by
  unfold isOne
  exact List.any_eq_true.2 ⟨i, List.mem_range.2 hi, by simp [h]⟩

theorem isOne_false {all : ByteArray} {c : Int} (h : ∀ i, i < all.size → byteAt all i ≠ c) : isOne all c = false := by
  unfold isOne
  rw [List.any_eq_false]
  intro i hi
  simp [h i (List.mem_range.1 hi)]

set_option maxRecDepth 100000 in
set_option maxHeartbeats 1000000 in
theorem rone_any (w : World) (c : Int) (all : ByteArray) (hl : all.size ≤ 20) : Calls Tryz.prog 123 #[.int .u8 c, .string all] w fun e w' => e = .returned (.bool (isOne all c)) ∧ w' = w := by
  go_enter Tryz.func123, Tryz.ntmps123
  go_wp2_with fail
  go_loopg [5] (all.size + 1) (fun k vi wr => ∃ i : Nat, i ≤ all.size ∧ all.size - i ≤ k ∧ vi = .int .i64 i ∧ wr = w ∧ ∀ j, j < i → byteAt all j ≠ c)
  case atStart => exact ⟨0, by omega, by omega, rfl, rfl, by intro j hj; omega⟩
  case round =>
    obtain ⟨i, hi, hk, rfl, rfl, hall⟩ := hrel
    have HA : Hid _ := hall
    clear hall
    by_cases hlt : i < all.size
    · have hlt' : (i : Int) < (all.size : Int) := by omega
      by_cases hc : byteAt all i = c
      · have HC : Hid _ := isOne_true hlt hc
        rw [byteAt_lt _ _ hlt] at hc
        go_wp2_with fail
        go_ret
        exact ⟨ret_bool HC.out.symm, rfl⟩
      · have HN : Hid (byteAt all i ≠ c) := hc
        rw [byteAt_lt _ _ hlt] at hc
        go_wp2_with fail
        go_roundg (all.size - (i + 1))
        case measure => omega
        case rel =>
          refine ⟨i + 1, by omega, Nat.le_refl _, by go_num, rfl, ?_⟩
          intro j hj
          by_cases e : j = i
          · rw [e]; exact HN.out
          · exact HA.out j (by omega)
    · have hlt' : ¬ (i : Int) < (all.size : Int) := by omega
      have HC : Hid (isOne all c = false) := isOne_false fun j hj => HA.out j (by omega)
      go_wp2_with fail
      go_ret
      exact ⟨ret_bool HC.out.symm, rfl⟩
end
end Go.Proofs.YtcabaecbmkgclaaGreatDoor
