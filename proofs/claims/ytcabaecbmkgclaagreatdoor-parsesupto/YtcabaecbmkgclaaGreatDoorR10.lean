/-
  What the book does with a list that came out: it is written full of its mark, made longer by one, two and three, and all four are kept.
-/
import Derived.Test.YtcabaecbmkgclaaGreatDoorR03
import Derived.Test.YtcabaecbmkgclaaGreatDoorR09
namespace Go.Proofs.YtcabaecbmkgclaaGreatDoor
open Go.RowKit
theorem Tryz.infoPair : (Tryz.prog.info? 48).map (fun i => (i.zero, i.size, i.bytes)) = some (some (.agg #[.int .i64 0, .int .i64 0]), 2, 16) := by kernel_rfl
theorem Tryz.infoInt1 : (Tryz.prog.info? 3).map (fun i => (i.zero, i.size, i.bytes)) = some (some (.int .i64 0), 1, 8) := by kernel_rfl
theorem Tryz.infoSlip : (Tryz.prog.info? 84).map (fun i => (i.zero, i.size, i.bytes)) = some (some (.agg #[.slice none 0 0, .slice none 0 0, .slice none 0 0, .slice none 0 0, .int .i64 0]), 5, 104) := by kernel_rfl

theorem marks_next (c xs ys : List Value) (i : Nat) (ht : xs.take (i * c.length) = marks c i)
    (h1 : ∀ j, j < i * c.length → ys[j]? = xs[j]?) (h2 : ∀ j, j < c.length → ys[i * c.length + j]? = c[j]?) : ys.take ((i + 1) * c.length) = marks c (i + 1) := by
  have hsu : (i + 1) * c.length = i * c.length + c.length := Nat.succ_mul _ _
  apply List.ext_getElem?
  intro k
  rw [List.getElem?_take]
  by_cases hk : k < (i + 1) * c.length
  · rw [if_pos hk]
    by_cases hk2 : k < i * c.length
    · rw [h1 k hk2, ← marks_add c i 1, List.getElem?_append_left (by rw [marks_len]; exact hk2), ← ht, List.getElem?_take, if_pos hk2]
    · obtain ⟨j, rfl⟩ : ∃ j, k = i * c.length + j := ⟨k - i * c.length, by omega⟩
      rw [h2 j (by omega), marks_get c (i + 1) i j (by omega) (by omega)]
  · rw [if_neg hk, List.getElem?_eq_none (by rw [marks_len]; omega)]

theorem news_cells (w : World) (cs : List Value) (t : TypeId) : ∀ j u, cs[j]? = some u → (w.alloc (.cells cs.toArray t)).cell? ((⟨w.heap.size, 0, none⟩ : Addr).add j) = some u := by
  intro j u hj
  have hadd : (⟨w.heap.size, 0, none⟩ : Addr).add j = ⟨w.heap.size, j, none⟩ := by unfold Addr.add; split <;> simp_all
  rw [hadd, World.cell?_alloc_new]
  simpa using hj

theorem ownsRow_fresh (w : World) (cs : List Value) (t : TypeId) (n : Nat) (hn : cs.length = n) (hm : n ≤ maxLen) : (w.alloc (.cells cs.toArray t)).ownsRow w.heap.size t 1 (.slice (some ⟨w.heap.size, 0, none⟩) n n) n cs :=
  ⟨by omega, .inr ⟨w.heap.size, n, cs.toArray, rfl, Nat.le_refl _, heap_alloc_new w _, Nat.le_refl _, hm, by simp [hn], by simp [← hn]⟩⟩

/-- What a keeping may have turned: the book's own block and row, the row of the list. -/
structure KFr (w w' : World) (B : Nat) (v : Value) : Prop where
  os : w'.os = w.os
  tape : w'.tape = w.tape
  output : w'.output = w.output
  size : w.heap.size ≤ w'.heap.size
  block : ∀ k, k < w.heap.size → k ≠ B → (∀ bv, w.cell? ⟨B, 0, none⟩ = some bv → bv.ownBlock ≠ some k) → v.ownBlock ≠ some k → w'.heap[k]? = w.heap[k]?
  row : ∀ bv', w'.cell? ⟨B, 0, none⟩ = some bv' → ∀ k, bv'.ownBlock = some k → k < w.heap.size → ∃ bv, w.cell? ⟨B, 0, none⟩ = some bv ∧ bv.ownBlock = some k

def KeepPost (N : Nat) (w : World) (B : Nat) (l : List Sl) (v : Value) (e : Ending) (w' : World) : Prop := e = .returned (.tuple #[]) ∧ (∃ x, BookOk N w' B (l ++ [x]) ∧ ∀ k, x.has k → v.ownBlock = some k ∨ w.heap.size ≤ k) ∧ KFr w w' B v

theorem keep_fin {N : Nat} {w w4 w5 : World} {B : Nat} {l : List Sl} {v bv : Value} (h : BookOk N w B l) (hB : B < w.heap.size) (hbv : w.cell? ⟨B, 0, none⟩ = some bv) (hvB : v.ownBlock ≠ some B) (hvr : ∀ k, v.ownBlock = some k → bv.ownBlock ≠ some k) (hfr : ∀ k, v.ownBlock = some k → ∀ x ∈ l, ¬ x.has k)
    (hg : w.grownBy w4 v.ownBlock) (x : Sl) (hx : SlOk w4 x) (hxl : ∀ k, x.has k → v.ownBlock = some k ∨ w.heap.size ≤ k) (v' : Value) (ho : w5.ownsRow N 84 5 v' (l.length + 1) (l.flatMap slCells ++ slCells x)) (hg5 : w4.grownBy w5 bv.ownBlock) (hk5 : ∀ k, v'.ownBlock = some k → bv.ownBlock = some k ∨ w4.heap.size ≤ k) :
    KeepPost N w B l v (.returned (.tuple #[])) (w5.setCell ⟨B, 0, none⟩ v') := by
  obtain ⟨hBh, hr⟩ := h.row hbv
  have hB4 : w4.heap[B]? = w.heap[B]? := hg.block B hB fun e => hvB e.symm
  have hbv4 : w4.cell? ⟨B, 0, none⟩ = some bv := by rw [World.cell?_of_block (w := w) hB4]; exact hbv
  have h4 : BookOk N w4 B l := by
    refine h.same fun k hk => ?_
    rcases hk with rfl | ⟨u, hu, hk⟩ | ⟨y, hy, hk⟩
    · exact hB4
    · rw [hbv] at hu
      cases hu
      exact hg.block k (hr.lt k hk).2 fun e => hvr k e.symm hk
    · exact hg.block k ((h.ok y hy).lt hk) fun e => hfr k e.symm y hy hk
  refine ⟨rfl, ⟨x, h4.added hbv4 x hx v' ho hg5, hxl⟩, hg5.os.trans hg.os, hg5.tape.trans hg.tape, hg5.output.trans hg.output, ?_, ?_, ?_⟩
  · have := hg5.size
    have := hg.size
    simp
    omega
  · intro k hk h1 h2 h3
    rw [Below.heap_setCell w5 _ _ k h1]
    exact (hg5.block k (Nat.lt_of_lt_of_le hk hg.size) fun e => h2 bv hbv e.symm).trans (hg.block k hk fun e => h3 e.symm)
  · intro bv' hbv' k hk hlt
    have hB5 : w5.cell? ⟨B, 0, none⟩ = some bv := by
      rw [World.cell?_of_block (w := w4) (a := ⟨B, 0, none⟩) (hg5.block B (Nat.lt_of_lt_of_le hB hg.size) fun e => ?_)]
      · exact hbv4
      · obtain ⟨cur, hc⟩ := ownsRow_type hr e.symm
        rw [hBh] at hc
        simp at hc
    rw [World.cell?_setCell_same w5 _ _ hB5] at hbv'
    cases hbv'
    rcases hk5 k hk with e | e
    · exact ⟨bv, hbv, e⟩
    · have := hg.size
      omega

section
set_option maxRecDepth 100000 in
set_option maxHeartbeats 4000000 in
theorem keepA_any {N : Nat} {w : World} {B : Nat} {l : List Sl} (h : BookOk N w B l) (hl : l.length ≤ 9000000) {base : Nat} {v : Value} {n : Nat} {xs : List Value} (hv : w.ownsRow base 50 4 v n xs) (hn : n ≤ 900) (hbs : base ≤ w.heap.size) (hfr : ∀ k, v.ownBlock = some k → ∀ x ∈ l, ¬ x.has k) :
    Calls Tryz.prog 44 #[.pointer (some ⟨B, 0, none⟩), v] w (KeepPost N w B l v) := by
  obtain ⟨bo, bc, cB, fB, hBlt, hBh, hBr⟩ := h.at
  obtain ⟨vo, vc, hvs⟩ := ownsRow_shape hv
  subst hvs
  obtain ⟨i0, hi0, hz0, hz1, hz2⟩ := info_parts Tryz.infoPAtom
  obtain ⟨j0, hj0, hy0, hy1, hy2⟩ := info_parts Tryz.infoSlip
  have HBK : Hid (BookOk N w B l) := h
  have HNB : Hid ((Value.slice vo n vc).ownBlock ≠ some B) := fun e => (h.not hv (by decide) (by decide) e).1 rfl
  have HNR : Hid (∀ k, (Value.slice vo n vc).ownBlock = some k → (Value.slice bo l.length bc).ownBlock ≠ some k) := fun k hk => (h.not hv (by decide) (by decide) hk).2 _ cB
  have HFR : Hid (∀ k, (Value.slice vo n vc).ownBlock = some k → ∀ x ∈ l, ¬ x.has k) := hfr
  have HLT : Hid (∀ k, (Value.slice vo n vc).ownBlock = some k → k < w.heap.size) := fun k hk => (hv.lt k hk).2
  have HNB0 : Hid (N ≤ B) := h.base
  have HBR : Hid (w.ownsRow N 84 5 (.slice bo l.length bc) l.length (l.flatMap slCells)) := hBr
  have HV1 : Hid (∀ m : Int, (w.alloc (.cells #[.string ⟨#[]⟩, .bool false, .int .i64 m, .int .i64 0] 50)).ownsRow base 50 4 (.slice vo n vc) n xs) := fun m => hv.alloc _
  clear h hfr hBr hBh
  go_enter Tryz.func44, Tryz.ntmps44
  go_wp2_with fail
  generalize (1000 : Int) + (l.length : Int) = m
  have HV2 : Hid ((w.alloc (.cells #[.string ⟨#[]⟩, .bool false, .int .i64 m, .int .i64 0] 50)).ownsRow base 50 4 (.slice vo n vc) n xs) := HV1.out m
  clear hv HV1
  go_loopg [6] (n + 1) (fun k vi wr => ∃ i : Nat, ∃ ys : List Value, i ≤ n ∧ n - i ≤ k ∧ vi = .int .i64 i ∧ wr.ownsRow base 50 4 (.slice vo n vc) n ys ∧ ys.take (i * 4) = marks (atomMark m) i ∧ (w.alloc (.cells #[.string ⟨#[]⟩, .bool false, .int .i64 m, .int .i64 0] 50)).grownBy wr (Value.slice vo n vc).ownBlock)
  case atStart => exact ⟨0, xs, by omega, by omega, rfl, HV2.out, by simp [marks], World.grownBy.refl _ _⟩
  case round =>
    obtain ⟨i, ys, hi, hk, rfl, ho, ht, hg⟩ := hrel
    clear HV2
    by_cases hlt : i < n
    · have hlt' : (i : Int) < (n : Int) := by omega
      obtain ⟨g, cap, e1, _, hgl, hc, hf⟩ := ownsRow_at ho (by omega)
      simp only [Value.slice.injEq, true_and] at e1
      obtain ⟨rfl, rfl⟩ := e1
      have hyl := ho.1
      have hbx : wr.heap[w.heap.size]? = (w.alloc (.cells #[.string ⟨#[]⟩, .bool false, .int .i64 m, .int .i64 0] 50)).heap[w.heap.size]? := hg.block _ (by simp) (fun e => Nat.lt_irrefl _ (HLT.out _ e.symm))
      have b0 : wr.cell? ⟨w.heap.size, 0, none⟩ = some (.string ⟨#[]⟩) := (World.cell?_of_block (w := (w.alloc (.cells #[.string ⟨#[]⟩, .bool false, .int .i64 m, .int .i64 0] 50))) hbx).trans (by simp)
      have b1 : wr.cell? ⟨w.heap.size, 1, none⟩ = some (.bool false) := (World.cell?_of_block (w := (w.alloc (.cells #[.string ⟨#[]⟩, .bool false, .int .i64 m, .int .i64 0] 50))) hbx).trans (by simp)
      have b2 : wr.cell? ⟨w.heap.size, 2, none⟩ = some (.int .i64 m) := (World.cell?_of_block (w := (w.alloc (.cells #[.string ⟨#[]⟩, .bool false, .int .i64 m, .int .i64 0] 50))) hbx).trans (by simp)
      have b3 : wr.cell? ⟨w.heap.size, 3, none⟩ = some (.int .i64 0) := (World.cell?_of_block (w := (w.alloc (.cells #[.string ⟨#[]⟩, .bool false, .int .i64 m, .int .i64 0] 50))) hbx).trans (by simp)
      clear hbx
      obtain ⟨v0, d0⟩ : ∃ u, wr.cell? ⟨g, i * 4, none⟩ = some u := ⟨ys[i * 4]'(by omega), (hc _ (by omega)).trans (List.getElem?_eq_getElem (by omega))⟩
      have f0 := hf (i * 4)
      obtain ⟨v1, d1⟩ : ∃ u, wr.cell? ⟨g, i * 4 + 1, none⟩ = some u := ⟨ys[i * 4 + 1]'(by omega), (hc _ (by omega)).trans (List.getElem?_eq_getElem (by omega))⟩
      have f1 := hf (i * 4 + 1)
      obtain ⟨v2, d2⟩ : ∃ u, wr.cell? ⟨g, i * 4 + 2, none⟩ = some u := ⟨ys[i * 4 + 2]'(by omega), (hc _ (by omega)).trans (List.getElem?_eq_getElem (by omega))⟩
      have f2 := hf (i * 4 + 2)
      obtain ⟨v3, d3⟩ : ∃ u, wr.cell? ⟨g, i * 4 + 3, none⟩ = some u := ⟨ys[i * 4 + 3]'(by omega), (hc _ (by omega)).trans (List.getElem?_eq_getElem (by omega))⟩
      have f3 := hf (i * 4 + 3)
      clear hc hf
      have HOWN : Hid _ := ((((ho.stored (i * 4) (.string ⟨#[]⟩)).1.stored (i * 4 + 1) (.bool false)).1.stored (i * 4 + 2) (.int .i64 m)).1.stored (i * 4 + 3) (.int .i64 0)).1
      have HGR : Hid _ := (grownBy_trans (grownBy_trans (grownBy_trans (grownBy_trans hg (grownBy_set _ g (i * 4) (.string ⟨#[]⟩))) (grownBy_set _ g (i * 4 + 1) (.bool false))) (grownBy_set _ g (i * 4 + 2) (.int .i64 m))) (grownBy_set _ g (i * 4 + 3) (.int .i64 0)))
      have HNX : Hid (((((ys.set (i * 4) (.string ⟨#[]⟩)).set (i * 4 + 1) (.bool false)).set (i * 4 + 2) (.int .i64 m)).set (i * 4 + 3) (.int .i64 0)).take ((i + 1) * 4) = marks (atomMark m) (i + 1)) := by
        refine marks_next (atomMark m) ys _ i ht ?_ ?_
        · intro j hj
          simp only [atomMark, List.length_cons, List.length_nil] at hj
          simp only [List.getElem?_set]
          rw [if_neg (by omega), if_neg (by omega), if_neg (by omega), if_neg (by omega)]
        · intro j hj
          simp only [atomMark, List.length_cons, List.length_nil] at hj ⊢
          have hw : i * 4 + 3 < ys.length := by omega
          match j, hj with
          | 0, _ => simp [List.getElem?_set]; omega
          | 1, _ => simp [List.getElem?_set]; omega
          | 2, _ => simp [List.getElem?_set]; omega
          | 3, _ => simp [List.getElem?_set]; omega
      clear ho ht hg hyl
      go_wp2_with fail
      go_roundg (n - (i + 1))
      case measure => omega
      case rel => exact ⟨i + 1, _, by omega, Nat.le_refl _, by go_num, HOWN.out, HNX.out, HGR.out⟩
    · have hlt' : ¬ (i : Int) < (n : Int) := by omega
      have hin : i = n := by omega
      rw [hin, ← ho.1, List.take_length] at ht
      subst ht
      have HO : Hid (wr.ownsRow base 50 4 (.slice vo n vc) n (marks (atomMark m) n)) := ho
      have HG : Hid (w.grownBy wr (Value.slice vo n vc).ownBlock) := grownBy_trans (grownBy_alloc w _ _) hg
      have HG1 : Hid ((w.alloc (.cells #[.string ⟨#[]⟩, .bool false, .int .i64 m, .int .i64 0] 50)).grownBy wr (Value.slice vo n vc).ownBlock) := hg
      clear ho hg hi hk hlt hin
      have HBX : Hid (∀ (j : Nat) u, ((atomMark m))[j]? = some u → wr.cell? ⟨w.heap.size, j, none⟩ = some u) := fun j u hj => by
        rw [World.cell?_of_block (w := (w.alloc (.cells #[.string ⟨#[]⟩, .bool false, .int .i64 m, .int .i64 0] 50))) (HG1.out.block _ (by simp) (fun e => Nat.lt_irrefl _ (HLT.out _ e.symm))), World.cell?_alloc_new]
        simpa [atomMark] using hj
      clear HG1
      have HN0 : Hid (∀ j u, (marks (atomMark m) 1)[j]? = some u → (wr.alloc (.cells #[.string ⟨#[]⟩, .bool false, .int .i64 m, .int .i64 0] 50)).cell? ((⟨wr.heap.size, 0, none⟩ : Addr).add j) = some u) := news_cells wr (marks (atomMark m) 1) 50
      have HW0 : Hid (base ≤ wr.heap.size) := Nat.le_trans hbs HG.out.size
      have b0 : wr.cell? ⟨w.heap.size, 0, none⟩ = some (.string ⟨#[]⟩) := HBX.out 0 _ rfl
      have b1 : wr.cell? ⟨w.heap.size, 1, none⟩ = some (.bool false) := HBX.out 1 _ rfl
      have b2 : wr.cell? ⟨w.heap.size, 2, none⟩ = some (.int .i64 m) := HBX.out 2 _ rfl
      have b3 : wr.cell? ⟨w.heap.size, 3, none⟩ = some (.int .i64 0) := HBX.out 3 _ rfl
      have bl : w.heap.size < wr.heap.size := World.block_lt_of_cell? wr ⟨w.heap.size, 0, none⟩ b0
      go_wp2_with (at_builtin; go_must (refine wpList_append_marks rfl (.tmp 28) (.tmp 30) 36 rfl base 50 i0 (.agg #[.string ⟨#[]⟩, .bool false, .int .i64 0, .int .i64 0]) 4 40 Tryz.underlying36 hi0 hz0 hz1 hz2 rfl (by decide) (atomMark m) rfl (by intro u hu; simp [atomMark] at hu; rcases hu with rfl | rfl | rfl | rfl <;> rfl) (.slice vo n vc) n rfl (by exact HO.out.alloc _) ⟨wr.heap.size, 0, none⟩ 1 1 rfl (by exact HN0.out) (by unfold maxLen; omega) (by omega) (by have := HW0.out; simp; omega) ?_))
      intro v1 w2 hM
      obtain ⟨o1, c1, hv1⟩ := ownsRow_shape hM.own
      subst hv1
      have HO' : Hid (w2.ownsRow base 50 4 (.slice vo n vc) (n) (marks (atomMark m) (n))) := hM.old base _ (n) (by omega) (HO.out.alloc _)
      have HO1 : Hid (w2.ownsRow base 50 4 (.slice o1 (n + 1) c1) (n + 1) (marks (atomMark m) (n + 1))) := hM.own
      have HL1 : Hid (∀ k, (Value.slice o1 (n + 1) c1).ownBlock = some k → (Value.slice vo n vc).ownBlock = some k ∨ w.heap.size ≤ k) := fun k hk => by
        rcases hM.loc k hk with e | e
        · exact .inl e
        · have := HG.out.size
          simp at e
          exact .inr (by omega)
      have HG' : Hid (w.grownBy w2 (Value.slice vo n vc).ownBlock) := grownBy_trans (grownBy_trans HG.out (grownBy_alloc _ _ _)) hM.grown
      have HBX' : Hid (∀ (j : Nat) u, ((atomMark m))[j]? = some u → w2.cell? ⟨w.heap.size, j, none⟩ = some u) := fun j u hj => by
        have e1 := hM.grown.block w.heap.size (by simp; omega) (fun e => Nat.lt_irrefl _ (HLT.out _ e.symm))
        rw [World.cell?_of_block (w := wr.alloc _) e1, World.cell?_alloc_lt _ _ _ (by omega)]
        exact HBX.out j u hj
      clear hM HO HG HBX HN0 HW0 b0 b1 b2 b3 bl
      have HO := HO'
      have HG := HG'
      have HBX := HBX'
      clear HO' HG' HBX'
      have HN1 : Hid (∀ j u, (marks (atomMark m) 2)[j]? = some u → (w2.alloc (.cells #[.string ⟨#[]⟩, .bool false, .int .i64 m, .int .i64 0, .string ⟨#[]⟩, .bool false, .int .i64 m, .int .i64 0] 50)).cell? ((⟨w2.heap.size, 0, none⟩ : Addr).add j) = some u) := news_cells w2 (marks (atomMark m) 2) 50
      have HW1 : Hid (base ≤ w2.heap.size) := Nat.le_trans hbs HG.out.size
      have b0 : w2.cell? ⟨w.heap.size, 0, none⟩ = some (.string ⟨#[]⟩) := HBX.out 0 _ rfl
      have b1 : w2.cell? ⟨w.heap.size, 1, none⟩ = some (.bool false) := HBX.out 1 _ rfl
      have b2 : w2.cell? ⟨w.heap.size, 2, none⟩ = some (.int .i64 m) := HBX.out 2 _ rfl
      have b3 : w2.cell? ⟨w.heap.size, 3, none⟩ = some (.int .i64 0) := HBX.out 3 _ rfl
      have bl : w.heap.size < w2.heap.size := World.block_lt_of_cell? w2 ⟨w.heap.size, 0, none⟩ b0
      go_wp2_with (at_builtin; go_must (refine wpList_append_marks rfl (.tmp 32) (.tmp 35) 36 rfl base 50 i0 (.agg #[.string ⟨#[]⟩, .bool false, .int .i64 0, .int .i64 0]) 4 40 Tryz.underlying36 hi0 hz0 hz1 hz2 rfl (by decide) (atomMark m) rfl (by intro u hu; simp [atomMark] at hu; rcases hu with rfl | rfl | rfl | rfl <;> rfl) (.slice vo n vc) n rfl (by exact HO.out.alloc _) ⟨w2.heap.size, 0, none⟩ 2 2 rfl (by exact HN1.out) (by unfold maxLen; omega) (by omega) (by have := HW1.out; simp; omega) ?_))
      intro v2 w3 hM
      obtain ⟨o2, c2, hv2⟩ := ownsRow_shape hM.own
      subst hv2
      have HO' : Hid (w3.ownsRow base 50 4 (.slice vo n vc) (n) (marks (atomMark m) (n))) := hM.old base _ (n) (by omega) (HO.out.alloc _)
      have HO1' : Hid (w3.ownsRow base 50 4 (.slice o1 (n + 1) c1) (n + 1) (marks (atomMark m) (n + 1))) := hM.old base _ (n + 1) (by omega) (HO1.out.alloc _)
      have HO2 : Hid (w3.ownsRow base 50 4 (.slice o2 (n + 2) c2) (n + 2) (marks (atomMark m) (n + 2))) := hM.own
      have HL2 : Hid (∀ k, (Value.slice o2 (n + 2) c2).ownBlock = some k → (Value.slice vo n vc).ownBlock = some k ∨ w.heap.size ≤ k) := fun k hk => by
        rcases hM.loc k hk with e | e
        · exact .inl e
        · have := HG.out.size
          simp at e
          exact .inr (by omega)
      have HG' : Hid (w.grownBy w3 (Value.slice vo n vc).ownBlock) := grownBy_trans (grownBy_trans HG.out (grownBy_alloc _ _ _)) hM.grown
      have HBX' : Hid (∀ (j : Nat) u, ((atomMark m))[j]? = some u → w3.cell? ⟨w.heap.size, j, none⟩ = some u) := fun j u hj => by
        have e1 := hM.grown.block w.heap.size (by simp; omega) (fun e => Nat.lt_irrefl _ (HLT.out _ e.symm))
        rw [World.cell?_of_block (w := w2.alloc _) e1, World.cell?_alloc_lt _ _ _ (by omega)]
        exact HBX.out j u hj
      clear hM HO HO1 HG HBX HN1 HW1 b0 b1 b2 b3 bl
      have HO := HO'
      have HO1 := HO1'
      have HG := HG'
      have HBX := HBX'
      clear HO' HO1' HG' HBX'
      have HN2 : Hid (∀ j u, (marks (atomMark m) 3)[j]? = some u → (w3.alloc (.cells #[.string ⟨#[]⟩, .bool false, .int .i64 m, .int .i64 0, .string ⟨#[]⟩, .bool false, .int .i64 m, .int .i64 0, .string ⟨#[]⟩, .bool false, .int .i64 m, .int .i64 0] 50)).cell? ((⟨w3.heap.size, 0, none⟩ : Addr).add j) = some u) := news_cells w3 (marks (atomMark m) 3) 50
      have HW2 : Hid (base ≤ w3.heap.size) := Nat.le_trans hbs HG.out.size
      have b0 : w3.cell? ⟨w.heap.size, 0, none⟩ = some (.string ⟨#[]⟩) := HBX.out 0 _ rfl
      have b1 : w3.cell? ⟨w.heap.size, 1, none⟩ = some (.bool false) := HBX.out 1 _ rfl
      have b2 : w3.cell? ⟨w.heap.size, 2, none⟩ = some (.int .i64 m) := HBX.out 2 _ rfl
      have b3 : w3.cell? ⟨w.heap.size, 3, none⟩ = some (.int .i64 0) := HBX.out 3 _ rfl
      have bl : w.heap.size < w3.heap.size := World.block_lt_of_cell? w3 ⟨w.heap.size, 0, none⟩ b0
      go_wp2_with (at_builtin; go_must (refine wpList_append_marks rfl (.tmp 37) (.tmp 41) 36 rfl base 50 i0 (.agg #[.string ⟨#[]⟩, .bool false, .int .i64 0, .int .i64 0]) 4 40 Tryz.underlying36 hi0 hz0 hz1 hz2 rfl (by decide) (atomMark m) rfl (by intro u hu; simp [atomMark] at hu; rcases hu with rfl | rfl | rfl | rfl <;> rfl) (.slice vo n vc) n rfl (by exact HO.out.alloc _) ⟨w3.heap.size, 0, none⟩ 3 3 rfl (by exact HN2.out) (by unfold maxLen; omega) (by omega) (by have := HW2.out; simp; omega) ?_))
      intro v3 w4 hM
      obtain ⟨o3, c3, hv3⟩ := ownsRow_shape hM.own
      subst hv3
      have HO' : Hid (w4.ownsRow base 50 4 (.slice vo n vc) (n) (marks (atomMark m) (n))) := hM.old base _ (n) (by omega) (HO.out.alloc _)
      have HO1' : Hid (w4.ownsRow base 50 4 (.slice o1 (n + 1) c1) (n + 1) (marks (atomMark m) (n + 1))) := hM.old base _ (n + 1) (by omega) (HO1.out.alloc _)
      have HO2' : Hid (w4.ownsRow base 50 4 (.slice o2 (n + 2) c2) (n + 2) (marks (atomMark m) (n + 2))) := hM.old base _ (n + 2) (by omega) (HO2.out.alloc _)
      have HO3 : Hid (w4.ownsRow base 50 4 (.slice o3 (n + 3) c3) (n + 3) (marks (atomMark m) (n + 3))) := hM.own
      have HL3 : Hid (∀ k, (Value.slice o3 (n + 3) c3).ownBlock = some k → (Value.slice vo n vc).ownBlock = some k ∨ w.heap.size ≤ k) := fun k hk => by
        rcases hM.loc k hk with e | e
        · exact .inl e
        · have := HG.out.size
          simp at e
          exact .inr (by omega)
      have HG' : Hid (w.grownBy w4 (Value.slice vo n vc).ownBlock) := grownBy_trans (grownBy_trans HG.out (grownBy_alloc _ _ _)) hM.grown
      have HBX' : Hid (∀ (j : Nat) u, ((atomMark m))[j]? = some u → w4.cell? ⟨w.heap.size, j, none⟩ = some u) := fun j u hj => by
        have e1 := hM.grown.block w.heap.size (by simp; omega) (fun e => Nat.lt_irrefl _ (HLT.out _ e.symm))
        rw [World.cell?_of_block (w := w3.alloc _) e1, World.cell?_alloc_lt _ _ _ (by omega)]
        exact HBX.out j u hj
      clear hM HO HO1 HO2 HG HBX HN2 HW2 b0 b1 b2 b3 bl
      have HO := HO'
      have HO1 := HO1'
      have HO2 := HO2'
      have HG := HG'
      have HBX := HBX'
      clear HO' HO1' HO2' HG' HBX'
      have hsz4 := HG.out.size
      have cB4 : w4.cell? ⟨B, 0, none⟩ = some (.slice bo l.length bc) := by
        rw [World.cell?_of_block (w := w) (HG.out.block B hBlt fun e => HNB.out e.symm)]; exact cB
      have fB4 : w4.frozen? ⟨B, 0, none⟩ = false := by
        rw [World.frozen?_of_block (w := w) (HG.out.block B hBlt fun e => HNB.out e.symm)]; exact fB
      have hBl4 : B < w4.heap.size := by omega
      have HBR4 : Hid (w4.ownsRow N 84 5 (.slice bo l.length bc) l.length (l.flatMap slCells)) := ownsRow_same HBR.out fun k hk => HG.out.block k (HBR.out.lt k hk).2 fun e => HNR.out k e.symm hk
      have HROW : Hid ((w4.alloc (.cells #[.slice vo n vc, .slice o1 (n + 1) c1, .slice o2 (n + 2) c2, .slice o3 (n + 3) c3] 36)).ownsRow w4.heap.size 36 1 (.slice (some ⟨w4.heap.size, 0, none⟩) 4 4) 4 [.slice vo n vc, .slice o1 (n + 1) c1, .slice o2 (n + 2) c2, .slice o3 (n + 3) c3]) := ownsRow_fresh w4 [.slice vo n vc, .slice o1 (n + 1) c1, .slice o2 (n + 2) c2, .slice o3 (n + 3) c3] 36 4 rfl (by unfold maxLen; omega)
      have HNS : Hid (∀ o, ∀ j u, (slCells ⟨(.slice (some ⟨w4.heap.size, 0, none⟩) 4 4), (.slice none 0 0), (.slice none 0 0), (.slice none 0 0), m, [(.slice vo n vc, n), (.slice o1 (n + 1) c1, n + 1), (.slice o2 (n + 2) c2, n + 2), (.slice o3 (n + 3) c3, n + 3)], [], [], []⟩)[j]? = some u → ((w4.alloc o).alloc (.cells #[.slice (some ⟨w4.heap.size, 0, none⟩) 4 4, .slice none 0 0, .slice none 0 0, .slice none 0 0, .int .i64 m] 84)).cell? ((⟨w4.heap.size + 1, 0, none⟩ : Addr).add j) = some u) := fun o j u hj => by
        have := news_cells (w4.alloc o) (slCells ⟨(.slice (some ⟨w4.heap.size, 0, none⟩) 4 4), (.slice none 0 0), (.slice none 0 0), (.slice none 0 0), m, [(.slice vo n vc, n), (.slice o1 (n + 1) c1, n + 1), (.slice o2 (n + 2) c2, n + 2), (.slice o3 (n + 3) c3, n + 3)], [], [], []⟩) 84 j u hj
        simpa [slCells] using this
      have HSL : Hid (∀ o, SlOk ((w4.alloc (.cells #[.slice vo n vc, .slice o1 (n + 1) c1, .slice o2 (n + 2) c2, .slice o3 (n + 3) c3] 36)).alloc o) ⟨(.slice (some ⟨w4.heap.size, 0, none⟩) 4 4), (.slice none 0 0), (.slice none 0 0), (.slice none 0 0), m, [(.slice vo n vc, n), (.slice o1 (n + 1) c1, n + 1), (.slice o2 (n + 2) c2, n + 2), (.slice o3 (n + 3) c3, n + 3)], [], [], []⟩) := fun o => by
        refine ⟨?_, full_nil _ _ _ _, full_nil _ _ _ _, full_nil _ _ _ _⟩
        refine ⟨ownsRow_mono (HROW.out.alloc _) (Nat.zero_le _), Nat.le_refl _, ?_⟩
        intro y hy
        simp only [List.mem_cons, List.mem_nil_iff, or_false] at hy
        rcases hy with rfl | rfl | rfl | rfl
        · exact ⟨by simp only; omega, ownsRow_mono ((HO.out.alloc _).alloc _) (Nat.zero_le _)⟩
        · exact ⟨by simp only; omega, ownsRow_mono ((HO1.out.alloc _).alloc _) (Nat.zero_le _)⟩
        · exact ⟨by simp only; omega, ownsRow_mono ((HO2.out.alloc _).alloc _) (Nat.zero_le _)⟩
        · exact ⟨by simp only; omega, ownsRow_mono ((HO3.out.alloc _).alloc _) (Nat.zero_le _)⟩
      have HXL : Hid (∀ k, (⟨(.slice (some ⟨w4.heap.size, 0, none⟩) 4 4), (.slice none 0 0), (.slice none 0 0), (.slice none 0 0), m, [(.slice vo n vc, n), (.slice o1 (n + 1) c1, n + 1), (.slice o2 (n + 2) c2, n + 2), (.slice o3 (n + 3) c3, n + 3)], [], [], []⟩ : Sl).has k → (Value.slice vo n vc).ownBlock = some k ∨ w.heap.size ≤ k) := fun k hk => by
        have nilH : ∀ k, ¬ fullHas (.slice none 0 0) [] k := by
          intro k hk
          rcases hk with hk | ⟨y, hy, _⟩
          · cases hk
          · cases hy
        rcases hk with hk | hk | hk | hk
        · rcases hk with hk | ⟨y, hy, hk⟩
          · simp only [Value.ownBlock, Option.some.injEq] at hk
            exact .inr (by omega)
          · simp only [List.mem_cons, List.mem_nil_iff, or_false] at hy
            rcases hy with rfl | rfl | rfl | rfl
            · exact .inl hk
            · exact HL1.out k hk
            · exact HL2.out k hk
            · exact HL3.out k hk
        · exact absurd hk (nilH k)
        · exact absurd hk (nilH k)
        · exact absurd hk (nilH k)
      have HGF : Hid (∀ o o', w.grownBy ((w4.alloc o).alloc o') (Value.slice vo n vc).ownBlock) := fun o o' => grownBy_trans (grownBy_trans HG.out (grownBy_alloc _ _ _)) (grownBy_alloc _ _ _)
      have HN5 : Hid (N ≤ w4.heap.size) := by have := HNB0.out; exact Nat.le_trans this (Nat.le_of_lt hBl4)
      clear HO HO1 HO2 HO3 HG HL1 HL2 HL3 hsz4 HBX
      go_wp2_with (at_builtin; go_must (refine wpList_append_mine rfl (.tmp 47) (.tmp 55) 56 rfl N 84 j0 (.agg #[.slice none 0 0, .slice none 0 0, .slice none 0 0, .slice none 0 0, .int .i64 0]) 5 104 Tryz.underlying56 hj0 hy0 hy1 hy2 rfl (by decide) (.slice bo l.length bc) l.length (l.flatMap slCells) rfl (by exact (HBR4.out.alloc _).alloc _) ⟨w4.heap.size + 1, 0, none⟩ 1 1 (slCells ⟨(.slice (some ⟨w4.heap.size, 0, none⟩) 4 4), (.slice none 0 0), (.slice none 0 0), (.slice none 0 0), m, [(.slice vo n vc, n), (.slice o1 (n + 1) c1, n + 1), (.slice o2 (n + 2) c2, n + 2), (.slice o3 (n + 3) c3, n + 3)], [], [], []⟩) rfl rfl (by exact HNS.out _) (by intro u hu; simp [slCells] at hu; rcases hu with rfl | rfl | rfl | rfl | rfl <;> rfl) (by unfold maxLen; omega) (by omega) (by have := HN5.out; simp; omega) ?_))
      intro v5 w5 ho5 hg5 hk5
      obtain ⟨o5, c5, hv5⟩ := ownsRow_shape ho5
      subst hv5
      have hl4 : ∀ o o', ((w4.alloc o).alloc o').cell? ⟨B, 0, none⟩ = some (.slice bo l.length bc) := fun o o' => by
        rw [World.cell?_alloc_lt _ _ _ (by simp; omega), World.cell?_alloc_lt _ _ _ hBl4]; exact cB4
      have hf4 : ∀ o o', ((w4.alloc o).alloc o').frozen? ⟨B, 0, none⟩ = false := fun o o' => by
        rw [World.frozen?_of_block (w := w4.alloc o) (heap_alloc_lt _ _ _ (by simp; omega)), World.frozen?_of_block (w := w4) (heap_alloc_lt _ _ _ hBl4)]; exact fB4
      have hrB : (Value.slice bo l.length bc).ownBlock ≠ some B := by
        intro e
        obtain ⟨cur, hc⟩ := ownsRow_type HBR.out e
        obtain ⟨hh, _⟩ := HBK.out.row cB
        rw [hh] at hc
        simp at hc
      have hB5 := hg5.block B (by simp; omega) (fun e => hrB e.symm)
      have cB5 := (World.cell?_of_block (a := ⟨B, 0, none⟩) hB5).trans (hl4 _ _)
      have fB5 := (World.frozen?_of_block (a := ⟨B, 0, none⟩) hB5).trans (hf4 _ _)
      have HFIN : Hid _ := keep_fin HBK.out hBlt cB HNB.out HNR.out HFR.out (HGF.out _ _) _ (HSL.out _) HXL.out _ ho5 hg5 (by simpa using hk5)
      clear hl4 hf4 hB5 ho5 hg5 hk5 cB4 fB4
      go_wp2_with fail
      go_end0
      exact ⟨rfl, HFIN.out.2.1, HFIN.out.2.2⟩
end
section
set_option maxRecDepth 100000 in
set_option maxHeartbeats 4000000 in
theorem keepB_any {N : Nat} {w : World} {B : Nat} {l : List Sl} (h : BookOk N w B l) (hl : l.length ≤ 9000000) {base : Nat} {v : Value} {n : Nat} {xs : List Value} (hv : w.ownsRow base 46 3 v n xs) (hn : n ≤ 900) (hbs : base ≤ w.heap.size) (hfr : ∀ k, v.ownBlock = some k → ∀ x ∈ l, ¬ x.has k) :
    Calls Tryz.prog 45 #[.pointer (some ⟨B, 0, none⟩), v] w (KeepPost N w B l v) := by
  obtain ⟨bo, bc, cB, fB, hBlt, hBh, hBr⟩ := h.at
  obtain ⟨vo, vc, hvs⟩ := ownsRow_shape hv
  subst hvs
  obtain ⟨i0, hi0, hz0, hz1, hz2⟩ := info_parts Tryz.infoBond
  obtain ⟨j0, hj0, hy0, hy1, hy2⟩ := info_parts Tryz.infoSlip
  have HBK : Hid (BookOk N w B l) := h
  have HNB : Hid ((Value.slice vo n vc).ownBlock ≠ some B) := fun e => (h.not hv (by decide) (by decide) e).1 rfl
  have HNR : Hid (∀ k, (Value.slice vo n vc).ownBlock = some k → (Value.slice bo l.length bc).ownBlock ≠ some k) := fun k hk => (h.not hv (by decide) (by decide) hk).2 _ cB
  have HFR : Hid (∀ k, (Value.slice vo n vc).ownBlock = some k → ∀ x ∈ l, ¬ x.has k) := hfr
  have HLT : Hid (∀ k, (Value.slice vo n vc).ownBlock = some k → k < w.heap.size) := fun k hk => (hv.lt k hk).2
  have HNB0 : Hid (N ≤ B) := h.base
  have HBR : Hid (w.ownsRow N 84 5 (.slice bo l.length bc) l.length (l.flatMap slCells)) := hBr
  have HV1 : Hid (∀ m : Int, (w.alloc (.cells #[.int .i64 m, .int .i64 0, .int .i64 0] 46)).ownsRow base 46 3 (.slice vo n vc) n xs) := fun m => hv.alloc _
  clear h hfr hBr hBh
  go_enter Tryz.func45, Tryz.ntmps45
  go_wp2_with fail
  generalize (1000 : Int) + (l.length : Int) = m
  have HV2 : Hid ((w.alloc (.cells #[.int .i64 m, .int .i64 0, .int .i64 0] 46)).ownsRow base 46 3 (.slice vo n vc) n xs) := HV1.out m
  clear hv HV1
  go_loopg [6] (n + 1) (fun k vi wr => ∃ i : Nat, ∃ ys : List Value, i ≤ n ∧ n - i ≤ k ∧ vi = .int .i64 i ∧ wr.ownsRow base 46 3 (.slice vo n vc) n ys ∧ ys.take (i * 3) = marks (bondMark m) i ∧ (w.alloc (.cells #[.int .i64 m, .int .i64 0, .int .i64 0] 46)).grownBy wr (Value.slice vo n vc).ownBlock)
  case atStart => exact ⟨0, xs, by omega, by omega, rfl, HV2.out, by simp [marks], World.grownBy.refl _ _⟩
  case round =>
    obtain ⟨i, ys, hi, hk, rfl, ho, ht, hg⟩ := hrel
    clear HV2
    by_cases hlt : i < n
    · have hlt' : (i : Int) < (n : Int) := by omega
      obtain ⟨g, cap, e1, _, hgl, hc, hf⟩ := ownsRow_at ho (by omega)
      simp only [Value.slice.injEq, true_and] at e1
      obtain ⟨rfl, rfl⟩ := e1
      have hyl := ho.1
      have hbx : wr.heap[w.heap.size]? = (w.alloc (.cells #[.int .i64 m, .int .i64 0, .int .i64 0] 46)).heap[w.heap.size]? := hg.block _ (by simp) (fun e => Nat.lt_irrefl _ (HLT.out _ e.symm))
      have b0 : wr.cell? ⟨w.heap.size, 0, none⟩ = some (.int .i64 m) := (World.cell?_of_block (w := (w.alloc (.cells #[.int .i64 m, .int .i64 0, .int .i64 0] 46))) hbx).trans (by simp)
      have b1 : wr.cell? ⟨w.heap.size, 1, none⟩ = some (.int .i64 0) := (World.cell?_of_block (w := (w.alloc (.cells #[.int .i64 m, .int .i64 0, .int .i64 0] 46))) hbx).trans (by simp)
      have b2 : wr.cell? ⟨w.heap.size, 2, none⟩ = some (.int .i64 0) := (World.cell?_of_block (w := (w.alloc (.cells #[.int .i64 m, .int .i64 0, .int .i64 0] 46))) hbx).trans (by simp)
      clear hbx
      obtain ⟨v0, d0⟩ : ∃ u, wr.cell? ⟨g, i * 3, none⟩ = some u := ⟨ys[i * 3]'(by omega), (hc _ (by omega)).trans (List.getElem?_eq_getElem (by omega))⟩
      have f0 := hf (i * 3)
      obtain ⟨v1, d1⟩ : ∃ u, wr.cell? ⟨g, i * 3 + 1, none⟩ = some u := ⟨ys[i * 3 + 1]'(by omega), (hc _ (by omega)).trans (List.getElem?_eq_getElem (by omega))⟩
      have f1 := hf (i * 3 + 1)
      obtain ⟨v2, d2⟩ : ∃ u, wr.cell? ⟨g, i * 3 + 2, none⟩ = some u := ⟨ys[i * 3 + 2]'(by omega), (hc _ (by omega)).trans (List.getElem?_eq_getElem (by omega))⟩
      have f2 := hf (i * 3 + 2)
      clear hc hf
      have HOWN : Hid _ := (((ho.stored (i * 3) (.int .i64 m)).1.stored (i * 3 + 1) (.int .i64 0)).1.stored (i * 3 + 2) (.int .i64 0)).1
      have HGR : Hid _ := (grownBy_trans (grownBy_trans (grownBy_trans hg (grownBy_set _ g (i * 3) (.int .i64 m))) (grownBy_set _ g (i * 3 + 1) (.int .i64 0))) (grownBy_set _ g (i * 3 + 2) (.int .i64 0)))
      have HNX : Hid ((((ys.set (i * 3) (.int .i64 m)).set (i * 3 + 1) (.int .i64 0)).set (i * 3 + 2) (.int .i64 0)).take ((i + 1) * 3) = marks (bondMark m) (i + 1)) := by
        refine marks_next (bondMark m) ys _ i ht ?_ ?_
        · intro j hj
          simp only [bondMark, List.length_cons, List.length_nil] at hj
          simp only [List.getElem?_set]
          rw [if_neg (by omega), if_neg (by omega), if_neg (by omega)]
        · intro j hj
          simp only [bondMark, List.length_cons, List.length_nil] at hj ⊢
          have hw : i * 3 + 2 < ys.length := by omega
          match j, hj with
          | 0, _ => simp [List.getElem?_set]; omega
          | 1, _ => simp [List.getElem?_set]; omega
          | 2, _ => simp [List.getElem?_set]; omega
      clear ho ht hg hyl
      go_wp2_with fail
      go_roundg (n - (i + 1))
      case measure => omega
      case rel => exact ⟨i + 1, _, by omega, Nat.le_refl _, by go_num, HOWN.out, HNX.out, HGR.out⟩
    · have hlt' : ¬ (i : Int) < (n : Int) := by omega
      have hin : i = n := by omega
      rw [hin, ← ho.1, List.take_length] at ht
      subst ht
      have HO : Hid (wr.ownsRow base 46 3 (.slice vo n vc) n (marks (bondMark m) n)) := ho
      have HG : Hid (w.grownBy wr (Value.slice vo n vc).ownBlock) := grownBy_trans (grownBy_alloc w _ _) hg
      have HG1 : Hid ((w.alloc (.cells #[.int .i64 m, .int .i64 0, .int .i64 0] 46)).grownBy wr (Value.slice vo n vc).ownBlock) := hg
      clear ho hg hi hk hlt hin
      have HBX : Hid (∀ (j : Nat) u, ((bondMark m))[j]? = some u → wr.cell? ⟨w.heap.size, j, none⟩ = some u) := fun j u hj => by
        rw [World.cell?_of_block (w := (w.alloc (.cells #[.int .i64 m, .int .i64 0, .int .i64 0] 46))) (HG1.out.block _ (by simp) (fun e => Nat.lt_irrefl _ (HLT.out _ e.symm))), World.cell?_alloc_new]
        simpa [bondMark] using hj
      clear HG1
      have HN0 : Hid (∀ j u, (marks (bondMark m) 1)[j]? = some u → (wr.alloc (.cells #[.int .i64 m, .int .i64 0, .int .i64 0] 46)).cell? ((⟨wr.heap.size, 0, none⟩ : Addr).add j) = some u) := news_cells wr (marks (bondMark m) 1) 46
      have HW0 : Hid (base ≤ wr.heap.size) := Nat.le_trans hbs HG.out.size
      have b0 : wr.cell? ⟨w.heap.size, 0, none⟩ = some (.int .i64 m) := HBX.out 0 _ rfl
      have b1 : wr.cell? ⟨w.heap.size, 1, none⟩ = some (.int .i64 0) := HBX.out 1 _ rfl
      have b2 : wr.cell? ⟨w.heap.size, 2, none⟩ = some (.int .i64 0) := HBX.out 2 _ rfl
      have bl : w.heap.size < wr.heap.size := World.block_lt_of_cell? wr ⟨w.heap.size, 0, none⟩ b0
      go_wp2_with (at_builtin; go_must (refine wpList_append_marks rfl (.tmp 28) (.tmp 30) 37 rfl base 46 i0 (.agg #[.int .i64 0, .int .i64 0, .int .i64 0]) 3 24 Tryz.underlying37 hi0 hz0 hz1 hz2 rfl (by decide) (bondMark m) rfl (by intro u hu; simp [bondMark] at hu; rcases hu with rfl | rfl | rfl <;> rfl) (.slice vo n vc) n rfl (by exact HO.out.alloc _) ⟨wr.heap.size, 0, none⟩ 1 1 rfl (by exact HN0.out) (by unfold maxLen; omega) (by omega) (by have := HW0.out; simp; omega) ?_))
      intro v1 w2 hM
      obtain ⟨o1, c1, hv1⟩ := ownsRow_shape hM.own
      subst hv1
      have HO' : Hid (w2.ownsRow base 46 3 (.slice vo n vc) (n) (marks (bondMark m) (n))) := hM.old base _ (n) (by omega) (HO.out.alloc _)
      have HO1 : Hid (w2.ownsRow base 46 3 (.slice o1 (n + 1) c1) (n + 1) (marks (bondMark m) (n + 1))) := hM.own
      have HL1 : Hid (∀ k, (Value.slice o1 (n + 1) c1).ownBlock = some k → (Value.slice vo n vc).ownBlock = some k ∨ w.heap.size ≤ k) := fun k hk => by
        rcases hM.loc k hk with e | e
        · exact .inl e
        · have := HG.out.size
          simp at e
          exact .inr (by omega)
      have HG' : Hid (w.grownBy w2 (Value.slice vo n vc).ownBlock) := grownBy_trans (grownBy_trans HG.out (grownBy_alloc _ _ _)) hM.grown
      have HBX' : Hid (∀ (j : Nat) u, ((bondMark m))[j]? = some u → w2.cell? ⟨w.heap.size, j, none⟩ = some u) := fun j u hj => by
        have e1 := hM.grown.block w.heap.size (by simp; omega) (fun e => Nat.lt_irrefl _ (HLT.out _ e.symm))
        rw [World.cell?_of_block (w := wr.alloc _) e1, World.cell?_alloc_lt _ _ _ (by omega)]
        exact HBX.out j u hj
      clear hM HO HG HBX HN0 HW0 b0 b1 b2 bl
      have HO := HO'
      have HG := HG'
      have HBX := HBX'
      clear HO' HG' HBX'
      have HN1 : Hid (∀ j u, (marks (bondMark m) 2)[j]? = some u → (w2.alloc (.cells #[.int .i64 m, .int .i64 0, .int .i64 0, .int .i64 m, .int .i64 0, .int .i64 0] 46)).cell? ((⟨w2.heap.size, 0, none⟩ : Addr).add j) = some u) := news_cells w2 (marks (bondMark m) 2) 46
      have HW1 : Hid (base ≤ w2.heap.size) := Nat.le_trans hbs HG.out.size
      have b0 : w2.cell? ⟨w.heap.size, 0, none⟩ = some (.int .i64 m) := HBX.out 0 _ rfl
      have b1 : w2.cell? ⟨w.heap.size, 1, none⟩ = some (.int .i64 0) := HBX.out 1 _ rfl
      have b2 : w2.cell? ⟨w.heap.size, 2, none⟩ = some (.int .i64 0) := HBX.out 2 _ rfl
      have bl : w.heap.size < w2.heap.size := World.block_lt_of_cell? w2 ⟨w.heap.size, 0, none⟩ b0
      go_wp2_with (at_builtin; go_must (refine wpList_append_marks rfl (.tmp 32) (.tmp 35) 37 rfl base 46 i0 (.agg #[.int .i64 0, .int .i64 0, .int .i64 0]) 3 24 Tryz.underlying37 hi0 hz0 hz1 hz2 rfl (by decide) (bondMark m) rfl (by intro u hu; simp [bondMark] at hu; rcases hu with rfl | rfl | rfl <;> rfl) (.slice vo n vc) n rfl (by exact HO.out.alloc _) ⟨w2.heap.size, 0, none⟩ 2 2 rfl (by exact HN1.out) (by unfold maxLen; omega) (by omega) (by have := HW1.out; simp; omega) ?_))
      intro v2 w3 hM
      obtain ⟨o2, c2, hv2⟩ := ownsRow_shape hM.own
      subst hv2
      have HO' : Hid (w3.ownsRow base 46 3 (.slice vo n vc) (n) (marks (bondMark m) (n))) := hM.old base _ (n) (by omega) (HO.out.alloc _)
      have HO1' : Hid (w3.ownsRow base 46 3 (.slice o1 (n + 1) c1) (n + 1) (marks (bondMark m) (n + 1))) := hM.old base _ (n + 1) (by omega) (HO1.out.alloc _)
      have HO2 : Hid (w3.ownsRow base 46 3 (.slice o2 (n + 2) c2) (n + 2) (marks (bondMark m) (n + 2))) := hM.own
      have HL2 : Hid (∀ k, (Value.slice o2 (n + 2) c2).ownBlock = some k → (Value.slice vo n vc).ownBlock = some k ∨ w.heap.size ≤ k) := fun k hk => by
        rcases hM.loc k hk with e | e
        · exact .inl e
        · have := HG.out.size
          simp at e
          exact .inr (by omega)
      have HG' : Hid (w.grownBy w3 (Value.slice vo n vc).ownBlock) := grownBy_trans (grownBy_trans HG.out (grownBy_alloc _ _ _)) hM.grown
      have HBX' : Hid (∀ (j : Nat) u, ((bondMark m))[j]? = some u → w3.cell? ⟨w.heap.size, j, none⟩ = some u) := fun j u hj => by
        have e1 := hM.grown.block w.heap.size (by simp; omega) (fun e => Nat.lt_irrefl _ (HLT.out _ e.symm))
        rw [World.cell?_of_block (w := w2.alloc _) e1, World.cell?_alloc_lt _ _ _ (by omega)]
        exact HBX.out j u hj
      clear hM HO HO1 HG HBX HN1 HW1 b0 b1 b2 bl
      have HO := HO'
      have HO1 := HO1'
      have HG := HG'
      have HBX := HBX'
      clear HO' HO1' HG' HBX'
      have HN2 : Hid (∀ j u, (marks (bondMark m) 3)[j]? = some u → (w3.alloc (.cells #[.int .i64 m, .int .i64 0, .int .i64 0, .int .i64 m, .int .i64 0, .int .i64 0, .int .i64 m, .int .i64 0, .int .i64 0] 46)).cell? ((⟨w3.heap.size, 0, none⟩ : Addr).add j) = some u) := news_cells w3 (marks (bondMark m) 3) 46
      have HW2 : Hid (base ≤ w3.heap.size) := Nat.le_trans hbs HG.out.size
      have b0 : w3.cell? ⟨w.heap.size, 0, none⟩ = some (.int .i64 m) := HBX.out 0 _ rfl
      have b1 : w3.cell? ⟨w.heap.size, 1, none⟩ = some (.int .i64 0) := HBX.out 1 _ rfl
      have b2 : w3.cell? ⟨w.heap.size, 2, none⟩ = some (.int .i64 0) := HBX.out 2 _ rfl
      have bl : w.heap.size < w3.heap.size := World.block_lt_of_cell? w3 ⟨w.heap.size, 0, none⟩ b0
      go_wp2_with (at_builtin; go_must (refine wpList_append_marks rfl (.tmp 37) (.tmp 41) 37 rfl base 46 i0 (.agg #[.int .i64 0, .int .i64 0, .int .i64 0]) 3 24 Tryz.underlying37 hi0 hz0 hz1 hz2 rfl (by decide) (bondMark m) rfl (by intro u hu; simp [bondMark] at hu; rcases hu with rfl | rfl | rfl <;> rfl) (.slice vo n vc) n rfl (by exact HO.out.alloc _) ⟨w3.heap.size, 0, none⟩ 3 3 rfl (by exact HN2.out) (by unfold maxLen; omega) (by omega) (by have := HW2.out; simp; omega) ?_))
      intro v3 w4 hM
      obtain ⟨o3, c3, hv3⟩ := ownsRow_shape hM.own
      subst hv3
      have HO' : Hid (w4.ownsRow base 46 3 (.slice vo n vc) (n) (marks (bondMark m) (n))) := hM.old base _ (n) (by omega) (HO.out.alloc _)
      have HO1' : Hid (w4.ownsRow base 46 3 (.slice o1 (n + 1) c1) (n + 1) (marks (bondMark m) (n + 1))) := hM.old base _ (n + 1) (by omega) (HO1.out.alloc _)
      have HO2' : Hid (w4.ownsRow base 46 3 (.slice o2 (n + 2) c2) (n + 2) (marks (bondMark m) (n + 2))) := hM.old base _ (n + 2) (by omega) (HO2.out.alloc _)
      have HO3 : Hid (w4.ownsRow base 46 3 (.slice o3 (n + 3) c3) (n + 3) (marks (bondMark m) (n + 3))) := hM.own
      have HL3 : Hid (∀ k, (Value.slice o3 (n + 3) c3).ownBlock = some k → (Value.slice vo n vc).ownBlock = some k ∨ w.heap.size ≤ k) := fun k hk => by
        rcases hM.loc k hk with e | e
        · exact .inl e
        · have := HG.out.size
          simp at e
          exact .inr (by omega)
      have HG' : Hid (w.grownBy w4 (Value.slice vo n vc).ownBlock) := grownBy_trans (grownBy_trans HG.out (grownBy_alloc _ _ _)) hM.grown
      have HBX' : Hid (∀ (j : Nat) u, ((bondMark m))[j]? = some u → w4.cell? ⟨w.heap.size, j, none⟩ = some u) := fun j u hj => by
        have e1 := hM.grown.block w.heap.size (by simp; omega) (fun e => Nat.lt_irrefl _ (HLT.out _ e.symm))
        rw [World.cell?_of_block (w := w3.alloc _) e1, World.cell?_alloc_lt _ _ _ (by omega)]
        exact HBX.out j u hj
      clear hM HO HO1 HO2 HG HBX HN2 HW2 b0 b1 b2 bl
      have HO := HO'
      have HO1 := HO1'
      have HO2 := HO2'
      have HG := HG'
      have HBX := HBX'
      clear HO' HO1' HO2' HG' HBX'
      have hsz4 := HG.out.size
      have cB4 : w4.cell? ⟨B, 0, none⟩ = some (.slice bo l.length bc) := by
        rw [World.cell?_of_block (w := w) (HG.out.block B hBlt fun e => HNB.out e.symm)]; exact cB
      have fB4 : w4.frozen? ⟨B, 0, none⟩ = false := by
        rw [World.frozen?_of_block (w := w) (HG.out.block B hBlt fun e => HNB.out e.symm)]; exact fB
      have hBl4 : B < w4.heap.size := by omega
      have HBR4 : Hid (w4.ownsRow N 84 5 (.slice bo l.length bc) l.length (l.flatMap slCells)) := ownsRow_same HBR.out fun k hk => HG.out.block k (HBR.out.lt k hk).2 fun e => HNR.out k e.symm hk
      have HROW : Hid ((w4.alloc (.cells #[.slice vo n vc, .slice o1 (n + 1) c1, .slice o2 (n + 2) c2, .slice o3 (n + 3) c3] 37)).ownsRow w4.heap.size 37 1 (.slice (some ⟨w4.heap.size, 0, none⟩) 4 4) 4 [.slice vo n vc, .slice o1 (n + 1) c1, .slice o2 (n + 2) c2, .slice o3 (n + 3) c3]) := ownsRow_fresh w4 [.slice vo n vc, .slice o1 (n + 1) c1, .slice o2 (n + 2) c2, .slice o3 (n + 3) c3] 37 4 rfl (by unfold maxLen; omega)
      have HNS : Hid (∀ o, ∀ j u, (slCells ⟨(.slice none 0 0), (.slice (some ⟨w4.heap.size, 0, none⟩) 4 4), (.slice none 0 0), (.slice none 0 0), m, [], [(.slice vo n vc, n), (.slice o1 (n + 1) c1, n + 1), (.slice o2 (n + 2) c2, n + 2), (.slice o3 (n + 3) c3, n + 3)], [], []⟩)[j]? = some u → ((w4.alloc o).alloc (.cells #[.slice none 0 0, .slice (some ⟨w4.heap.size, 0, none⟩) 4 4, .slice none 0 0, .slice none 0 0, .int .i64 m] 84)).cell? ((⟨w4.heap.size + 1, 0, none⟩ : Addr).add j) = some u) := fun o j u hj => by
        have := news_cells (w4.alloc o) (slCells ⟨(.slice none 0 0), (.slice (some ⟨w4.heap.size, 0, none⟩) 4 4), (.slice none 0 0), (.slice none 0 0), m, [], [(.slice vo n vc, n), (.slice o1 (n + 1) c1, n + 1), (.slice o2 (n + 2) c2, n + 2), (.slice o3 (n + 3) c3, n + 3)], [], []⟩) 84 j u hj
        simpa [slCells] using this
      have HSL : Hid (∀ o, SlOk ((w4.alloc (.cells #[.slice vo n vc, .slice o1 (n + 1) c1, .slice o2 (n + 2) c2, .slice o3 (n + 3) c3] 37)).alloc o) ⟨(.slice none 0 0), (.slice (some ⟨w4.heap.size, 0, none⟩) 4 4), (.slice none 0 0), (.slice none 0 0), m, [], [(.slice vo n vc, n), (.slice o1 (n + 1) c1, n + 1), (.slice o2 (n + 2) c2, n + 2), (.slice o3 (n + 3) c3, n + 3)], [], []⟩) := fun o => by
        refine ⟨full_nil _ _ _ _, ?_, full_nil _ _ _ _, full_nil _ _ _ _⟩
        refine ⟨ownsRow_mono (HROW.out.alloc _) (Nat.zero_le _), Nat.le_refl _, ?_⟩
        intro y hy
        simp only [List.mem_cons, List.mem_nil_iff, or_false] at hy
        rcases hy with rfl | rfl | rfl | rfl
        · exact ⟨by simp only; omega, ownsRow_mono ((HO.out.alloc _).alloc _) (Nat.zero_le _)⟩
        · exact ⟨by simp only; omega, ownsRow_mono ((HO1.out.alloc _).alloc _) (Nat.zero_le _)⟩
        · exact ⟨by simp only; omega, ownsRow_mono ((HO2.out.alloc _).alloc _) (Nat.zero_le _)⟩
        · exact ⟨by simp only; omega, ownsRow_mono ((HO3.out.alloc _).alloc _) (Nat.zero_le _)⟩
      have HXL : Hid (∀ k, (⟨(.slice none 0 0), (.slice (some ⟨w4.heap.size, 0, none⟩) 4 4), (.slice none 0 0), (.slice none 0 0), m, [], [(.slice vo n vc, n), (.slice o1 (n + 1) c1, n + 1), (.slice o2 (n + 2) c2, n + 2), (.slice o3 (n + 3) c3, n + 3)], [], []⟩ : Sl).has k → (Value.slice vo n vc).ownBlock = some k ∨ w.heap.size ≤ k) := fun k hk => by
        have nilH : ∀ k, ¬ fullHas (.slice none 0 0) [] k := by
          intro k hk
          rcases hk with hk | ⟨y, hy, _⟩
          · cases hk
          · cases hy
        rcases hk with hk | hk | hk | hk
        · exact absurd hk (nilH k)
        · rcases hk with hk | ⟨y, hy, hk⟩
          · simp only [Value.ownBlock, Option.some.injEq] at hk
            exact .inr (by omega)
          · simp only [List.mem_cons, List.mem_nil_iff, or_false] at hy
            rcases hy with rfl | rfl | rfl | rfl
            · exact .inl hk
            · exact HL1.out k hk
            · exact HL2.out k hk
            · exact HL3.out k hk
        · exact absurd hk (nilH k)
        · exact absurd hk (nilH k)
      have HGF : Hid (∀ o o', w.grownBy ((w4.alloc o).alloc o') (Value.slice vo n vc).ownBlock) := fun o o' => grownBy_trans (grownBy_trans HG.out (grownBy_alloc _ _ _)) (grownBy_alloc _ _ _)
      have HN5 : Hid (N ≤ w4.heap.size) := by have := HNB0.out; exact Nat.le_trans this (Nat.le_of_lt hBl4)
      clear HO HO1 HO2 HO3 HG HL1 HL2 HL3 hsz4 HBX
      go_wp2_with (at_builtin; go_must (refine wpList_append_mine rfl (.tmp 47) (.tmp 55) 56 rfl N 84 j0 (.agg #[.slice none 0 0, .slice none 0 0, .slice none 0 0, .slice none 0 0, .int .i64 0]) 5 104 Tryz.underlying56 hj0 hy0 hy1 hy2 rfl (by decide) (.slice bo l.length bc) l.length (l.flatMap slCells) rfl (by exact (HBR4.out.alloc _).alloc _) ⟨w4.heap.size + 1, 0, none⟩ 1 1 (slCells ⟨(.slice none 0 0), (.slice (some ⟨w4.heap.size, 0, none⟩) 4 4), (.slice none 0 0), (.slice none 0 0), m, [], [(.slice vo n vc, n), (.slice o1 (n + 1) c1, n + 1), (.slice o2 (n + 2) c2, n + 2), (.slice o3 (n + 3) c3, n + 3)], [], []⟩) rfl rfl (by exact HNS.out _) (by intro u hu; simp [slCells] at hu; rcases hu with rfl | rfl | rfl | rfl | rfl <;> rfl) (by unfold maxLen; omega) (by omega) (by have := HN5.out; simp; omega) ?_))
      intro v5 w5 ho5 hg5 hk5
      obtain ⟨o5, c5, hv5⟩ := ownsRow_shape ho5
      subst hv5
      have hl4 : ∀ o o', ((w4.alloc o).alloc o').cell? ⟨B, 0, none⟩ = some (.slice bo l.length bc) := fun o o' => by
        rw [World.cell?_alloc_lt _ _ _ (by simp; omega), World.cell?_alloc_lt _ _ _ hBl4]; exact cB4
      have hf4 : ∀ o o', ((w4.alloc o).alloc o').frozen? ⟨B, 0, none⟩ = false := fun o o' => by
        rw [World.frozen?_of_block (w := w4.alloc o) (heap_alloc_lt _ _ _ (by simp; omega)), World.frozen?_of_block (w := w4) (heap_alloc_lt _ _ _ hBl4)]; exact fB4
      have hrB : (Value.slice bo l.length bc).ownBlock ≠ some B := by
        intro e
        obtain ⟨cur, hc⟩ := ownsRow_type HBR.out e
        obtain ⟨hh, _⟩ := HBK.out.row cB
        rw [hh] at hc
        simp at hc
      have hB5 := hg5.block B (by simp; omega) (fun e => hrB e.symm)
      have cB5 := (World.cell?_of_block (a := ⟨B, 0, none⟩) hB5).trans (hl4 _ _)
      have fB5 := (World.frozen?_of_block (a := ⟨B, 0, none⟩) hB5).trans (hf4 _ _)
      have HFIN : Hid _ := keep_fin HBK.out hBlt cB HNB.out HNR.out HFR.out (HGF.out _ _) _ (HSL.out _) HXL.out _ ho5 hg5 (by simpa using hk5)
      clear hl4 hf4 hB5 ho5 hg5 hk5 cB4 fB4
      go_wp2_with fail
      go_end0
      exact ⟨rfl, HFIN.out.2.1, HFIN.out.2.2⟩
end
section
set_option maxRecDepth 100000 in
set_option maxHeartbeats 4000000 in
theorem keepP_any {N : Nat} {w : World} {B : Nat} {l : List Sl} (h : BookOk N w B l) (hl : l.length ≤ 9000000) {base : Nat} {v : Value} {n : Nat} {xs : List Value} (hv : w.ownsRow base 48 2 v n xs) (hn : n ≤ 900) (hbs : base ≤ w.heap.size) (hfr : ∀ k, v.ownBlock = some k → ∀ x ∈ l, ¬ x.has k) :
    Calls Tryz.prog 49 #[.pointer (some ⟨B, 0, none⟩), v] w (KeepPost N w B l v) := by
  obtain ⟨bo, bc, cB, fB, hBlt, hBh, hBr⟩ := h.at
  obtain ⟨vo, vc, hvs⟩ := ownsRow_shape hv
  subst hvs
  obtain ⟨i0, hi0, hz0, hz1, hz2⟩ := info_parts Tryz.infoPair
  obtain ⟨j0, hj0, hy0, hy1, hy2⟩ := info_parts Tryz.infoSlip
  have HBK : Hid (BookOk N w B l) := h
  have HNB : Hid ((Value.slice vo n vc).ownBlock ≠ some B) := fun e => (h.not hv (by decide) (by decide) e).1 rfl
  have HNR : Hid (∀ k, (Value.slice vo n vc).ownBlock = some k → (Value.slice bo l.length bc).ownBlock ≠ some k) := fun k hk => (h.not hv (by decide) (by decide) hk).2 _ cB
  have HFR : Hid (∀ k, (Value.slice vo n vc).ownBlock = some k → ∀ x ∈ l, ¬ x.has k) := hfr
  have HLT : Hid (∀ k, (Value.slice vo n vc).ownBlock = some k → k < w.heap.size) := fun k hk => (hv.lt k hk).2
  have HNB0 : Hid (N ≤ B) := h.base
  have HBR : Hid (w.ownsRow N 84 5 (.slice bo l.length bc) l.length (l.flatMap slCells)) := hBr
  have HV1 : Hid (∀ m : Int, (w.alloc (.cells #[.int .i64 m, .int .i64 0] 48)).ownsRow base 48 2 (.slice vo n vc) n xs) := fun m => hv.alloc _
  clear h hfr hBr hBh
  go_enter Tryz.func49, Tryz.ntmps49
  go_wp2_with fail
  generalize (1000 : Int) + (l.length : Int) = m
  have HV2 : Hid ((w.alloc (.cells #[.int .i64 m, .int .i64 0] 48)).ownsRow base 48 2 (.slice vo n vc) n xs) := HV1.out m
  clear hv HV1
  go_loopg [6] (n + 1) (fun k vi wr => ∃ i : Nat, ∃ ys : List Value, i ≤ n ∧ n - i ≤ k ∧ vi = .int .i64 i ∧ wr.ownsRow base 48 2 (.slice vo n vc) n ys ∧ ys.take (i * 2) = marks (pairMark m) i ∧ (w.alloc (.cells #[.int .i64 m, .int .i64 0] 48)).grownBy wr (Value.slice vo n vc).ownBlock)
  case atStart => exact ⟨0, xs, by omega, by omega, rfl, HV2.out, by simp [marks], World.grownBy.refl _ _⟩
  case round =>
    obtain ⟨i, ys, hi, hk, rfl, ho, ht, hg⟩ := hrel
    clear HV2
    by_cases hlt : i < n
    · have hlt' : (i : Int) < (n : Int) := by omega
      obtain ⟨g, cap, e1, _, hgl, hc, hf⟩ := ownsRow_at ho (by omega)
      simp only [Value.slice.injEq, true_and] at e1
      obtain ⟨rfl, rfl⟩ := e1
      have hyl := ho.1
      have hbx : wr.heap[w.heap.size]? = (w.alloc (.cells #[.int .i64 m, .int .i64 0] 48)).heap[w.heap.size]? := hg.block _ (by simp) (fun e => Nat.lt_irrefl _ (HLT.out _ e.symm))
      have b0 : wr.cell? ⟨w.heap.size, 0, none⟩ = some (.int .i64 m) := (World.cell?_of_block (w := (w.alloc (.cells #[.int .i64 m, .int .i64 0] 48))) hbx).trans (by simp)
      have b1 : wr.cell? ⟨w.heap.size, 1, none⟩ = some (.int .i64 0) := (World.cell?_of_block (w := (w.alloc (.cells #[.int .i64 m, .int .i64 0] 48))) hbx).trans (by simp)
      clear hbx
      obtain ⟨v0, d0⟩ : ∃ u, wr.cell? ⟨g, i * 2, none⟩ = some u := ⟨ys[i * 2]'(by omega), (hc _ (by omega)).trans (List.getElem?_eq_getElem (by omega))⟩
      have f0 := hf (i * 2)
      obtain ⟨v1, d1⟩ : ∃ u, wr.cell? ⟨g, i * 2 + 1, none⟩ = some u := ⟨ys[i * 2 + 1]'(by omega), (hc _ (by omega)).trans (List.getElem?_eq_getElem (by omega))⟩
      have f1 := hf (i * 2 + 1)
      clear hc hf
      have HOWN : Hid _ := ((ho.stored (i * 2) (.int .i64 m)).1.stored (i * 2 + 1) (.int .i64 0)).1
      have HGR : Hid _ := (grownBy_trans (grownBy_trans hg (grownBy_set _ g (i * 2) (.int .i64 m))) (grownBy_set _ g (i * 2 + 1) (.int .i64 0)))
      have HNX : Hid (((ys.set (i * 2) (.int .i64 m)).set (i * 2 + 1) (.int .i64 0)).take ((i + 1) * 2) = marks (pairMark m) (i + 1)) := by
        refine marks_next (pairMark m) ys _ i ht ?_ ?_
        · intro j hj
          simp only [pairMark, List.length_cons, List.length_nil] at hj
          simp only [List.getElem?_set]
          rw [if_neg (by omega), if_neg (by omega)]
        · intro j hj
          simp only [pairMark, List.length_cons, List.length_nil] at hj ⊢
          have hw : i * 2 + 1 < ys.length := by omega
          match j, hj with
          | 0, _ => simp [List.getElem?_set]; omega
          | 1, _ => simp [List.getElem?_set]; omega
      clear ho ht hg hyl
      go_wp2_with fail
      go_roundg (n - (i + 1))
      case measure => omega
      case rel => exact ⟨i + 1, _, by omega, Nat.le_refl _, by go_num, HOWN.out, HNX.out, HGR.out⟩
    · have hlt' : ¬ (i : Int) < (n : Int) := by omega
      have hin : i = n := by omega
      rw [hin, ← ho.1, List.take_length] at ht
      subst ht
      have HO : Hid (wr.ownsRow base 48 2 (.slice vo n vc) n (marks (pairMark m) n)) := ho
      have HG : Hid (w.grownBy wr (Value.slice vo n vc).ownBlock) := grownBy_trans (grownBy_alloc w _ _) hg
      have HG1 : Hid ((w.alloc (.cells #[.int .i64 m, .int .i64 0] 48)).grownBy wr (Value.slice vo n vc).ownBlock) := hg
      clear ho hg hi hk hlt hin
      have HBX : Hid (∀ (j : Nat) u, ((pairMark m))[j]? = some u → wr.cell? ⟨w.heap.size, j, none⟩ = some u) := fun j u hj => by
        rw [World.cell?_of_block (w := (w.alloc (.cells #[.int .i64 m, .int .i64 0] 48))) (HG1.out.block _ (by simp) (fun e => Nat.lt_irrefl _ (HLT.out _ e.symm))), World.cell?_alloc_new]
        simpa [pairMark] using hj
      clear HG1
      have HN0 : Hid (∀ j u, (marks (pairMark m) 1)[j]? = some u → (wr.alloc (.cells #[.int .i64 m, .int .i64 0] 48)).cell? ((⟨wr.heap.size, 0, none⟩ : Addr).add j) = some u) := news_cells wr (marks (pairMark m) 1) 48
      have HW0 : Hid (base ≤ wr.heap.size) := Nat.le_trans hbs HG.out.size
      have b0 : wr.cell? ⟨w.heap.size, 0, none⟩ = some (.int .i64 m) := HBX.out 0 _ rfl
      have b1 : wr.cell? ⟨w.heap.size, 1, none⟩ = some (.int .i64 0) := HBX.out 1 _ rfl
      have bl : w.heap.size < wr.heap.size := World.block_lt_of_cell? wr ⟨w.heap.size, 0, none⟩ b0
      go_wp2_with (at_builtin; go_must (refine wpList_append_marks rfl (.tmp 28) (.tmp 30) 29 rfl base 48 i0 (.agg #[.int .i64 0, .int .i64 0]) 2 16 Tryz.underlying29 hi0 hz0 hz1 hz2 rfl (by decide) (pairMark m) rfl (by intro u hu; simp [pairMark] at hu; rcases hu with rfl | rfl <;> rfl) (.slice vo n vc) n rfl (by exact HO.out.alloc _) ⟨wr.heap.size, 0, none⟩ 1 1 rfl (by exact HN0.out) (by unfold maxLen; omega) (by omega) (by have := HW0.out; simp; omega) ?_))
      intro v1 w2 hM
      obtain ⟨o1, c1, hv1⟩ := ownsRow_shape hM.own
      subst hv1
      have HO' : Hid (w2.ownsRow base 48 2 (.slice vo n vc) (n) (marks (pairMark m) (n))) := hM.old base _ (n) (by omega) (HO.out.alloc _)
      have HO1 : Hid (w2.ownsRow base 48 2 (.slice o1 (n + 1) c1) (n + 1) (marks (pairMark m) (n + 1))) := hM.own
      have HL1 : Hid (∀ k, (Value.slice o1 (n + 1) c1).ownBlock = some k → (Value.slice vo n vc).ownBlock = some k ∨ w.heap.size ≤ k) := fun k hk => by
        rcases hM.loc k hk with e | e
        · exact .inl e
        · have := HG.out.size
          simp at e
          exact .inr (by omega)
      have HG' : Hid (w.grownBy w2 (Value.slice vo n vc).ownBlock) := grownBy_trans (grownBy_trans HG.out (grownBy_alloc _ _ _)) hM.grown
      have HBX' : Hid (∀ (j : Nat) u, ((pairMark m))[j]? = some u → w2.cell? ⟨w.heap.size, j, none⟩ = some u) := fun j u hj => by
        have e1 := hM.grown.block w.heap.size (by simp; omega) (fun e => Nat.lt_irrefl _ (HLT.out _ e.symm))
        rw [World.cell?_of_block (w := wr.alloc _) e1, World.cell?_alloc_lt _ _ _ (by omega)]
        exact HBX.out j u hj
      clear hM HO HG HBX HN0 HW0 b0 b1 bl
      have HO := HO'
      have HG := HG'
      have HBX := HBX'
      clear HO' HG' HBX'
      have HN1 : Hid (∀ j u, (marks (pairMark m) 2)[j]? = some u → (w2.alloc (.cells #[.int .i64 m, .int .i64 0, .int .i64 m, .int .i64 0] 48)).cell? ((⟨w2.heap.size, 0, none⟩ : Addr).add j) = some u) := news_cells w2 (marks (pairMark m) 2) 48
      have HW1 : Hid (base ≤ w2.heap.size) := Nat.le_trans hbs HG.out.size
      have b0 : w2.cell? ⟨w.heap.size, 0, none⟩ = some (.int .i64 m) := HBX.out 0 _ rfl
      have b1 : w2.cell? ⟨w.heap.size, 1, none⟩ = some (.int .i64 0) := HBX.out 1 _ rfl
      have bl : w.heap.size < w2.heap.size := World.block_lt_of_cell? w2 ⟨w.heap.size, 0, none⟩ b0
      go_wp2_with (at_builtin; go_must (refine wpList_append_marks rfl (.tmp 32) (.tmp 35) 29 rfl base 48 i0 (.agg #[.int .i64 0, .int .i64 0]) 2 16 Tryz.underlying29 hi0 hz0 hz1 hz2 rfl (by decide) (pairMark m) rfl (by intro u hu; simp [pairMark] at hu; rcases hu with rfl | rfl <;> rfl) (.slice vo n vc) n rfl (by exact HO.out.alloc _) ⟨w2.heap.size, 0, none⟩ 2 2 rfl (by exact HN1.out) (by unfold maxLen; omega) (by omega) (by have := HW1.out; simp; omega) ?_))
      intro v2 w3 hM
      obtain ⟨o2, c2, hv2⟩ := ownsRow_shape hM.own
      subst hv2
      have HO' : Hid (w3.ownsRow base 48 2 (.slice vo n vc) (n) (marks (pairMark m) (n))) := hM.old base _ (n) (by omega) (HO.out.alloc _)
      have HO1' : Hid (w3.ownsRow base 48 2 (.slice o1 (n + 1) c1) (n + 1) (marks (pairMark m) (n + 1))) := hM.old base _ (n + 1) (by omega) (HO1.out.alloc _)
      have HO2 : Hid (w3.ownsRow base 48 2 (.slice o2 (n + 2) c2) (n + 2) (marks (pairMark m) (n + 2))) := hM.own
      have HL2 : Hid (∀ k, (Value.slice o2 (n + 2) c2).ownBlock = some k → (Value.slice vo n vc).ownBlock = some k ∨ w.heap.size ≤ k) := fun k hk => by
        rcases hM.loc k hk with e | e
        · exact .inl e
        · have := HG.out.size
          simp at e
          exact .inr (by omega)
      have HG' : Hid (w.grownBy w3 (Value.slice vo n vc).ownBlock) := grownBy_trans (grownBy_trans HG.out (grownBy_alloc _ _ _)) hM.grown
      have HBX' : Hid (∀ (j : Nat) u, ((pairMark m))[j]? = some u → w3.cell? ⟨w.heap.size, j, none⟩ = some u) := fun j u hj => by
        have e1 := hM.grown.block w.heap.size (by simp; omega) (fun e => Nat.lt_irrefl _ (HLT.out _ e.symm))
        rw [World.cell?_of_block (w := w2.alloc _) e1, World.cell?_alloc_lt _ _ _ (by omega)]
        exact HBX.out j u hj
      clear hM HO HO1 HG HBX HN1 HW1 b0 b1 bl
      have HO := HO'
      have HO1 := HO1'
      have HG := HG'
      have HBX := HBX'
      clear HO' HO1' HG' HBX'
      have HN2 : Hid (∀ j u, (marks (pairMark m) 3)[j]? = some u → (w3.alloc (.cells #[.int .i64 m, .int .i64 0, .int .i64 m, .int .i64 0, .int .i64 m, .int .i64 0] 48)).cell? ((⟨w3.heap.size, 0, none⟩ : Addr).add j) = some u) := news_cells w3 (marks (pairMark m) 3) 48
      have HW2 : Hid (base ≤ w3.heap.size) := Nat.le_trans hbs HG.out.size
      have b0 : w3.cell? ⟨w.heap.size, 0, none⟩ = some (.int .i64 m) := HBX.out 0 _ rfl
      have b1 : w3.cell? ⟨w.heap.size, 1, none⟩ = some (.int .i64 0) := HBX.out 1 _ rfl
      have bl : w.heap.size < w3.heap.size := World.block_lt_of_cell? w3 ⟨w.heap.size, 0, none⟩ b0
      go_wp2_with (at_builtin; go_must (refine wpList_append_marks rfl (.tmp 37) (.tmp 41) 29 rfl base 48 i0 (.agg #[.int .i64 0, .int .i64 0]) 2 16 Tryz.underlying29 hi0 hz0 hz1 hz2 rfl (by decide) (pairMark m) rfl (by intro u hu; simp [pairMark] at hu; rcases hu with rfl | rfl <;> rfl) (.slice vo n vc) n rfl (by exact HO.out.alloc _) ⟨w3.heap.size, 0, none⟩ 3 3 rfl (by exact HN2.out) (by unfold maxLen; omega) (by omega) (by have := HW2.out; simp; omega) ?_))
      intro v3 w4 hM
      obtain ⟨o3, c3, hv3⟩ := ownsRow_shape hM.own
      subst hv3
      have HO' : Hid (w4.ownsRow base 48 2 (.slice vo n vc) (n) (marks (pairMark m) (n))) := hM.old base _ (n) (by omega) (HO.out.alloc _)
      have HO1' : Hid (w4.ownsRow base 48 2 (.slice o1 (n + 1) c1) (n + 1) (marks (pairMark m) (n + 1))) := hM.old base _ (n + 1) (by omega) (HO1.out.alloc _)
      have HO2' : Hid (w4.ownsRow base 48 2 (.slice o2 (n + 2) c2) (n + 2) (marks (pairMark m) (n + 2))) := hM.old base _ (n + 2) (by omega) (HO2.out.alloc _)
      have HO3 : Hid (w4.ownsRow base 48 2 (.slice o3 (n + 3) c3) (n + 3) (marks (pairMark m) (n + 3))) := hM.own
      have HL3 : Hid (∀ k, (Value.slice o3 (n + 3) c3).ownBlock = some k → (Value.slice vo n vc).ownBlock = some k ∨ w.heap.size ≤ k) := fun k hk => by
        rcases hM.loc k hk with e | e
        · exact .inl e
        · have := HG.out.size
          simp at e
          exact .inr (by omega)
      have HG' : Hid (w.grownBy w4 (Value.slice vo n vc).ownBlock) := grownBy_trans (grownBy_trans HG.out (grownBy_alloc _ _ _)) hM.grown
      have HBX' : Hid (∀ (j : Nat) u, ((pairMark m))[j]? = some u → w4.cell? ⟨w.heap.size, j, none⟩ = some u) := fun j u hj => by
        have e1 := hM.grown.block w.heap.size (by simp; omega) (fun e => Nat.lt_irrefl _ (HLT.out _ e.symm))
        rw [World.cell?_of_block (w := w3.alloc _) e1, World.cell?_alloc_lt _ _ _ (by omega)]
        exact HBX.out j u hj
      clear hM HO HO1 HO2 HG HBX HN2 HW2 b0 b1 bl
      have HO := HO'
      have HO1 := HO1'
      have HO2 := HO2'
      have HG := HG'
      have HBX := HBX'
      clear HO' HO1' HO2' HG' HBX'
      have hsz4 := HG.out.size
      have cB4 : w4.cell? ⟨B, 0, none⟩ = some (.slice bo l.length bc) := by
        rw [World.cell?_of_block (w := w) (HG.out.block B hBlt fun e => HNB.out e.symm)]; exact cB
      have fB4 : w4.frozen? ⟨B, 0, none⟩ = false := by
        rw [World.frozen?_of_block (w := w) (HG.out.block B hBlt fun e => HNB.out e.symm)]; exact fB
      have hBl4 : B < w4.heap.size := by omega
      have HBR4 : Hid (w4.ownsRow N 84 5 (.slice bo l.length bc) l.length (l.flatMap slCells)) := ownsRow_same HBR.out fun k hk => HG.out.block k (HBR.out.lt k hk).2 fun e => HNR.out k e.symm hk
      have HROW : Hid ((w4.alloc (.cells #[.slice vo n vc, .slice o1 (n + 1) c1, .slice o2 (n + 2) c2, .slice o3 (n + 3) c3] 29)).ownsRow w4.heap.size 29 1 (.slice (some ⟨w4.heap.size, 0, none⟩) 4 4) 4 [.slice vo n vc, .slice o1 (n + 1) c1, .slice o2 (n + 2) c2, .slice o3 (n + 3) c3]) := ownsRow_fresh w4 [.slice vo n vc, .slice o1 (n + 1) c1, .slice o2 (n + 2) c2, .slice o3 (n + 3) c3] 29 4 rfl (by unfold maxLen; omega)
      have HNS : Hid (∀ o, ∀ j u, (slCells ⟨(.slice none 0 0), (.slice none 0 0), (.slice (some ⟨w4.heap.size, 0, none⟩) 4 4), (.slice none 0 0), m, [], [], [(.slice vo n vc, n), (.slice o1 (n + 1) c1, n + 1), (.slice o2 (n + 2) c2, n + 2), (.slice o3 (n + 3) c3, n + 3)], []⟩)[j]? = some u → ((w4.alloc o).alloc (.cells #[.slice none 0 0, .slice none 0 0, .slice (some ⟨w4.heap.size, 0, none⟩) 4 4, .slice none 0 0, .int .i64 m] 84)).cell? ((⟨w4.heap.size + 1, 0, none⟩ : Addr).add j) = some u) := fun o j u hj => by
        have := news_cells (w4.alloc o) (slCells ⟨(.slice none 0 0), (.slice none 0 0), (.slice (some ⟨w4.heap.size, 0, none⟩) 4 4), (.slice none 0 0), m, [], [], [(.slice vo n vc, n), (.slice o1 (n + 1) c1, n + 1), (.slice o2 (n + 2) c2, n + 2), (.slice o3 (n + 3) c3, n + 3)], []⟩) 84 j u hj
        simpa [slCells] using this
      have HSL : Hid (∀ o, SlOk ((w4.alloc (.cells #[.slice vo n vc, .slice o1 (n + 1) c1, .slice o2 (n + 2) c2, .slice o3 (n + 3) c3] 29)).alloc o) ⟨(.slice none 0 0), (.slice none 0 0), (.slice (some ⟨w4.heap.size, 0, none⟩) 4 4), (.slice none 0 0), m, [], [], [(.slice vo n vc, n), (.slice o1 (n + 1) c1, n + 1), (.slice o2 (n + 2) c2, n + 2), (.slice o3 (n + 3) c3, n + 3)], []⟩) := fun o => by
        refine ⟨full_nil _ _ _ _, full_nil _ _ _ _, ?_, full_nil _ _ _ _⟩
        refine ⟨ownsRow_mono (HROW.out.alloc _) (Nat.zero_le _), Nat.le_refl _, ?_⟩
        intro y hy
        simp only [List.mem_cons, List.mem_nil_iff, or_false] at hy
        rcases hy with rfl | rfl | rfl | rfl
        · exact ⟨by simp only; omega, ownsRow_mono ((HO.out.alloc _).alloc _) (Nat.zero_le _)⟩
        · exact ⟨by simp only; omega, ownsRow_mono ((HO1.out.alloc _).alloc _) (Nat.zero_le _)⟩
        · exact ⟨by simp only; omega, ownsRow_mono ((HO2.out.alloc _).alloc _) (Nat.zero_le _)⟩
        · exact ⟨by simp only; omega, ownsRow_mono ((HO3.out.alloc _).alloc _) (Nat.zero_le _)⟩
      have HXL : Hid (∀ k, (⟨(.slice none 0 0), (.slice none 0 0), (.slice (some ⟨w4.heap.size, 0, none⟩) 4 4), (.slice none 0 0), m, [], [], [(.slice vo n vc, n), (.slice o1 (n + 1) c1, n + 1), (.slice o2 (n + 2) c2, n + 2), (.slice o3 (n + 3) c3, n + 3)], []⟩ : Sl).has k → (Value.slice vo n vc).ownBlock = some k ∨ w.heap.size ≤ k) := fun k hk => by
        have nilH : ∀ k, ¬ fullHas (.slice none 0 0) [] k := by
          intro k hk
          rcases hk with hk | ⟨y, hy, _⟩
          · cases hk
          · cases hy
        rcases hk with hk | hk | hk | hk
        · exact absurd hk (nilH k)
        · exact absurd hk (nilH k)
        · rcases hk with hk | ⟨y, hy, hk⟩
          · simp only [Value.ownBlock, Option.some.injEq] at hk
            exact .inr (by omega)
          · simp only [List.mem_cons, List.mem_nil_iff, or_false] at hy
            rcases hy with rfl | rfl | rfl | rfl
            · exact .inl hk
            · exact HL1.out k hk
            · exact HL2.out k hk
            · exact HL3.out k hk
        · exact absurd hk (nilH k)
      have HGF : Hid (∀ o o', w.grownBy ((w4.alloc o).alloc o') (Value.slice vo n vc).ownBlock) := fun o o' => grownBy_trans (grownBy_trans HG.out (grownBy_alloc _ _ _)) (grownBy_alloc _ _ _)
      have HN5 : Hid (N ≤ w4.heap.size) := by have := HNB0.out; exact Nat.le_trans this (Nat.le_of_lt hBl4)
      clear HO HO1 HO2 HO3 HG HL1 HL2 HL3 hsz4 HBX
      go_wp2_with (at_builtin; go_must (refine wpList_append_mine rfl (.tmp 47) (.tmp 55) 56 rfl N 84 j0 (.agg #[.slice none 0 0, .slice none 0 0, .slice none 0 0, .slice none 0 0, .int .i64 0]) 5 104 Tryz.underlying56 hj0 hy0 hy1 hy2 rfl (by decide) (.slice bo l.length bc) l.length (l.flatMap slCells) rfl (by exact (HBR4.out.alloc _).alloc _) ⟨w4.heap.size + 1, 0, none⟩ 1 1 (slCells ⟨(.slice none 0 0), (.slice none 0 0), (.slice (some ⟨w4.heap.size, 0, none⟩) 4 4), (.slice none 0 0), m, [], [], [(.slice vo n vc, n), (.slice o1 (n + 1) c1, n + 1), (.slice o2 (n + 2) c2, n + 2), (.slice o3 (n + 3) c3, n + 3)], []⟩) rfl rfl (by exact HNS.out _) (by intro u hu; simp [slCells] at hu; rcases hu with rfl | rfl | rfl | rfl | rfl <;> rfl) (by unfold maxLen; omega) (by omega) (by have := HN5.out; simp; omega) ?_))
      intro v5 w5 ho5 hg5 hk5
      obtain ⟨o5, c5, hv5⟩ := ownsRow_shape ho5
      subst hv5
      have hl4 : ∀ o o', ((w4.alloc o).alloc o').cell? ⟨B, 0, none⟩ = some (.slice bo l.length bc) := fun o o' => by
        rw [World.cell?_alloc_lt _ _ _ (by simp; omega), World.cell?_alloc_lt _ _ _ hBl4]; exact cB4
      have hf4 : ∀ o o', ((w4.alloc o).alloc o').frozen? ⟨B, 0, none⟩ = false := fun o o' => by
        rw [World.frozen?_of_block (w := w4.alloc o) (heap_alloc_lt _ _ _ (by simp; omega)), World.frozen?_of_block (w := w4) (heap_alloc_lt _ _ _ hBl4)]; exact fB4
      have hrB : (Value.slice bo l.length bc).ownBlock ≠ some B := by
        intro e
        obtain ⟨cur, hc⟩ := ownsRow_type HBR.out e
        obtain ⟨hh, _⟩ := HBK.out.row cB
        rw [hh] at hc
        simp at hc
      have hB5 := hg5.block B (by simp; omega) (fun e => hrB e.symm)
      have cB5 := (World.cell?_of_block (a := ⟨B, 0, none⟩) hB5).trans (hl4 _ _)
      have fB5 := (World.frozen?_of_block (a := ⟨B, 0, none⟩) hB5).trans (hf4 _ _)
      have HFIN : Hid _ := keep_fin HBK.out hBlt cB HNB.out HNR.out HFR.out (HGF.out _ _) _ (HSL.out _) HXL.out _ ho5 hg5 (by simpa using hk5)
      clear hl4 hf4 hB5 ho5 hg5 hk5 cB4 fB4
      go_wp2_with fail
      go_end0
      exact ⟨rfl, HFIN.out.2.1, HFIN.out.2.2⟩
end
section
set_option maxRecDepth 100000 in
set_option maxHeartbeats 4000000 in
theorem keepN_any {N : Nat} {w : World} {B : Nat} {l : List Sl} (h : BookOk N w B l) (hl : l.length ≤ 9000000) {base : Nat} {v : Value} {n : Nat} {xs : List Value} (hv : w.ownsRow base 3 1 v n xs) (hn : n ≤ 900) (hbs : base ≤ w.heap.size) (hfr : ∀ k, v.ownBlock = some k → ∀ x ∈ l, ¬ x.has k) :
    Calls Tryz.prog 50 #[.pointer (some ⟨B, 0, none⟩), v] w (KeepPost N w B l v) := by
  obtain ⟨bo, bc, cB, fB, hBlt, hBh, hBr⟩ := h.at
  obtain ⟨vo, vc, hvs⟩ := ownsRow_shape hv
  subst hvs
  obtain ⟨i0, hi0, hz0, hz1, hz2⟩ := info_parts Tryz.infoInt1
  obtain ⟨j0, hj0, hy0, hy1, hy2⟩ := info_parts Tryz.infoSlip
  have HBK : Hid (BookOk N w B l) := h
  have HNB : Hid ((Value.slice vo n vc).ownBlock ≠ some B) := fun e => (h.not hv (by decide) (by decide) e).1 rfl
  have HNR : Hid (∀ k, (Value.slice vo n vc).ownBlock = some k → (Value.slice bo l.length bc).ownBlock ≠ some k) := fun k hk => (h.not hv (by decide) (by decide) hk).2 _ cB
  have HFR : Hid (∀ k, (Value.slice vo n vc).ownBlock = some k → ∀ x ∈ l, ¬ x.has k) := hfr
  have HLT : Hid (∀ k, (Value.slice vo n vc).ownBlock = some k → k < w.heap.size) := fun k hk => (hv.lt k hk).2
  have HNB0 : Hid (N ≤ B) := h.base
  have HBR : Hid (w.ownsRow N 84 5 (.slice bo l.length bc) l.length (l.flatMap slCells)) := hBr
  have HV1 : Hid (∀ m : Int, w.ownsRow base 3 1 (.slice vo n vc) n xs) := fun m => hv
  clear h hfr hBr hBh
  go_enter Tryz.func50, Tryz.ntmps50
  go_wp2_with fail
  generalize (1000 : Int) + (l.length : Int) = m
  have HV2 : Hid (w.ownsRow base 3 1 (.slice vo n vc) n xs) := HV1.out m
  clear hv HV1
  go_loopg [5] (n + 1) (fun k vi wr => ∃ i : Nat, ∃ ys : List Value, i ≤ n ∧ n - i ≤ k ∧ vi = .int .i64 i ∧ wr.ownsRow base 3 1 (.slice vo n vc) n ys ∧ ys.take (i * 1) = marks (intMark m) i ∧ w.grownBy wr (Value.slice vo n vc).ownBlock)
  case atStart => exact ⟨0, xs, by omega, by omega, rfl, HV2.out, by simp [marks], World.grownBy.refl _ _⟩
  case round =>
    obtain ⟨i, ys, hi, hk, rfl, ho, ht, hg⟩ := hrel
    clear HV2
    by_cases hlt : i < n
    · have hlt' : (i : Int) < (n : Int) := by omega
      obtain ⟨g, cap, e1, _, hgl, hc, hf⟩ := ownsRow_at ho (by omega)
      simp only [Value.slice.injEq, true_and] at e1
      obtain ⟨rfl, rfl⟩ := e1
      have hyl := ho.1
      obtain ⟨v0, d0⟩ : ∃ u, wr.cell? ⟨g, i, none⟩ = some u := ⟨ys[i]'(by omega), (hc _ (by omega)).trans (List.getElem?_eq_getElem (by omega))⟩
      have f0 := hf (i)
      clear hc hf
      have HOWN : Hid _ := (ho.stored (i) (.int .i64 m)).1
      have HGR : Hid _ := (grownBy_trans hg (grownBy_set _ g (i) (.int .i64 m)))
      have HNX : Hid ((ys.set (i) (.int .i64 m)).take ((i + 1) * 1) = marks (intMark m) (i + 1)) := by
        refine marks_next (intMark m) ys _ i ht ?_ ?_
        · intro j hj
          simp only [intMark, List.length_cons, List.length_nil] at hj
          simp only [List.getElem?_set]
          rw [if_neg (by omega)]
        · intro j hj
          simp only [intMark, List.length_cons, List.length_nil] at hj ⊢
          have hw : i * 1 + 0 < ys.length := by omega
          match j, hj with
          | 0, _ => simp [List.getElem?_set]; omega
      clear ho ht hg hyl
      go_wp2_with fail
      go_roundg (n - (i + 1))
      case measure => omega
      case rel => exact ⟨i + 1, _, by omega, Nat.le_refl _, by go_num, HOWN.out, HNX.out, HGR.out⟩
    · have hlt' : ¬ (i : Int) < (n : Int) := by omega
      have hin : i = n := by omega
      rw [hin, ← ho.1, List.take_length] at ht
      subst ht
      have HO : Hid (wr.ownsRow base 3 1 (.slice vo n vc) n (marks (intMark m) n)) := ho
      have HG : Hid (w.grownBy wr (Value.slice vo n vc).ownBlock) := hg
      clear ho hg hi hk hlt hin
      have HN0 : Hid (∀ j u, (marks (intMark m) 1)[j]? = some u → (wr.alloc (.cells #[.int .i64 m] 3)).cell? ((⟨wr.heap.size, 0, none⟩ : Addr).add j) = some u) := news_cells wr (marks (intMark m) 1) 3
      have HW0 : Hid (base ≤ wr.heap.size) := Nat.le_trans hbs HG.out.size
      go_wp2_with (at_builtin; go_must (refine wpList_append_marks rfl (.tmp 25) (.tmp 27) 25 rfl base 3 i0 (.int .i64 0) 1 8 Tryz.underlying25 hi0 hz0 hz1 hz2 rfl (by decide) (intMark m) rfl (by intro u hu; simp [intMark] at hu; subst hu; rfl) (.slice vo n vc) n rfl (by exact HO.out.alloc _) ⟨wr.heap.size, 0, none⟩ 1 1 rfl (by exact HN0.out) (by unfold maxLen; omega) (by omega) (by have := HW0.out; simp; omega) ?_))
      intro v1 w2 hM
      obtain ⟨o1, c1, hv1⟩ := ownsRow_shape hM.own
      subst hv1
      have HO' : Hid (w2.ownsRow base 3 1 (.slice vo n vc) (n) (marks (intMark m) (n))) := hM.old base _ (n) (by omega) (HO.out.alloc _)
      have HO1 : Hid (w2.ownsRow base 3 1 (.slice o1 (n + 1) c1) (n + 1) (marks (intMark m) (n + 1))) := hM.own
      have HL1 : Hid (∀ k, (Value.slice o1 (n + 1) c1).ownBlock = some k → (Value.slice vo n vc).ownBlock = some k ∨ w.heap.size ≤ k) := fun k hk => by
        rcases hM.loc k hk with e | e
        · exact .inl e
        · have := HG.out.size
          simp at e
          exact .inr (by omega)
      have HG' : Hid (w.grownBy w2 (Value.slice vo n vc).ownBlock) := grownBy_trans (grownBy_trans HG.out (grownBy_alloc _ _ _)) hM.grown
      clear hM HO HG  HN0 HW0
      have HO := HO'
      have HG := HG'
      clear HO' HG'
      have HN1 : Hid (∀ j u, (marks (intMark m) 2)[j]? = some u → (w2.alloc (.cells #[.int .i64 m, .int .i64 m] 3)).cell? ((⟨w2.heap.size, 0, none⟩ : Addr).add j) = some u) := news_cells w2 (marks (intMark m) 2) 3
      have HW1 : Hid (base ≤ w2.heap.size) := Nat.le_trans hbs HG.out.size
      go_wp2_with (at_builtin; go_must (refine wpList_append_marks rfl (.tmp 29) (.tmp 32) 25 rfl base 3 i0 (.int .i64 0) 1 8 Tryz.underlying25 hi0 hz0 hz1 hz2 rfl (by decide) (intMark m) rfl (by intro u hu; simp [intMark] at hu; subst hu; rfl) (.slice vo n vc) n rfl (by exact HO.out.alloc _) ⟨w2.heap.size, 0, none⟩ 2 2 rfl (by exact HN1.out) (by unfold maxLen; omega) (by omega) (by have := HW1.out; simp; omega) ?_))
      intro v2 w3 hM
      obtain ⟨o2, c2, hv2⟩ := ownsRow_shape hM.own
      subst hv2
      have HO' : Hid (w3.ownsRow base 3 1 (.slice vo n vc) (n) (marks (intMark m) (n))) := hM.old base _ (n) (by omega) (HO.out.alloc _)
      have HO1' : Hid (w3.ownsRow base 3 1 (.slice o1 (n + 1) c1) (n + 1) (marks (intMark m) (n + 1))) := hM.old base _ (n + 1) (by omega) (HO1.out.alloc _)
      have HO2 : Hid (w3.ownsRow base 3 1 (.slice o2 (n + 2) c2) (n + 2) (marks (intMark m) (n + 2))) := hM.own
      have HL2 : Hid (∀ k, (Value.slice o2 (n + 2) c2).ownBlock = some k → (Value.slice vo n vc).ownBlock = some k ∨ w.heap.size ≤ k) := fun k hk => by
        rcases hM.loc k hk with e | e
        · exact .inl e
        · have := HG.out.size
          simp at e
          exact .inr (by omega)
      have HG' : Hid (w.grownBy w3 (Value.slice vo n vc).ownBlock) := grownBy_trans (grownBy_trans HG.out (grownBy_alloc _ _ _)) hM.grown
      clear hM HO HO1 HG  HN1 HW1
      have HO := HO'
      have HO1 := HO1'
      have HG := HG'
      clear HO' HO1' HG'
      have HN2 : Hid (∀ j u, (marks (intMark m) 3)[j]? = some u → (w3.alloc (.cells #[.int .i64 m, .int .i64 m, .int .i64 m] 3)).cell? ((⟨w3.heap.size, 0, none⟩ : Addr).add j) = some u) := news_cells w3 (marks (intMark m) 3) 3
      have HW2 : Hid (base ≤ w3.heap.size) := Nat.le_trans hbs HG.out.size
      go_wp2_with (at_builtin; go_must (refine wpList_append_marks rfl (.tmp 34) (.tmp 38) 25 rfl base 3 i0 (.int .i64 0) 1 8 Tryz.underlying25 hi0 hz0 hz1 hz2 rfl (by decide) (intMark m) rfl (by intro u hu; simp [intMark] at hu; subst hu; rfl) (.slice vo n vc) n rfl (by exact HO.out.alloc _) ⟨w3.heap.size, 0, none⟩ 3 3 rfl (by exact HN2.out) (by unfold maxLen; omega) (by omega) (by have := HW2.out; simp; omega) ?_))
      intro v3 w4 hM
      obtain ⟨o3, c3, hv3⟩ := ownsRow_shape hM.own
      subst hv3
      have HO' : Hid (w4.ownsRow base 3 1 (.slice vo n vc) (n) (marks (intMark m) (n))) := hM.old base _ (n) (by omega) (HO.out.alloc _)
      have HO1' : Hid (w4.ownsRow base 3 1 (.slice o1 (n + 1) c1) (n + 1) (marks (intMark m) (n + 1))) := hM.old base _ (n + 1) (by omega) (HO1.out.alloc _)
      have HO2' : Hid (w4.ownsRow base 3 1 (.slice o2 (n + 2) c2) (n + 2) (marks (intMark m) (n + 2))) := hM.old base _ (n + 2) (by omega) (HO2.out.alloc _)
      have HO3 : Hid (w4.ownsRow base 3 1 (.slice o3 (n + 3) c3) (n + 3) (marks (intMark m) (n + 3))) := hM.own
      have HL3 : Hid (∀ k, (Value.slice o3 (n + 3) c3).ownBlock = some k → (Value.slice vo n vc).ownBlock = some k ∨ w.heap.size ≤ k) := fun k hk => by
        rcases hM.loc k hk with e | e
        · exact .inl e
        · have := HG.out.size
          simp at e
          exact .inr (by omega)
      have HG' : Hid (w.grownBy w4 (Value.slice vo n vc).ownBlock) := grownBy_trans (grownBy_trans HG.out (grownBy_alloc _ _ _)) hM.grown
      clear hM HO HO1 HO2 HG  HN2 HW2
      have HO := HO'
      have HO1 := HO1'
      have HO2 := HO2'
      have HG := HG'
      clear HO' HO1' HO2' HG'
      have hsz4 := HG.out.size
      have cB4 : w4.cell? ⟨B, 0, none⟩ = some (.slice bo l.length bc) := by
        rw [World.cell?_of_block (w := w) (HG.out.block B hBlt fun e => HNB.out e.symm)]; exact cB
      have fB4 : w4.frozen? ⟨B, 0, none⟩ = false := by
        rw [World.frozen?_of_block (w := w) (HG.out.block B hBlt fun e => HNB.out e.symm)]; exact fB
      have hBl4 : B < w4.heap.size := by omega
      have HBR4 : Hid (w4.ownsRow N 84 5 (.slice bo l.length bc) l.length (l.flatMap slCells)) := ownsRow_same HBR.out fun k hk => HG.out.block k (HBR.out.lt k hk).2 fun e => HNR.out k e.symm hk
      have HROW : Hid ((w4.alloc (.cells #[.slice vo n vc, .slice o1 (n + 1) c1, .slice o2 (n + 2) c2, .slice o3 (n + 3) c3] 25)).ownsRow w4.heap.size 25 1 (.slice (some ⟨w4.heap.size, 0, none⟩) 4 4) 4 [.slice vo n vc, .slice o1 (n + 1) c1, .slice o2 (n + 2) c2, .slice o3 (n + 3) c3]) := ownsRow_fresh w4 [.slice vo n vc, .slice o1 (n + 1) c1, .slice o2 (n + 2) c2, .slice o3 (n + 3) c3] 25 4 rfl (by unfold maxLen; omega)
      have HNS : Hid (∀ o, ∀ j u, (slCells ⟨(.slice none 0 0), (.slice none 0 0), (.slice none 0 0), (.slice (some ⟨w4.heap.size, 0, none⟩) 4 4), m, [], [], [], [(.slice vo n vc, n), (.slice o1 (n + 1) c1, n + 1), (.slice o2 (n + 2) c2, n + 2), (.slice o3 (n + 3) c3, n + 3)]⟩)[j]? = some u → ((w4.alloc o).alloc (.cells #[.slice none 0 0, .slice none 0 0, .slice none 0 0, .slice (some ⟨w4.heap.size, 0, none⟩) 4 4, .int .i64 m] 84)).cell? ((⟨w4.heap.size + 1, 0, none⟩ : Addr).add j) = some u) := fun o j u hj => by
        have := news_cells (w4.alloc o) (slCells ⟨(.slice none 0 0), (.slice none 0 0), (.slice none 0 0), (.slice (some ⟨w4.heap.size, 0, none⟩) 4 4), m, [], [], [], [(.slice vo n vc, n), (.slice o1 (n + 1) c1, n + 1), (.slice o2 (n + 2) c2, n + 2), (.slice o3 (n + 3) c3, n + 3)]⟩) 84 j u hj
        simpa [slCells] using this
      have HSL : Hid (∀ o, SlOk ((w4.alloc (.cells #[.slice vo n vc, .slice o1 (n + 1) c1, .slice o2 (n + 2) c2, .slice o3 (n + 3) c3] 25)).alloc o) ⟨(.slice none 0 0), (.slice none 0 0), (.slice none 0 0), (.slice (some ⟨w4.heap.size, 0, none⟩) 4 4), m, [], [], [], [(.slice vo n vc, n), (.slice o1 (n + 1) c1, n + 1), (.slice o2 (n + 2) c2, n + 2), (.slice o3 (n + 3) c3, n + 3)]⟩) := fun o => by
        refine ⟨full_nil _ _ _ _, full_nil _ _ _ _, full_nil _ _ _ _, ?_⟩
        refine ⟨ownsRow_mono (HROW.out.alloc _) (Nat.zero_le _), Nat.le_refl _, ?_⟩
        intro y hy
        simp only [List.mem_cons, List.mem_nil_iff, or_false] at hy
        rcases hy with rfl | rfl | rfl | rfl
        · exact ⟨by simp only; omega, ownsRow_mono ((HO.out.alloc _).alloc _) (Nat.zero_le _)⟩
        · exact ⟨by simp only; omega, ownsRow_mono ((HO1.out.alloc _).alloc _) (Nat.zero_le _)⟩
        · exact ⟨by simp only; omega, ownsRow_mono ((HO2.out.alloc _).alloc _) (Nat.zero_le _)⟩
        · exact ⟨by simp only; omega, ownsRow_mono ((HO3.out.alloc _).alloc _) (Nat.zero_le _)⟩
      have HXL : Hid (∀ k, (⟨(.slice none 0 0), (.slice none 0 0), (.slice none 0 0), (.slice (some ⟨w4.heap.size, 0, none⟩) 4 4), m, [], [], [], [(.slice vo n vc, n), (.slice o1 (n + 1) c1, n + 1), (.slice o2 (n + 2) c2, n + 2), (.slice o3 (n + 3) c3, n + 3)]⟩ : Sl).has k → (Value.slice vo n vc).ownBlock = some k ∨ w.heap.size ≤ k) := fun k hk => by
        have nilH : ∀ k, ¬ fullHas (.slice none 0 0) [] k := by
          intro k hk
          rcases hk with hk | ⟨y, hy, _⟩
          · cases hk
          · cases hy
        rcases hk with hk | hk | hk | hk
        · exact absurd hk (nilH k)
        · exact absurd hk (nilH k)
        · exact absurd hk (nilH k)
        · rcases hk with hk | ⟨y, hy, hk⟩
          · simp only [Value.ownBlock, Option.some.injEq] at hk
            exact .inr (by omega)
          · simp only [List.mem_cons, List.mem_nil_iff, or_false] at hy
            rcases hy with rfl | rfl | rfl | rfl
            · exact .inl hk
            · exact HL1.out k hk
            · exact HL2.out k hk
            · exact HL3.out k hk
      have HGF : Hid (∀ o o', w.grownBy ((w4.alloc o).alloc o') (Value.slice vo n vc).ownBlock) := fun o o' => grownBy_trans (grownBy_trans HG.out (grownBy_alloc _ _ _)) (grownBy_alloc _ _ _)
      have HN5 : Hid (N ≤ w4.heap.size) := by have := HNB0.out; exact Nat.le_trans this (Nat.le_of_lt hBl4)
      clear HO HO1 HO2 HO3 HG HL1 HL2 HL3 hsz4
      go_wp2_with (at_builtin; go_must (refine wpList_append_mine rfl (.tmp 44) (.tmp 52) 56 rfl N 84 j0 (.agg #[.slice none 0 0, .slice none 0 0, .slice none 0 0, .slice none 0 0, .int .i64 0]) 5 104 Tryz.underlying56 hj0 hy0 hy1 hy2 rfl (by decide) (.slice bo l.length bc) l.length (l.flatMap slCells) rfl (by exact (HBR4.out.alloc _).alloc _) ⟨w4.heap.size + 1, 0, none⟩ 1 1 (slCells ⟨(.slice none 0 0), (.slice none 0 0), (.slice none 0 0), (.slice (some ⟨w4.heap.size, 0, none⟩) 4 4), m, [], [], [], [(.slice vo n vc, n), (.slice o1 (n + 1) c1, n + 1), (.slice o2 (n + 2) c2, n + 2), (.slice o3 (n + 3) c3, n + 3)]⟩) rfl rfl (by exact HNS.out _) (by intro u hu; simp [slCells] at hu; rcases hu with rfl | rfl | rfl | rfl | rfl <;> rfl) (by unfold maxLen; omega) (by omega) (by have := HN5.out; simp; omega) ?_))
      intro v5 w5 ho5 hg5 hk5
      obtain ⟨o5, c5, hv5⟩ := ownsRow_shape ho5
      subst hv5
      have hl4 : ∀ o o', ((w4.alloc o).alloc o').cell? ⟨B, 0, none⟩ = some (.slice bo l.length bc) := fun o o' => by
        rw [World.cell?_alloc_lt _ _ _ (by simp; omega), World.cell?_alloc_lt _ _ _ hBl4]; exact cB4
      have hf4 : ∀ o o', ((w4.alloc o).alloc o').frozen? ⟨B, 0, none⟩ = false := fun o o' => by
        rw [World.frozen?_of_block (w := w4.alloc o) (heap_alloc_lt _ _ _ (by simp; omega)), World.frozen?_of_block (w := w4) (heap_alloc_lt _ _ _ hBl4)]; exact fB4
      have hrB : (Value.slice bo l.length bc).ownBlock ≠ some B := by
        intro e
        obtain ⟨cur, hc⟩ := ownsRow_type HBR.out e
        obtain ⟨hh, _⟩ := HBK.out.row cB
        rw [hh] at hc
        simp at hc
      have hB5 := hg5.block B (by simp; omega) (fun e => hrB e.symm)
      have cB5 := (World.cell?_of_block (a := ⟨B, 0, none⟩) hB5).trans (hl4 _ _)
      have fB5 := (World.frozen?_of_block (a := ⟨B, 0, none⟩) hB5).trans (hf4 _ _)
      have HFIN : Hid _ := keep_fin HBK.out hBlt cB HNB.out HNR.out HFR.out (HGF.out _ _) _ (HSL.out _) HXL.out _ ho5 hg5 (by simpa using hk5)
      clear hl4 hf4 hB5 ho5 hg5 hk5 cB4 fB4
      go_wp2_with fail
      go_end0
      exact ⟨rfl, HFIN.out.2.1, HFIN.out.2.2⟩
end
end Go.Proofs.YtcabaecbmkgclaaGreatDoor
