/-
  What the molecule's Plain does.
  No error of the plain reader's has the number 0.
  What benzol.Parse does.
  The document's reader in memory: its block and its five lists.
  What a call of the document's reader may have turned; an error noted.
  The document's begins.
  The document's order and bound.
-/
import Derived.Test.YtcabaecbmkgclaaGreatDoorP04
import Derived.Lib.SliceRun

namespace Go.Proofs.YtcabaecbmkgclaaGreatDoor
open Go.RowKit Bz

/-- An atom's cells as the caller gets them. -/
def plainCells (a : Atm) : List Value := [.string a.el, .bool a.aro, .int .i64 a.ch, .int .i64 a.hy]

theorem plainCells_len (a : Atm) : (plainCells a).length = 4 := rfl

theorem Tryz.infoPAtom : (Tryz.prog.info? 50).map (fun i => (i.zero, i.size, i.bytes)) = some (some (.agg #[.string ⟨#[]⟩, .bool false, .int .i64 0, .int .i64 0]), 4, 40) := by kernel_rfl

theorem flatMap_plain_len (l : List Atm) : (l.flatMap plainCells).length = l.length * 4 := by
  induction l with
  | nil => rfl
  | cons a r ih => rw [List.flatMap_cons, List.length_append, ih, plainCells_len, List.length_cons]; omega

theorem plain_step (ats : List Atm) (xs : List Value) (i : Nat) (a : Atm) (hi : ats[i]? = some a) (hx : xs.length = ats.length * 4) (ht : xs.take (i * 4) = (ats.take i).flatMap plainCells) :
    ((((xs.set (i * 4) (.string a.el)).set (i * 4 + 1) (.bool a.aro)).set (i * 4 + 2) (.int .i64 a.ch)).set (i * 4 + 3) (.int .i64 a.hy)).take ((i + 1) * 4) = (ats.take (i + 1)).flatMap plainCells := by
  have hlt : i < ats.length := (List.getElem?_eq_some_iff.1 hi).1
  have e1 : ats.take (i + 1) = ats.take i ++ [a] := by rw [List.take_add_one, hi]; rfl
  rw [e1, List.flatMap_append, ← ht]
  have hr : xs = xs.take (i * 4) ++ xs.drop (i * 4) := (List.take_append_drop _ _).symm
  have hl : (xs.take (i * 4)).length = i * 4 := by rw [List.length_take]; omega
  have hd : (xs.drop (i * 4)).length = ats.length * 4 - i * 4 := by rw [List.length_drop, hx]
  generalize xs.take (i * 4) = p at *
  generalize xs.drop (i * 4) = q at *
  subst hr
  match q, hd with
  | [], hd => simp at hd; omega
  | [_], hd => simp at hd; omega
  | [_, _], hd => simp at hd; omega
  | [_, _, _], hd => simp at hd; omega
  | q0 :: q1 :: q2 :: q3 :: q, hd =>
    rw [← hl]
    have t : (p ++ q0 :: q1 :: q2 :: q3 :: q).set p.length (.string a.el) = p ++ .string a.el :: q1 :: q2 :: q3 :: q := by simp
    have t1 : (p ++ Value.string a.el :: q1 :: q2 :: q3 :: q).set (p.length + 1) (.bool a.aro) = p ++ .string a.el :: .bool a.aro :: q2 :: q3 :: q := by simp
    have t2 : (p ++ Value.string a.el :: .bool a.aro :: q2 :: q3 :: q).set (p.length + 2) (.int .i64 a.ch) = p ++ .string a.el :: .bool a.aro :: .int .i64 a.ch :: q3 :: q := by simp
    have t3 : (p ++ Value.string a.el :: .bool a.aro :: .int .i64 a.ch :: q3 :: q).set (p.length + 3) (.int .i64 a.hy) = p ++ .string a.el :: .bool a.aro :: .int .i64 a.ch :: .int .i64 a.hy :: q := by simp
    rw [t, t1, t2, t3]
    have : (i + 1) * 4 = p.length + 4 := by omega
    rw [this, List.take_length_add_append]
    rfl

theorem flatMap_bnd_len (l : List Bnd) : (l.flatMap bndCells).length = l.length * 3 := flatMap_len bndCells 3 bndCells_len l

theorem bnd_step (l : List Bnd) (xs : List Value) (i : Nat) (b : Bnd) (hi : l[i]? = some b) (hx : xs.length = l.length * 3) (ht : xs.take (i * 3) = (l.take i).flatMap bndCells) :
    (((xs.set (i * 3) (.int .i64 b.a)).set (i * 3 + 1) (.int .i64 b.b)).set (i * 3 + 2) (.int .i64 b.o)).take ((i + 1) * 3) = (l.take (i + 1)).flatMap bndCells := by
  have hlt : i < l.length := (List.getElem?_eq_some_iff.1 hi).1
  have e1 : l.take (i + 1) = l.take i ++ [b] := by rw [List.take_add_one, hi]; rfl
  rw [e1, List.flatMap_append, ← ht]
  have hr : xs = xs.take (i * 3) ++ xs.drop (i * 3) := (List.take_append_drop _ _).symm
  have hl : (xs.take (i * 3)).length = i * 3 := by rw [List.length_take]; omega
  have hd : (xs.drop (i * 3)).length = l.length * 3 - i * 3 := by rw [List.length_drop, hx]
  generalize xs.take (i * 3) = p at *
  generalize xs.drop (i * 3) = q at *
  subst hr
  match q, hd with
  | [], hd => simp at hd; omega
  | [_], hd => simp at hd; omega
  | [_, _], hd => simp at hd; omega
  | q0 :: q1 :: q2 :: q, hd =>
    rw [← hl]
    have t : (p ++ q0 :: q1 :: q2 :: q).set p.length (.int .i64 b.a) = p ++ .int .i64 b.a :: q1 :: q2 :: q := by simp
    have t1 : (p ++ Value.int .i64 b.a :: q1 :: q2 :: q).set (p.length + 1) (.int .i64 b.b) = p ++ .int .i64 b.a :: .int .i64 b.b :: q2 :: q := by simp
    have t2 : (p ++ Value.int .i64 b.a :: .int .i64 b.b :: q2 :: q).set (p.length + 2) (.int .i64 b.o) = p ++ .int .i64 b.a :: .int .i64 b.b :: .int .i64 b.o :: q := by simp
    rw [t, t1, t2]
    have : (i + 1) * 3 = p.length + 3 := by omega
    rw [this, List.take_length_add_append]
    rfl

section
set_option maxRecDepth 100000 in
set_option maxHeartbeats 1000000 in
theorem plain_any (w : World) (L base : Nat) (av bv : Value) (ats : List Atm) (l : List Bnd) (hl : l.length ≤ 1000) (hn : ats.length ≤ 24) (hne : 0 < ats.length) (hL : L < w.heap.size)
    (h24 : w.cell? ⟨L, 24, none⟩ = some av) (h25 : w.cell? ⟨L, 25, none⟩ = some bv) (ha : w.ownsRow base 124 6 av ats.length (ats.flatMap atmCells)) (hb : w.ownsRow base 102 4 bv l.length (l.flatMap pbCells)) :
    Calls Tryz.prog 26 #[.pointer (some ⟨L, 0, none⟩)] w fun e w' => ∃ v v', e = .returned (.agg #[v, v']) ∧ w'.ownsRow w.heap.size 50 4 v ats.length (ats.flatMap plainCells) ∧ w'.ownsRow w.heap.size 46 3 v' l.length (l.flatMap bndCells) ∧ Below w.heap.size w w' := by
  obtain ⟨bo, bc, hbv⟩ := ownsRow_shape hb
  subst hbv
  obtain ⟨i0, hi, hz0, hz1, hz2⟩ := info_parts Tryz.infoPAtom
  obtain ⟨j0, hj, hjz0, hjz1, hjz2⟩ := info_parts Tryz.infoBond
  obtain ⟨g, cap, hA, _, hgl, hcell, _⟩ := ownsRow_at ha hne
  subst hA
  have HC : Hid _ := hcell
  clear hcell
  go_enter Tryz.func26, Tryz.ntmps26
  go_wp2_with (at_make; go_must (refine wpList_make_full _ rfl _ _ 36 rfl (w.heap.size + 1) 50 i0 (.agg #[.string ⟨#[]⟩, .bool false, .int .i64 0, .int .i64 0]) 4 Tryz.underlying36 hi hz0 hz1 .i64 .i64 _ _ ats.length rfl rfl rfl rfl ?c1 ?c2 ?c3 ?_))
  case c1 => rw [hz2]; omega
  case c2 => unfold maxLen; omega
  case c3 => simp
  intro w2 hown hgrow
  have hbel : Below w.heap.size w w2 := ((Below.refl _ w).alloc (Nat.le_refl _) _).grown hgrow (by simp) (by simp)
  have HR : w2.heap[w.heap.size]? = (w.alloc (.cells #[.slice none 0 0, .slice none 0 0] 39)).heap[w.heap.size]? := hgrow.block _ (by simp) (by simp)
  have hsz2 : w.heap.size + 1 < w2.heap.size := (by simpa using (hown.lt _ rfl).2)
  have h24' : w2.cell? ⟨L, 24, none⟩ = some (.slice (some ⟨g, 0, none⟩) ats.length cap) := (hbel.cell (p := ⟨L, 24, none⟩) hL).trans h24
  have hxl := hown.1
  generalize hxs : Array.toList _ = xs0 at hown
  clear hgrow hxs
  go_wp2_with fail
  obtain ⟨G, hG⟩ : ∃ G, G = w.heap.size + 1 := ⟨_, rfl⟩
  rw [← hG] at hown hsz2
  have HG : Hid (G = w.heap.size + 1) := hG
  simp only [← hG]
  clear hG
  go_loopg [20] (ats.length + 1) (fun k vi wr => ∃ i : Nat, ∃ xs : List Value, i ≤ ats.length ∧ ats.length - i ≤ k ∧ vi = .int .i64 i ∧ wr.ownsRow G 50 4 (.slice (some ⟨G, 0, none⟩) ats.length ats.length) ats.length xs ∧ xs.take (i * 4) = (ats.take i).flatMap plainCells ∧
      wr.heap[w.heap.size]? = (w.alloc (.cells #[.slice none 0 0, .slice none 0 0] 39)).heap[w.heap.size]? ∧ Below w.heap.size w wr)
  case atStart => exact ⟨0, xs0, by omega, by omega, rfl, hown, by simp, HR, hbel⟩
  case round =>
    obtain ⟨i, xs, hi', hk, rfl, ho, ht, hr, hbw⟩ := hrel
    by_cases hlt : i < ats.length
    · have gi := List.getElem?_eq_getElem hlt
      have hlt' : (i : Int) < (ats.length : Int) := by omega
      have cc : ∀ j v, (atmCells ats[i])[j]? = some v → wr.cell? ⟨g, i * 6 + j, none⟩ = some v := by
        intro j v hj
        have hj6 : j < 6 := by
          have := (List.getElem?_eq_some_iff.1 hj).1
          simpa [atmCells_len] using this
        rw [hbw.cell (p := ⟨g, i * 6 + j, none⟩) hgl, HC.out (i * 6 + j) (by omega), flatMap_get atmCells 6 atmCells_len _ i j _ gi hj6, hj]
      generalize ats[i] = a at *
      have q0 : wr.cell? ⟨g, i * 6, none⟩ = some (.string a.el) := cc 0 _ rfl
      have q1 : wr.cell? ⟨g, i * 6 + 1, none⟩ = some (.bool a.aro) := cc 1 _ rfl
      have q2 : wr.cell? ⟨g, i * 6 + 2, none⟩ = some (.int .i64 a.ch) := cc 2 _ rfl
      have q3 : wr.cell? ⟨g, i * 6 + 3, none⟩ = some (.int .i64 a.hy) := cc 3 _ rfl
      have q4 : wr.cell? ⟨g, i * 6 + 4, none⟩ = some (.int .i64 a.pl) := cc 4 _ rfl
      have q5 : wr.cell? ⟨g, i * 6 + 5, none⟩ = some (.bool a.br) := cc 5 _ rfl
      clear cc
      obtain ⟨g2, cap2, e2, _, hg2, hc2, hf2⟩ := ownsRow_at ho hne
      simp only [Value.slice.injEq, Option.some.injEq, Addr.mk.injEq, and_true, true_and] at e2
      obtain ⟨rfl, rfl⟩ := e2
      have hxl := ho.1
      have d : ∀ j, j < 4 → ∃ v, wr.cell? ⟨G, i * 4 + j, none⟩ = some v := fun j hj => ⟨xs[i * 4 + j]'(by omega), (hc2 _ (by omega)).trans (List.getElem?_eq_getElem (by omega))⟩
      obtain ⟨v0, d0⟩ := d 0 (by omega)
      obtain ⟨v1, d1⟩ := d 1 (by omega)
      obtain ⟨v2, d2⟩ := d 2 (by omega)
      obtain ⟨v3, d3⟩ := d 3 (by omega)
      rw [Nat.add_zero] at d0
      have f0 := hf2 (i * 4)
      have f1 := hf2 (i * 4 + 1)
      have f2 := hf2 (i * 4 + 2)
      have f3 := hf2 (i * 4 + 3)
      clear hc2 hf2 d
      have hgs : g < wr.heap.size := by have := hbw.size; omega
      have HPS : Hid _ := plain_step ats xs i a gi hxl ht
      have HS := (((ho.stored (i * 4) (.string a.el)).1.stored (i * 4 + 1) (.bool a.aro)).1.stored (i * 4 + 2) (.int .i64 a.ch)).1.stored (i * 4 + 3) (.int .i64 a.hy)
      have HOWN : Hid _ := HS.1.alloc (.cells #[.string a.el, .bool a.aro, .int .i64 a.ch, .int .i64 a.hy, .int .i64 a.pl, .bool a.br] 124)
      have hGne : w.heap.size ≠ G := by have := HG.out; omega
      have HHR : Hid ((((((wr.setCell ⟨G, i * 4, none⟩ (.string a.el)).setCell ⟨G, i * 4 + 1, none⟩ (.bool a.aro)).setCell ⟨G, i * 4 + 2, none⟩ (.int .i64 a.ch)).setCell ⟨G, i * 4 + 3, none⟩ (.int .i64 a.hy)).alloc (.cells #[.string a.el, .bool a.aro, .int .i64 a.ch, .int .i64 a.hy, .int .i64 a.pl, .bool a.br] 124)).heap[w.heap.size]? = (w.alloc (.cells #[.slice none 0 0, .slice none 0 0] 39)).heap[w.heap.size]?) := by
        show _ = _
        rw [heap_alloc_lt _ _ _ (by simp; have := HG.out; omega), Below.heap_setCell _ _ _ _ hGne, Below.heap_setCell _ _ _ _ hGne, Below.heap_setCell _ _ _ _ hGne, Below.heap_setCell _ _ _ _ hGne]
        exact hr
      have hGle : w.heap.size ≤ G := by have := HG.out; omega
      have HB : Hid _ := ((((hbw.setCell (p := ⟨G, i * 4, none⟩) hGle (.string a.el)).setCell (p := ⟨G, i * 4 + 1, none⟩) hGle (.bool a.aro)).setCell (p := ⟨G, i * 4 + 2, none⟩) hGle (.int .i64 a.ch)).setCell (p := ⟨G, i * 4 + 3, none⟩) hGle (.int .i64 a.hy)).alloc (by simpa using hbw.size) (.cells #[.string a.el, .bool a.aro, .int .i64 a.ch, .int .i64 a.hy, .int .i64 a.pl, .bool a.br] 124)
      clear HS
      go_wp2_with fail
      go_roundg (ats.length - (i + 1))
      case measure => omega
      case rel => exact ⟨i + 1, _, by omega, Nat.le_refl _, by go_num, HOWN.out, HPS.out, HHR.out, HB.out⟩
    · have hlt' : ¬ (i : Int) < (ats.length : Int) := by omega
      have hin : i = ats.length := by omega
      rw [hin, List.take_length, ← ho.1, List.take_length] at ht
      subst ht
      have h25' : wr.cell? ⟨L, 25, none⟩ = some (.slice bo l.length bc) := (hbw.cell (p := ⟨L, 25, none⟩) hL).trans h25
      have HBB : Hid (wr.ownsRow base 102 4 (.slice bo l.length bc) l.length (l.flatMap pbCells)) := ownsRow_same hb fun k hk => hbw.block k (hb.lt k hk).2
      have HO : Hid (wr.ownsRow G 50 4 (.slice (some ⟨G, 0, none⟩) ats.length ats.length) ats.length (ats.flatMap plainCells)) := ho
      have HRR : Hid (wr.heap[w.heap.size]? = (w.alloc (.cells #[.slice none 0 0, .slice none 0 0] 39)).heap[w.heap.size]?) := hr
      have HBW : Hid (Below w.heap.size w wr) := hbw
      have hGs := (ho.lt _ rfl).2
      have hLr : L < wr.heap.size := by have := hbw.size; omega
      have hl' : l.length ≤ 1000 := hl
      clear ho hr hbw hlt hin hk
      clear h24' HR hbel hown hsz2 HC
      obtain ⟨wa, ewa⟩ : ∃ x, x = wr := ⟨_, rfl⟩
      subst ewa
      go_wp2_with (at_make; go_must (refine wpList_make_full _ rfl _ _ 37 rfl wa.heap.size 46 j0 (.agg #[.int .i64 0, .int .i64 0, .int .i64 0]) 3 Tryz.underlying37 hj hjz0 hjz1 .i64 .i64 _ _ l.length rfl rfl rfl rfl ?d1 ?d2 ?d3 ?_))
      case d1 => (try rw [hjz2]); omega
      case d2 => unfold maxLen; omega
      intro w3 hown3 hgrow3
      have hb3 : Below wa.heap.size wa w3 := (Below.refl _ wa).grown hgrow3 (Nat.le_refl _) (by simp)
      have h25'' : w3.cell? ⟨L, 25, none⟩ = some (.slice bo l.length bc) := (hb3.cell (p := ⟨L, 25, none⟩) hLr).trans h25'
      generalize hys : Array.toList _ = ys0 at hown3
      clear hgrow3 hys h25'
      go_wp2_with fail
      obtain ⟨H, hH⟩ : ∃ H, H = wa.heap.size := ⟨_, rfl⟩
      rw [← hH] at hown3
      have HH : Hid (H = wa.heap.size) := hH
      simp only [← hH]
      clear hH
      go_loopg [42] (l.length + 1) (fun k vi wr => ∃ i : Nat, ∃ ys : List Value, i ≤ l.length ∧ l.length - i ≤ k ∧ vi = .int .i64 i ∧ wr.ownsRow H 46 3 (.slice (some ⟨H, 0, none⟩) l.length l.length) l.length ys ∧ ys.take (i * 3) = (l.take i).flatMap bndCells ∧ Below wa.heap.size wa wr)
      case atStart => exact ⟨0, ys0, by omega, by omega, rfl, hown3, by simp, hb3⟩
      case round =>
        obtain ⟨i, ys, hi', hk, rfl, ho, ht, hbw⟩ := hrel
        by_cases hlt : i < l.length
        · have gi := List.getElem?_eq_getElem hlt
          have hlt' : (i : Int) < (l.length : Int) := by omega
          obtain ⟨g4, cap4, e4, _, hg4, hc4, _⟩ := ownsRow_at HBB.out (by omega)
          simp only [Value.slice.injEq, true_and] at e4
          obtain ⟨rfl, rfl⟩ := e4
          have cc : ∀ j v, (pbCells l[i])[j]? = some v → wr.cell? ⟨g4, i * 4 + j, none⟩ = some v := by
            intro j v hj
            have hj6 : j < 4 := by
              have := (List.getElem?_eq_some_iff.1 hj).1
              simpa [pbCells_len] using this
            rw [hbw.cell (p := ⟨g4, i * 4 + j, none⟩) hg4, hc4 (i * 4 + j) (by omega), flatMap_get pbCells 4 pbCells_len _ i j _ gi hj6, hj]
          generalize l[i] = b at *
          have q0 : wr.cell? ⟨g4, i * 4, none⟩ = some (.int .i64 b.a) := cc 0 _ rfl
          have q1 : wr.cell? ⟨g4, i * 4 + 1, none⟩ = some (.int .i64 b.b) := cc 1 _ rfl
          have q2 : wr.cell? ⟨g4, i * 4 + 2, none⟩ = some (.int .i64 b.o) := cc 2 _ rfl
          have q3 : wr.cell? ⟨g4, i * 4 + 3, none⟩ = some (.int .i64 b.pl) := cc 3 _ rfl
          clear cc hc4
          obtain ⟨g2, cap2, e2, _, hg2, hc2, hf2⟩ := ownsRow_at ho (by omega)
          simp only [Value.slice.injEq, Option.some.injEq, Addr.mk.injEq, and_true, true_and] at e2
          obtain ⟨rfl, rfl⟩ := e2
          have hxl := ho.1
          have d : ∀ j, j < 3 → ∃ v, wr.cell? ⟨H, i * 3 + j, none⟩ = some v := fun j hj => ⟨ys[i * 3 + j]'(by omega), (hc2 _ (by omega)).trans (List.getElem?_eq_getElem (by omega))⟩
          obtain ⟨v0, d0⟩ := d 0 (by omega)
          obtain ⟨v1, d1⟩ := d 1 (by omega)
          obtain ⟨v2, d2⟩ := d 2 (by omega)
          rw [Nat.add_zero] at d0
          have f0 := hf2 (i * 3)
          have f1 := hf2 (i * 3 + 1)
          have f2 := hf2 (i * 3 + 2)
          clear hc2 hf2 d
          have hgs : g4 < wr.heap.size := by have := hbw.size; omega
          have HPS : Hid _ := bnd_step l ys i b gi hxl ht
          have HS := ((ho.stored (i * 3) (.int .i64 b.a)).1.stored (i * 3 + 1) (.int .i64 b.b)).1.stored (i * 3 + 2) (.int .i64 b.o)
          have HOWN : Hid _ := HS.1.alloc (.cells #[.int .i64 b.a, .int .i64 b.b, .int .i64 b.o, .int .i64 b.pl] 102)
          have hHle : wa.heap.size ≤ H := by have := HH.out; omega
          have HB : Hid _ := (((hbw.setCell (p := ⟨H, i * 3, none⟩) hHle (.int .i64 b.a)).setCell (p := ⟨H, i * 3 + 1, none⟩) hHle (.int .i64 b.b)).setCell (p := ⟨H, i * 3 + 2, none⟩) hHle (.int .i64 b.o)).alloc (by simpa using hbw.size) (.cells #[.int .i64 b.a, .int .i64 b.b, .int .i64 b.o, .int .i64 b.pl] 102)
          clear HS
          go_wp2_with fail
          go_roundg (l.length - (i + 1))
          case measure => omega
          case rel => exact ⟨i + 1, _, by omega, Nat.le_refl _, by go_num, HOWN.out, HPS.out, HB.out⟩
        · have hlt' : ¬ (i : Int) < (l.length : Int) := by omega
          have hin : i = l.length := by omega
          rw [hin, List.take_length, ← ho.1, List.take_length] at ht
          subst ht
          have hRw : w.heap.size < wa.heap.size := by have := HG.out; omega
          have hRR : wr.heap[w.heap.size]? = (w.alloc (.cells #[.slice none 0 0, .slice none 0 0] 39)).heap[w.heap.size]? := (hbw.block _ hRw).trans HRR.out
          have r0 : wr.cell? ⟨w.heap.size, 0, none⟩ = some (.slice none 0 0) := (World.cell?_of_block (w := w.alloc (.cells #[.slice none 0 0, .slice none 0 0] 39)) hRR).trans (by simp)
          have r1 : wr.cell? ⟨w.heap.size, 1, none⟩ = some (.slice none 0 0) := (World.cell?_of_block (w := w.alloc (.cells #[.slice none 0 0, .slice none 0 0] 39)) hRR).trans (by simp)
          have rf : ∀ j, wr.frozen? ⟨w.heap.size, j, none⟩ = false := fun j => (World.frozen?_of_block (w := w.alloc (.cells #[.slice none 0 0, .slice none 0 0] 39)) hRR).trans (by simp)
          have rf0 := rf 0
          have rf1 := rf 1
          have HA3 : wr.ownsRow G 50 4 (.slice (some ⟨G, 0, none⟩) ats.length ats.length) ats.length (ats.flatMap plainCells) := ownsRow_same HO.out fun k hk => hbw.block k (HO.out.lt k hk).2
          have hG1 := HG.out
          have hH1 := HH.out
          have HFA : Hid (((wr.setCell ⟨w.heap.size, 0, none⟩ (.slice (some ⟨G, 0, none⟩) ats.length ats.length)).setCell ⟨w.heap.size, 1, none⟩ (.slice (some ⟨H, 0, none⟩) l.length l.length)).ownsRow w.heap.size 50 4 (.slice (some ⟨G, 0, none⟩) ats.length ats.length) ats.length (ats.flatMap plainCells)) :=
            ownsRow_mono (ownsRow_setCell_other (ownsRow_setCell_other HA3 (by simp [Value.ownBlock]; omega) _) (by simp [Value.ownBlock]; omega) _) (by omega)
          have HFB : Hid (((wr.setCell ⟨w.heap.size, 0, none⟩ (.slice (some ⟨G, 0, none⟩) ats.length ats.length)).setCell ⟨w.heap.size, 1, none⟩ (.slice (some ⟨H, 0, none⟩) l.length l.length)).ownsRow w.heap.size 46 3 (.slice (some ⟨H, 0, none⟩) l.length l.length) l.length (l.flatMap bndCells)) :=
            ownsRow_mono (ownsRow_setCell_other (ownsRow_setCell_other ho (by simp [Value.ownBlock]; omega) _) (by simp [Value.ownBlock]; omega) _) (by omega)
          have HFC : Hid (Below w.heap.size w ((wr.setCell ⟨w.heap.size, 0, none⟩ (.slice (some ⟨G, 0, none⟩) ats.length ats.length)).setCell ⟨w.heap.size, 1, none⟩ (.slice (some ⟨H, 0, none⟩) l.length l.length))) :=
            ((HBW.out.trans (hbw.mono (by omega))).setCell (p := ⟨w.heap.size, 0, none⟩) (Nat.le_refl _) _).setCell (p := ⟨w.heap.size, 1, none⟩) (Nat.le_refl _) _
          clear HA3 rf hRR hG1 hH1 hRw ho hbw
          go_wp2_with fail
          refine bodyPost_ret (v := .agg #[.slice (some ⟨G, 0, none⟩) ats.length ats.length, .slice (some ⟨H, 0, none⟩) l.length l.length]) ?_ rfl ⟨_, _, rfl, HFA.out, HFB.out, HFC.out⟩
          simp only [results, Tryz.results26]
          go_simp
end
end Go.Proofs.YtcabaecbmkgclaaGreatDoor

namespace Go.Proofs.YtcabaecbmkgclaaGreatDoor
open Go.RowKit Bz

theorem bracket_nz {s : ByteArray} {i : Nat} {er : Int × Int} (h : Bz.bracket s i = .error er) : er.1 ≠ 0 := by
  unfold Bz.bracket at h
  simp only [] at h
  split at h <;> cases h
  simp

theorem atom_nz {s : ByteArray} {p : St} {g : Hung} {er : Int × Int} (h : Bz.atom s g p = .error er) : er.1 ≠ 0 := by
  unfold Bz.atom at h
  simp only [] at h
  split at h
  · split at h <;> cases h <;> simp
  · split at h
    · cases h; simp
    split at h
    · cases h; simp
    split at h
    · rename_i e he
      cases h
      split at he
      · exact bracket_nz he
      · cases he
    · cases h

theorem bondEnd_nz {s : ByteArray} {p : St} {a : Nat} {er : Int × Int} (h : Bz.bondEnd s a p = .error er) : er.1 ≠ 0 := by
  unfold Bz.bondEnd at h
  simp only [] at h
  split at h
  · split at h <;> cases h
    simp
  · cases h

theorem link_nz {s : ByteArray} {p : St} {a : Nat} {er : Int × Int} (h : Bz.link s a p = .error er) : er.1 ≠ 0 := by
  unfold Bz.link at h
  split at h
  · cases h
  · exact bondEnd_nz h

theorem ringNumber_nz {s : ByteArray} {i : Nat} {er : Int × Int} (h : Bz.ringNumber s i = .error er) : er.1 ≠ 0 := by
  unfold Bz.ringNumber at h
  repeat' split at h
  all_goals first | (cases h; done) | (cases h; simp)

theorem closeRing_nz {a b : Hung} {k : Nat} {p : St} {er : Int × Int} (h : Bz.closeRing a b k p = .error er) : er.1 ≠ 0 := by
  unfold Bz.closeRing at h
  simp only [] at h
  repeat' split at h
  all_goals first | (cases h; done) | (cases h; simp)

theorem ring_nz {s : ByteArray} {p : St} {a : Nat} {er : Int × Int} (h : Bz.ring s a p = .error er) : er.1 ≠ 0 := by
  unfold Bz.ring at h
  split at h
  · rename_i e he; cases h; exact bondEnd_nz he
  split at h
  · rename_i e he; cases h; exact ringNumber_nz he
  split at h
  · cases h
  · exact closeRing_nz h

theorem ringsOf_nz {s : ByteArray} {a : Nat} {er : Int × Int} : ∀ (n : Nat) {p : St}, Bz.ringsOf s a n p = .error er → er.1 ≠ 0
  | 0, _, h => by cases h
  | n + 1, p, h => by
    unfold Bz.ringsOf at h
    split at h
    · split at h
      · rename_i e he; cases h; exact ring_nz he
      · exact ringsOf_nz n h
    · cases h

/-- From place lo on a chain's errors have numbers. -/
def ChainNz (s : ByteArray) (c : Hung → St → R St) (lo : Nat) : Prop := ∀ g q er, Ok s q → HungOk g q → lo ≤ q.pos → c g q = .error er → er.1 ≠ 0

section
variable {s : ByteArray} {c : Hung → St → R St} {lo : Nat}

theorem branch_nz (hn : ChainNz s c lo) {a : Nat} {p : St} {er : Int × Int} (h : Bz.branch s c a p = .error er) (o : Ok s p) (ha : a < p.atoms.length) (hlo : lo ≤ p.pos) : er.1 ≠ 0 := by
  unfold Bz.branch at h
  split at h
  · rename_i e he; cases h; exact link_nz he
  · rename_i g q hq
    obtain ⟨o1, h1, _, h3⟩ := link_wf hq o ha
    split at h
    · rename_i e he; cases h; exact hn g q _ o1 h1 (by omega) he
    · split at h <;> cases h
      simp

theorem branches_nz (hc : ChainOk s c) (hn : ChainNz s c (lo + 1)) {a : Nat} {er : Int × Int} : ∀ (n : Nat) {p : St}, Bz.branches s c a n p = .error er → Ok s p → a < p.atoms.length → lo ≤ p.pos → er.1 ≠ 0
  | 0, _, h, _, _, _ => by cases h
  | n + 1, p, h, o, ha, hlo => by
    unfold Bz.branches at h
    split at h
    · rename_i h40
      have hlt : p.pos < s.size := lt_of_byteAt (by rw [h40]; decide)
      have o1 := o.step hlt
      split at h
      · rename_i e he; cases h; exact branch_nz hn he o1 ha (by simp; omega)
      · rename_i q hq
        obtain ⟨o2, h2, h3⟩ := branch_wf hc hq o1 ha
        exact branches_nz hc hn n h o2 (by simp at h3; omega) (by simp at h2; omega)
    · cases h

theorem knot_nz (hc : ChainOk s c) (hn : ChainNz s c (lo + 1)) {g : Hung} {p : St} {er : Int × Int} (h : Bz.knot s c g p = .error er) (o : Ok s p) (hlo : lo ≤ p.pos) : er.1 ≠ 0 := by
  unfold Bz.knot at h
  split at h
  · rename_i e he; cases h; exact atom_nz he
  · rename_i k q hq
    obtain ⟨o1, h1, h2, _⟩ := atom_wf hq o
    split at h
    · rename_i e he; cases h; exact ringsOf_nz _ he
    · rename_i q2 hq2
      obtain ⟨o2, h3, h4⟩ := ringsOf_wf _ hq2 o1 h1
      split at h
      · rename_i e he; cases h; exact branches_nz hc hn _ he o2 (by omega) (by omega)
      · cases h

theorem linkedKnot_nz (hc : ChainOk s c) (hn : ChainNz s c (lo + 1)) {a : Nat} {p : St} {er : Int × Int} (h : Bz.linkedKnot s c a p = .error er) (o : Ok s p) (ha : a < p.atoms.length) (hlo : lo ≤ p.pos) : er.1 ≠ 0 := by
  unfold Bz.linkedKnot at h
  split at h
  · rename_i e he; cases h; exact link_nz he
  · rename_i g q hq
    obtain ⟨o1, _, _, h3⟩ := link_wf hq o ha
    exact knot_nz hc hn h o1 (by omega)

theorem linked_nz (hc : ChainOk s c) (hn : ChainNz s c (lo + 1)) {er : Int × Int} : ∀ (n : Nat) {a : Nat} {p : St}, Bz.linked s c n a p = .error er → Ok s p → a < p.atoms.length → lo ≤ p.pos → er.1 ≠ 0
  | 0, _, _, h, _, _, _ => by cases h
  | n + 1, a, p, h, o, ha, hlo => by
    unfold Bz.linked at h
    split at h
    · split at h
      · rename_i e he; cases h; exact linkedKnot_nz hc hn he o ha hlo
      · rename_i k q hq
        obtain ⟨o1, h1, h2, _⟩ := linkedKnot_wf hc hq o ha
        exact linked_nz hc hn n h o1 h1 (by omega)
    · cases h
end

theorem chain_nz (s : ByteArray) : ∀ n lo, s.size < n + lo → ChainNz s (Bz.chain s n) lo
  | 0, lo, hl, _, q, _, o, _, hlo, _ => by have := o.pos; omega
  | n + 1, lo, hl, g, q, er, o, hg, hlo, h => by
    have hn := chain_nz s n (lo + 1) (by omega)
    unfold Bz.chain at h
    split at h
    · rename_i e he; cases h; exact knot_nz (chain_wf s n) hn he o hlo
    · rename_i k q2 hq
      obtain ⟨o1, h1, h2, _⟩ := knot_wf (chain_wf s n) hq o
      exact linked_nz (chain_wf s n) hn _ h o1 h1 (by omega)

theorem whole_nz {s : ByteArray} {er : Int × Int} (h : wholeR s = .error er) : er.1 ≠ 0 := by
  unfold wholeR at h
  split at h
  · rename_i e he; cases h; exact chain_nz s (s.size + 1) 0 (by omega) _ _ _ (start_ok s) (.inl rfl) (Nat.zero_le _) he
  · unfold finish valencesOk at h
    split at h
    · cases h; simp
    split at h
    · cases h; simp
    split at h <;> cases h
    simp

end Go.Proofs.YtcabaecbmkgclaaGreatDoor

namespace Go.Proofs.YtcabaecbmkgclaaGreatDoor
open Go.RowKit Bz

theorem whole_wf {s : ByteArray} (hs : s.size ≤ 160) {q : St} (h : wholeR s = .ok q) : Ok s q ∧ 0 < q.atoms.length := by
  unfold wholeR at h
  split at h
  · cases h
  rename_i p hp
  have hne := chain_ne hp (start_ok s)
  have ho := (chain_wf s (s.size + 1) _ _ _ (start_ok s) (.inl rfl) hp).1
  unfold finish valencesOk at h
  split at h
  · cases h
  split at h
  · cases h
  split at h
  · cases h
  cases h
  exact ⟨withHy_wf ho hs, by simp [withHy]; exact hne⟩

theorem parse_whole (s : ByteArray) (hs : s.size ≤ 160) : Bz.parse s = (wholeR s).map fun q => (q.atoms, q.bonds) := by
  unfold Bz.parse wholeR
  rw [if_neg (by omega)]
  cases hc : Bz.chain s (s.size + 1) ⟨0, 0, -1⟩ Bz.start with
  | error e => rfl
  | ok p =>
    simp only []
    unfold finish valencesOk withHy
    split
    · rfl
    split
    · rfl
    simp only []
    split <;> rename_i h <;> rw [h] <;> rfl

/-- What a reading gives, said of the molecule's value: something is wrong. -/
structure ReadBad (s : ByteArray) (w : World) (e : Ending) (w' : World) (er : Int × Int) : Prop where
  h : Bz.parse s = .error er
  he : e = .returned (.tuple #[.agg zeroMol, .int .i64 er.1, .int .i64 er.2])
  hne : er.1 ≠ 0
  hb : Below w.heap.size w w'
/-- Or there is a molecule. -/
structure ReadGood (s : ByteArray) (w : World) (e : Ending) (w' : World) (q : St) (ns : List Value) (av bv : Value) : Prop where
  h : Bz.parse s = .ok (q.atoms, q.bonds)
  he : e = .returned (.tuple #[.agg (ns ++ [av, bv]).toArray, .int .i64 0, .int .i64 0])
  hr : ReadOk w w' q ns av bv
  ho : Ok s q
  hne : 0 < q.atoms.length
def ReadIs (s : ByteArray) (w : World) (e : Ending) (w' : World) : Prop := (∃ er, ReadBad s w e w' er) ∨ ∃ q ns av bv, ReadGood s w e w' q ns av bv
theorem ReadIs.bad {s : ByteArray} {w : World} {e : Ending} {w' : World} (er : Int × Int) (h : Bz.parse s = .error er) (he : e = .returned (.tuple #[.agg zeroMol, .int .i64 er.1, .int .i64 er.2])) (hne : er.1 ≠ 0) (hb : Below w.heap.size w w') : ReadIs s w e w' := .inl ⟨er, h, he, hne, hb⟩
theorem ReadIs.good {s : ByteArray} {w : World} {e : Ending} {w' : World} (q : St) (ns : List Value) (av bv : Value) (h : Bz.parse s = .ok (q.atoms, q.bonds)) (he : e = .returned (.tuple #[.agg (ns ++ [av, bv]).toArray, .int .i64 0, .int .i64 0])) (hr : ReadOk w w' q ns av bv) (ho : Ok s q) (hne : 0 < q.atoms.length) : ReadIs s w e w' := .inr ⟨q, ns, av, bv, h, he, hr, ho, hne⟩

theorem read_any (s : ByteArray) (w : World) (hm : s.size ≤ maxLen) : Calls Tryz.prog 22 #[.string s] w (ReadIs s w) := by
  by_cases hs : s.size ≤ 160
  · have hp := parse_whole s hs
    cases hq : wholeR s with
    | error er =>
      rw [hq] at hp
      exact (read_err s w hs er hq).mono fun e w' h => .bad er hp h.1 (whole_nz hq) h.2
    | ok q =>
      rw [hq] at hp
      refine (read_ok s w hs q hq).mono fun e w' h => ?_
      obtain ⟨ns, av, bv, he, hr⟩ := h
      exact .good q ns av bv hp he hr (whole_wf hs hq).1 (whole_wf hs hq).2
  · have hp : Bz.parse s = .error (1, 0) := by unfold Bz.parse; rw [if_pos (by omega)]
    exact (read_long s w (by omega) hm).mono fun e w' h => .bad (1, 0) hp h.1 (by simp) h.2

/-- What Parse gives: something is wrong. -/
structure ParseBad (s : ByteArray) (w : World) (e : Ending) (w' : World) (er : Int × Int) : Prop where
  h : Bz.parse s = .error er
  he : e = .returned (.tuple #[.agg #[.slice none 0 0, .slice none 0 0], .int .i64 er.1, .int .i64 er.2])
  hb : Below w.heap.size w w'
/-- Or there is a molecule. -/
structure ParseGood (s : ByteArray) (w : World) (e : Ending) (w' : World) (ats : List Atm) (l : List Bnd) (v v' : Value) : Prop where
  h : Bz.parse s = .ok (ats, l)
  he : e = .returned (.tuple #[.agg #[v, v'], .int .i64 0, .int .i64 0])
  ha : w'.ownsRow w.heap.size 50 4 v ats.length (ats.flatMap plainCells)
  hl : w'.ownsRow w.heap.size 46 3 v' l.length (l.flatMap bndCells)
  hb : Below w.heap.size w w'
  hne : 0 < ats.length
  hn : ats.length ≤ 24
  hln : l.length ≤ 160
def ParseIs (s : ByteArray) (w : World) (e : Ending) (w' : World) : Prop := (∃ er, ParseBad s w e w' er) ∨ ∃ ats l v v', ParseGood s w e w' ats l v v'
theorem ParseIs.bad {s : ByteArray} {w : World} {e : Ending} {w' : World} (er : Int × Int) (h : Bz.parse s = .error er) (he : e = .returned (.tuple #[.agg #[.slice none 0 0, .slice none 0 0], .int .i64 er.1, .int .i64 er.2])) (hb : Below w.heap.size w w') : ParseIs s w e w' := .inl ⟨er, h, he, hb⟩
theorem ParseIs.good {s : ByteArray} {w : World} {e : Ending} {w' : World} (ats : List Atm) (l : List Bnd) (v v' : Value) (h : Bz.parse s = .ok (ats, l)) (he : e = .returned (.tuple #[.agg #[v, v'], .int .i64 0, .int .i64 0])) (ha : w'.ownsRow w.heap.size 50 4 v ats.length (ats.flatMap plainCells))
    (hl : w'.ownsRow w.heap.size 46 3 v' l.length (l.flatMap bndCells)) (hb : Below w.heap.size w w') (hne : 0 < ats.length) (hn : ats.length ≤ 24) (hln : l.length ≤ 160) : ParseIs s w e w' := .inr ⟨ats, l, v, v', h, he, ha, hl, hb, hne, hn, hln⟩

/-- The result's cell and all below stand as they stood. -/
structure Held (w W : World) : Prop where
  r0 : W.cell? ⟨w.heap.size, 0, none⟩ = some (.slice none 0 0)
  r1 : W.cell? ⟨w.heap.size, 1, none⟩ = some (.slice none 0 0)
  f : ∀ j, W.frozen? ⟨w.heap.size, j, none⟩ = false
  b : Below w.heap.size w W

theorem held_of {w W : World} (h : Below (w.heap.size + 1) (w.alloc (.cells #[.slice none 0 0, .slice none 0 0] 39)) W) : Held w W :=
  ⟨(h.cell (p := ⟨w.heap.size, 0, none⟩) (by simp)).trans (by simp), (h.cell (p := ⟨w.heap.size, 1, none⟩) (by simp)).trans (by simp), fun j => (h.frozen (p := ⟨w.heap.size, j, none⟩) (by simp)).trans (by simp),
    ((Below.refl _ w).alloc (Nat.le_refl _) _).trans (h.mono (by omega))⟩

section
set_option maxRecDepth 100000 in
set_option maxHeartbeats 1000000 in
theorem parse_any (s : ByteArray) (w : World) (hm : s.size ≤ maxLen) : Calls Tryz.prog 15 #[.string s] w (ParseIs s w) := by
  go_enter Tryz.func15, Tryz.ntmps15
  go_wp2_with fail
  refine (read_any s _ hm).mono ?_
  rintro e w1 h
  rcases h with ⟨er, h, he, hne, hb⟩ | ⟨q, ns, av, bv, h, he, hr, ho, hne⟩
  · subst he
    have hsz : (w.alloc (.cells #[.slice none 0 0, .slice none 0 0] 39)).heap.size = w.heap.size + 1 := by simp
    rw [hsz] at hb
    have hs1 := hb.size
    rw [hsz] at hs1
    have HT : Hid ((w1.alloc (.cells zeroMol 69)).there w1.heap.size 0 26) := there_new w1
    have HF : Held w ((w1.alloc (.cells zeroMol 69)).setCells w1.heap.size 0 zeroMol.toList) :=
      held_of (hb.trans ((below_setCells (Nat.le_refl _) _ _ _ ((Below.refl _ w1).alloc (Nat.le_refl _) _)).mono hs1))
    clear hb hsz hs1
    have HP : Hid _ := h
    clear h
    go_wp2_with (first | (refine wpList_alloc rfl 69 rfl _ _ (alloc_mol _) ?_; simp only [Act.put, List.setIfInBounds_toArray, List.set_cons_zero, List.set_cons_succ]; have tokS : True := trivial) | (have _t := tokS; go_must (refine wpList_store_mid rfl 69 (.tmp 5) (.tmp 11) rfl w1.heap.size 0 zeroMol (by simp [Act.eval]) (by simp [Act.eval]) HT.out Tryz.sizeMol zeroMol_one ?_); simp only [Act.put]; clear tokS; revert HF; generalize World.setCells _ _ _ _ = W; rintro ⟨r0, r1, rf, hbW⟩; have rf0 := rf 0; have rf1 := rf 1))
    refine bodyPost_ret (v := .tuple #[.agg #[.slice none 0 0, .slice none 0 0], .int .i64 er.1, .int .i64 er.2]) ?_ rfl (.bad er HP.out rfl ((hbW.setCell (p := ⟨w.heap.size, 0, none⟩) (Nat.le_refl _) _).setCell (p := ⟨w.heap.size, 1, none⟩) (Nat.le_refl _) _))
    simp only [results, Tryz.results15]
    go_simp
  · subst he
    obtain ⟨h1, h2, oa, ob, hb⟩ := hr
    have hsz : (w.alloc (.cells #[.slice none 0 0, .slice none 0 0] 39)).heap.size = w.heap.size + 1 := by simp
    rw [hsz] at hb oa ob
    have hs1 := hb.size
    rw [hsz] at hs1
    have hone : ∀ v ∈ ns ++ [av, bv], v.oneCell' = true := by
      intro v hv
      rcases List.mem_append.1 hv with hv | hv
      · exact h2 v hv
      · obtain ⟨x, y, rfl⟩ := ownsRow_shape oa
        obtain ⟨x', y', rfl⟩ := ownsRow_shape ob
        simp at hv
        rcases hv with rfl | rfl <;> rfl
    have hlen : (ns ++ [av, bv]).length = 26 := by simp [h1]
    have HT : Hid ((w1.alloc (.cells zeroMol 69)).there w1.heap.size 0 26) := there_new w1
    have HBL : Below w1.heap.size w1 ((w1.alloc (.cells zeroMol 69)).setCells w1.heap.size 0 (ns ++ [av, bv])) := below_setCells (Nat.le_refl _) _ _ _ ((Below.refl _ w1).alloc (Nat.le_refl _) _)
    have HF : Held w ((w1.alloc (.cells zeroMol 69)).setCells w1.heap.size 0 (ns ++ [av, bv])) := held_of (hb.trans (HBL.mono hs1))
    have HRA := World.rangeAt_setCells_same (w1.alloc (.cells zeroMol 69)) w1.heap.size 0 (ns ++ [av, bv]) (by rw [hlen]; exact HT.out)
    have C24 := HRA 24 av (by rw [List.getElem?_append_right (by omega), h1]; rfl)
    have C25 := HRA 25 bv (by rw [List.getElem?_append_right (by omega), h1]; rfl)
    have oa' := ownsRow_same oa fun k hk => HBL.block k (oa.lt k hk).2
    have ob' := ownsRow_same ob fun k hk => HBL.block k (ob.lt k hk).2
    have HSZ : w1.heap.size < ((w1.alloc (.cells zeroMol 69)).setCells w1.heap.size 0 (ns ++ [av, bv])).heap.size := World.block_lt_of_cell? _ ⟨w1.heap.size, 0 + 24, none⟩ C24
    have HONE : Hid _ := all_oneCell_toArray hone
    have HSI : Hid (26 = (ns ++ [av, bv]).length) := hlen.symm
    clear hb hsz hone hlen HBL HRA oa ob h1 h2
    generalize ns ++ [av, bv] = cs at *
    have HP : Hid _ := h
    have HO : Hid (Ok s q) := ho
    clear h ho
    go_wp2_with (first | (refine wpList_alloc rfl 69 rfl _ _ (alloc_mol _) ?_; simp only [Act.put, List.setIfInBounds_toArray, List.set_cons_zero, List.set_cons_succ]; have tokS : True := trivial) | (have _t := tokS; go_must (refine wpList_store_mid rfl 69 (.tmp 5) (.tmp 11) rfl w1.heap.size 0 cs.toArray (by simp [Act.eval]) (by simp [Act.eval]) (by simp only [List.size_toArray, ← HSI.out]; exact HT.out) (by simp only [List.size_toArray, ← HSI.out]; exact Tryz.sizeMol) HONE.out ?_); simp only [Act.put]; clear tokS; revert HF C24 C25 oa' ob' HSZ; generalize World.setCells _ _ _ _ = W; rintro ⟨r0, r1, rf, hbW⟩ C24 C25 oa' ob' HSZ; have HRF : Hid (∀ j, W.frozen? ⟨w.heap.size, j, none⟩ = false) := rf; clear rf))
    have hs : s.size ≤ 160 := by
      rcases Nat.lt_or_ge 160 s.size with h | h
      · have := HP.out
        unfold Bz.parse at this
        rw [if_pos h] at this
        cases this
      · exact h
    have hbn : q.bonds.length ≤ 160 := by have := HO.out.bonds; have := HO.out.pos; omega
    refine (plain_any W w1.heap.size (w.heap.size + 1) av bv q.atoms q.bonds (by omega) HO.out.atoms hne HSZ C24 C25 oa' ob').mono ?_
    rintro e w2 ⟨v, v', rfl, hA, hB, hb2⟩
    have hRW : w.heap.size < W.heap.size := by omega
    have x0 := (hb2.cell (p := ⟨w.heap.size, 0, none⟩) hRW).trans r0
    have x1 := (hb2.cell (p := ⟨w.heap.size, 1, none⟩) hRW).trans r1
    have y0 := (hb2.frozen (p := ⟨w.heap.size, 0, none⟩) hRW).trans (HRF.out 0)
    have y1 := (hb2.frozen (p := ⟨w.heap.size, 1, none⟩) hRW).trans (HRF.out 1)
    have n1 : v.ownBlock ≠ some w.heap.size := fun e => by have := (hA.lt _ e).1; omega
    have n2 : v'.ownBlock ≠ some w.heap.size := fun e => by have := (hB.lt _ e).1; omega
    have HA : Hid (((w2.setCell ⟨w.heap.size, 0, none⟩ v).setCell ⟨w.heap.size, 1, none⟩ v').ownsRow w.heap.size 50 4 v q.atoms.length (q.atoms.flatMap plainCells)) :=
      ownsRow_mono (ownsRow_setCell_other (ownsRow_setCell_other hA n1 _) n1 _) (by omega)
    have HB : Hid (((w2.setCell ⟨w.heap.size, 0, none⟩ v).setCell ⟨w.heap.size, 1, none⟩ v').ownsRow w.heap.size 46 3 v' q.bonds.length (q.bonds.flatMap bndCells)) :=
      ownsRow_mono (ownsRow_setCell_other (ownsRow_setCell_other hB n2 _) n2 _) (by omega)
    have HBB : Hid (Below w.heap.size w ((w2.setCell ⟨w.heap.size, 0, none⟩ v).setCell ⟨w.heap.size, 1, none⟩ v')) :=
      ((hbW.trans (hb2.mono (by omega))).setCell (p := ⟨w.heap.size, 0, none⟩) (Nat.le_refl _) _).setCell (p := ⟨w.heap.size, 1, none⟩) (Nat.le_refl _) _
    obtain ⟨ao, ac, hv⟩ := ownsRow_shape hA
    obtain ⟨bo, bc, hv'⟩ := ownsRow_shape hB
    subst hv hv'
    clear hA hB hb2 n1 n2 C24 C25 oa' ob' r0 r1
    go_wp2_with fail
    refine bodyPost_ret (v := .tuple #[.agg #[.slice ao q.atoms.length ac, .slice bo q.bonds.length bc], .int .i64 0, .int .i64 0]) ?_ rfl (.good q.atoms q.bonds _ _ HP.out rfl HA.out HB.out HBB.out hne HO.out.atoms hbn)
    simp only [results, Tryz.results15]
    go_simp
end
end Go.Proofs.YtcabaecbmkgclaaGreatDoor

namespace Go.Proofs.YtcabaecbmkgclaaGreatDoor
open Go.RowKit Bz

/-- A ring number that the document's reader holds open. -/
structure ROpn where
  num : Nat
  atom : Nat
  place : Nat
  sign : Int

structure RSt where
  pos : Nat
  atoms : List Atm
  bonds : List Bnd
  opens : List ROpn
  e : Int
  place : Int

def ropnCells (o : ROpn) : List Value := [.int .i64 o.num, .int .i64 o.atom, .int .i64 o.place, .int .u8 o.sign]

structure RRd (w : World) (B : Nat) (s : ByteArray) (p : RSt) : Prop where
  text : w.cell? ⟨B, 0, none⟩ = some (.string s)
  pos : w.cell? ⟨B, 1, none⟩ = some (.int .i64 p.pos)
  atoms : ∃ v, w.cell? ⟨B, 2, none⟩ = some v ∧ w.ownsRow (B + 1) 50 4 v p.atoms.length (p.atoms.flatMap plainCells)
  bonds : ∃ v, w.cell? ⟨B, 3, none⟩ = some v ∧ w.ownsRow (B + 1) 46 3 v p.bonds.length (p.bonds.flatMap bndCells)
  ats : ∃ v, w.cell? ⟨B, 4, none⟩ = some v ∧ w.ownsRow (B + 1) 3 1 v p.atoms.length (p.atoms.map fun a => .int .i64 a.pl)
  brs : ∃ v, w.cell? ⟨B, 5, none⟩ = some v ∧ w.ownsRow (B + 1) 4 1 v p.atoms.length (p.atoms.map fun a => .bool a.br)
  opens : ∃ v, w.cell? ⟨B, 6, none⟩ = some v ∧ w.ownsRow (B + 1) 166 4 v p.opens.length (p.opens.flatMap ropnCells)
  err : w.cell? ⟨B, 7, none⟩ = some (.int .i64 p.e)
  plc : w.cell? ⟨B, 8, none⟩ = some (.int .i64 p.place)
  free : ∀ i, w.frozen? ⟨B, i, none⟩ = false

theorem RRd.lt {w : World} {B : Nat} {s : ByteArray} {p : RSt} (h : RRd w B s p) : B < w.heap.size := World.block_lt_of_cell? w ⟨B, 0, none⟩ h.text

/-- What the document's next gives. -/
def rnext (s : ByteArray) (p : RSt) : Int := if p.e = 0 then byteAt s p.pos else 0

section
variable {w : World} {B : Nat} {s : ByteArray} {p : RSt}

set_option maxHeartbeats 1000000 in
theorem rnext_any (h : RRd w B s p) :
    Calls Tryz.prog 94 #[.pointer (some ⟨B, 0, none⟩)] w fun e w' => e = .returned (.int .u8 (rnext s p)) ∧ ∃ k, w' = w.drewN k := by
  have q0 := h.text
  have q1 := h.pos
  have q7 := h.err
  unfold rnext
  by_cases he : p.e = 0
  · rw [if_pos he]
    rw [he] at q7
    by_cases hp : p.pos < s.size
    · rw [byteAt_lt _ _ hp]
      have hb : ¬ (s.size : Int) ≤ (p.pos : Int) := by omega
      have hb' : (p.pos : Int) < (s.size : Int) := by omega
      go_enter Tryz.func94, Tryz.ntmps94
      go_wp2
      go_quiet (fail)
      go_wp2
      go_quiet (fail)
      go_wp2
      go_ret
      exact ⟨rfl, _, World.drewN_drewN _ _ _⟩
    · rw [byteAt_ge _ _ hp]
      have hb : (s.size : Int) ≤ (p.pos : Int) := by omega
      go_enter Tryz.func94, Tryz.ntmps94
      go_wp2
      go_quiet (fail)
      go_wp2
      go_ret
      exact ⟨rfl, _, rfl⟩
  · rw [if_neg he]
    have hb : (p.e != 0) = true := by simpa using he
    go_enter Tryz.func94, Tryz.ntmps94
    go_wp2
    go_quiet (fail)
    go_wp2
    go_ret
    exact ⟨rfl, _, rfl⟩

theorem rdigit_any (w : World) (c : Int) : Calls Tryz.prog 95 #[.int .u8 c] w fun e w' => e = .returned (.bool (Bz.isDigit c)) ∧ w' = w := by
  unfold Bz.isDigit
  by_cases ha : 48 ≤ c
  · by_cases hb : c ≤ 57
    all_goals
      go_enter Tryz.func95, Tryz.ntmps95
      go_wp2
      go_ret
      exact ⟨ret_bool (by simp [ha, hb]), rfl⟩
  · go_enter Tryz.func95, Tryz.ntmps95
    go_wp2
    go_ret
    exact ⟨ret_bool (by rw [decide_eq_false (by omega : ¬ 48 ≤ c)]; rfl), rfl⟩

/-- Is a byte one of these? -/
def isOne (all : ByteArray) (c : Int) : Bool := (List.range all.size).any fun k => byteAt all k == c

theorem isOne_true {all : ByteArray} {c : Int} {i : Nat} (hi : i < all.size) (h : byteAt all i = c) : isOne all c = true := by
  unfold isOne
  exact List.any_eq_true.2 ⟨i, List.mem_range.2 hi, by simp [h]⟩

theorem isOne_false {all : ByteArray} {c : Int} (h : ∀ i, i < all.size → byteAt all i ≠ c) : isOne all c = false := by
  unfold isOne
  rw [List.any_eq_false]
  intro i hi
  simp [h i (List.mem_range.1 hi)]

set_option maxRecDepth 100000 in
set_option maxHeartbeats 1000000 in
theorem rone_any (w : World) (c : Int) (all : ByteArray) (hl : all.size ≤ 20) : Calls Tryz.prog 123 #[.int .u8 c, .string all] w fun e w' => e = .returned (.bool (isOne all c)) ∧ w' = w := by
  go_enter Tryz.func123, Tryz.ntmps123
  go_wp2_with fail
  go_loopg [5] (all.size + 1) (fun k vi wr => ∃ i : Nat, i ≤ all.size ∧ all.size - i ≤ k ∧ vi = .int .i64 i ∧ wr = w ∧ ∀ j, j < i → byteAt all j ≠ c)
  case atStart => exact ⟨0, by omega, by omega, rfl, rfl, by intro j hj; omega⟩
  case round =>
    obtain ⟨i, hi, hk, rfl, rfl, hall⟩ := hrel
    have HA : Hid _ := hall
    clear hall
    by_cases hlt : i < all.size
    · have hlt' : (i : Int) < (all.size : Int) := by omega
      by_cases hc : byteAt all i = c
      · have HC : Hid _ := isOne_true hlt hc
        rw [byteAt_lt _ _ hlt] at hc
        go_wp2_with fail
        go_ret
        exact ⟨ret_bool HC.out.symm, rfl⟩
      · have HN : Hid (byteAt all i ≠ c) := hc
        rw [byteAt_lt _ _ hlt] at hc
        go_wp2_with fail
        go_roundg (all.size - (i + 1))
        case measure => omega
        case rel =>
          refine ⟨i + 1, by omega, Nat.le_refl _, by go_num, rfl, ?_⟩
          intro j hj
          by_cases e : j = i
          · rw [e]; exact HN.out
          · exact HA.out j (by omega)
    · have hlt' : ¬ (i : Int) < (all.size : Int) := by omega
      have HC : Hid (isOne all c = false) := isOne_false fun j hj => HA.out j (by omega)
      go_wp2_with fail
      go_ret
      exact ⟨ret_bool HC.out.symm, rfl⟩
end
end Go.Proofs.YtcabaecbmkgclaaGreatDoor

namespace Go.Proofs.YtcabaecbmkgclaaGreatDoor
open Go.RowKit Bz

/-- Block k is the document's reader's own: its block, or the row of one of its lists. -/
def RMine (w : World) (B k : Nat) : Prop := k = B ∨ ∃ j v, 2 ≤ j ∧ j ≤ 6 ∧ w.cell? ⟨B, j, none⟩ = some v ∧ v.ownBlock = some k

theorem RMine.same {w w' : World} {B k : Nat} (hB : w'.heap[B]? = w.heap[B]?) : RMine w' B k ↔ RMine w B k := by
  have hc : ∀ j, w'.cell? ⟨B, j, none⟩ = w.cell? ⟨B, j, none⟩ := fun j => World.cell?_of_block (w := w) hB
  unfold RMine
  simp only [hc]

section
variable {w : World} {B : Nat} {s : ByteArray} {p : RSt}

/-- Each of the five lists. -/
theorem RRd.row (h : RRd w B s p) (j : Nat) (h2 : 2 ≤ j) (h6 : j ≤ 6) : ∃ v t z n xs, w.cell? ⟨B, j, none⟩ = some v ∧ w.ownsRow (B + 1) t z v n xs := by
  rcases (by omega : j = 2 ∨ j = 3 ∨ j = 4 ∨ j = 5 ∨ j = 6) with rfl | rfl | rfl | rfl | rfl
  · obtain ⟨v, a, b⟩ := h.atoms; exact ⟨v, _, _, _, _, a, b⟩
  · obtain ⟨v, a, b⟩ := h.bonds; exact ⟨v, _, _, _, _, a, b⟩
  · obtain ⟨v, a, b⟩ := h.ats; exact ⟨v, _, _, _, _, a, b⟩
  · obtain ⟨v, a, b⟩ := h.brs; exact ⟨v, _, _, _, _, a, b⟩
  · obtain ⟨v, a, b⟩ := h.opens; exact ⟨v, _, _, _, _, a, b⟩

theorem RRd.mine (h : RRd w B s p) {k : Nat} (hk : RMine w B k) : B ≤ k ∧ k < w.heap.size := by
  rcases hk with rfl | ⟨j, v, h2, h6, hv, hk⟩
  · exact ⟨Nat.le_refl _, h.lt⟩
  · obtain ⟨v', t, z, n, xs, hv', ho⟩ := h.row j h2 h6
    rw [hv] at hv'; cases hv'
    have := ho.lt k hk
    omega

theorem RRd.same {w' : World} (h : RRd w B s p) (hs : ∀ k, RMine w B k → w'.heap[k]? = w.heap[k]?) : RRd w' B s p := by
  have hB := hs B (.inl rfl)
  have hc : ∀ i, w'.cell? ⟨B, i, none⟩ = w.cell? ⟨B, i, none⟩ := fun i => World.cell?_of_block (w := w) hB
  have hf : ∀ i, w'.frozen? ⟨B, i, none⟩ = w.frozen? ⟨B, i, none⟩ := fun i => World.frozen?_of_block (w := w) hB
  obtain ⟨va, ha, oa⟩ := h.atoms
  obtain ⟨vb, hb, ob⟩ := h.bonds
  obtain ⟨vc, hcc, oc⟩ := h.ats
  obtain ⟨vd, hd, od⟩ := h.brs
  obtain ⟨ve, he, oe⟩ := h.opens
  exact ⟨by rw [hc]; exact h.text, by rw [hc]; exact h.pos,
    ⟨va, by rw [hc]; exact ha, ownsRow_same oa fun k hk => hs k (.inr ⟨2, va, by omega, by omega, ha, hk⟩)⟩,
    ⟨vb, by rw [hc]; exact hb, ownsRow_same ob fun k hk => hs k (.inr ⟨3, vb, by omega, by omega, hb, hk⟩)⟩,
    ⟨vc, by rw [hc]; exact hcc, ownsRow_same oc fun k hk => hs k (.inr ⟨4, vc, by omega, by omega, hcc, hk⟩)⟩,
    ⟨vd, by rw [hc]; exact hd, ownsRow_same od fun k hk => hs k (.inr ⟨5, vd, by omega, by omega, hd, hk⟩)⟩,
    ⟨ve, by rw [hc]; exact he, ownsRow_same oe fun k hk => hs k (.inr ⟨6, ve, by omega, by omega, he, hk⟩)⟩,
    by rw [hc]; exact h.err, by rw [hc]; exact h.plc, fun i => by rw [hf]; exact h.free i⟩

theorem RRd.drewN (h : RRd w B s p) (n : Nat) : RRd (w.drewN n) B s p := h.same fun _ _ => rfl
theorem RRd.drew (h : RRd w B s p) : RRd w.drew B s p := h.same fun _ _ => rfl
theorem RRd.alloc (h : RRd w B s p) (o : Obj) : RRd (w.alloc o) B s p := h.same fun k hk => heap_alloc_lt w o k (h.mine hk).2
theorem RRd.setOther (h : RRd w B s p) {q : Addr} (hq : ¬ RMine w B q.block) (u : Value) : RRd (w.setCell q u) B s p :=
  h.same fun k hk => Below.heap_setCell w q u k (by rintro rfl; exact hq hk)
end

/-- What a call of the document's reader may have turned: its own blocks, and new ones. -/
structure RFr (B : Nat) (w w' : World) : Prop where
  os : w'.os = w.os
  tape : w'.tape = w.tape
  output : w'.output = w.output
  size : w.heap.size ≤ w'.heap.size
  block : ∀ k, k < w.heap.size → ¬ RMine w B k → w'.heap[k]? = w.heap[k]?
  mine : ∀ k, k < w.heap.size → RMine w' B k → RMine w B k

theorem RFr.refl (B : Nat) (w : World) : RFr B w w := ⟨rfl, rfl, rfl, Nat.le_refl _, fun _ _ _ => rfl, fun _ _ h => h⟩

theorem RFr.trans {B : Nat} {a b c : World} (h : RFr B a b) (k : RFr B b c) : RFr B a c :=
  ⟨k.os.trans h.os, k.tape.trans h.tape, k.output.trans h.output, Nat.le_trans h.size k.size,
    fun i hi hm => (k.block i (Nat.lt_of_lt_of_le hi h.size) (fun e => hm (h.mine i hi e))).trans (h.block i hi hm),
    fun i hi hm => h.mine i hi (k.mine i (Nat.lt_of_lt_of_le hi h.size) hm)⟩

theorem RFr.drewN {B : Nat} {a w : World} (h : RFr B a w) (n : Nat) : RFr B a (w.drewN n) := h.trans ⟨rfl, rfl, rfl, Nat.le_refl _, fun _ _ _ => rfl, fun _ _ h => h⟩
theorem RFr.drew {B : Nat} {a w : World} (h : RFr B a w) : RFr B a w.drew := h.trans ⟨rfl, rfl, rfl, Nat.le_refl _, fun _ _ _ => rfl, fun _ _ h => h⟩

theorem RFr.alloc {B : Nat} {a w : World} (h : RFr B a w) (hB : B < w.heap.size) (o : Obj) : RFr B a (w.alloc o) :=
  h.trans ⟨rfl, rfl, rfl, by simp, fun k hk _ => heap_alloc_lt w o k hk, fun k _ hm => (RMine.same (heap_alloc_lt w o B hB)).1 hm⟩

/-- A store into a block that is not the reader's own, or into one of its own cells that hold no list. -/
theorem RFr.setCell {B : Nat} {a w : World} (h : RFr B a w) {q : Addr} (hq : q.block = B ∨ a.heap.size ≤ q.block) (h6 : q.block = B → q.off < 2 ∨ 6 < q.off) (u : Value) : RFr B a (w.setCell q u) := by
  have hm : ∀ k, RMine (w.setCell q u) B k → RMine w B k := by
    intro k hk
    rcases hk with rfl | ⟨j, v, h2, hj, hv, hk⟩
    · exact .inl rfl
    · refine .inr ⟨j, v, h2, hj, ?_, hk⟩
      rw [← World.cell?_setCell_other w q ⟨B, j, none⟩ u ?_]
      · exact hv
      · intro e
        have e1 := congrArg Addr.block e
        have e2 := congrArg Addr.off e
        simp only at e1 e2
        have := h6 e1
        omega
  refine ⟨h.os, h.tape, h.output, by simpa using h.size, fun k hk hn => ?_, fun k hk hk' => h.mine k hk (hm k hk')⟩
  rw [Below.heap_setCell w q u k ?_]
  · exact h.block k hk hn
  · rintro rfl
    rcases hq with hq | hq
    · exact hn (.inl hq)
    · omega

theorem RFr.cell {B : Nat} {w w' : World} (h : RFr B w w') {b : Nat} (hb : b < w.heap.size) (hm : ¬ RMine w B b) (i : Nat) : w'.cell? ⟨b, i, none⟩ = w.cell? ⟨b, i, none⟩ :=
  World.cell?_of_block (w := w) (h.block b hb hm)
theorem RFr.frozen {B : Nat} {w w' : World} (h : RFr B w w') {b : Nat} (hb : b < w.heap.size) (hm : ¬ RMine w B b) (i : Nat) : w'.frozen? ⟨b, i, none⟩ = w.frozen? ⟨b, i, none⟩ :=
  World.frozen?_of_block (w := w) (h.block b hb hm)

theorem RRd.notMine {w : World} {B : Nat} {s : ByteArray} {p : RSt} (h : RRd w B s p) (o : Obj) : ¬ RMine (w.alloc o) B w.heap.size := fun hm =>
  Nat.lt_irrefl _ (h.mine ((RMine.same (heap_alloc_lt w o B h.lt)).1 hm)).2

section
variable {w : World} {B : Nat} {s : ByteArray} {p : RSt}

/-- A store into one of the cells that hold no list. -/
theorem RRd.rows (h : RRd w B s p) (i : Nat) (u : Value) (hi : i < 2 ∨ 6 < i) :
    (∃ v, (w.setCell ⟨B, i, none⟩ u).cell? ⟨B, 2, none⟩ = some v ∧ (w.setCell ⟨B, i, none⟩ u).ownsRow (B + 1) 50 4 v p.atoms.length (p.atoms.flatMap plainCells)) ∧
    (∃ v, (w.setCell ⟨B, i, none⟩ u).cell? ⟨B, 3, none⟩ = some v ∧ (w.setCell ⟨B, i, none⟩ u).ownsRow (B + 1) 46 3 v p.bonds.length (p.bonds.flatMap bndCells)) ∧
    (∃ v, (w.setCell ⟨B, i, none⟩ u).cell? ⟨B, 4, none⟩ = some v ∧ (w.setCell ⟨B, i, none⟩ u).ownsRow (B + 1) 3 1 v p.atoms.length (p.atoms.map fun a => .int .i64 a.pl)) ∧
    (∃ v, (w.setCell ⟨B, i, none⟩ u).cell? ⟨B, 5, none⟩ = some v ∧ (w.setCell ⟨B, i, none⟩ u).ownsRow (B + 1) 4 1 v p.atoms.length (p.atoms.map fun a => .bool a.br)) ∧
    (∃ v, (w.setCell ⟨B, i, none⟩ u).cell? ⟨B, 6, none⟩ = some v ∧ (w.setCell ⟨B, i, none⟩ u).ownsRow (B + 1) 166 4 v p.opens.length (p.opens.flatMap ropnCells)) := by
  obtain ⟨va, ha, oa⟩ := h.atoms
  obtain ⟨vb, hb, ob⟩ := h.bonds
  obtain ⟨vc, hcc, oc⟩ := h.ats
  obtain ⟨vd, hd, od⟩ := h.brs
  obtain ⟨ve, he, oe⟩ := h.opens
  exact ⟨⟨va, by rw [cell_set_ne (by omega)]; exact ha, ownsRow_setB oa _ _⟩, ⟨vb, by rw [cell_set_ne (by omega)]; exact hb, ownsRow_setB ob _ _⟩, ⟨vc, by rw [cell_set_ne (by omega)]; exact hcc, ownsRow_setB oc _ _⟩,
    ⟨vd, by rw [cell_set_ne (by omega)]; exact hd, ownsRow_setB od _ _⟩, ⟨ve, by rw [cell_set_ne (by omega)]; exact he, ownsRow_setB oe _ _⟩⟩

theorem RRd.setPos (h : RRd w B s p) (n : Nat) (u : Value) (hu : u = .int .i64 n) : RRd (w.setCell ⟨B, 1, none⟩ u) B s { p with pos := n } := by
  subst hu
  obtain ⟨r2, r3, r4, r5, r6⟩ := h.rows 1 (.int .i64 n) (by omega)
  exact ⟨by rw [cell_set_ne (by omega)]; exact h.text, World.cell?_setCell_same w _ _ h.pos, r2, r3, r4, r5, r6, by rw [cell_set_ne (by omega)]; exact h.err, by rw [cell_set_ne (by omega)]; exact h.plc, fun i => by rw [World.frozen?_setCell]; exact h.free i⟩

theorem RRd.setErr (h : RRd w B s p) (x : Int) : RRd (w.setCell ⟨B, 7, none⟩ (.int .i64 x)) B s { p with e := x } := by
  obtain ⟨r2, r3, r4, r5, r6⟩ := h.rows 7 (.int .i64 x) (by omega)
  exact ⟨by rw [cell_set_ne (by omega)]; exact h.text, by rw [cell_set_ne (by omega)]; exact h.pos, r2, r3, r4, r5, r6, World.cell?_setCell_same w _ _ h.err, by rw [cell_set_ne (by omega)]; exact h.plc, fun i => by rw [World.frozen?_setCell]; exact h.free i⟩

theorem RRd.setPlc (h : RRd w B s p) (x : Int) : RRd (w.setCell ⟨B, 8, none⟩ (.int .i64 x)) B s { p with place := x } := by
  obtain ⟨r2, r3, r4, r5, r6⟩ := h.rows 8 (.int .i64 x) (by omega)
  exact ⟨by rw [cell_set_ne (by omega)]; exact h.text, by rw [cell_set_ne (by omega)]; exact h.pos, r2, r3, r4, r5, r6, by rw [cell_set_ne (by omega)]; exact h.err, World.cell?_setCell_same w _ _ h.plc, fun i => by rw [World.frozen?_setCell]; exact h.free i⟩

theorem RFr.setPos {a : World} (h : RFr B a w) (u : Value) : RFr B a (w.setCell ⟨B, 1, none⟩ u) := h.setCell (.inl rfl) (fun _ => .inl (by simp)) u

/-- The first thing that is wrong. -/
def RSt.fails (p : RSt) (e pl : Int) : RSt := if p.e = 0 then { p with e := e, place := pl } else p

set_option maxHeartbeats 1000000 in
theorem rfail_any (h : RRd w B s p) (x pl : Int) : Calls Tryz.prog 72 #[.pointer (some ⟨B, 0, none⟩), .int .i64 x, .int .i64 pl] w fun e w' => e = .returned (.tuple #[]) ∧ RRd w' B s (p.fails x pl) ∧ RFr B w w' := by
  have q7 := h.err
  have q8 := h.plc
  have f7 := h.free 7
  have f8 := h.free 8
  unfold RSt.fails
  by_cases he : p.e = 0
  · rw [if_pos he]
    rw [he] at q7
    have HR : Hid (RRd ((w.setCell ⟨B, 7, none⟩ (.int .i64 x)).setCell ⟨B, 8, none⟩ (.int .i64 pl)) B s { p with e := x, place := pl }) := (h.setErr x).setPlc pl
    have HF : Hid (RFr B w ((w.setCell ⟨B, 7, none⟩ (.int .i64 x)).setCell ⟨B, 8, none⟩ (.int .i64 pl))) := ((RFr.refl B w).setCell (q := ⟨B, 7, none⟩) (.inl rfl) (fun _ => .inr (by simp)) _).setCell (q := ⟨B, 8, none⟩) (.inl rfl) (fun _ => .inr (by simp)) _
    go_enter Tryz.func72, Tryz.ntmps72
    go_wp2_with fail
    go_end0
    exact ⟨rfl, HR.out, HF.out⟩
  · rw [if_neg he]
    have hb : (p.e == 0) = false := by simpa using he
    go_enter Tryz.func72, Tryz.ntmps72
    go_wp2_with fail
    go_end0
    exact ⟨rfl, h, RFr.refl _ _⟩
end
end Go.Proofs.YtcabaecbmkgclaaGreatDoor

namespace Go.Proofs.YtcabaecbmkgclaaGreatDoor
open Go.RowKit Bz

/-- The bytes with which an atom begins. -/
def beginBytes : ByteArray := ⟨#[66, 67, 78, 79, 80, 83, 70, 73, 99, 110, 111, 112, 115, 91]⟩

def rbegins (c : Int) : Bool := c != 0 && isOne beginBytes c

set_option maxHeartbeats 1000000 in
theorem rbegins_any (w : World) (c : Int) : Calls Tryz.prog 98 #[.int .u8 c] w fun e w' => e = .returned (.bool (rbegins c)) ∧ w' = w := by
  have HO := fun w' : World => rone_any w' c beginBytes (by decide)
  unfold rbegins
  by_cases h : c = 0
  · subst h
    go_enter Tryz.func98, Tryz.ntmps98
    go_wp2_with fail
    go_ret
    exact ⟨rfl, rfl⟩
  · have hb : (c != 0) = true := by simpa using h
    go_enter Tryz.func98, Tryz.ntmps98
    go_wp2_with fail
    refine (HO _).mono ?_
    rintro e w' ⟨rfl, rfl⟩
    go_wp2_with fail
    go_ret
    exact ⟨ret_bool (by rw [hb, Bool.true_and]), rfl⟩

/-- The bytes that are a bond's sign. -/
def signBytes : ByteArray := ⟨#[45, 61, 35, 58]⟩

theorem isOne_sign (c : Int) : isOne signBytes c = Bz.isSign c := by
  have r : List.range signBytes.size = [0, 1, 2, 3] := rfl
  have b0 : byteAt signBytes 0 = 45 := rfl
  have b1 : byteAt signBytes 1 = 61 := rfl
  have b2 : byteAt signBytes 2 = 35 := rfl
  have b3 : byteAt signBytes 3 = 58 := rfl
  unfold isOne Bz.isSign
  rw [r]
  simp only [List.any_cons, List.any_nil, b0, b1, b2, b3, Bool.or_false]
  rw [BEq.comm (a := (45 : Int)), BEq.comm (a := (61 : Int)), BEq.comm (a := (35 : Int)), BEq.comm (a := (58 : Int)), Bool.or_assoc, Bool.or_assoc]

/-- What stands next at an atom: its sign, and the reader behind it. -/
def rsign (s : ByteArray) (k : Nat) (p : RSt) : Int × RSt :=
  let c := rnext s p
  if Bz.isSign c then
    if c = 58 ∧ (p.atoms[k]?).map (·.aro) = some false then (0, p.fails 3 p.pos) else (c, { p with pos := p.pos + 1 })
  else (0, p)

section
variable {w : World} {B : Nat} {s : ByteArray} {p : RSt}

theorem rnext_zero (h : rnext s p ≠ 0) : p.e = 0 ∧ p.pos < s.size ∧ rnext s p = byteAt s p.pos := by
  unfold rnext at h ⊢
  by_cases e : p.e = 0
  · rw [if_pos e] at h ⊢
    exact ⟨e, lt_of_byteAt h, rfl⟩
  · rw [if_neg e] at h
    exact absurd rfl h

set_option maxHeartbeats 1000000 in
theorem rsign_none (h : RRd w B s p) (k : Nat) (hc : Bz.isSign (rnext s p) = false) : Calls Tryz.prog 93 #[.pointer (some ⟨B, 0, none⟩), .int .i64 k] w fun e w' => e = .returned (.int .u8 0) ∧ RRd w' B s p ∧ RFr B w w' := by
  have HN := rnext_any h
  have HO := fun w' : World => rone_any w' (rnext s p) signBytes (by decide)
  rw [isOne_sign, hc] at HO
  clear hc
  generalize rnext s p = c at *
  go_enter Tryz.func93, Tryz.ntmps93
  go_wp2_with fail
  refine HN.mono ?_
  rintro e w1 ⟨rfl, n, rfl⟩
  by_cases hz : c = 0
  · subst hz
    go_wp2_with fail
    go_ret
    exact ⟨rfl, h.drewN _, (RFr.refl _ _).drewN _⟩
  · have hb : (c == 0) = false := by simpa using hz
    go_wp2_with fail
    refine (HO _).mono ?_
    rintro e w1 ⟨rfl, rfl⟩
    go_wp2_with fail
    go_ret
    exact ⟨rfl, h.drewN _, (RFr.refl _ _).drewN _⟩

set_option maxHeartbeats 1000000 in
theorem rsign_plain (h : RRd w B s p) (hs : s.size ≤ 160) (k : Nat) (hc : Bz.isSign (rnext s p) = true) (h58 : rnext s p ≠ 58) : Calls Tryz.prog 93 #[.pointer (some ⟨B, 0, none⟩), .int .i64 k] w fun e w' => e = .returned (.int .u8 (rnext s p)) ∧ RRd w' B s { p with pos := p.pos + 1 } ∧ RFr B w w' := by
  have HN := rnext_any h
  have HO := fun w' : World => rone_any w' (rnext s p) signBytes (by decide)
  rw [isOne_sign, hc] at HO
  have hz : rnext s p ≠ 0 := by intro e; rw [e] at hc; exact absurd hc (by decide)
  have hp := (rnext_zero hz).2.1
  generalize rnext s p = c at *
  have hb : (c == 0) = false := by simpa using hz
  have hb2 : (c == 58) = false := by simpa using h58
  go_enter Tryz.func93, Tryz.ntmps93
  go_wp2_with fail
  refine HN.mono ?_
  rintro e w1 ⟨rfl, n, rfl⟩
  have hd := h.drewN n
  have hfd := (RFr.refl B w).drewN n
  generalize w.drewN n = w1 at *
  have q1 := hd.pos
  have f1 := hd.free 1
  go_wp2_with fail
  refine (HO _).mono ?_
  rintro e w2 ⟨rfl, rfl⟩
  go_wp2_with fail
  go_ret
  exact ⟨rfl, hd.setPos _ _ (by go_num), hfd.setPos _⟩

theorem RRd.aroAt (h : RRd w B s p) {k : Nat} {a : Atm} (hk : p.atoms[k]? = some a) : ∃ g cap, w.cell? ⟨B, 2, none⟩ = some (.slice (some ⟨g, 0, none⟩) p.atoms.length cap) ∧ w.cell? ⟨g, k * 4 + 1, none⟩ = some (.bool a.aro) ∧ g < w.heap.size := by
  obtain ⟨v, hv, ho⟩ := h.atoms
  have hl : k < p.atoms.length := (List.getElem?_eq_some_iff.1 hk).1
  obtain ⟨g, cap, rfl, h1, h2, h3, h4⟩ := ownsRow_at ho (by omega)
  refine ⟨g, cap, hv, ?_, h2⟩
  rw [h3 (k * 4 + 1) (by omega), flatMap_get plainCells 4 plainCells_len _ k 1 a hk (by omega)]
  rfl

set_option maxHeartbeats 1000000 in
theorem rsign_aro (h : RRd w B s p) (hs : s.size ≤ 160) (k : Nat) (a : Atm) (hk : p.atoms[k]? = some a) (ha : a.aro = true) (h58 : rnext s p = 58) : Calls Tryz.prog 93 #[.pointer (some ⟨B, 0, none⟩), .int .i64 k] w fun e w' => e = .returned (.int .u8 58) ∧ RRd w' B s { p with pos := p.pos + 1 } ∧ RFr B w w' := by
  have HN := rnext_any h
  have HO := fun w' : World => rone_any w' (rnext s p) signBytes (by decide)
  have hp := (rnext_zero (p := p) (s := s) (by rw [h58]; decide)).2.1
  rw [isOne_sign, h58] at HO
  rw [h58] at HN
  have hkl : (k : Int) < (p.atoms.length : Int) := by have := (List.getElem?_eq_some_iff.1 hk).1; omega
  go_enter Tryz.func93, Tryz.ntmps93
  go_wp2_with fail
  refine HN.mono ?_
  rintro e w1 ⟨rfl, n, rfl⟩
  have hd := h.drewN n
  have hfd := (RFr.refl B w).drewN n
  generalize w.drewN n = w1 at *
  have q1 := hd.pos
  have f1 := hd.free 1
  obtain ⟨g, cap, c2, ca, hg⟩ := hd.aroAt hk
  rw [ha] at ca
  go_wp2_with fail
  refine (HO _).mono ?_
  rintro e w2 ⟨rfl, rfl⟩
  go_wp2_with fail
  go_ret
  exact ⟨rfl, hd.setPos _ _ (by go_num), hfd.setPos _⟩

set_option maxHeartbeats 1000000 in
theorem rsign_bad (h : RRd w B s p) (k : Nat) (a : Atm) (hk : p.atoms[k]? = some a) (ha : a.aro = false) (h58 : rnext s p = 58) : Calls Tryz.prog 93 #[.pointer (some ⟨B, 0, none⟩), .int .i64 k] w fun e w' => e = .returned (.int .u8 0) ∧ RRd w' B s (p.fails 3 p.pos) ∧ RFr B w w' := by
  have HN := rnext_any h
  have HO := fun w' : World => rone_any w' (rnext s p) signBytes (by decide)
  have es : Bz.isSign 58 = true := rfl
  rw [isOne_sign, h58, es] at HO
  rw [h58] at HN
  have hkl : (k : Int) < (p.atoms.length : Int) := by have := (List.getElem?_eq_some_iff.1 hk).1; omega
  go_enter Tryz.func93, Tryz.ntmps93
  go_wp2_with fail
  refine HN.mono ?_
  rintro e w1 ⟨rfl, n, rfl⟩
  have hd := h.drewN n
  have hfd := (RFr.refl B w).drewN n
  generalize w.drewN n = w1 at *
  have q1 := hd.pos
  have f1 := hd.free 1
  obtain ⟨g, cap, c2, ca, hg⟩ := hd.aroAt hk
  rw [ha] at ca
  go_wp2_with fail
  refine (HO _).mono ?_
  rintro e w2 ⟨rfl, rfl⟩
  go_wp2_with fail
  refine (rfail_any hd 3 p.pos).mono ?_
  rintro e w3 ⟨rfl, hr3, hf3⟩
  go_wp2_with fail
  go_ret
  exact ⟨rfl, hr3, hfd.trans hf3⟩

/-- What sign does. -/
theorem rsign_any (h : RRd w B s p) (hs : s.size ≤ 160) (k : Nat) (hk : k < p.atoms.length) : Calls Tryz.prog 93 #[.pointer (some ⟨B, 0, none⟩), .int .i64 k] w fun e w' => e = .returned (.int .u8 (rsign s k p).1) ∧ RRd w' B s (rsign s k p).2 ∧ RFr B w w' := by
  have gk := List.getElem?_eq_getElem hk
  unfold rsign
  simp only []
  cases hc : Bz.isSign (rnext s p)
  · rw [if_neg (by decide)]
    exact rsign_none h k hc
  · rw [if_pos rfl, gk, Option.map_some]
    by_cases h58 : rnext s p = 58
    · cases ha : p.atoms[k].aro
      · rw [if_pos ⟨h58, rfl⟩]
        exact rsign_bad h k _ gk ha h58
      · rw [if_neg (by simp), h58]
        exact rsign_aro h hs k _ gk ha h58
    · rw [if_neg (fun e => h58 e.1)]
      exact rsign_plain h hs k hc h58
end
end Go.Proofs.YtcabaecbmkgclaaGreatDoor

namespace Go.Proofs.YtcabaecbmkgclaaGreatDoor
open Go.RowKit Bz

section
variable {w : World} {B : Nat} {s : ByteArray} {p : RSt}

def rorder (p : RSt) (mark : Int) (a b : Nat) : Int :=
  if mark = 45 then 1 else if mark = 61 then 2 else if mark = 35 then 3 else if mark = 58 then 4
  else if (p.atoms[a]?).any (·.aro) && (p.atoms[b]?).any (·.aro) then 4 else 1

set_option maxHeartbeats 1000000 in
theorem rorder_any (h : RRd w B s p) (a b : Nat) (m : Int) (x y : Atm) (ha : p.atoms[a]? = some x) (hb : p.atoms[b]? = some y) :
    Calls Tryz.prog 122 #[.pointer (some ⟨B, 0, none⟩), .int .i64 a, .int .i64 b, .int .u8 m] w fun e w' => e = .returned (.int .i64 (rorder p m a b)) ∧ w' = w := by
  have hal : (a : Int) < (p.atoms.length : Int) := by have := (List.getElem?_eq_some_iff.1 ha).1; omega
  have hbl : (b : Int) < (p.atoms.length : Int) := by have := (List.getElem?_eq_some_iff.1 hb).1; omega
  obtain ⟨g, cap, c2, ca, hg⟩ := h.aroAt ha
  obtain ⟨g', cap', c2', cb, hg'⟩ := h.aroAt hb
  rw [c2] at c2'
  simp only [Option.some.injEq, Value.slice.injEq, Addr.mk.injEq, and_true, true_and] at c2'
  obtain ⟨rfl, rfl⟩ := c2'
  unfold rorder
  rw [ha, hb]
  simp only [Option.any_some]
  by_cases h1 : m = 45
  · rw [if_pos h1]
    subst h1
    go_enter Tryz.func122, Tryz.ntmps122
    go_wp2
    go_ret
    exact ⟨rfl, rfl⟩
  rw [if_neg h1]
  have e1 : (m == 45) = false := by simpa using h1
  by_cases h2 : m = 61
  · rw [if_pos h2]
    subst h2
    go_enter Tryz.func122, Tryz.ntmps122
    go_wp2
    go_ret
    exact ⟨rfl, rfl⟩
  rw [if_neg h2]
  have e2 : (m == 61) = false := by simpa using h2
  by_cases h3 : m = 35
  · rw [if_pos h3]
    subst h3
    go_enter Tryz.func122, Tryz.ntmps122
    go_wp2
    go_ret
    exact ⟨rfl, rfl⟩
  rw [if_neg h3]
  have e3 : (m == 35) = false := by simpa using h3
  by_cases h4 : m = 58
  · rw [if_pos h4]
    subst h4
    go_enter Tryz.func122, Tryz.ntmps122
    go_wp2
    go_ret
    exact ⟨rfl, rfl⟩
  rw [if_neg h4]
  have e4 : (m == 58) = false := by simpa using h4
  by_cases hx : x.aro = true
  · by_cases hy : y.aro = true
    · rw [if_pos (by rw [hx, hy]; rfl)]
      rw [hx] at ca
      rw [hy] at cb
      go_enter Tryz.func122, Tryz.ntmps122
      go_wp2
      go_ret
      exact ⟨rfl, rfl⟩
    · rw [if_neg (by rw [hx, Bool.true_and]; exact hy)]
      rw [hx] at ca
      rw [Bool.eq_false_iff.2 hy] at cb
      go_enter Tryz.func122, Tryz.ntmps122
      go_wp2
      go_ret
      exact ⟨rfl, rfl⟩
  · rw [if_neg (by rw [Bool.eq_false_iff.2 hx, Bool.false_and]; decide)]
    rw [Bool.eq_false_iff.2 hx] at ca
    go_enter Tryz.func122, Tryz.ntmps122
    go_wp2
    go_ret
    exact ⟨rfl, rfl⟩
end
end Go.Proofs.YtcabaecbmkgclaaGreatDoor
