/-
  What the molecule's Plain does.
  No error of the plain reader's has the number 0.
  What benzol.Parse does.
  Of what was read: its bonds; the graph of its candidates.
-/
import Derived.Test.YtcabaecbmkgclaaGreatDoorP12
import Derived.Lib.SliceRun

namespace Go.Proofs.YtcabaecbmkgclaaGreatDoor
open Go.RowKit Bz

/-- An atom's cells as the caller gets them. -/
def plainCells (a : Atm) : List Value := [.string a.el, .bool a.aro, .int .i64 a.ch, .int .i64 a.hy]

theorem plainCells_len (a : Atm) : (plainCells a).length = 4 := rfl

theorem Tryz.infoPAtom : (Tryz.prog.info? 50).map (fun i => (i.zero, i.size, i.bytes)) = some (some (.agg #[.string ⟨#[]⟩, .bool false, .int .i64 0, .int .i64 0]), 4, 40) := by kernel_rfl

theorem flatMap_plain_len (l : List Atm) : (l.flatMap plainCells).length = l.length * 4 := by
  induction l with
  | nil => rfl
  | cons a r ih => rw [List.flatMap_cons, List.length_append, ih, plainCells_len, List.length_cons]; omega

theorem plain_step (ats : List Atm) (xs : List Value) (i : Nat) (a : Atm) (hi : ats[i]? = some a) (hx : xs.length = ats.length * 4) (ht : xs.take (i * 4) = (ats.take i).flatMap plainCells) :
    ((((xs.set (i * 4) (.string a.el)).set (i * 4 + 1) (.bool a.aro)).set (i * 4 + 2) (.int .i64 a.ch)).set (i * 4 + 3) (.int .i64 a.hy)).take ((i + 1) * 4) = (ats.take (i + 1)).flatMap plainCells := by
  have hlt : i < ats.length := (List.getElem?_eq_some_iff.1 hi).1
  have e1 : ats.take (i + 1) = ats.take i ++ [a] := by rw [List.take_add_one, hi]; rfl
  rw [e1, List.flatMap_append, ← ht]
  have hr : xs = xs.take (i * 4) ++ xs.drop (i * 4) := (List.take_append_drop _ _).symm
  have hl : (xs.take (i * 4)).length = i * 4 := by rw [List.length_take]; omega
  have hd : (xs.drop (i * 4)).length = ats.length * 4 - i * 4 := by rw [List.length_drop, hx]
  generalize xs.take (i * 4) = p at *
  generalize xs.drop (i * 4) = q at *
  subst hr
  match q, hd with
  | [], hd => simp at hd; omega
  | [_], hd => simp at hd; omega
  | [_, _], hd => simp at hd; omega
  | [_, _, _], hd => simp at hd; omega
  | q0 :: q1 :: q2 :: q3 :: q, hd =>
    rw [← hl]
    have t : (p ++ q0 :: q1 :: q2 :: q3 :: q).set p.length (.string a.el) = p ++ .string a.el :: q1 :: q2 :: q3 :: q := by simp
    have t1 : (p ++ Value.string a.el :: q1 :: q2 :: q3 :: q).set (p.length + 1) (.bool a.aro) = p ++ .string a.el :: .bool a.aro :: q2 :: q3 :: q := by simp
    have t2 : (p ++ Value.string a.el :: .bool a.aro :: q2 :: q3 :: q).set (p.length + 2) (.int .i64 a.ch) = p ++ .string a.el :: .bool a.aro :: .int .i64 a.ch :: q3 :: q := by simp
    have t3 : (p ++ Value.string a.el :: .bool a.aro :: .int .i64 a.ch :: q3 :: q).set (p.length + 3) (.int .i64 a.hy) = p ++ .string a.el :: .bool a.aro :: .int .i64 a.ch :: .int .i64 a.hy :: q := by simp
    rw [t, t1, t2, t3]
    have : (i + 1) * 4 = p.length + 4 := by omega
    rw [this, List.take_length_add_append]
    rfl

theorem flatMap_bnd_len (l : List Bnd) : (l.flatMap bndCells).length = l.length * 3 := flatMap_len bndCells 3 bndCells_len l

theorem bnd_step (l : List Bnd) (xs : List Value) (i : Nat) (b : Bnd) (hi : l[i]? = some b) (hx : xs.length = l.length * 3) (ht : xs.take (i * 3) = (l.take i).flatMap bndCells) :
    (((xs.set (i * 3) (.int .i64 b.a)).set (i * 3 + 1) (.int .i64 b.b)).set (i * 3 + 2) (.int .i64 b.o)).take ((i + 1) * 3) = (l.take (i + 1)).flatMap bndCells := by
  have hlt : i < l.length := (List.getElem?_eq_some_iff.1 hi).1
  have e1 : l.take (i + 1) = l.take i ++ [b] := by rw [List.take_add_one, hi]; rfl
  rw [e1, List.flatMap_append, ← ht]
  have hr : xs = xs.take (i * 3) ++ xs.drop (i * 3) := (List.take_append_drop _ _).symm
  have hl : (xs.take (i * 3)).length = i * 3 := by rw [List.length_take]; omega
  have hd : (xs.drop (i * 3)).length = l.length * 3 - i * 3 := by rw [List.length_drop, hx]
  generalize xs.take (i * 3) = p at *
  generalize xs.drop (i * 3) = q at *
  subst hr
  match q, hd with
  | [], hd => simp at hd; omega
  | [_], hd => simp at hd; omega
  | [_, _], hd => simp at hd; omega
  | q0 :: q1 :: q2 :: q, hd =>
    rw [← hl]
    have t : (p ++ q0 :: q1 :: q2 :: q).set p.length (.int .i64 b.a) = p ++ .int .i64 b.a :: q1 :: q2 :: q := by simp
    have t1 : (p ++ Value.int .i64 b.a :: q1 :: q2 :: q).set (p.length + 1) (.int .i64 b.b) = p ++ .int .i64 b.a :: .int .i64 b.b :: q2 :: q := by simp
    have t2 : (p ++ Value.int .i64 b.a :: .int .i64 b.b :: q2 :: q).set (p.length + 2) (.int .i64 b.o) = p ++ .int .i64 b.a :: .int .i64 b.b :: .int .i64 b.o :: q := by simp
    rw [t, t1, t2]
    have : (i + 1) * 3 = p.length + 3 := by omega
    rw [this, List.take_length_add_append]
    rfl

section
set_option maxRecDepth 100000 in
set_option maxHeartbeats 1000000 in
theorem plain_any (w : World) (L base : Nat) (av bv : Value) (ats : List Atm) (l : List Bnd) (hl : l.length ≤ 1000) (hn : ats.length ≤ 24) (hne : 0 < ats.length) (hL : L < w.heap.size)
    (h24 : w.cell? ⟨L, 24, none⟩ = some av) (h25 : w.cell? ⟨L, 25, none⟩ = some bv) (ha : w.ownsRow base 124 6 av ats.length (ats.flatMap atmCells)) (hb : w.ownsRow base 102 4 bv l.length (l.flatMap pbCells)) :
    Calls Tryz.prog 26 #[.pointer (some ⟨L, 0, none⟩)] w fun e w' => ∃ v v', e = .returned (.agg #[v, v']) ∧ w'.ownsRow w.heap.size 50 4 v ats.length (ats.flatMap plainCells) ∧ w'.ownsRow w.heap.size 46 3 v' l.length (l.flatMap bndCells) ∧ Below w.heap.size w w' := by
  obtain ⟨bo, bc, hbv⟩ := ownsRow_shape hb
  subst hbv
  obtain ⟨i0, hi, hz0, hz1, hz2⟩ := info_parts Tryz.infoPAtom
  obtain ⟨j0, hj, hjz0, hjz1, hjz2⟩ := info_parts Tryz.infoBond
  obtain ⟨g, cap, hA, _, hgl, hcell, _⟩ := ownsRow_at ha hne
  subst hA
  have HC : Hid _ := hcell
  clear hcell
  go_enter Tryz.func26, Tryz.ntmps26
  go_wp2_with (at_make; go_must (refine wpList_make_full _ rfl _ _ 36 rfl (w.heap.size + 1) 50 i0 (.agg #[.string ⟨#[]⟩, .bool false, .int .i64 0, .int .i64 0]) 4 Tryz.underlying36 hi hz0 hz1 .i64 .i64 _ _ ats.length rfl rfl rfl rfl ?c1 ?c2 ?c3 ?_))
  case c1 => rw [hz2]; omega
  case c2 => unfold maxLen; omega
  case c3 => simp
  intro w2 hown hgrow
  have hbel : Below w.heap.size w w2 := ((Below.refl _ w).alloc (Nat.le_refl _) _).grown hgrow (by simp) (by simp)
  have HR : w2.heap[w.heap.size]? = (w.alloc (.cells #[.slice none 0 0, .slice none 0 0] 39)).heap[w.heap.size]? := hgrow.block _ (by simp) (by simp)
  have hsz2 : w.heap.size + 1 < w2.heap.size := (by simpa using (hown.lt _ rfl).2)
  have h24' : w2.cell? ⟨L, 24, none⟩ = some (.slice (some ⟨g, 0, none⟩) ats.length cap) := (hbel.cell (p := ⟨L, 24, none⟩) hL).trans h24
  have hxl := hown.1
  generalize hxs : Array.toList _ = xs0 at hown
  clear hgrow hxs
  go_wp2_with fail
  obtain ⟨G, hG⟩ : ∃ G, G = w.heap.size + 1 := ⟨_, rfl⟩
  rw [← hG] at hown hsz2
  have HG : Hid (G = w.heap.size + 1) := hG
  simp only [← hG]
  clear hG
  go_loopg [20] (ats.length + 1) (fun k vi wr => ∃ i : Nat, ∃ xs : List Value, i ≤ ats.length ∧ ats.length - i ≤ k ∧ vi = .int .i64 i ∧ wr.ownsRow G 50 4 (.slice (some ⟨G, 0, none⟩) ats.length ats.length) ats.length xs ∧ xs.take (i * 4) = (ats.take i).flatMap plainCells ∧
      wr.heap[w.heap.size]? = (w.alloc (.cells #[.slice none 0 0, .slice none 0 0] 39)).heap[w.heap.size]? ∧ Below w.heap.size w wr)
  case atStart => exact ⟨0, xs0, by omega, by omega, rfl, hown, by simp, HR, hbel⟩
  case round =>
    obtain ⟨i, xs, hi', hk, rfl, ho, ht, hr, hbw⟩ := hrel
    by_cases hlt : i < ats.length
    · have gi := List.getElem?_eq_getElem hlt
      have hlt' : (i : Int) < (ats.length : Int) := by omega
      have cc : ∀ j v, (atmCells ats[i])[j]? = some v → wr.cell? ⟨g, i * 6 + j, none⟩ = some v := by
        intro j v hj
        have hj6 : j < 6 := by
          have := (List.getElem?_eq_some_iff.1 hj).1
          simpa [atmCells_len] using this
        rw [hbw.cell (p := ⟨g, i * 6 + j, none⟩) hgl, HC.out (i * 6 + j) (by omega), flatMap_get atmCells 6 atmCells_len _ i j _ gi hj6, hj]
      generalize ats[i] = a at *
      have q0 : wr.cell? ⟨g, i * 6, none⟩ = some (.string a.el) := cc 0 _ rfl
      have q1 : wr.cell? ⟨g, i * 6 + 1, none⟩ = some (.bool a.aro) := cc 1 _ rfl
      have q2 : wr.cell? ⟨g, i * 6 + 2, none⟩ = some (.int .i64 a.ch) := cc 2 _ rfl
      have q3 : wr.cell? ⟨g, i * 6 + 3, none⟩ = some (.int .i64 a.hy) := cc 3 _ rfl
      have q4 : wr.cell? ⟨g, i * 6 + 4, none⟩ = some (.int .i64 a.pl) := cc 4 _ rfl
      have q5 : wr.cell? ⟨g, i * 6 + 5, none⟩ = some (.bool a.br) := cc 5 _ rfl
      clear cc
      obtain ⟨g2, cap2, e2, _, hg2, hc2, hf2⟩ := ownsRow_at ho hne
      simp only [Value.slice.injEq, Option.some.injEq, Addr.mk.injEq, and_true, true_and] at e2
      obtain ⟨rfl, rfl⟩ := e2
      have hxl := ho.1
      have d : ∀ j, j < 4 → ∃ v, wr.cell? ⟨G, i * 4 + j, none⟩ = some v := fun j hj => ⟨xs[i * 4 + j]'(by omega), (hc2 _ (by omega)).trans (List.getElem?_eq_getElem (by omega))⟩
      obtain ⟨v0, d0⟩ := d 0 (by omega)
      obtain ⟨v1, d1⟩ := d 1 (by omega)
      obtain ⟨v2, d2⟩ := d 2 (by omega)
      obtain ⟨v3, d3⟩ := d 3 (by omega)
      rw [Nat.add_zero] at d0
      have f0 := hf2 (i * 4)
      have f1 := hf2 (i * 4 + 1)
      have f2 := hf2 (i * 4 + 2)
      have f3 := hf2 (i * 4 + 3)
      clear hc2 hf2 d
      have hgs : g < wr.heap.size := by have := hbw.size; omega
      have HPS : Hid _ := plain_step ats xs i a gi hxl ht
      have HS := (((ho.stored (i * 4) (.string a.el)).1.stored (i * 4 + 1) (.bool a.aro)).1.stored (i * 4 + 2) (.int .i64 a.ch)).1.stored (i * 4 + 3) (.int .i64 a.hy)
      have HOWN : Hid _ := HS.1.alloc (.cells #[.string a.el, .bool a.aro, .int .i64 a.ch, .int .i64 a.hy, .int .i64 a.pl, .bool a.br] 124)
      have hGne : w.heap.size ≠ G := by have := HG.out; omega
      have HHR : Hid ((((((wr.setCell ⟨G, i * 4, none⟩ (.string a.el)).setCell ⟨G, i * 4 + 1, none⟩ (.bool a.aro)).setCell ⟨G, i * 4 + 2, none⟩ (.int .i64 a.ch)).setCell ⟨G, i * 4 + 3, none⟩ (.int .i64 a.hy)).alloc (.cells #[.string a.el, .bool a.aro, .int .i64 a.ch, .int .i64 a.hy, .int .i64 a.pl, .bool a.br] 124)).heap[w.heap.size]? = (w.alloc (.cells #[.slice none 0 0, .slice none 0 0] 39)).heap[w.heap.size]?) := by
        show _ = _
        rw [heap_alloc_lt _ _ _ (by simp; have := HG.out; omega), Below.heap_setCell _ _ _ _ hGne, Below.heap_setCell _ _ _ _ hGne, Below.heap_setCell _ _ _ _ hGne, Below.heap_setCell _ _ _ _ hGne]
        exact hr
      have hGle : w.heap.size ≤ G := by have := HG.out; omega
      have HB : Hid _ := ((((hbw.setCell (p := ⟨G, i * 4, none⟩) hGle (.string a.el)).setCell (p := ⟨G, i * 4 + 1, none⟩) hGle (.bool a.aro)).setCell (p := ⟨G, i * 4 + 2, none⟩) hGle (.int .i64 a.ch)).setCell (p := ⟨G, i * 4 + 3, none⟩) hGle (.int .i64 a.hy)).alloc (by simpa using hbw.size) (.cells #[.string a.el, .bool a.aro, .int .i64 a.ch, .int .i64 a.hy, .int .i64 a.pl, .bool a.br] 124)
      clear HS
      go_wp2_with fail
      go_roundg (ats.length - (i + 1))
      case measure => omega
      case rel => exact ⟨i + 1, _, by omega, Nat.le_refl _, by go_num, HOWN.out, HPS.out, HHR.out, HB.out⟩
    · have hlt' : ¬ (i : Int) < (ats.length : Int) := by omega
      have hin : i = ats.length := by omega
      rw [hin, List.take_length, ← ho.1, List.take_length] at ht
      subst ht
      have h25' : wr.cell? ⟨L, 25, none⟩ = some (.slice bo l.length bc) := (hbw.cell (p := ⟨L, 25, none⟩) hL).trans h25
      have HBB : Hid (wr.ownsRow base 102 4 (.slice bo l.length bc) l.length (l.flatMap pbCells)) := ownsRow_same hb fun k hk => hbw.block k (hb.lt k hk).2
      have HO : Hid (wr.ownsRow G 50 4 (.slice (some ⟨G, 0, none⟩) ats.length ats.length) ats.length (ats.flatMap plainCells)) := ho
      have HRR : Hid (wr.heap[w.heap.size]? = (w.alloc (.cells #[.slice none 0 0, .slice none 0 0] 39)).heap[w.heap.size]?) := hr
      have HBW : Hid (Below w.heap.size w wr) := hbw
      have hGs := (ho.lt _ rfl).2
      have hLr : L < wr.heap.size := by have := hbw.size; omega
      have hl' : l.length ≤ 1000 := hl
      clear ho hr hbw hlt hin hk
      clear h24' HR hbel hown hsz2 HC
      obtain ⟨wa, ewa⟩ : ∃ x, x = wr := ⟨_, rfl⟩
      subst ewa
      go_wp2_with (at_make; go_must (refine wpList_make_full _ rfl _ _ 37 rfl wa.heap.size 46 j0 (.agg #[.int .i64 0, .int .i64 0, .int .i64 0]) 3 Tryz.underlying37 hj hjz0 hjz1 .i64 .i64 _ _ l.length rfl rfl rfl rfl ?d1 ?d2 ?d3 ?_))
      case d1 => (try rw [hjz2]); omega
      case d2 => unfold maxLen; omega
      intro w3 hown3 hgrow3
      have hb3 : Below wa.heap.size wa w3 := (Below.refl _ wa).grown hgrow3 (Nat.le_refl _) (by simp)
      have h25'' : w3.cell? ⟨L, 25, none⟩ = some (.slice bo l.length bc) := (hb3.cell (p := ⟨L, 25, none⟩) hLr).trans h25'
      generalize hys : Array.toList _ = ys0 at hown3
      clear hgrow3 hys h25'
      go_wp2_with fail
      obtain ⟨H, hH⟩ : ∃ H, H = wa.heap.size := ⟨_, rfl⟩
      rw [← hH] at hown3
      have HH : Hid (H = wa.heap.size) := hH
      simp only [← hH]
      clear hH
      go_loopg [42] (l.length + 1) (fun k vi wr => ∃ i : Nat, ∃ ys : List Value, i ≤ l.length ∧ l.length - i ≤ k ∧ vi = .int .i64 i ∧ wr.ownsRow H 46 3 (.slice (some ⟨H, 0, none⟩) l.length l.length) l.length ys ∧ ys.take (i * 3) = (l.take i).flatMap bndCells ∧ Below wa.heap.size wa wr)
      case atStart => exact ⟨0, ys0, by omega, by omega, rfl, hown3, by simp, hb3⟩
      case round =>
        obtain ⟨i, ys, hi', hk, rfl, ho, ht, hbw⟩ := hrel
        by_cases hlt : i < l.length
        · have gi := List.getElem?_eq_getElem hlt
          have hlt' : (i : Int) < (l.length : Int) := by omega
          obtain ⟨g4, cap4, e4, _, hg4, hc4, _⟩ := ownsRow_at HBB.out (by omega)
          simp only [Value.slice.injEq, true_and] at e4
          obtain ⟨rfl, rfl⟩ := e4
          have cc : ∀ j v, (pbCells l[i])[j]? = some v → wr.cell? ⟨g4, i * 4 + j, none⟩ = some v := by
            intro j v hj
            have hj6 : j < 4 := by
              have := (List.getElem?_eq_some_iff.1 hj).1
              simpa [pbCells_len] using this
            rw [hbw.cell (p := ⟨g4, i * 4 + j, none⟩) hg4, hc4 (i * 4 + j) (by omega), flatMap_get pbCells 4 pbCells_len _ i j _ gi hj6, hj]
          generalize l[i] = b at *
          have q0 : wr.cell? ⟨g4, i * 4, none⟩ = some (.int .i64 b.a) := cc 0 _ rfl
          have q1 : wr.cell? ⟨g4, i * 4 + 1, none⟩ = some (.int .i64 b.b) := cc 1 _ rfl
          have q2 : wr.cell? ⟨g4, i * 4 + 2, none⟩ = some (.int .i64 b.o) := cc 2 _ rfl
          have q3 : wr.cell? ⟨g4, i * 4 + 3, none⟩ = some (.int .i64 b.pl) := cc 3 _ rfl
          clear cc hc4
          obtain ⟨g2, cap2, e2, _, hg2, hc2, hf2⟩ := ownsRow_at ho (by omega)
          simp only [Value.slice.injEq, Option.some.injEq, Addr.mk.injEq, and_true, true_and] at e2
          obtain ⟨rfl, rfl⟩ := e2
          have hxl := ho.1
          have d : ∀ j, j < 3 → ∃ v, wr.cell? ⟨H, i * 3 + j, none⟩ = some v := fun j hj => ⟨ys[i * 3 + j]'(by omega), (hc2 _ (by omega)).trans (List.getElem?_eq_getElem (by omega))⟩
          obtain ⟨v0, d0⟩ := d 0 (by omega)
          obtain ⟨v1, d1⟩ := d 1 (by omega)
          obtain ⟨v2, d2⟩ := d 2 (by omega)
          rw [Nat.add_zero] at d0
          have f0 := hf2 (i * 3)
          have f1 := hf2 (i * 3 + 1)
          have f2 := hf2 (i * 3 + 2)
          clear hc2 hf2 d
          have hgs : g4 < wr.heap.size := by have := hbw.size; omega
          have HPS : Hid _ := bnd_step l ys i b gi hxl ht
          have HS := ((ho.stored (i * 3) (.int .i64 b.a)).1.stored (i * 3 + 1) (.int .i64 b.b)).1.stored (i * 3 + 2) (.int .i64 b.o)
          have HOWN : Hid _ := HS.1.alloc (.cells #[.int .i64 b.a, .int .i64 b.b, .int .i64 b.o, .int .i64 b.pl] 102)
          have hHle : wa.heap.size ≤ H := by have := HH.out; omega
          have HB : Hid _ := (((hbw.setCell (p := ⟨H, i * 3, none⟩) hHle (.int .i64 b.a)).setCell (p := ⟨H, i * 3 + 1, none⟩) hHle (.int .i64 b.b)).setCell (p := ⟨H, i * 3 + 2, none⟩) hHle (.int .i64 b.o)).alloc (by simpa using hbw.size) (.cells #[.int .i64 b.a, .int .i64 b.b, .int .i64 b.o, .int .i64 b.pl] 102)
          clear HS
          go_wp2_with fail
          go_roundg (l.length - (i + 1))
          case measure => omega
          case rel => exact ⟨i + 1, _, by omega, Nat.le_refl _, by go_num, HOWN.out, HPS.out, HB.out⟩
        · have hlt' : ¬ (i : Int) < (l.length : Int) := by omega
          have hin : i = l.length := by omega
          rw [hin, List.take_length, ← ho.1, List.take_length] at ht
          subst ht
          have hRw : w.heap.size < wa.heap.size := by have := HG.out; omega
          have hRR : wr.heap[w.heap.size]? = (w.alloc (.cells #[.slice none 0 0, .slice none 0 0] 39)).heap[w.heap.size]? := (hbw.block _ hRw).trans HRR.out
          have r0 : wr.cell? ⟨w.heap.size, 0, none⟩ = some (.slice none 0 0) := (World.cell?_of_block (w := w.alloc (.cells #[.slice none 0 0, .slice none 0 0] 39)) hRR).trans (by simp)
          have r1 : wr.cell? ⟨w.heap.size, 1, none⟩ = some (.slice none 0 0) := (World.cell?_of_block (w := w.alloc (.cells #[.slice none 0 0, .slice none 0 0] 39)) hRR).trans (by simp)
          have rf : ∀ j, wr.frozen? ⟨w.heap.size, j, none⟩ = false := fun j => (World.frozen?_of_block (w := w.alloc (.cells #[.slice none 0 0, .slice none 0 0] 39)) hRR).trans (by simp)
          have rf0 := rf 0
          have rf1 := rf 1
          have HA3 : wr.ownsRow G 50 4 (.slice (some ⟨G, 0, none⟩) ats.length ats.length) ats.length (ats.flatMap plainCells) := ownsRow_same HO.out fun k hk => hbw.block k (HO.out.lt k hk).2
          have hG1 := HG.out
          have hH1 := HH.out
          have HFA : Hid (((wr.setCell ⟨w.heap.size, 0, none⟩ (.slice (some ⟨G, 0, none⟩) ats.length ats.length)).setCell ⟨w.heap.size, 1, none⟩ (.slice (some ⟨H, 0, none⟩) l.length l.length)).ownsRow w.heap.size 50 4 (.slice (some ⟨G, 0, none⟩) ats.length ats.length) ats.length (ats.flatMap plainCells)) :=
            ownsRow_mono (ownsRow_setCell_other (ownsRow_setCell_other HA3 (by simp [Value.ownBlock]; omega) _) (by simp [Value.ownBlock]; omega) _) (by omega)
          have HFB : Hid (((wr.setCell ⟨w.heap.size, 0, none⟩ (.slice (some ⟨G, 0, none⟩) ats.length ats.length)).setCell ⟨w.heap.size, 1, none⟩ (.slice (some ⟨H, 0, none⟩) l.length l.length)).ownsRow w.heap.size 46 3 (.slice (some ⟨H, 0, none⟩) l.length l.length) l.length (l.flatMap bndCells)) :=
            ownsRow_mono (ownsRow_setCell_other (ownsRow_setCell_other ho (by simp [Value.ownBlock]; omega) _) (by simp [Value.ownBlock]; omega) _) (by omega)
          have HFC : Hid (Below w.heap.size w ((wr.setCell ⟨w.heap.size, 0, none⟩ (.slice (some ⟨G, 0, none⟩) ats.length ats.length)).setCell ⟨w.heap.size, 1, none⟩ (.slice (some ⟨H, 0, none⟩) l.length l.length))) :=
            ((HBW.out.trans (hbw.mono (by omega))).setCell (p := ⟨w.heap.size, 0, none⟩) (Nat.le_refl _) _).setCell (p := ⟨w.heap.size, 1, none⟩) (Nat.le_refl _) _
          clear HA3 rf hRR hG1 hH1 hRw ho hbw
          go_wp2_with fail
          refine bodyPost_ret (v := .agg #[.slice (some ⟨G, 0, none⟩) ats.length ats.length, .slice (some ⟨H, 0, none⟩) l.length l.length]) ?_ rfl ⟨_, _, rfl, HFA.out, HFB.out, HFC.out⟩
          simp only [results, Tryz.results26]
          go_simp
end
end Go.Proofs.YtcabaecbmkgclaaGreatDoor

namespace Go.Proofs.YtcabaecbmkgclaaGreatDoor
open Go.RowKit Bz

theorem bracket_nz {s : ByteArray} {i : Nat} {er : Int × Int} (h : Bz.bracket s i = .error er) : er.1 ≠ 0 := by
  unfold Bz.bracket at h
  simp only [] at h
  split at h <;> cases h
  simp

theorem atom_nz {s : ByteArray} {p : St} {g : Hung} {er : Int × Int} (h : Bz.atom s g p = .error er) : er.1 ≠ 0 := by
  unfold Bz.atom at h
  simp only [] at h
  split at h
  · split at h <;> cases h <;> simp
  · split at h
    · cases h; simp
    split at h
    · cases h; simp
    split at h
    · rename_i e he
      cases h
      split at he
      · exact bracket_nz he
      · cases he
    · cases h

theorem bondEnd_nz {s : ByteArray} {p : St} {a : Nat} {er : Int × Int} (h : Bz.bondEnd s a p = .error er) : er.1 ≠ 0 := by
  unfold Bz.bondEnd at h
  simp only [] at h
  split at h
  · split at h <;> cases h
    simp
  · cases h

theorem link_nz {s : ByteArray} {p : St} {a : Nat} {er : Int × Int} (h : Bz.link s a p = .error er) : er.1 ≠ 0 := by
  unfold Bz.link at h
  split at h
  · cases h
  · exact bondEnd_nz h

theorem ringNumber_nz {s : ByteArray} {i : Nat} {er : Int × Int} (h : Bz.ringNumber s i = .error er) : er.1 ≠ 0 := by
  unfold Bz.ringNumber at h
  repeat' split at h
  all_goals first | (cases h; done) | (cases h; simp)

theorem closeRing_nz {a b : Hung} {k : Nat} {p : St} {er : Int × Int} (h : Bz.closeRing a b k p = .error er) : er.1 ≠ 0 := by
  unfold Bz.closeRing at h
  simp only [] at h
  repeat' split at h
  all_goals first | (cases h; done) | (cases h; simp)

theorem ring_nz {s : ByteArray} {p : St} {a : Nat} {er : Int × Int} (h : Bz.ring s a p = .error er) : er.1 ≠ 0 := by
  unfold Bz.ring at h
  split at h
  · rename_i e he; cases h; exact bondEnd_nz he
  split at h
  · rename_i e he; cases h; exact ringNumber_nz he
  split at h
  · cases h
  · exact closeRing_nz h

theorem ringsOf_nz {s : ByteArray} {a : Nat} {er : Int × Int} : ∀ (n : Nat) {p : St}, Bz.ringsOf s a n p = .error er → er.1 ≠ 0
  | 0, _, h => by cases h
  | n + 1, p, h => by
    unfold Bz.ringsOf at h
    split at h
    · split at h
      · rename_i e he; cases h; exact ring_nz he
      · exact ringsOf_nz n h
    · cases h

/-- From place lo on a chain's errors have numbers. -/
def ChainNz (s : ByteArray) (c : Hung → St → R St) (lo : Nat) : Prop := ∀ g q er, Ok s q → HungOk g q → lo ≤ q.pos → c g q = .error er → er.1 ≠ 0

section
variable {s : ByteArray} {c : Hung → St → R St} {lo : Nat}

theorem branch_nz (hn : ChainNz s c lo) {a : Nat} {p : St} {er : Int × Int} (h : Bz.branch s c a p = .error er) (o : Ok s p) (ha : a < p.atoms.length) (hlo : lo ≤ p.pos) : er.1 ≠ 0 := by
  unfold Bz.branch at h
  split at h
  · rename_i e he; cases h; exact link_nz he
  · rename_i g q hq
    obtain ⟨o1, h1, _, h3⟩ := link_wf hq o ha
    split at h
    · rename_i e he; cases h; exact hn g q _ o1 h1 (by omega) he
    · split at h <;> cases h
      simp

theorem branches_nz (hc : ChainOk s c) (hn : ChainNz s c (lo + 1)) {a : Nat} {er : Int × Int} : ∀ (n : Nat) {p : St}, Bz.branches s c a n p = .error er → Ok s p → a < p.atoms.length → lo ≤ p.pos → er.1 ≠ 0
  | 0, _, h, _, _, _ => by cases h
  | n + 1, p, h, o, ha, hlo => by
    unfold Bz.branches at h
    split at h
    · rename_i h40
      have hlt : p.pos < s.size := lt_of_byteAt (by rw [h40]; decide)
      have o1 := o.step hlt
      split at h
      · rename_i e he; cases h; exact branch_nz hn he o1 ha (by simp; omega)
      · rename_i q hq
        obtain ⟨o2, h2, h3⟩ := branch_wf hc hq o1 ha
        exact branches_nz hc hn n h o2 (by simp at h3; omega) (by simp at h2; omega)
    · cases h

theorem knot_nz (hc : ChainOk s c) (hn : ChainNz s c (lo + 1)) {g : Hung} {p : St} {er : Int × Int} (h : Bz.knot s c g p = .error er) (o : Ok s p) (hlo : lo ≤ p.pos) : er.1 ≠ 0 := by
  unfold Bz.knot at h
  split at h
  · rename_i e he; cases h; exact atom_nz he
  · rename_i k q hq
    obtain ⟨o1, h1, h2, _⟩ := atom_wf hq o
    split at h
    · rename_i e he; cases h; exact ringsOf_nz _ he
    · rename_i q2 hq2
      obtain ⟨o2, h3, h4⟩ := ringsOf_wf _ hq2 o1 h1
      split at h
      · rename_i e he; cases h; exact branches_nz hc hn _ he o2 (by omega) (by omega)
      · cases h

theorem linkedKnot_nz (hc : ChainOk s c) (hn : ChainNz s c (lo + 1)) {a : Nat} {p : St} {er : Int × Int} (h : Bz.linkedKnot s c a p = .error er) (o : Ok s p) (ha : a < p.atoms.length) (hlo : lo ≤ p.pos) : er.1 ≠ 0 := by
  unfold Bz.linkedKnot at h
  split at h
  · rename_i e he; cases h; exact link_nz he
  · rename_i g q hq
    obtain ⟨o1, _, _, h3⟩ := link_wf hq o ha
    exact knot_nz hc hn h o1 (by omega)

theorem linked_nz (hc : ChainOk s c) (hn : ChainNz s c (lo + 1)) {er : Int × Int} : ∀ (n : Nat) {a : Nat} {p : St}, Bz.linked s c n a p = .error er → Ok s p → a < p.atoms.length → lo ≤ p.pos → er.1 ≠ 0
  | 0, _, _, h, _, _, _ => by cases h
  | n + 1, a, p, h, o, ha, hlo => by
    unfold Bz.linked at h
    split at h
    · split at h
      · rename_i e he; cases h; exact linkedKnot_nz hc hn he o ha hlo
      · rename_i k q hq
        obtain ⟨o1, h1, h2, _⟩ := linkedKnot_wf hc hq o ha
        exact linked_nz hc hn n h o1 h1 (by omega)
    · cases h
end

theorem chain_nz (s : ByteArray) : ∀ n lo, s.size < n + lo → ChainNz s (Bz.chain s n) lo
  | 0, lo, hl, _, q, _, o, _, hlo, _ => by have := o.pos; omega
  | n + 1, lo, hl, g, q, er, o, hg, hlo, h => by
    have hn := chain_nz s n (lo + 1) (by omega)
    unfold Bz.chain at h
    split at h
    · rename_i e he; cases h; exact knot_nz (chain_wf s n) hn he o hlo
    · rename_i k q2 hq
      obtain ⟨o1, h1, h2, _⟩ := knot_wf (chain_wf s n) hq o
      exact linked_nz (chain_wf s n) hn _ h o1 h1 (by omega)

theorem whole_nz {s : ByteArray} {er : Int × Int} (h : wholeR s = .error er) : er.1 ≠ 0 := by
  unfold wholeR at h
  split at h
  · rename_i e he; cases h; exact chain_nz s (s.size + 1) 0 (by omega) _ _ _ (start_ok s) (.inl rfl) (Nat.zero_le _) he
  · unfold finish valencesOk at h
    split at h
    · cases h; simp
    split at h
    · cases h; simp
    split at h <;> cases h
    simp

end Go.Proofs.YtcabaecbmkgclaaGreatDoor

namespace Go.Proofs.YtcabaecbmkgclaaGreatDoor
open Go.RowKit Bz

theorem whole_wf {s : ByteArray} (hs : s.size ≤ 160) {q : St} (h : wholeR s = .ok q) : Ok s q ∧ 0 < q.atoms.length := by
  unfold wholeR at h
  split at h
  · cases h
  rename_i p hp
  have hne := chain_ne hp (start_ok s)
  have ho := (chain_wf s (s.size + 1) _ _ _ (start_ok s) (.inl rfl) hp).1
  unfold finish valencesOk at h
  split at h
  · cases h
  split at h
  · cases h
  split at h
  · cases h
  cases h
  exact ⟨withHy_wf ho hs, by simp [withHy]; exact hne⟩

theorem parse_whole (s : ByteArray) (hs : s.size ≤ 160) : Bz.parse s = (wholeR s).map fun q => (q.atoms, q.bonds) := by
  unfold Bz.parse wholeR
  rw [if_neg (by omega)]
  cases hc : Bz.chain s (s.size + 1) ⟨0, 0, -1⟩ Bz.start with
  | error e => rfl
  | ok p =>
    simp only []
    unfold finish valencesOk withHy
    split
    · rfl
    split
    · rfl
    simp only []
    split <;> rename_i h <;> rw [h] <;> rfl

/-- What a reading gives, said of the molecule's value: something is wrong. -/
structure ReadBad (s : ByteArray) (w : World) (e : Ending) (w' : World) (er : Int × Int) : Prop where
  h : Bz.parse s = .error er
  he : e = .returned (.tuple #[.agg zeroMol, .int .i64 er.1, .int .i64 er.2])
  hne : er.1 ≠ 0
  hb : Below w.heap.size w w'
/-- Or there is a molecule. -/
structure ReadGood (s : ByteArray) (w : World) (e : Ending) (w' : World) (q : St) (ns : List Value) (av bv : Value) : Prop where
  h : Bz.parse s = .ok (q.atoms, q.bonds)
  he : e = .returned (.tuple #[.agg (ns ++ [av, bv]).toArray, .int .i64 0, .int .i64 0])
  hr : ReadOk w w' q ns av bv
  ho : Ok s q
  hne : 0 < q.atoms.length
def ReadIs (s : ByteArray) (w : World) (e : Ending) (w' : World) : Prop := (∃ er, ReadBad s w e w' er) ∨ ∃ q ns av bv, ReadGood s w e w' q ns av bv
theorem ReadIs.bad {s : ByteArray} {w : World} {e : Ending} {w' : World} (er : Int × Int) (h : Bz.parse s = .error er) (he : e = .returned (.tuple #[.agg zeroMol, .int .i64 er.1, .int .i64 er.2])) (hne : er.1 ≠ 0) (hb : Below w.heap.size w w') : ReadIs s w e w' := .inl ⟨er, h, he, hne, hb⟩
theorem ReadIs.good {s : ByteArray} {w : World} {e : Ending} {w' : World} (q : St) (ns : List Value) (av bv : Value) (h : Bz.parse s = .ok (q.atoms, q.bonds)) (he : e = .returned (.tuple #[.agg (ns ++ [av, bv]).toArray, .int .i64 0, .int .i64 0])) (hr : ReadOk w w' q ns av bv) (ho : Ok s q) (hne : 0 < q.atoms.length) : ReadIs s w e w' := .inr ⟨q, ns, av, bv, h, he, hr, ho, hne⟩

theorem read_any (s : ByteArray) (w : World) (hm : s.size ≤ maxLen) : Calls Tryz.prog 22 #[.string s] w (ReadIs s w) := by
  by_cases hs : s.size ≤ 160
  · have hp := parse_whole s hs
    cases hq : wholeR s with
    | error er =>
      rw [hq] at hp
      exact (read_err s w hs er hq).mono fun e w' h => .bad er hp h.1 (whole_nz hq) h.2
    | ok q =>
      rw [hq] at hp
      refine (read_ok s w hs q hq).mono fun e w' h => ?_
      obtain ⟨ns, av, bv, he, hr⟩ := h
      exact .good q ns av bv hp he hr (whole_wf hs hq).1 (whole_wf hs hq).2
  · have hp : Bz.parse s = .error (1, 0) := by unfold Bz.parse; rw [if_pos (by omega)]
    exact (read_long s w (by omega) hm).mono fun e w' h => .bad (1, 0) hp h.1 (by simp) h.2

/-- What Parse gives: something is wrong. -/
structure ParseBad (s : ByteArray) (w : World) (e : Ending) (w' : World) (er : Int × Int) : Prop where
  h : Bz.parse s = .error er
  he : e = .returned (.tuple #[.agg #[.slice none 0 0, .slice none 0 0], .int .i64 er.1, .int .i64 er.2])
  hb : Below w.heap.size w w'
/-- Or there is a molecule. -/
structure ParseGood (s : ByteArray) (w : World) (e : Ending) (w' : World) (ats : List Atm) (l : List Bnd) (v v' : Value) : Prop where
  h : Bz.parse s = .ok (ats, l)
  he : e = .returned (.tuple #[.agg #[v, v'], .int .i64 0, .int .i64 0])
  ha : w'.ownsRow w.heap.size 50 4 v ats.length (ats.flatMap plainCells)
  hl : w'.ownsRow w.heap.size 46 3 v' l.length (l.flatMap bndCells)
  hb : Below w.heap.size w w'
  hne : 0 < ats.length
  hn : ats.length ≤ 24
  hln : l.length ≤ 160
def ParseIs (s : ByteArray) (w : World) (e : Ending) (w' : World) : Prop := (∃ er, ParseBad s w e w' er) ∨ ∃ ats l v v', ParseGood s w e w' ats l v v'
theorem ParseIs.bad {s : ByteArray} {w : World} {e : Ending} {w' : World} (er : Int × Int) (h : Bz.parse s = .error er) (he : e = .returned (.tuple #[.agg #[.slice none 0 0, .slice none 0 0], .int .i64 er.1, .int .i64 er.2])) (hb : Below w.heap.size w w') : ParseIs s w e w' := .inl ⟨er, h, he, hb⟩
theorem ParseIs.good {s : ByteArray} {w : World} {e : Ending} {w' : World} (ats : List Atm) (l : List Bnd) (v v' : Value) (h : Bz.parse s = .ok (ats, l)) (he : e = .returned (.tuple #[.agg #[v, v'], .int .i64 0, .int .i64 0])) (ha : w'.ownsRow w.heap.size 50 4 v ats.length (ats.flatMap plainCells))
    (hl : w'.ownsRow w.heap.size 46 3 v' l.length (l.flatMap bndCells)) (hb : Below w.heap.size w w') (hne : 0 < ats.length) (hn : ats.length ≤ 24) (hln : l.length ≤ 160) : ParseIs s w e w' := .inr ⟨ats, l, v, v', h, he, ha, hl, hb, hne, hn, hln⟩

/-- The result's cell and all below stand as they stood. -/
structure Held (w W : World) : Prop where
  r0 : W.cell? ⟨w.heap.size, 0, none⟩ = some (.slice none 0 0)
  r1 : W.cell? ⟨w.heap.size, 1, none⟩ = some (.slice none 0 0)
  f : ∀ j, W.frozen? ⟨w.heap.size, j, none⟩ = false
  b : Below w.heap.size w W

theorem held_of {w W : World} (h : Below (w.heap.size + 1) (w.alloc (.cells #[.slice none 0 0, .slice none 0 0] 39)) W) : Held w W :=
  ⟨(h.cell (p := ⟨w.heap.size, 0, none⟩) (by simp)).trans (by simp), (h.cell (p := ⟨w.heap.size, 1, none⟩) (by simp)).trans (by simp), fun j => (h.frozen (p := ⟨w.heap.size, j, none⟩) (by simp)).trans (by simp),
    ((Below.refl _ w).alloc (Nat.le_refl _) _).trans (h.mono (by omega))⟩

section
set_option maxRecDepth 100000 in
set_option maxHeartbeats 1000000 in
theorem parse_any (s : ByteArray) (w : World) (hm : s.size ≤ maxLen) : Calls Tryz.prog 15 #[.string s] w (ParseIs s w) := by
  go_enter Tryz.func15, Tryz.ntmps15
  go_wp2_with fail
  refine (read_any s _ hm).mono ?_
  rintro e w1 h
  rcases h with ⟨er, h, he, hne, hb⟩ | ⟨q, ns, av, bv, h, he, hr, ho, hne⟩
  · subst he
    have hsz : (w.alloc (.cells #[.slice none 0 0, .slice none 0 0] 39)).heap.size = w.heap.size + 1 := by simp
    rw [hsz] at hb
    have hs1 := hb.size
    rw [hsz] at hs1
    have HT : Hid ((w1.alloc (.cells zeroMol 69)).there w1.heap.size 0 26) := there_new w1
    have HF : Held w ((w1.alloc (.cells zeroMol 69)).setCells w1.heap.size 0 zeroMol.toList) :=
      held_of (hb.trans ((below_setCells (Nat.le_refl _) _ _ _ ((Below.refl _ w1).alloc (Nat.le_refl _) _)).mono hs1))
    clear hb hsz hs1
    have HP : Hid _ := h
    clear h
    go_wp2_with (first | (refine wpList_alloc rfl 69 rfl _ _ (alloc_mol _) ?_; simp only [Act.put, List.setIfInBounds_toArray, List.set_cons_zero, List.set_cons_succ]; have tokS : True := trivial) | (have _t := tokS; go_must (refine wpList_store_mid rfl 69 (.tmp 5) (.tmp 11) rfl w1.heap.size 0 zeroMol (by simp [Act.eval]) (by simp [Act.eval]) HT.out Tryz.sizeMol zeroMol_one ?_); simp only [Act.put]; clear tokS; revert HF; generalize World.setCells _ _ _ _ = W; rintro ⟨r0, r1, rf, hbW⟩; have rf0 := rf 0; have rf1 := rf 1))
    refine bodyPost_ret (v := .tuple #[.agg #[.slice none 0 0, .slice none 0 0], .int .i64 er.1, .int .i64 er.2]) ?_ rfl (.bad er HP.out rfl ((hbW.setCell (p := ⟨w.heap.size, 0, none⟩) (Nat.le_refl _) _).setCell (p := ⟨w.heap.size, 1, none⟩) (Nat.le_refl _) _))
    simp only [results, Tryz.results15]
    go_simp
  · subst he
    obtain ⟨h1, h2, oa, ob, hb⟩ := hr
    have hsz : (w.alloc (.cells #[.slice none 0 0, .slice none 0 0] 39)).heap.size = w.heap.size + 1 := by simp
    rw [hsz] at hb oa ob
    have hs1 := hb.size
    rw [hsz] at hs1
    have hone : ∀ v ∈ ns ++ [av, bv], v.oneCell' = true := by
      intro v hv
      rcases List.mem_append.1 hv with hv | hv
      · exact h2 v hv
      · obtain ⟨x, y, rfl⟩ := ownsRow_shape oa
        obtain ⟨x', y', rfl⟩ := ownsRow_shape ob
        simp at hv
        rcases hv with rfl | rfl <;> rfl
    have hlen : (ns ++ [av, bv]).length = 26 := by simp [h1]
    have HT : Hid ((w1.alloc (.cells zeroMol 69)).there w1.heap.size 0 26) := there_new w1
    have HBL : Below w1.heap.size w1 ((w1.alloc (.cells zeroMol 69)).setCells w1.heap.size 0 (ns ++ [av, bv])) := below_setCells (Nat.le_refl _) _ _ _ ((Below.refl _ w1).alloc (Nat.le_refl _) _)
    have HF : Held w ((w1.alloc (.cells zeroMol 69)).setCells w1.heap.size 0 (ns ++ [av, bv])) := held_of (hb.trans (HBL.mono hs1))
    have HRA := World.rangeAt_setCells_same (w1.alloc (.cells zeroMol 69)) w1.heap.size 0 (ns ++ [av, bv]) (by rw [hlen]; exact HT.out)
    have C24 := HRA 24 av (by rw [List.getElem?_append_right (by omega), h1]; rfl)
    have C25 := HRA 25 bv (by rw [List.getElem?_append_right (by omega), h1]; rfl)
    have oa' := ownsRow_same oa fun k hk => HBL.block k (oa.lt k hk).2
    have ob' := ownsRow_same ob fun k hk => HBL.block k (ob.lt k hk).2
    have HSZ : w1.heap.size < ((w1.alloc (.cells zeroMol 69)).setCells w1.heap.size 0 (ns ++ [av, bv])).heap.size := World.block_lt_of_cell? _ ⟨w1.heap.size, 0 + 24, none⟩ C24
    have HONE : Hid _ := all_oneCell_toArray hone
    have HSI : Hid (26 = (ns ++ [av, bv]).length) := hlen.symm
    clear hb hsz hone hlen HBL HRA oa ob h1 h2
    generalize ns ++ [av, bv] = cs at *
    have HP : Hid _ := h
    have HO : Hid (Ok s q) := ho
    clear h ho
    go_wp2_with (first | (refine wpList_alloc rfl 69 rfl _ _ (alloc_mol _) ?_; simp only [Act.put, List.setIfInBounds_toArray, List.set_cons_zero, List.set_cons_succ]; have tokS : True := trivial) | (have _t := tokS; go_must (refine wpList_store_mid rfl 69 (.tmp 5) (.tmp 11) rfl w1.heap.size 0 cs.toArray (by simp [Act.eval]) (by simp [Act.eval]) (by simp only [List.size_toArray, ← HSI.out]; exact HT.out) (by simp only [List.size_toArray, ← HSI.out]; exact Tryz.sizeMol) HONE.out ?_); simp only [Act.put]; clear tokS; revert HF C24 C25 oa' ob' HSZ; generalize World.setCells _ _ _ _ = W; rintro ⟨r0, r1, rf, hbW⟩ C24 C25 oa' ob' HSZ; have HRF : Hid (∀ j, W.frozen? ⟨w.heap.size, j, none⟩ = false) := rf; clear rf))
    have hs : s.size ≤ 160 := by
      rcases Nat.lt_or_ge 160 s.size with h | h
      · have := HP.out
        unfold Bz.parse at this
        rw [if_pos h] at this
        cases this
      · exact h
    have hbn : q.bonds.length ≤ 160 := by have := HO.out.bonds; have := HO.out.pos; omega
    refine (plain_any W w1.heap.size (w.heap.size + 1) av bv q.atoms q.bonds (by omega) HO.out.atoms hne HSZ C24 C25 oa' ob').mono ?_
    rintro e w2 ⟨v, v', rfl, hA, hB, hb2⟩
    have hRW : w.heap.size < W.heap.size := by omega
    have x0 := (hb2.cell (p := ⟨w.heap.size, 0, none⟩) hRW).trans r0
    have x1 := (hb2.cell (p := ⟨w.heap.size, 1, none⟩) hRW).trans r1
    have y0 := (hb2.frozen (p := ⟨w.heap.size, 0, none⟩) hRW).trans (HRF.out 0)
    have y1 := (hb2.frozen (p := ⟨w.heap.size, 1, none⟩) hRW).trans (HRF.out 1)
    have n1 : v.ownBlock ≠ some w.heap.size := fun e => by have := (hA.lt _ e).1; omega
    have n2 : v'.ownBlock ≠ some w.heap.size := fun e => by have := (hB.lt _ e).1; omega
    have HA : Hid (((w2.setCell ⟨w.heap.size, 0, none⟩ v).setCell ⟨w.heap.size, 1, none⟩ v').ownsRow w.heap.size 50 4 v q.atoms.length (q.atoms.flatMap plainCells)) :=
      ownsRow_mono (ownsRow_setCell_other (ownsRow_setCell_other hA n1 _) n1 _) (by omega)
    have HB : Hid (((w2.setCell ⟨w.heap.size, 0, none⟩ v).setCell ⟨w.heap.size, 1, none⟩ v').ownsRow w.heap.size 46 3 v' q.bonds.length (q.bonds.flatMap bndCells)) :=
      ownsRow_mono (ownsRow_setCell_other (ownsRow_setCell_other hB n2 _) n2 _) (by omega)
    have HBB : Hid (Below w.heap.size w ((w2.setCell ⟨w.heap.size, 0, none⟩ v).setCell ⟨w.heap.size, 1, none⟩ v')) :=
      ((hbW.trans (hb2.mono (by omega))).setCell (p := ⟨w.heap.size, 0, none⟩) (Nat.le_refl _) _).setCell (p := ⟨w.heap.size, 1, none⟩) (Nat.le_refl _) _
    obtain ⟨ao, ac, hv⟩ := ownsRow_shape hA
    obtain ⟨bo, bc, hv'⟩ := ownsRow_shape hB
    subst hv hv'
    clear hA hB hb2 n1 n2 C24 C25 oa' ob' r0 r1
    go_wp2_with fail
    refine bodyPost_ret (v := .tuple #[.agg #[.slice ao q.atoms.length ac, .slice bo q.bonds.length bc], .int .i64 0, .int .i64 0]) ?_ rfl (.good q.atoms q.bonds _ _ HP.out rfl HA.out HB.out HBB.out hne HO.out.atoms hbn)
    simp only [results, Tryz.results15]
    go_simp
end
end Go.Proofs.YtcabaecbmkgclaaGreatDoor

namespace Go.Proofs.YtcabaecbmkgclaaGreatDoor.Kd
open Go.RowKit Bz Mt Mg Rf

theorem start_en : Eo Bz.start := ⟨fun b hb => (by cases hb), List.Pairwise.nil, List.Pairwise.nil, fun b hb => (by cases hb)⟩

/-- Of the bonds of a molecule that was read: both ends are there, they are all different, they stand by rising places. -/
theorem parse_en {s : ByteArray} {ats : List Atm} {l : List Bnd} (h : Bz.parse s = .ok (ats, l)) : s.size ≤ 160 ∧ En ats.length l s.size := by
  unfold Bz.parse at h
  split at h
  · cases h
  · rename_i hs
    refine ⟨by omega, ?_⟩
    split at h
    · cases h
    · rename_i p hc
      have ho := (chain_wf s (s.size + 1) _ _ _ (start_ok s) (.inl rfl) hc).1
      have he := chain_en s (s.size + 1) _ _ _ (start_ok s) (.inl rfl) start_en hc
      split at h
      · cases h
      · split at h
        · cases h
        · simp only at h
          split at h
          · cases h
          · simp only [Except.ok.injEq, Prod.mk.injEq] at h
            obtain ⟨rfl, rfl⟩ := h
            rw [List.length_mapIdx]
            exact En.mono he (Nat.le_refl _) ho.pos

theorem candEdges_mem {p : St} {l : List Bnd} {x y : Nat} : (x, y) ∈ candEdges p l ↔ ∃ b ∈ l, isEdge p b = true ∧ b.a = x ∧ b.b = y := by
  unfold candEdges
  rw [List.mem_map]
  constructor
  · rintro ⟨b, hb, e⟩
    obtain ⟨h1, h2⟩ := List.mem_filter.1 hb
    simp only [Prod.mk.injEq] at e
    exact ⟨b, h1, h2, e.1, e.2⟩
  · rintro ⟨b, h1, h2, rfl, rfl⟩
    exact ⟨b, List.mem_filter.2 ⟨h1, h2⟩, rfl⟩

theorem candEdges_ok {p : St} {n pos : Nat} (h : En n p.bonds pos) : EdOk n (candEdges p p.bonds) := by
  intro q hq
  obtain ⟨x, y⟩ := q
  obtain ⟨b, hb, _, rfl, rfl⟩ := candEdges_mem.1 hq
  obtain ⟨h1, h2⟩ := h.ends b hb
  exact ⟨by simp only; omega, h2, by simp only; omega⟩

/-- Only candidates have edges. -/
theorem candEdges_in {p : St} (x y : Nat) (h : adjL (candEdges p p.bonds) x y = true) : cand p x = true ∧ cand p y = true := by
  have key : ∀ u v, (u, v) ∈ candEdges p p.bonds → cand p u = true ∧ cand p v = true := fun u v hm => by
    obtain ⟨b, _, he, rfl, rfl⟩ := candEdges_mem.1 hm
    unfold isEdge at he
    simp only [Bool.and_eq_true] at he
    exact he.2
  rcases adjL_iff.1 h with k | k
  · exact key x y k
  · exact (key y x k).symm

/-- The pairs are bonds: each stands in the list of bonds just once. -/
theorem pair_bond {p : St} {n pos : Nat} {mate : Nat → Option Nat} {f : Fo} {h : Gh} (en : En n p.bonds pos) (hB : Best (grL n (candEdges p p.bonds)) mate f h) {x y : Nat} (hxy : (x, y) ∈ pairsF n mate) : ∃ b ∈ p.bonds, isEdge p b = true ∧ b.a = x ∧ b.b = y := by
  obtain ⟨h1, h2, h3⟩ := pairsF_mem hxy
  simp only at h1 h2 h3
  have ha : adjL (candEdges p p.bonds) x y = true := hB.m.adj x y h1
  rcases adjL_iff.1 ha with k | k
  · exact candEdges_mem.1 k
  · obtain ⟨b, hb, _, e1, e2⟩ := candEdges_mem.1 k
    have := (en.ends b hb).1
    omega

/-- As many bonds become double as there are pairs. -/
theorem doubled_count {p : St} {n pos : Nat} {mate : Nat → Option Nat} {f : Fo} {h : Gh} (en : En n p.bonds pos) (hB : Best (grL n (candEdges p p.bonds)) mate f h) :
    (p.bonds.filter fun b => b.o == 4 && decide ((b.a, b.b) ∈ pairsF n mate)).length = (pairsF n mate).length := by
  have e1 : ((p.bonds.filter fun b => b.o == 4 && decide ((b.a, b.b) ∈ pairsF n mate)).map fun b => (b.a, b.b)).length = (p.bonds.filter fun b => b.o == 4 && decide ((b.a, b.b) ∈ pairsF n mate)).length := List.length_map ..
  rw [← e1]
  have nd1 : ((p.bonds.filter fun b => b.o == 4 && decide ((b.a, b.b) ∈ pairsF n mate)).map fun b => (b.a, b.b)).Nodup := by
    unfold List.Nodup
    rw [List.pairwise_map]
    refine (List.Pairwise.filter _ en.dist).imp fun {x y} hxy e => hxy ?_
    simp only [Prod.mk.injEq] at e
    exact e
  have nd2 : (pairsF n mate).Nodup := (pairsF_rising (n := n) (mate := mate)).imp fun {x y} hxy e => by rw [e] at hxy; omega
  have m1 : ∀ q ∈ (p.bonds.filter fun b => b.o == 4 && decide ((b.a, b.b) ∈ pairsF n mate)).map (fun b => (b.a, b.b)), q ∈ pairsF n mate := fun q hq => by
    obtain ⟨b, hb, rfl⟩ := List.mem_map.1 hq
    have := (List.mem_filter.1 hb).2
    simp only [Bool.and_eq_true, decide_eq_true_eq] at this
    exact this.2
  have m2 : ∀ q ∈ pairsF n mate, q ∈ (p.bonds.filter fun b => b.o == 4 && decide ((b.a, b.b) ∈ pairsF n mate)).map (fun b => (b.a, b.b)) := fun q hq => by
    obtain ⟨x, y⟩ := q
    obtain ⟨b, hb, he, rfl, rfl⟩ := pair_bond en hB hq
    refine List.mem_map.2 ⟨b, List.mem_filter.2 ⟨hb, ?_⟩, rfl⟩
    unfold isEdge at he
    simp only [Bool.and_eq_true] at he ⊢
    exact ⟨he.1, decide_eq_true hq⟩
  have len : ∀ (l r : List (Nat × Nat)), l.Nodup → (∀ q ∈ l, q ∈ r) → l.length ≤ r.length := by
    intro l
    induction l with
    | nil => intro r _ _; exact Nat.zero_le _
    | cons a l ih =>
      intro r hn hm
      rw [List.nodup_cons] at hn
      have ha := hm a (by simp)
      have := ih (r.erase a) hn.2 (fun q hq => (List.mem_erase_of_ne (show q ≠ a from fun e => hn.1 (by rw [← e]; exact hq))).2 (hm q (by simp [hq])))
      rw [List.length_erase_of_mem ha] at this
      have := List.length_pos_of_mem ha
      simp only [List.length_cons]
      omega
  exact Nat.le_antisymm (len _ _ nd1 m1) (len _ _ nd2 m2)
end Go.Proofs.YtcabaecbmkgclaaGreatDoor.Kd
