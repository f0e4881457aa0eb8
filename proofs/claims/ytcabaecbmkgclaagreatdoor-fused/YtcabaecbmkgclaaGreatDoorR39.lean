/-
  writer.capitals, writer.Write.
  What benzol.done does.
  What benzol.Kekulize does.
  How many pairs a greatest matching of the candidates has: as many as there are candidates, just if each can have its own.
-/
import Derived.Test.YtcabaecbmkgclaaGreatDoorR35
import Derived.Test.YtcabaecbmkgclaaGreatDoorR38
namespace Go.Proofs.YtcabaecbmkgclaaGreatDoor.Kd
open Go.RowKit Bz Mt Mg Rf Bu Cp
set_option maxRecDepth 100000 in
set_option maxHeartbeats 2000000 in
theorem capitals_any (w : World) (s : ByteArray) (ha : Ascii s.data.toList) (hs : s.size ≤ 1000) :
    Calls Tryz.prog 68 #[.string s] w fun e w' => e = .returned (.string ⟨(capL s.data.toList).toArray⟩) ∧ Below w.heap.size w w' := by
  have MP := map_any w s ha hs
  go_enter Tryz.func68, Tryz.ntmps68
  go_wp2_with fail
  refine MP.mono ?_
  rintro e w1 ⟨rfl, hb⟩
  clear MP
  have HB : Hid (Below w.heap.size w w1) := hb
  clear hb
  go_wp2_with fail
  go_ret
  exact ⟨rfl, HB.out⟩

/-- What is written: of the bonds with their orders, from a place on. -/
def wrGo (t : List UInt8) : List (Bnd × Nat) → Nat → List UInt8
  | [], f => capL (t.drop f)
  | (b, x) :: l, f => if b.o = 4 ∧ x = 2 then capL ((t.drop f).take (b.pl - f)) ++ [61] ++ wrGo t l b.pl else wrGo t l f

def wrL (t : List UInt8) (l : List Bnd) (os : List Nat) : List UInt8 := wrGo t (l.zip os) 0

theorem zip_drop {l : List Bnd} {os : List Nat} {i : Nat} {b : Bnd} {x : Nat} (hb : l[i]? = some b) (hx : os[i]? = some x) : (l.zip os).drop i = (b, x) :: (l.zip os).drop (i + 1) := by
  have h : (l.zip os)[i]? = some (b, x) := by rw [List.getElem?_zip_eq_some]; exact ⟨hb, hx⟩
  obtain ⟨hl, he⟩ := List.getElem?_eq_some_iff.1 h
  rw [List.drop_eq_getElem_cons hl, he]

/-- Where the writer stands. -/
structure WrAt (w wr : World) (t : List UInt8) (l : List Bnd) (os : List Nat) (D i f : Nat) : Prop where
  below : Below D w wr
  size : D ≤ wr.heap.size
  le : f ≤ t.length
  from_ : ∀ j b, i ≤ j → l[j]? = some b → f ≤ b.pl
  at_ : ∃ acc, Bd D D (Lib.byteCells acc) wr ∧ acc.length ≤ f + i ∧ acc ++ wrGo t ((l.zip os).drop i) f = wrL t l os

theorem WrAt.on {w wr w' : World} {t : List UInt8} {l : List Bnd} {os : List Nat} {D i f : Nat} (h : WrAt w wr t l os D i f) (hb : Below wr.heap.size wr w') : WrAt w w' t l os D i f := by
  obtain ⟨acc, h1, h2, h3⟩ := h.at_
  exact ⟨h.below.trans (hb.mono h.size), Nat.le_trans h.size hb.size, h.le, h.from_, acc, h1.below hb, h2, h3⟩

theorem bd_lt {D b : Nat} {bs : List Value} {w : World} (h : Bd D b bs w) : b < w.heap.size := h.elim (fun x => x.lt) (fun x => x.lt)

theorem WrAt.lt {w wr : World} {t : List UInt8} {l : List Bnd} {os : List Nat} {D i f : Nat} (h : WrAt w wr t l os D i f) : D < wr.heap.size := by
  obtain ⟨acc, h1, _⟩ := h.at_
  exact bd_lt h1

section
variable {w : World} {B base : Nat} {s : ByteArray} {p : St}
theorem bd_fresh (w : World) : Bd w.heap.size w.heap.size [] (w.alloc (.cells #[.pointer none, .slice none 0 0] 151)) := by
  refine Or.inl ⟨Nat.le_refl _, .slice none 0 0, heap_alloc_new w _, ?_, by simp [Value.ownBlock]⟩
  exact ⟨rfl, Or.inl ⟨rfl, rfl⟩⟩

set_option maxRecDepth 100000 in
set_option maxHeartbeats 4000000 in
theorem write_any (h : Kd w B base p) (o : Ok s p) (en : En p.atoms.length p.bonds s.size) (hs : s.size ≤ 160) (ha : Ascii s.data.toList) {bv : Value} (hbv : w.cell? ⟨B, 25, none⟩ = some bv) {ov : Value} {os : List Nat} {ob : Nat} (hO : Ints w ob ov os) (hol : os.length = p.bonds.length) :
    Calls Tryz.prog 41 #[.string s, bv, ov] w fun e w' => e = .returned (.string ⟨(wrL s.data.toList p.bonds os).toArray⟩) ∧ Below w.heap.size w w' := by
  have hbl : p.bonds.length ≤ 160 := by have := o.bonds; have := o.pos; omega
  have hsz : s.data.toList.length = s.size := (Lib.size_eq s).symm
  have HK : Hid (Kd w B base p) := h
  have HO : Hid (Ok s p) := o
  have HI : Hid (Ints w ob ov os) := hO
  have HEN : Hid (En p.atoms.length p.bonds s.size) := en
  obtain ⟨bv', hbv0, hbo⟩ := h.bonds
  obtain ⟨bso, bcap, hbs⟩ := ownsRow_shape hbo
  subst hbs
  obtain rfl : bv = .slice bso p.bonds.length bcap := Option.some.inj (hbv.symm.trans hbv0)
  obtain ⟨oso, ocap, rfl⟩ := hO.shape
  have HBV : Hid (w.cell? ⟨B, 25, none⟩ = some (.slice bso p.bonds.length bcap)) := hbv0
  have HOL : Hid (os.length = p.bonds.length) := hol
  have HW0 : Hid (WrAt w (w.alloc (.cells #[.pointer none, .slice none 0 0] 151)) s.data.toList p.bonds os w.heap.size 0 0) :=
    ⟨(Below.refl _ w).alloc (Nat.le_refl _) _, by simp, by omega, fun _ _ _ _ => Nat.zero_le _, [], bd_fresh w, by simp, by simp [wrL]⟩
  clear hbo h o en hO hbv hbv0 hol
  go_enter Tryz.func41, Tryz.ntmps41
  go_wp2_with fail
  go_loopg [8, 13] (p.bonds.length + 1) (fun k v8 v13 wr => ∃ i f : Nat, i ≤ p.bonds.length ∧ p.bonds.length - i < k ∧ v8 = .int .i64 (f : Nat) ∧ v13 = .int .i64 (i : Nat) ∧ WrAt w wr s.data.toList p.bonds os w.heap.size i f)
  case atStart => exact ⟨0, 0, by omega, by omega, rfl, rfl, HW0.out⟩
  case round =>
    clear HW0
    obtain ⟨i, f, hi, hk, rfl, rfl, hat⟩ := hrel
    have HAT : Hid (WrAt w wr s.data.toList p.bonds os w.heap.size i f) := hat
    have hfl := hat.le
    rw [hsz] at hfl
    clear hat
    by_cases hlt : i < p.bonds.length
    · have hlt' : (i : Int) < (p.bonds.length : Int) := by omega
      have gi := List.getElem?_eq_getElem hlt
      obtain ⟨g, cap, hv, hc, _, _, hgl⟩ := HK.out.bondsAt (by omega)
      have es := hv.symm.trans HBV.out
      simp only [Option.some.injEq, Value.slice.injEq, true_and] at es
      obtain ⟨rfl, rfl⟩ := es
      have c0 := (HAT.out.below.cell (p := ⟨g, i * 4, none⟩) hgl).trans (hc i _ 0 _ gi rfl)
      have c1 := (HAT.out.below.cell (p := ⟨g, i * 4 + 1, none⟩) hgl).trans (hc i _ 1 _ gi rfl)
      have c2 := (HAT.out.below.cell (p := ⟨g, i * 4 + 2, none⟩) hgl).trans (hc i _ 2 _ gi rfl)
      have c3 := (HAT.out.below.cell (p := ⟨g, i * 4 + 3, none⟩) hgl).trans (hc i _ 3 _ gi rfl)
      have hord := HO.out.ords _ (List.mem_of_getElem? gi)
      have hpl := HEN.out.plt _ (List.mem_of_getElem? gi)
      have hfp := HAT.out.from_ i _ (Nat.le_refl _) gi
      have hri : ∀ j b', i < j → p.bonds[j]? = some b' → p.bonds[i].pl < b'.pl := by
        intro j b' hij hj
        obtain ⟨hjl, rfl⟩ := List.getElem?_eq_some_iff.1 hj
        exact List.pairwise_iff_getElem.1 HEN.out.rise i j hlt hjl hij
      obtain ⟨x, gx⟩ : ∃ x, os[i]? = some x := ⟨_, List.getElem?_eq_getElem (show i < os.length by rw [HOL.out]; exact hlt)⟩
      obtain ⟨og, oc, hov, _, hogl, oc0⟩ := HI.out.at gx
      simp only [Value.slice.injEq, true_and] at hov
      obtain ⟨rfl, rfl⟩ := hov
      have c4 := (HAT.out.below.cell (p := ⟨og, i, none⟩) hogl).trans oc0
      have HGO : Hid (∀ b', p.bonds[i]? = some b' → (p.bonds.zip os).drop i = (b', x) :: (p.bonds.zip os).drop (i + 1)) := fun b' hb' => zip_drop hb' gx
      have HGI : Hid (p.bonds[i]? = some p.bonds[i]) := gi
      have HRI : Hid (∀ j b', i < j → p.bonds[j]? = some b' → p.bonds[i].pl < b'.pl) := hri
      clear hri
      generalize p.bonds[i] = b at *
      obtain ⟨ba, bb, bo, bpl⟩ := b
      simp only at c0 c1 c2 c3 hord hpl hfp
      obtain ⟨m, rfl⟩ := Int.eq_ofNat_of_zero_le (show 0 ≤ bo by omega)
      have hol : (i : Int) < (os.length : Int) := by rw [HOL.out]; omega
      clear gi hc hv gx oc0
      have hbq : Below wr.heap.size wr (wr.alloc (.cells #[.int .i64 (ba : Int), .int .i64 (bb : Int), .int .i64 (m : Int), .int .i64 (bpl : Int)] 102)) := (Below.refl _ _).alloc (Nat.le_refl _) _
      have HA2 : Hid (WrAt w (wr.alloc (.cells #[.int .i64 (ba : Int), .int .i64 (bb : Int), .int .i64 (m : Int), .int .i64 (bpl : Int)] 102)) s.data.toList p.bonds os w.heap.size i f) := HAT.out.on hbq
      have c5 := (hbq.cell (p := ⟨og, i, none⟩) (Nat.lt_of_lt_of_le hogl HAT.out.size)).trans c4
      have q2 : (wr.alloc (.cells #[.int .i64 (ba : Int), .int .i64 (bb : Int), .int .i64 (m : Int), .int .i64 (bpl : Int)] 102)).cell? ⟨wr.heap.size, 2, none⟩ = some (.int .i64 (m : Int)) := by rw [World.cell?_alloc_new]; rfl
      have q3 : (wr.alloc (.cells #[.int .i64 (ba : Int), .int .i64 (bb : Int), .int .i64 (m : Int), .int .i64 (bpl : Int)] 102)).cell? ⟨wr.heap.size, 3, none⟩ = some (.int .i64 (bpl : Int)) := by rw [World.cell?_alloc_new]; rfl
      have HX : Hid ((wr.alloc (.cells #[.int .i64 (ba : Int), .int .i64 (bb : Int), .int .i64 (m : Int), .int .i64 (bpl : Int)] 102)).heap[wr.heap.size]? = some (.cells #[.int .i64 (ba : Int), .int .i64 (bb : Int), .int .i64 (m : Int), .int .i64 (bpl : Int)] 102 (0, 0))) := heap_alloc_new wr _
      have hX : wr.heap.size < (wr.alloc (.cells #[.int .i64 (ba : Int), .int .i64 (bb : Int), .int .i64 (m : Int), .int .i64 (bpl : Int)] 102)).heap.size := by simp
      have hDX : w.heap.size < wr.heap.size := HAT.out.lt
      clear HAT hbq
      go_upto_region 6 with fail
      generalize wr.alloc (.cells #[.int .i64 (ba : Int), .int .i64 (bb : Int), .int .i64 (m : Int), .int .i64 (bpl : Int)] 102) = wq at *
      generalize wr.heap.size = X at *
      clear c0 c1 c2 c3 c4
      by_cases hdo : (m : Int) = 4 ∧ x = 2
      · obtain ⟨h4, h2⟩ := hdo
        obtain rfl : m = 4 := by omega
        subst h2
        have hfp' : ¬ ((bpl : Int) < (f : Int)) := by omega
        have hpl' : (bpl : Int) ≤ (s.size : Int) := by omega
        have hxt : (s.extract f bpl).data.toList = (s.data.toList.drop f).take (bpl - f) := Lib.extract_data _ _ _
        have hxs : (s.extract f bpl).size = bpl - f := by rw [Lib.size_eq, hxt, List.length_take, List.length_drop, hsz]; omega
        have CA := capitals_any wq (s.extract f bpl) (by rw [hxt]; exact (ha.drop f).take _) (by omega)
        rw [hxt] at CA
        obtain ⟨acc, hacc, hal, hall⟩ := HA2.out.at_
        have HAL : Hid (acc ++ capL ((s.data.toList.drop f).take (bpl - f)) ++ [61] ++ wrGo s.data.toList ((p.bonds.zip os).drop (i + 1)) bpl = wrL s.data.toList p.bonds os) := by
          show _ = _
          rw [← hall, HGO.out _ HGI.out]
          simp [wrGo]
        have HAC : Hid (Bd w.heap.size w.heap.size (Lib.byteCells acc) wq) := hacc
        have hcl : (capL ((s.data.toList.drop f).take (bpl - f))).length ≤ bpl - f := Nat.le_trans (capL_len _) (by rw [List.length_take]; exact Nat.min_le_left _ _)
        clear hall hacc hxt
        go_wp2_with fail
        refine CA.mono ?_
        rintro e w2 ⟨rfl, hb2⟩
        clear CA
        have hs2 := hb2.size
        have WS := wstr_any (HAC.out.below hb2) ⟨(capL ((s.data.toList.drop f).take (bpl - f))).toArray⟩ (by rw [Lib.byteCells_length]; show _ + (capL _).length ≤ _; omega) (by omega)
        have HB2 : Hid (Below wq.heap.size wq w2) := hb2
        clear hb2
        go_wp2_with fail
        refine WS.mono ?_
        rintro e w3 ⟨rfl, h3, hb3, k3⟩
        clear WS
        have hs3 := hb3.size
        have WB := wbyte_any h3 61 (by rw [List.length_append, Lib.byteCells_length, Lib.strCells_length]; show _ + (capL _).length ≤ _; omega) (by omega)
        have HX3 : Hid (w3.heap[X]? = some (.cells #[.int .i64 (ba : Int), .int .i64 (bb : Int), .int .i64 4, .int .i64 (bpl : Int)] 102 (0, 0))) :=
          k3 X _ ((HB2.out.block X hX).trans HX.out) (by intro e; have := Option.some.inj e; omega) (by intro c fz e; cases e)
        have HB3 : Hid (Below w.heap.size w2 w3) := hb3
        clear h3 hb3 k3
        go_wp2_with fail
        refine WB.mono ?_
        rintro e w4 ⟨rfl, h4, hb4, k4⟩
        clear WB
        have HX4 : Hid (w4.heap[X]? = some (.cells #[.int .i64 (ba : Int), .int .i64 (bb : Int), .int .i64 4, .int .i64 (bpl : Int)] 102 (0, 0))) :=
          k4 X _ HX3.out (by intro e; have := Option.some.inj e; omega) (by intro c fz e; cases e)
        have q4 : w4.cell? ⟨X, 3, none⟩ = some (.int .i64 (bpl : Int)) := by rw [Lib.cell_of_heap HX4.out]; rfl
        have HN : Hid (WrAt w w4 s.data.toList p.bonds os w.heap.size (i + 1) bpl) := by
          refine ⟨((HA2.out.below.trans (HB2.out.mono HA2.out.size)).trans HB3.out).trans hb4, ?_, by omega, fun j b' hj hb' => Nat.le_of_lt (HRI.out j b' (by omega) hb'), acc ++ capL ((s.data.toList.drop f).take (bpl - f)) ++ [61], Or.inr ?_, ?_, HAL.out⟩
          · have := HA2.out.size; have := hb4.size; omega
          · rw [Lib.byteCells_append, Lib.byteCells_append]; exact h4
          · simp only [List.length_append, List.length_singleton]; omega
        clear h4 hb4 k4 HA2
        go_wp2_with fail
        go_roundg (p.bonds.length - i)
        case measure => omega
        case rel => exact ⟨i + 1, bpl, by omega, by omega, rfl, by go_num, HN.out⟩
      · have HN : Hid (WrAt w wq s.data.toList p.bonds os w.heap.size (i + 1) f) := by
          obtain ⟨acc, hacc, hal, hall⟩ := HA2.out.at_
          refine ⟨HA2.out.below, HA2.out.size, HA2.out.le, fun j b' hj hb' => HA2.out.from_ j b' (by omega) hb', acc, hacc, by omega, ?_⟩
          rw [← hall, HGO.out _ HGI.out]
          conv => rhs; rw [wrGo, if_neg (by simpa using hdo)]
        by_cases h4 : m = 4
        · subst h4
          have h2 : ¬ ((x : Int) = 2) := fun e => hdo ⟨rfl, by omega⟩
          have h2b : ((x : Int) == 2) = false := by simp [h2]
          clear hdo HA2 HGO HGI HRI
          go_wp2_with fail
          go_roundg (p.bonds.length - i)
          case measure => omega
          case rel => exact ⟨i + 1, f, by omega, by omega, rfl, by go_num, HN.out⟩
        · have h4' : ¬ ((m : Int) = 4) := by omega
          have h4b : ((m : Int) == 4) = false := by simp [h4']
          clear hdo HA2 HGO HGI HRI
          go_wp2_with fail
          go_roundg (p.bonds.length - i)
          case measure => omega
          case rel => exact ⟨i + 1, f, by omega, by omega, rfl, by go_num, HN.out⟩
    · have hlt' : ¬ (i : Int) < (p.bonds.length : Int) := by omega
      have hfs : ¬ ((s.size : Int) < (f : Int)) := by omega
      obtain ⟨acc, hacc, hal, hall⟩ := HAT.out.at_
      have hxt : (s.extract f s.size).data.toList = s.data.toList.drop f := ext_drop
      have hxs : (s.extract f s.size).size = s.size - f := by rw [Lib.size_eq, hxt, List.length_drop, hsz]
      have CA := capitals_any wr (s.extract f s.size) (by rw [hxt]; exact ha.drop f) (by omega)
      rw [hxt] at CA
      have HAL : Hid (acc ++ capL (s.data.toList.drop f) = wrL s.data.toList p.bonds os) := by
        show _ = _
        have e : (p.bonds.zip os).drop i = [] := List.drop_of_length_le (by rw [List.length_zip, HOL.out]; omega)
        rw [← hall, e]
        rfl
      have HAC : Hid (Bd w.heap.size w.heap.size (Lib.byteCells acc) wr) := hacc
      have hcl : (capL (s.data.toList.drop f)).length ≤ s.size - f := Nat.le_trans (capL_len _) (by rw [List.length_drop]; omega)
      have hsw := HAT.out.size
      clear hall hacc hxt
      go_wp2_with fail
      refine CA.mono ?_
      rintro e w2 ⟨rfl, hb2⟩
      clear CA
      have hs2 := hb2.size
      have WS := wstr_any (HAC.out.below hb2) ⟨(capL (s.data.toList.drop f)).toArray⟩ (by rw [Lib.byteCells_length]; show _ + (capL _).length ≤ _; omega) (by omega)
      have HB2 : Hid (Below wr.heap.size wr w2) := hb2
      clear hb2
      go_wp2_with fail
      refine WS.mono ?_
      rintro e w3 ⟨rfl, h3, hb3, k3⟩
      clear WS
      have h3' : Bd w.heap.size w.heap.size (Lib.byteCells (acc ++ capL (s.data.toList.drop f))) w3 := by
        rw [Lib.byteCells_append]; exact Or.inr h3
      rw [HAL.out] at h3'
      have ST := str_any h3' (by have := hb3.size; omega)
      have HB3 : Hid (Below w.heap.size w w3) := (HAT.out.below.trans (HB2.out.mono HAT.out.size)).trans hb3
      clear h3 hb3 k3 h3'
      go_wp2_with fail
      refine ST.mono ?_
      rintro e w4 ⟨rfl, hb4⟩
      clear ST
      have HB4 : Hid (Below w.heap.size w w4) := HB3.out.trans hb4
      clear hb4
      go_wp2_with fail
      go_ret
      exact ⟨rfl, HB4.out⟩
end
/-- What done hands back. -/
def DnIs (w : World) (s : ByteArray) (p : St) (os : List Nat) (e : Ending) (w' : World) : Prop :=
  ∃ ov cv, e = .returned (.agg #[.int .i64 1, ov, .string ⟨(wrL s.data.toList p.bonds os).toArray⟩, cv, .slice none 0 0, .slice none 0 0]) ∧ Ints w' w.heap.size ov os ∧ Ints w' w.heap.size cv (List.range p.atoms.length) ∧
    (∀ k, ov.ownBlock = some k → cv.ownBlock ≠ some k) ∧ Below w.heap.size w w'

/-- Where done stands behind Doubled. -/
structure DnAt (w : World) (base : Nat) (p : St) (os : List Nat) (av bv ov : Value) (W : World) : Prop where
  kd : Kd W w.heap.size base p
  cA : W.cell? ⟨w.heap.size, 24, none⟩ = some av
  cB : W.cell? ⟨w.heap.size, 25, none⟩ = some bv
  io : Ints W (w.heap.size + 2) ov os
  r : W.heap[w.heap.size + 1]? = some (.cells #[.int .i64 0, .slice none 0 0, .string ⟨#[]⟩, .slice none 0 0, .slice none 0 0, .slice none 0 0] 31 (0, 0))
  below : Below w.heap.size w W

theorem DnAt.on {w : World} {base : Nat} {p : St} {os : List Nat} {av bv ov : Value} {W W' : World} (h : DnAt w base p os av bv ov W) (hb : Below W.heap.size W W') : DnAt w base p os av bv ov W' := by
  have hl : w.heap.size + 1 < W.heap.size := (Array.getElem?_eq_some_iff.1 h.r).1
  exact ⟨h.kd.below hb, (hb.cell (p := ⟨w.heap.size, 24, none⟩) (by show w.heap.size < _; omega)).trans h.cA, (hb.cell (p := ⟨w.heap.size, 25, none⟩) (by show w.heap.size < _; omega)).trans h.cB, ownsRow_same h.io fun k hk => hb.block k (h.io.lt k hk).2, (hb.block _ hl).trans h.r, h.below.trans (hb.mono (by omega))⟩

theorem DnAt.drew {w : World} {base : Nat} {p : St} {os : List Nat} {av bv ov : Value} {W : World} (h : DnAt w base p os av bv ov W) : DnAt w base p os av bv ov W.drew := h.on (Below.refl _ W).drew

theorem DnAt.cells {w : World} {base : Nat} {p : St} {os : List Nat} {av bv ov : Value} {W : World} (h : DnAt w base p os av bv ov W) :
    W.cell? ⟨w.heap.size + 1, 0, none⟩ = some (.int .i64 0) ∧ W.cell? ⟨w.heap.size + 1, 1, none⟩ = some (.slice none 0 0) ∧ W.cell? ⟨w.heap.size + 1, 2, none⟩ = some (.string ⟨#[]⟩) ∧ W.cell? ⟨w.heap.size + 1, 3, none⟩ = some (.slice none 0 0) ∧ W.cell? ⟨w.heap.size + 1, 4, none⟩ = some (.slice none 0 0) ∧ W.cell? ⟨w.heap.size + 1, 5, none⟩ = some (.slice none 0 0) ∧ ∀ j, W.frozen? ⟨w.heap.size + 1, j, none⟩ = false := by
  refine ⟨?_, ?_, ?_, ?_, ?_, ?_, fun j => Lib.frozen_of_heap h.r j⟩
  all_goals (rw [Lib.cell_of_heap h.r]; rfl)

/-- What counted has laid. -/
structure CvAt (w : World) (n : Nat) (ov cv : Value) (W : World) : Prop where
  i : Ints W (w.heap.size + 2) cv (List.range n)
  ne : ∀ k, ov.ownBlock = some k → cv.ownBlock ≠ some k

theorem CvAt.on {w : World} {n : Nat} {ov cv : Value} {W W' : World} (h : CvAt w n ov cv W) (hb : Below W.heap.size W W') : CvAt w n ov cv W' :=
  ⟨ownsRow_same h.i fun k hk => hb.block k (h.i.lt k hk).2, h.ne⟩

theorem DnAt.cv {w : World} {base : Nat} {p : St} {os : List Nat} {av bv ov : Value} {W : World} (h : DnAt w base p os av bv ov W) {n : Nat} {cv : Value} {W' : World} (hi : Ints W' W.heap.size cv (List.range n)) : CvAt w n ov cv W' := by
  have hl : w.heap.size + 1 < W.heap.size := (Array.getElem?_eq_some_iff.1 h.r).1
  refine ⟨ownsRow_mono hi (by omega), fun k hk hc => ?_⟩
  have := (h.io.lt k hk).2
  have := (hi.lt k hc).1
  omega

theorem DnAt.end_ {w : World} {base : Nat} {p : St} {s : ByteArray} {os : List Nat} {av bv ov cv : Value} {W : World} (h : DnAt w base p os av bv ov W) (hc : CvAt w p.atoms.length ov cv W) (v0 v1 v2 v3 v4 v5 : Value) :
    DnIs w s p os (.returned (.agg #[.int .i64 1, ov, .string ⟨(wrL s.data.toList p.bonds os).toArray⟩, cv, .slice none 0 0, .slice none 0 0])) ((((((W.setCell ⟨w.heap.size + 1, 0, none⟩ v0).setCell ⟨w.heap.size + 1, 1, none⟩ v1).setCell ⟨w.heap.size + 1, 2, none⟩ v2).setCell ⟨w.heap.size + 1, 3, none⟩ v3).setCell ⟨w.heap.size + 1, 4, none⟩ v4).setCell ⟨w.heap.size + 1, 5, none⟩ v5) := by
  refine ⟨ov, cv, rfl, ownsRow_mono (base := w.heap.size + 2) ?_ (by omega), ownsRow_mono (base := w.heap.size + 2) ?_ (by omega), hc.ne, ?_⟩
  · have := h.io
    exact ownsRow_setCell_below (ownsRow_setCell_below (ownsRow_setCell_below (ownsRow_setCell_below (ownsRow_setCell_below (ownsRow_setCell_below this (by simp) _) (by simp) _) (by simp) _) (by simp) _) (by simp) _) (by simp) _
  · have := hc.i
    exact ownsRow_setCell_below (ownsRow_setCell_below (ownsRow_setCell_below (ownsRow_setCell_below (ownsRow_setCell_below (ownsRow_setCell_below this (by simp) _) (by simp) _) (by simp) _) (by simp) _) (by simp) _) (by simp) _
  · have := h.below
    exact (((((this.setCell (p := ⟨w.heap.size + 1, 0, none⟩) (by simp) _).setCell (p := ⟨w.heap.size + 1, 1, none⟩) (by simp) _).setCell (p := ⟨w.heap.size + 1, 2, none⟩) (by simp) _).setCell (p := ⟨w.heap.size + 1, 3, none⟩) (by simp) _).setCell (p := ⟨w.heap.size + 1, 4, none⟩) (by simp) _).setCell (p := ⟨w.heap.size + 1, 5, none⟩) (by simp) _

section
variable {w : World} {base : Nat} {s : ByteArray} {p : St}
theorem box_at {w : World} {ns : List Value} {av bv : Value} (hlen : ns.length = 24) : (w.alloc (.cells (ns ++ [av, bv]).toArray 69)).cell? ⟨w.heap.size, 24, none⟩ = some av ∧ (w.alloc (.cells (ns ++ [av, bv]).toArray 69)).cell? ⟨w.heap.size, 25, none⟩ = some bv := by
  constructor
  · rw [World.cell?_alloc_new]
    simp [hlen]
  · rw [World.cell?_alloc_new]
    simp [hlen]

theorem box_kd {ns : List Value} {av bv : Value} (hlen : ns.length = 24) (ha : w.ownsRow base 124 6 av p.atoms.length (p.atoms.flatMap atmCells)) (hb : w.ownsRow base 102 4 bv p.bonds.length (p.bonds.flatMap pbCells)) :
    Kd (w.alloc (.cells (ns ++ [av, bv]).toArray 69)) w.heap.size base p := by
  have hb1 : Below w.heap.size w (w.alloc (.cells (ns ++ [av, bv]).toArray 69)) := (Below.refl _ w).alloc (Nat.le_refl _) _
  exact ⟨⟨av, (box_at hlen).1, ownsRow_same ha fun k hk => hb1.block k (ha.lt k hk).2⟩, ⟨bv, (box_at hlen).2, ownsRow_same hb fun k hk => hb1.block k (hb.lt k hk).2⟩, by simp⟩

set_option maxRecDepth 100000 in
set_option maxHeartbeats 4000000 in
theorem done_any {ns : List Value} {av bv : Value} (hlen : ns.length = 24) (ha : w.ownsRow base 124 6 av p.atoms.length (p.atoms.flatMap atmCells)) (hb : w.ownsRow base 102 4 bv p.bonds.length (p.bonds.flatMap pbCells)) (o : Ok s p) (en : En p.atoms.length p.bonds s.size) (hs : s.size ≤ 160) (hasc : Ascii s.data.toList) {pv : Value} {P : List (Nat × Nat)} (hP : NPr w pv P) (hPl : P.length ≤ 1000) :
    Calls Tryz.prog 25 #[.string s, .agg (ns ++ [av, bv]).toArray, pv] w (DnIs w s p (p.bonds.map (ordN P))) := by
  have K0 := box_kd hlen ha hb
  have cA := (box_at (w := w) (av := av) (bv := bv) hlen).1
  have cB := (box_at (w := w) (av := av) (bv := bv) hlen).2
  obtain ⟨aso, acap, rfl⟩ := ownsRow_shape ha
  obtain ⟨bso, bcap, rfl⟩ := ownsRow_shape hb
  have hbb : Below w.heap.size w (w.alloc (.cells (ns ++ [Value.slice aso p.atoms.length acap, Value.slice bso p.bonds.length bcap]).toArray 69)) := (Below.refl _ w).alloc (Nat.le_refl _) _
  obtain ⟨w1, hw1⟩ : ∃ w1, (w.alloc (.cells (ns ++ [Value.slice aso p.atoms.length acap, Value.slice bso p.bonds.length bcap]).toArray 69)).alloc (.cells #[.int .i64 0, .slice none 0 0, .string ⟨#[]⟩, .slice none 0 0, .slice none 0 0, .slice none 0 0] 31) = w1 := ⟨_, rfl⟩
  have hb1 : Below (w.heap.size + 1) (w.alloc (.cells (ns ++ [Value.slice aso p.atoms.length acap, Value.slice bso p.bonds.length bcap]).toArray 69)) w1 := by
    rw [← hw1]
    exact (Below.refl _ _).alloc (by simp) _
  have hs1 : w1.heap.size = w.heap.size + 2 := by rw [← hw1]; simp
  have hz : (w.alloc (.cells (ns ++ [Value.slice aso p.atoms.length acap, Value.slice bso p.bonds.length bcap]).toArray 69)).heap.size = w.heap.size + 1 := by simp
  have K1 : Kd w1 w.heap.size base p := K0.below (by rw [hz]; exact hb1)
  have r1 : w1.heap[w.heap.size + 1]? = some (.cells #[.int .i64 0, .slice none 0 0, .string ⟨#[]⟩, .slice none 0 0, .slice none 0 0, .slice none 0 0] 31 (0, 0)) := by
    rw [← hw1, ← hz]
    exact heap_alloc_new _ _
  have hB1 : Below w.heap.size w w1 := hbb.trans (hb1.mono (by omega))
  have DB := doubled_any K1 o hs (hP.below hB1) hPl
  have HD1 : Hid (∀ W ov, Below w1.heap.size w1 W → Ints W w1.heap.size ov (p.bonds.map (ordN P)) → DnAt w base p (p.bonds.map (ordN P)) (.slice aso p.atoms.length acap) (.slice bso p.bonds.length bcap) ov W) := fun W ov hb hi =>
    ⟨K1.below hb, (hb.cell (p := ⟨w.heap.size, 24, none⟩) (by show w.heap.size < _; omega)).trans ((hb1.cell (p := ⟨w.heap.size, 24, none⟩) (by simp)).trans cA), (hb.cell (p := ⟨w.heap.size, 25, none⟩) (by show w.heap.size < _; omega)).trans ((hb1.cell (p := ⟨w.heap.size, 25, none⟩) (by simp)).trans cB), by rw [← hs1]; exact hi, (hb.block _ (by omega)).trans r1, hB1.trans (hb.mono (by omega))⟩
  have WRITE : ∀ W ov, DnAt w base p (p.bonds.map (ordN P)) (.slice aso p.atoms.length acap) (.slice bso p.bonds.length bcap) ov W → Calls Tryz.prog 41 #[.string s, .slice bso p.bonds.length bcap, ov] W fun e w' => e = .returned (.string ⟨(wrL s.data.toList p.bonds (p.bonds.map (ordN P))).toArray⟩) ∧ Below W.heap.size W w' := fun W ov h =>
    write_any h.kd o en hs hasc h.cB h.io (by simp)
  have COUNT := fun W => counted_any W p.atoms.length (by have := o.atoms; omega)
  clear ha hb hlen K0 K1 r1 hB1 hbb hb1 cA cB o en hz hP
  go_enter Tryz.func25, Tryz.ntmps25
  go_wp2_with fail
  refine DB.mono ?_
  rintro e w2 ⟨ov, rfl, hi2, hb2⟩
  have hd2 := HD1.out w2 ov hb2 hi2
  obtain ⟨oso, ocap, rfl⟩ := hi2.shape
  have HD : Hid (DnAt w base p (p.bonds.map (ordN P)) (.slice aso p.atoms.length acap) (.slice bso p.bonds.length bcap) (.slice oso (p.bonds.map (ordN P)).length ocap) w2) := hd2
  clear DB HD1 hw1 hs1 hi2 hb2 hd2
  generalize (p.bonds.map (ordN P)) = os at *
  go_wp2_with fail
  have hD := HD.out.drew
  have c24 := hD.cA
  have c25 := hD.cB
  obtain ⟨r0, r1, r2, r3, r4, r5, rf⟩ := hD.cells
  clear HD
  go_region_with (first
    | (go_at_call 41; refine (WRITE _ _ hD).mono ?_; rintro e wA ⟨rfl, hbA⟩; have hD := hD.on hbA; have c24 := hD.cA; have c25 := hD.cB; obtain ⟨r0, r1, r2, r3, r4, r5, rf⟩ := hD.cells; try (have hC := hC.on hbA))
    | (go_at_call 42; refine (COUNT _).mono ?_; rintro e wB ⟨cv, rfl, hi, hbB⟩; obtain ⟨cso, ccap, rfl⟩ := hi.shape; have hC := hD.cv hi; have hD := hD.on hbB; have c24 := hD.cA; have c25 := hD.cB; obtain ⟨r0, r1, r2, r3, r4, r5, rf⟩ := hD.cells))
  all_goals
    have HE := fun v0 v1 v2 v3 v4 v5 => hD.end_ (s := s) hC v0 v1 v2 v3 v4 v5
    have HEH : Hid _ := HE
    clear HE
    go_wp2_with fail
    refine bodyPost_ret (v := .agg #[.int .i64 1, .slice oso os.length ocap, .string ⟨(wrL s.data.toList p.bonds os).toArray⟩, .slice cso p.atoms.length ccap, .slice none 0 0, .slice none 0 0]) ?_ rfl ?_
    · simp only [results, Tryz.results25]
      go_simp
    · have := HEH.out (.int .i64 1) (.slice oso os.length ocap) (.string ⟨(wrL s.data.toList p.bonds os).toArray⟩) (.slice cso p.atoms.length ccap) (.slice none 0 0) (.slice none 0 0)
      simpa using this
end
/-- What Kekulize hands back: something is wrong. -/
structure KkBad (s : ByteArray) (w : World) (e : Ending) (w' : World) (er : Int × Int) : Prop where
  h : Bz.parse s = .error er
  he : e = .returned (.tuple #[.agg #[.int .i64 0, .slice none 0 0, .string ⟨#[]⟩, .slice none 0 0, .slice none 0 0, .slice none 0 0], .int .i64 er.1, .int .i64 er.2])
  hne : er.1 ≠ 0
  hb : Below w.heap.size w w'
/-- Or it is barred. -/
structure KkBar (w : World) (n : Nat) (mate : Nat → Option Nat) (f : Fo) (e : Ending) (w' : World) (pv uv : Value) : Prop where
  he : e = .returned (.tuple #[.agg #[.int .i64 2, .slice none 0 0, .string ⟨#[]⟩, .slice none 0 0, pv, uv], .int .i64 0, .int .i64 0])
  hp : Prs w' w.heap.size pv (pairsF n mate)
  hu : Ints w' w.heap.size uv (barF n f)
  hb : Below w.heap.size w w'
/-- Or it is done. -/
structure KkDone (s : ByteArray) (w : World) (q : St) (os : List Nat) (e : Ending) (w' : World) (ov cv : Value) : Prop where
  he : e = .returned (.tuple #[.agg #[.int .i64 1, ov, .string ⟨(wrL s.data.toList q.bonds os).toArray⟩, cv, .slice none 0 0, .slice none 0 0], .int .i64 0, .int .i64 0])
  ho : Ints w' w.heap.size ov os
  hc : Ints w' w.heap.size cv (List.range q.atoms.length)
  ne : ∀ k, ov.ownBlock = some k → cv.ownBlock ≠ some k
  hb : Below w.heap.size w w'
/-- There is a molecule. -/
structure KkGood (s : ByteArray) (w : World) (e : Ending) (w' : World) (q : St) (mate : Nat → Option Nat) (f : Fo) (gh : Gh) : Prop where
  h : Bz.parse s = .ok (q.atoms, q.bonds)
  ho : Ok s q
  en : En q.atoms.length q.bonds s.size
  hs : s.size ≤ 160
  hne : 0 < q.atoms.length
  best : Best (grL q.atoms.length (candEdges q q.bonds)) mate f gh
  case : (2 * (pairsF q.atoms.length mate).length < cnt q.atoms.length (cand q) ∧ ∃ pv uv, KkBar w q.atoms.length mate f e w' pv uv) ∨
    (¬ 2 * (pairsF q.atoms.length mate).length < cnt q.atoms.length (cand q) ∧ ∃ ov cv, KkDone s w q (q.bonds.map (ordN (pairsF q.atoms.length mate))) e w' ov cv)
def KkIs (s : ByteArray) (w : World) (e : Ending) (w' : World) : Prop := (∃ er, KkBad s w e w' er) ∨ ∃ q mate f h, KkGood s w e w' q mate f h

/-- Where Kekulize stands behind the reading. -/
structure KkAt (w : World) (q : St) (ns : List Value) (av bv : Value) (M : Nat) (W : World) : Prop where
  res : W.heap[w.heap.size]? = some (.cells #[.int .i64 0, .slice none 0 0, .string ⟨#[]⟩, .slice none 0 0, .slice none 0 0, .slice none 0 0] 31 (0, 0))
  m : W.rangeAt M 0 (ns ++ [av, bv])
  len : ns.length = 24
  atoms : W.ownsRow (w.heap.size + 1) 124 6 av q.atoms.length (q.atoms.flatMap atmCells)
  bonds : W.ownsRow (w.heap.size + 1) 102 4 bv q.bonds.length (q.bonds.flatMap pbCells)
  lt : M < W.heap.size
  below : Below w.heap.size w W

section
variable {w : World} {q : St} {ns : List Value} {av bv : Value} {M : Nat} {W W' : World}
theorem KkAt.rlt (h : KkAt w q ns av bv M W) : w.heap.size < W.heap.size := (Array.getElem?_eq_some_iff.1 h.res).1

theorem KkAt.on (h : KkAt w q ns av bv M W) (hb : Below W.heap.size W W') : KkAt w q ns av bv M W' :=
  ⟨(hb.block _ h.rlt).trans h.res, fun j v hj => (hb.cell (p := ⟨M, 0 + j, none⟩) h.lt).trans (h.m j v hj), h.len, ownsRow_same h.atoms fun k hk => hb.block k (h.atoms.lt k hk).2, ownsRow_same h.bonds fun k hk => hb.block k (h.bonds.lt k hk).2, Nat.lt_of_lt_of_le h.lt hb.size, h.below.trans (hb.mono (Nat.le_of_lt h.rlt))⟩

theorem KkAt.c24 (h : KkAt w q ns av bv M W) : W.cell? ⟨M, 24, none⟩ = some av := by
  have := h.m 24 av (by simp [h.len])
  rwa [Nat.zero_add] at this
theorem KkAt.c25 (h : KkAt w q ns av bv M W) : W.cell? ⟨M, 25, none⟩ = some bv := by
  have := h.m 25 bv (by simp [h.len])
  rwa [Nat.zero_add] at this

theorem KkAt.kd (h : KkAt w q ns av bv M W) : Kd W M (w.heap.size + 1) q := ⟨⟨av, h.c24, h.atoms⟩, ⟨bv, h.c25, h.bonds⟩, h.lt⟩

theorem KkAt.cells (h : KkAt w q ns av bv M W) :
    W.cell? ⟨w.heap.size, 0, none⟩ = some (.int .i64 0) ∧ W.cell? ⟨w.heap.size, 1, none⟩ = some (.slice none 0 0) ∧ W.cell? ⟨w.heap.size, 2, none⟩ = some (.string ⟨#[]⟩) ∧ W.cell? ⟨w.heap.size, 3, none⟩ = some (.slice none 0 0) ∧ W.cell? ⟨w.heap.size, 4, none⟩ = some (.slice none 0 0) ∧ W.cell? ⟨w.heap.size, 5, none⟩ = some (.slice none 0 0) ∧ ∀ j, W.frozen? ⟨w.heap.size, j, none⟩ = false := by
  refine ⟨?_, ?_, ?_, ?_, ?_, ?_, fun j => Lib.frozen_of_heap h.res j⟩
  all_goals (rw [Lib.cell_of_heap h.res]; rfl)
end
abbrev resOf (w : World) : World := w.alloc (.cells #[.int .i64 0, .slice none 0 0, .string ⟨#[]⟩, .slice none 0 0, .slice none 0 0, .slice none 0 0] 31)

theorem kk_start {w w1 : World} {q : St} {ns : List Value} {av bv : Value} (hr : ReadOk (resOf w) w1 q ns av bv) : KkAt w q ns av bv w1.heap.size ((w1.alloc (.cells zeroMol 69)).setCells w1.heap.size 0 (ns ++ [av, bv])) := by
  obtain ⟨h1, h2, oa, ob, hb⟩ := hr
  have hsz : (resOf w).heap.size = w.heap.size + 1 := by simp
  rw [hsz] at hb oa ob
  have hs1 := hb.size
  rw [hsz] at hs1
  have hlen : (ns ++ [av, bv]).length = 26 := by simp [h1]
  have HBL : Below w1.heap.size w1 ((w1.alloc (.cells zeroMol 69)).setCells w1.heap.size 0 (ns ++ [av, bv])) := below_setCells (Nat.le_refl _) _ _ _ ((Below.refl _ w1).alloc (Nat.le_refl _) _)
  have HRA := World.rangeAt_setCells_same (w1.alloc (.cells zeroMol 69)) w1.heap.size 0 (ns ++ [av, bv]) (by rw [hlen]; exact there_new w1)
  have C24 := HRA 24 av (by rw [List.getElem?_append_right (by omega), h1]; rfl)
  refine ⟨(HBL.block _ (by omega)).trans ((hb.block _ (by omega)).trans (heap_alloc_new w _)), HRA, h1, ownsRow_same oa fun k hk => HBL.block k (oa.lt k hk).2, ownsRow_same ob fun k hk => HBL.block k (ob.lt k hk).2, World.block_lt_of_cell? _ ⟨w1.heap.size, 0 + 24, none⟩ C24, ?_⟩
  exact ((Below.refl _ w).alloc (Nat.le_refl _) _).trans ((hb.trans (HBL.mono hs1)).mono (by omega))

set_option maxRecDepth 100000 in
set_option maxHeartbeats 4000000 in
theorem kekulize_any (s : ByteArray) (w : World) (hm : s.size ≤ maxLen) : Calls Tryz.prog 14 #[.string s] w (KkIs s w) := by
  go_enter Tryz.func14, Tryz.ntmps14
  go_wp2_with fail
  refine (read_any s _ hm).mono ?_
  rintro e w1 h
  rcases h with ⟨er, h, he, hne, hb⟩ | ⟨q, ns, av, bv, h, he, hr, ho, hne⟩
  · subst he
    have HP : Hid (Bz.parse s = .error er) := h
    have hsz : (resOf w).heap.size = w.heap.size + 1 := by simp
    rw [hsz] at hb
    have hs1 := hb.size
    rw [hsz] at hs1
    have HT : Hid ((w1.alloc (.cells zeroMol 69)).there w1.heap.size 0 26) := there_new w1
    have HBL : Below (w.heap.size + 1) (resOf w) ((w1.alloc (.cells zeroMol 69)).setCells w1.heap.size 0 zeroMol.toList) := hb.trans ((below_setCells (Nat.le_refl _) _ _ _ ((Below.refl _ w1).alloc (Nat.le_refl _) _)).mono hs1)
    have HRS : Hid (((w1.alloc (.cells zeroMol 69)).setCells w1.heap.size 0 zeroMol.toList).heap[w.heap.size]? = some (.cells #[.int .i64 0, .slice none 0 0, .string ⟨#[]⟩, .slice none 0 0, .slice none 0 0, .slice none 0 0] 31 (0, 0))) := (HBL.block _ (by omega)).trans (heap_alloc_new w _)
    have HB : Hid (Below w.heap.size w ((w1.alloc (.cells zeroMol 69)).setCells w1.heap.size 0 zeroMol.toList)) := ((Below.refl _ w).alloc (Nat.le_refl _) _).trans (HBL.mono (by omega))
    clear h hb hsz hs1 HBL
    go_upto_region 2 with (first | (refine wpList_alloc rfl 69 rfl _ _ (alloc_mol _) ?_; simp only [Act.put, List.setIfInBounds_toArray, List.set_cons_zero, List.set_cons_succ]; have tokS : True := trivial) | (have _t := tokS; go_must (refine wpList_store_mid rfl 69 (.tmp 5) (.tmp 15) rfl w1.heap.size 0 zeroMol (by simp [Act.eval]) (by simp [Act.eval]) HT.out Tryz.sizeMol zeroMol_one ?_); simp only [Act.put]; clear tokS))
    generalize World.setCells _ _ _ _ = W at HRS HB ⊢
    clear HT
    have hne' : ¬ (er.1 = 0) := hne
    have hneb : (er.1 != 0) = true := by simp [hne]
    have r0 : W.cell? ⟨w.heap.size, 0, none⟩ = some (.int .i64 0) := by rw [Lib.cell_of_heap HRS.out]; rfl
    have r1 : W.cell? ⟨w.heap.size, 1, none⟩ = some (.slice none 0 0) := by rw [Lib.cell_of_heap HRS.out]; rfl
    have r2 : W.cell? ⟨w.heap.size, 2, none⟩ = some (.string ⟨#[]⟩) := by rw [Lib.cell_of_heap HRS.out]; rfl
    have r3 : W.cell? ⟨w.heap.size, 3, none⟩ = some (.slice none 0 0) := by rw [Lib.cell_of_heap HRS.out]; rfl
    have r4 : W.cell? ⟨w.heap.size, 4, none⟩ = some (.slice none 0 0) := by rw [Lib.cell_of_heap HRS.out]; rfl
    have r5 : W.cell? ⟨w.heap.size, 5, none⟩ = some (.slice none 0 0) := by rw [Lib.cell_of_heap HRS.out]; rfl
    have rf : ∀ j, W.frozen? ⟨w.heap.size, j, none⟩ = false := fun j => Lib.frozen_of_heap HRS.out j
    have HE : Hid (∀ v0 v1 v2 v3 v4 v5, Below w.heap.size w ((((((W.setCell ⟨w.heap.size, 0, none⟩ v0).setCell ⟨w.heap.size, 1, none⟩ v1).setCell ⟨w.heap.size, 2, none⟩ v2).setCell ⟨w.heap.size, 3, none⟩ v3).setCell ⟨w.heap.size, 4, none⟩ v4).setCell ⟨w.heap.size, 5, none⟩ v5)) := fun v0 v1 v2 v3 v4 v5 =>
      (((((HB.out.setCell (p := ⟨w.heap.size, 0, none⟩) (Nat.le_refl _) _).setCell (p := ⟨w.heap.size, 1, none⟩) (Nat.le_refl _) _).setCell (p := ⟨w.heap.size, 2, none⟩) (Nat.le_refl _) _).setCell (p := ⟨w.heap.size, 3, none⟩) (Nat.le_refl _) _).setCell (p := ⟨w.heap.size, 4, none⟩) (Nat.le_refl _) _).setCell (p := ⟨w.heap.size, 5, none⟩) (Nat.le_refl _) _
    clear HRS HB
    go_wp2_with fail
    refine bodyPost_ret (v := .tuple #[.agg #[.int .i64 0, .slice none 0 0, .string ⟨#[]⟩, .slice none 0 0, .slice none 0 0, .slice none 0 0], .int .i64 er.1, .int .i64 er.2]) ?_ rfl (Or.inl ⟨er, HP.out, rfl, hne, HE.out _ _ _ _ _ _⟩)
    simp only [results, Tryz.results14]
    go_simp
  · subst he
    have hKK := kk_start hr
    obtain ⟨h1, h2, oa, ob, hb⟩ := hr
    obtain ⟨hs, en⟩ := parse_en h
    have hac := parse_ac h
    have hone : ∀ v ∈ ns ++ [av, bv], v.oneCell' = true := by
      intro v hv
      rcases List.mem_append.1 hv with hv | hv
      · exact h2 v hv
      · obtain ⟨x, y, rfl⟩ := ownsRow_shape oa
        obtain ⟨x', y', rfl⟩ := ownsRow_shape ob
        simp at hv
        rcases hv with rfl | rfl <;> rfl
    have HT : Hid ((w1.alloc (.cells zeroMol 69)).there w1.heap.size 0 26) := there_new w1
    have HK : Hid (KkAt w q ns av bv w1.heap.size ((w1.alloc (.cells zeroMol 69)).setCells w1.heap.size 0 (ns ++ [av, bv]))) := hKK
    have HONE : Hid ((ns ++ [av, bv]).toArray.all (·.oneCell') = true) := all_oneCell_toArray hone
    have HSI : Hid (26 = (ns ++ [av, bv]).length) := by show _ = _; simp [h1]
    have HP : Hid (Bz.parse s = .ok (q.atoms, q.bonds)) := h
    have HO : Hid (Ok s q) := ho
    have HEN : Hid (En q.atoms.length q.bonds s.size) := en
    have HAC : Hid (Ascii s.data.toList) := hac
    clear h1 h2 oa ob hb hone h ho en hac hKK
    generalize hcs : ns ++ [av, bv] = cs at *
    go_upto_region 2 with (first | (refine wpList_alloc rfl 69 rfl _ _ (alloc_mol _) ?_; simp only [Act.put, List.setIfInBounds_toArray, List.set_cons_zero, List.set_cons_succ]; have tokS : True := trivial) | (have _t := tokS; go_must (refine wpList_store_mid rfl 69 (.tmp 5) (.tmp 15) rfl w1.heap.size 0 cs.toArray (by simp [Act.eval]) (by simp [Act.eval]) (by simp only [List.size_toArray, ← HSI.out]; exact HT.out) (by simp only [List.size_toArray, ← HSI.out]; exact Tryz.sizeMol) HONE.out ?_); simp only [Act.put]; clear tokS))
    generalize World.setCells _ _ _ _ = W at HK ⊢
    generalize w1.heap.size = M at HK ⊢
    clear HT
    have HCS : Hid (ns ++ [av, bv] = cs) := hcs
    clear hcs
    have CA := candidates_any HK.out.kd HO.out hs HEN.out
    have hal := HO.out.atoms
    go_wp2_with fail
    refine CA.mono ?_
    rintro e w2 ⟨nr, hnr, rfl, hb2⟩
    clear CA
    have hed := candEdges_ok HEN.out
    have HTH : Hid ((w2.alloc (.cells (nearCells fun _ => 0).toArray 65)).there w2.heap.size 0 24) := near_there _ _ _
    have HRG : Hid (((w2.alloc (.cells (nearCells fun _ => 0).toArray 65)).setCells w2.heap.size 0 (nearCells nr)).rangeAt w2.heap.size 0 (nearCells nr)) := gr_there _ _ _
    have hB3 : Below w2.heap.size w2 ((w2.alloc (.cells (nearCells fun _ => 0).toArray 65)).setCells w2.heap.size 0 (nearCells nr)) := below_cells (Nat.le_refl _) _ _ _ ((Below.refl _ w2).alloc (Nat.le_refl _) _)
    have HK3 : Hid (KkAt w q ns av bv M ((w2.alloc (.cells (nearCells fun _ => 0).toArray 65)).setCells w2.heap.size 0 (nearCells nr))) := (HK.out.on hb2).on hB3
    have GM := greatest_any ((w2.alloc (.cells (nearCells fun _ => 0).toArray 65)).setCells w2.heap.size 0 (nearCells nr)) (nr := nr) (g := grL q.atoms.length (candEdges q q.bonds)) hnr (hed.gr hal)
    rw [show (((grL q.atoms.length (candEdges q q.bonds)).n : Nat) : Int) = (q.atoms.length : Int) from rfl] at GM
    clear hnr hed hb2 hB3 HK
    go_upto_region 5 with (first | (refine wpList_alloc rfl 65 rfl _ _ (alloc_gr0 _) ?_; simp only [Act.put, List.setIfInBounds_toArray, List.set_cons_zero, List.set_cons_succ]) | (refine wpList_store_mid rfl 65 (.tmp 8) (.tmp 25) rfl w2.heap.size 0 (nearCells nr).toArray (by simp [Act.eval]) (by simp [Act.eval]) (by rw [near_size]; with_reducible exact HTH.out) (by rw [near_size]; exact Tryz.sizeGraph) (near_one _) ?_; simp only [Act.put]))
    generalize World.setCells _ _ _ _ = w3 at HRG HK3 GM ⊢
    generalize w2.heap.size = L at HRG ⊢
    clear HTH
    have c24 := HK3.out.c24
    obtain ⟨aso, acap, rfl⟩ := ownsRow_shape HK3.out.atoms
    go_wp2_with (refine wpList_load_mid rfl 65 (.tmp 8) rfl L 0 (by simp [Act.eval]) (nearCells nr) _ HRG.out Tryz.underlying65 rfl (by rw [Tryz.sizeGraph, nearCells_len]) ?_; simp only [Act.put, List.setIfInBounds_toArray, List.set_cons_zero, List.set_cons_succ])
    refine GM.mono ?_
    rintro e w4 ⟨mate, f, gh, hbest, pv, uv, rfl, hP, hU, hb4⟩
    clear GM
    have hK4 := HK3.out.on hb4
    have hpl : (pairsF q.atoms.length mate).length ≤ q.atoms.length := prOf_len mate _
    have hP : Prs w4 w3.heap.size pv (pairsF q.atoms.length mate) := hP
    have hU : Ints w4 w3.heap.size uv (barF q.atoms.length f) := hU
    obtain ⟨pso, pcap, rfl⟩ := ownsRow_shape hP
    obtain ⟨uso, ucap, rfl⟩ := hU.shape
    obtain ⟨r0, r1, r2, r3, r4, r5, rf⟩ := hK4.cells
    have hlt3 : w.heap.size < w3.heap.size := HK3.out.rlt
    have HBE : Hid (Best (grL q.atoms.length (candEdges q q.bonds)) mate f gh) := hbest
    have HPU : Hid (Prs w4 w3.heap.size (.slice pso (pairsF q.atoms.length mate).length pcap) (pairsF q.atoms.length mate) ∧ Ints w4 w3.heap.size (.slice uso (barF q.atoms.length f).length ucap) (barF q.atoms.length f)) := ⟨hP, hU⟩
    have HK4 : Hid (KkAt w q ns (.slice aso q.atoms.length acap) bv M w4) := hK4
    by_cases hlt : 2 * (pairsF q.atoms.length mate).length < cnt q.atoms.length (cand q)
    · have hlt' : 2 * ((pairsF q.atoms.length mate).length : Int) < (cnt q.atoms.length (cand q) : Int) := by omega
      have HE : Hid (∀ v0 v1 v2 v3 v4 v5, KkBar w q.atoms.length mate f (.returned (.tuple #[.agg #[.int .i64 2, .slice none 0 0, .string ⟨#[]⟩, .slice none 0 0, .slice pso (pairsF q.atoms.length mate).length pcap, .slice uso (barF q.atoms.length f).length ucap], .int .i64 0, .int .i64 0])) ((((((w4.setCell ⟨w.heap.size, 0, none⟩ v0).setCell ⟨w.heap.size, 1, none⟩ v1).setCell ⟨w.heap.size, 2, none⟩ v2).setCell ⟨w.heap.size, 3, none⟩ v3).setCell ⟨w.heap.size, 4, none⟩ v4).setCell ⟨w.heap.size, 5, none⟩ v5) (.slice pso (pairsF q.atoms.length mate).length pcap) (.slice uso (barF q.atoms.length f).length ucap)) := fun v0 v1 v2 v3 v4 v5 => by
        refine ⟨rfl, ownsRow_mono (base := w3.heap.size) ?_ (by omega), ownsRow_mono (base := w3.heap.size) ?_ (by omega), ?_⟩
        · exact ownsRow_setCell_below (ownsRow_setCell_below (ownsRow_setCell_below (ownsRow_setCell_below (ownsRow_setCell_below (ownsRow_setCell_below hP hlt3 _) hlt3 _) hlt3 _) hlt3 _) hlt3 _) hlt3 _
        · exact ownsRow_setCell_below (ownsRow_setCell_below (ownsRow_setCell_below (ownsRow_setCell_below (ownsRow_setCell_below (ownsRow_setCell_below hU hlt3 _) hlt3 _) hlt3 _) hlt3 _) hlt3 _) hlt3 _
        · exact (((((hK4.below.setCell (p := ⟨w.heap.size, 0, none⟩) (Nat.le_refl _) _).setCell (p := ⟨w.heap.size, 1, none⟩) (Nat.le_refl _) _).setCell (p := ⟨w.heap.size, 2, none⟩) (Nat.le_refl _) _).setCell (p := ⟨w.heap.size, 3, none⟩) (Nat.le_refl _) _).setCell (p := ⟨w.heap.size, 4, none⟩) (Nat.le_refl _) _).setCell (p := ⟨w.heap.size, 5, none⟩) (Nat.le_refl _) _
      clear hP hU hb4 hK4 hbest HK3 HK4 HPU c24
      go_wp2_with fail
      refine bodyPost_ret (v := .tuple #[.agg #[.int .i64 2, .slice none 0 0, .string ⟨#[]⟩, .slice none 0 0, .slice pso (pairsF q.atoms.length mate).length pcap, .slice uso (barF q.atoms.length f).length ucap], .int .i64 0, .int .i64 0]) ?_ rfl (Or.inr ⟨q, mate, f, gh, HP.out, HO.out, HEN.out, hs, hne, HBE.out, Or.inl ⟨hlt, _, _, HE.out _ _ _ _ _ _⟩⟩)
      simp only [results, Tryz.results14]
      go_simp
    · have hlt' : ¬ 2 * ((pairsF q.atoms.length mate).length : Int) < (cnt q.atoms.length (cand q) : Int) := by omega
      have DN := done_any (s := s) hK4.len hK4.atoms hK4.bonds HO.out HEN.out hs HAC.out (NPr.of hP) (by omega)
      rw [HCS.out] at DN
      have HM : Hid (w4.rangeAt M 0 cs) := by
        have := hK4.m
        rw [HCS.out] at this
        exact this
      clear hP hU hb4 hK4 hbest HK3 c24
      go_wp2_with (refine wpList_load_mid rfl 69 (.tmp 5) rfl M 0 (by simp [Act.eval]) cs _ HM.out Tryz.underlying69 rfl (by rw [← HSI.out]; exact Tryz.sizeMol) ?_; simp only [Act.put, List.setIfInBounds_toArray, List.set_cons_zero, List.set_cons_succ])
      refine DN.mono ?_
      rintro e w5 ⟨ov, cv, rfl, hO, hC, hne5, hb5⟩
      clear DN HM
      have hlt4 : w.heap.size < w4.heap.size := HK4.out.rlt
      obtain ⟨oso, ocap, rfl⟩ := hO.shape
      obtain ⟨cso, ccap, rfl⟩ := hC.shape
      obtain ⟨r0, r1, r2, r3, r4, r5, rf⟩ := (HK4.out.on hb5).cells
      have hB5 := (HK4.out.on hb5).below
      have HE : Hid (∀ v0 v1 v2 v3 v4 v5, KkDone s w q (q.bonds.map (ordN (pairsF q.atoms.length mate))) (.returned (.tuple #[.agg #[.int .i64 1, .slice oso (q.bonds.map (ordN (pairsF q.atoms.length mate))).length ocap, .string ⟨(wrL s.data.toList q.bonds (q.bonds.map (ordN (pairsF q.atoms.length mate)))).toArray⟩, .slice cso (List.range q.atoms.length).length ccap, .slice none 0 0, .slice none 0 0], .int .i64 0, .int .i64 0])) ((((((w5.setCell ⟨w.heap.size, 0, none⟩ v0).setCell ⟨w.heap.size, 1, none⟩ v1).setCell ⟨w.heap.size, 2, none⟩ v2).setCell ⟨w.heap.size, 3, none⟩ v3).setCell ⟨w.heap.size, 4, none⟩ v4).setCell ⟨w.heap.size, 5, none⟩ v5) (.slice oso (q.bonds.map (ordN (pairsF q.atoms.length mate))).length ocap) (.slice cso (List.range q.atoms.length).length ccap)) := fun v0 v1 v2 v3 v4 v5 => by
        refine ⟨rfl, ownsRow_mono (base := w4.heap.size) ?_ (by omega), ownsRow_mono (base := w4.heap.size) ?_ (by omega), hne5, ?_⟩
        · exact ownsRow_setCell_below (ownsRow_setCell_below (ownsRow_setCell_below (ownsRow_setCell_below (ownsRow_setCell_below (ownsRow_setCell_below hO hlt4 _) hlt4 _) hlt4 _) hlt4 _) hlt4 _) hlt4 _
        · exact ownsRow_setCell_below (ownsRow_setCell_below (ownsRow_setCell_below (ownsRow_setCell_below (ownsRow_setCell_below (ownsRow_setCell_below hC hlt4 _) hlt4 _) hlt4 _) hlt4 _) hlt4 _) hlt4 _
        · exact (((((hB5.setCell (p := ⟨w.heap.size, 0, none⟩) (Nat.le_refl _) _).setCell (p := ⟨w.heap.size, 1, none⟩) (Nat.le_refl _) _).setCell (p := ⟨w.heap.size, 2, none⟩) (Nat.le_refl _) _).setCell (p := ⟨w.heap.size, 3, none⟩) (Nat.le_refl _) _).setCell (p := ⟨w.heap.size, 4, none⟩) (Nat.le_refl _) _).setCell (p := ⟨w.heap.size, 5, none⟩) (Nat.le_refl _) _
      clear hO hC hne5 hb5 hB5 HK4 HPU
      obtain ⟨os, hos⟩ : ∃ os, q.bonds.map (ordN (pairsF q.atoms.length mate)) = os := ⟨_, rfl⟩
      obtain ⟨rl, hrl⟩ : ∃ rl, (List.range q.atoms.length).length = rl := ⟨_, rfl⟩
      rw [hos, hrl] at HE ⊢
      have HOS : Hid (q.bonds.map (ordN (pairsF q.atoms.length mate)) = os) := hos
      clear hos hrl
      go_wp2_with fail
      refine bodyPost_ret (v := .tuple #[.agg #[.int .i64 1, .slice oso os.length ocap, .string ⟨(wrL s.data.toList q.bonds os).toArray⟩, .slice cso rl ccap, .slice none 0 0, .slice none 0 0], .int .i64 0, .int .i64 0]) ?_ rfl (Or.inr ⟨q, mate, f, gh, HP.out, HO.out, HEN.out, hs, hne, HBE.out, Or.inr ⟨hlt, _, _, by rw [HOS.out]; exact HE.out _ _ _ _ _ _⟩⟩)
      simp only [results, Tryz.results14]
      go_simp
end Go.Proofs.YtcabaecbmkgclaaGreatDoor.Kd
namespace Go.Proofs.YtcabaecbmkgclaaGreatDoor.Kd
open Go.RowKit Bz Mt Mg Rf
theorem cnt_mono {n : Nat} {p q : Nat → Bool} (h : ∀ k, k < n → p k = true → q k = true) : cnt n p ≤ cnt n q := by
  induction n with
  | zero => exact Nat.le_refl _
  | succ n ih =>
    have := ih fun k hk => h k (by omega)
    rw [cnt, cnt]
    have hn := h n (by omega)
    cases hp : p n
    · simp; omega
    · rw [hn hp]; simp; omega

theorem cnt_not (n : Nat) (p : Nat → Bool) : cnt n p + cnt n (fun k => !p k) = n := by
  have := cnt_split n (fun _ => true) p
  rw [cnt_all] at this
  simp only [Bool.true_and] at this
  have e : cnt n (fun k => p k) = cnt n p := rfl
  omega

theorem pairs_two {g : Gr} {mate : Nat → Option Nat} (G : GrOk g) (M : MtOk g mate) : 2 * (pairsF g.n mate).length + cnt g.n (fun x => (mate x).isNone) = g.n := by
  have h3 := pairs_count G M
  have e1 : (pairsF g.n mate).length = cnt g.n (fun v => (mate v).isSome && decide (v < mateOf mate v)) := by
    unfold pairsF
    rw [List.length_map, cnt_len]
  omega

section
variable {p : St} {n pos : Nat} {mate : Nat → Option Nat} {f : Fo} {h : Gh}
theorem mate_cand (hB : MtOk (grL n (candEdges p p.bonds)) mate) {x : Nat} (hx : (mate x).isSome = true) : cand p x = true := by
  obtain ⟨y, hy⟩ := Option.isSome_iff_exists.1 hx
  exact (candEdges_in x y (hB.adj x y hy)).1

theorem best_up (E : EdOk n (candEdges p p.bonds)) (hn : n ≤ 24) (hB : Best (grL n (candEdges p p.bonds)) mate f h) : 2 * (pairsF n mate).length ≤ cnt n (cand p) := by
  have h1 : 2 * (pairsF n mate).length + cnt n (fun x => (mate x).isNone) = n := pairs_two (E.gr hn) hB.m
  have h2 : cnt n (fun k => !cand p k) ≤ cnt n (fun x => (mate x).isNone) := cnt_mono fun k _ hk => by
    cases hm : mate k with
    | none => rfl
    | some y =>
      have := mate_cand hB.m (x := k) (by rw [hm]; rfl)
      rw [this] at hk
      cases hk
  have h3 := cnt_not n (cand p)
  omega

theorem best_lo (E : EdOk n (candEdges p p.bonds)) (hn : n ≤ 24) (hB : Best (grL n (candEdges p p.bonds)) mate f h) {m2 : Nat → Option Nat} (M2 : MtOk (grL n (candEdges p p.bonds)) m2) (hall : ∀ i, i < n → cand p i = true → (m2 i).isSome = true) : cnt n (cand p) ≤ 2 * (pairsF n mate).length := by
  have h1 : 2 * (pairsF n mate).length + cnt n (fun x => (mate x).isNone) = n := pairs_two (E.gr hn) hB.m
  have h2 : cnt n (fun x => (mate x).isNone) ≤ cnt n (fun x => (m2 x).isNone) := no_more (E.gr hn) hB.m hB.inv hB.shut M2
  have h4 : cnt n (fun x => (m2 x).isNone) ≤ cnt n (fun k => !cand p k) := cnt_mono fun k hk hm => by
    cases hc : cand p k with
    | false => rfl
    | true =>
      have := hall k hk hc
      cases h2k : m2 k with
      | none => rw [h2k] at this; cases this
      | some y => rw [h2k] at hm; cases hm
  have h3 := cnt_not n (cand p)
  omega
end
/-- Of the orders, as many are double as there are pairs, where no other bond is. -/
theorem two_count (P : List (Nat × Nat)) (l : List Bnd) (h4 : ∀ b ∈ l, b.o = 4) : ((l.map (ordN P)).filter fun x => x == 2).length = (l.filter fun b => b.o == 4 && decide ((b.a, b.b) ∈ P)).length := by
  induction l with
  | nil => rfl
  | cons b l ih =>
    have hb := h4 b (by simp)
    have e : (ordN P b == 2) = (b.o == 4 && decide ((b.a, b.b) ∈ P)) := by
      unfold ordN
      rw [if_pos hb, hb]
      by_cases hm : (b.a, b.b) ∈ P <;> simp [hm]
    rw [List.map_cons, List.filter_cons, List.filter_cons, e]
    have := ih fun x hx => h4 x (by simp [hx])
    split <;> simp [this]
end Go.Proofs.YtcabaecbmkgclaaGreatDoor.Kd
