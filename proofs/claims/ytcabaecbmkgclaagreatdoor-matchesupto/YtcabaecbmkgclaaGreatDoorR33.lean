/-
  What the document's Graph and Odd do.
  What the document's Greatest does with what a search found.
-/
import Derived.Test.YtcabaecbmkgclaaGreatDoorR32
namespace Go.Proofs.YtcabaecbmkgclaaGreatDoor.Rf
open Go.RowKit Mt Mg
set_option maxRecDepth 100000 in
set_option maxHeartbeats 1000000 in
theorem rgraph_any (w : World) {v : Value} {l : List (Int × Int)} (h : IPr w v l) (n : Int) (hl : l.length ≤ 1000000000000000) :
    Calls Tryz.prog 47 #[.int .i64 n, v] w fun e w' => e = .returned (.bool (okG n l)) ∧ Below w.heap.size w w' := by
  have HR : Hid (IPr w v l) := h
  obtain ⟨so, cap, hv, hcc⟩ := h
  subst hv
  clear hcc
  by_cases hn0 : n < 0
  · have HE : Hid (okG n l = false) := (by unfold okG; rw [decide_eq_false (by omega)]; rfl : okG n l = false)
    go_enter Tryz.func47, Tryz.ntmps47
    go_wp2_with fail
    go_ret
    exact ⟨by rw [HE.out]; rfl, Below.refl _ _⟩
  · by_cases hn24 : n > 24
    · have HE : Hid (okG n l = false) := (by unfold okG; rw [decide_eq_false (p := n ≤ 24) (by omega)]; simp : okG n l = false)
      go_enter Tryz.func47, Tryz.ntmps47
      go_wp2_with fail
      go_ret
      exact ⟨by rw [HE.out]; rfl, Below.refl _ _⟩
    · go_enter Tryz.func47, Tryz.ntmps47
      go_wp2_with fail
      go_loopg [5] (l.length + 1) (fun k v5 wr => ∃ i : Nat, i ≤ l.length ∧ l.length - i < k ∧ v5 = .int .i64 (i : Nat) ∧ (l.take i).all (edgeOk n) = true ∧ Below w.heap.size w wr)
      case atStart => exact ⟨0, by omega, by omega, rfl, rfl, Below.refl _ _⟩
      case round =>
        obtain ⟨i, hi, hk, rfl, hall, hb⟩ := hrel
        have HAL : Hid ((l.take i).all (edgeOk n) = true) := hall
        have HB : Hid (Below w.heap.size w wr) := hb
        clear hall hb
        by_cases hlt : i < l.length
        · have hlt' : (i : Int) < (l.length : Int) := by omega
          obtain ⟨x, y, gi⟩ : ∃ x y, l[i]? = some (x, y) := ⟨_, _, List.getElem?_eq_getElem hlt⟩
          obtain ⟨so', cap', es, hx⟩ := HR.out.below HB.out
          simp only [Value.slice.injEq, true_and] at es
          obtain ⟨rfl, rfl⟩ := es
          obtain ⟨bb, oo, rfl, c0, c1⟩ := hx i x y gi
          have HGI : Hid (l[i]? = some (x, y)) := gi
          have HB2 : Hid (∀ ob, Below w.heap.size w (wr.alloc ob)) := fun ob => HB.out.alloc HB.out.size ob
          clear gi hx
          by_cases k1 : x < 0
          · have HE : Hid (okG n l = false) := okG_bad HGI.out (edgeOk_1 (by unfold inR; exact decide_eq_false (by omega)))
            go_wp2_with fail
            go_ret
            exact ⟨by rw [HE.out]; rfl, HB2.out _⟩
          · by_cases k2 : x ≥ n
            · have HE : Hid (okG n l = false) := okG_bad HGI.out (edgeOk_1 (by unfold inR; exact decide_eq_false (by omega)))
              go_wp2_with fail
              go_ret
              exact ⟨by rw [HE.out]; rfl, HB2.out _⟩
            · by_cases k3 : y < 0
              · have HE : Hid (okG n l = false) := okG_bad HGI.out (edgeOk_2 (by unfold inR; exact decide_eq_false (by omega)))
                go_wp2_with fail
                go_ret
                exact ⟨by rw [HE.out]; rfl, HB2.out _⟩
              · by_cases k4 : y ≥ n
                · have HE : Hid (okG n l = false) := okG_bad HGI.out (edgeOk_2 (by unfold inR; exact decide_eq_false (by omega)))
                  go_wp2_with fail
                  go_ret
                  exact ⟨by rw [HE.out]; rfl, HB2.out _⟩
                · cases k5 : (x == y)
                  · have HN : Hid ((l.take (i + 1)).all (edgeOk n) = true) := by
                      unfold Hid
                      rw [take_snoc HGI.out, List.all_append, HAL.out]
                      simp [edgeOk_yes (n := n) (x := x) (y := y) (inR_iff.2 ⟨by omega, by omega⟩) (inR_iff.2 ⟨by omega, by omega⟩) k5]
                    go_wp2_with fail
                    go_roundg (l.length - i)
                    case measure => omega
                    case rel => exact ⟨i + 1, by omega, by omega, by go_num, HN.out, HB2.out _⟩
                  · have HE : Hid (okG n l = false) := okG_bad HGI.out (edgeOk_3 k5)
                    go_wp2_with fail
                    go_ret
                    exact ⟨by rw [HE.out]; rfl, HB2.out _⟩
        · have hlt' : ¬ (i : Int) < (l.length : Int) := by omega
          have HE : Hid (okG n l = true) := by
            have := HAL.out
            rw [List.take_of_length_le (by omega)] at this
            unfold Hid okG
            rw [this, decide_eq_true (by omega), decide_eq_true (by omega)]
            rfl
          go_wp2_with fail
          go_ret
          exact ⟨by rw [HE.out]; rfl, HB.out⟩

/-- Booleans in a new block U. -/
structure GrS (w wr : World) (U n : Nat) (u : Nat → Bool) : Prop where
  bls : Bls wr U n u
  below : Below w.heap.size w wr
  le : w.heap.size ≤ U
  lt : U < wr.heap.size

theorem GrS.on {w wr w' : World} {U n : Nat} {u : Nat → Bool} (h : GrS w wr U n u) (hb : Below wr.heap.size wr w') : GrS w w' U n u :=
  ⟨h.bls.same (hb.block U h.lt), h.below.trans (hb.mono h.below.size), h.le, Nat.lt_of_lt_of_le h.lt hb.size⟩
theorem GrS.alloc {w wr : World} {U n : Nat} {u : Nat → Bool} (h : GrS w wr U n u) (ob : Obj) : GrS w (wr.alloc ob) U n u := h.on ((Below.refl _ wr).alloc (Nat.le_refl _) _)
theorem GrS.drewN {w wr : World} {U n : Nat} {u : Nat → Bool} (h : GrS w wr U n u) (m : Nat) : GrS w (wr.drewN m) U n u := ⟨h.bls.same rfl, ⟨h.below.os, h.below.tape, h.below.output, h.below.size, h.below.block⟩, h.le, h.lt⟩
theorem GrS.set {w wr : World} {U n : Nat} {u : Nat → Bool} (h : GrS w wr U n u) {a : Nat} (ha : a < n) (b : Bool) : GrS w (wr.setCell ⟨U, a, none⟩ (.bool b)) U n (setAt u a b) :=
  ⟨h.bls.set ha b, h.below.setCell (p := ⟨U, a, none⟩) h.le _, h.le, by simpa using h.lt⟩
theorem GrS.grown {w wr w' : World} {U n : Nat} {u : Nat → Bool} {row : Option Nat} (h : GrS w wr U n u) (hg : wr.grownBy w' row) (h1 : ∀ k, row = some k → w.heap.size ≤ k) (h2 : row ≠ some U) : GrS w w' U n u :=
  ⟨h.bls.same (hg.block U h.lt (fun e => h2 e.symm)), h.below.grown hg h.below.size h1, h.le, Nat.lt_of_lt_of_le h.lt hg.size⟩

/-- What Odd hands back. -/
def OdIs (w : World) (n : Nat) (l : List (Nat × Nat)) (blk : Nat → Bool) (e : Ending) (w' : World) : Prop :=
  ∃ S name, Bf (grL n l) blk n S name ∧ e = .returned (.int .i64 (total n (fun a => pieceCnt n S name a % 2) : Nat)) ∧ Below w.heap.size w w'

theorem odd_sum (n m : Nat) (S : Nat → Bool) (name : Nat → Nat) : total m (fun a => pieceCnt n S name a % 2) ≤ m := by
  have := total_le (n := m) (m := 1) (f := fun a => pieceCnt n S name a % 2) fun k _ => by omega
  omega

def blkOf (inn out : Nat → Bool) (k : Nat) : Bool := !inn k || out k

theorem rem2 (C : Nat) : Int.tmod (C : Int) 2 = ((C % 2 : Nat) : Int) := rfl

set_option maxRecDepth 100000 in
set_option maxHeartbeats 4000000 in
theorem rodd_any (w : World) {v : Value} {l : List (Nat × Nat)} (h : NPr w v l) {I O n ic oc : Nat} {inn out : Nat → Bool} (hI : Bls w I n inn) (hO : Bls w O n out) (hn : n ≤ 24) (E : EdOk n l) (hl : l.length ≤ 1000000000000000) :
    Calls Tryz.prog 77 #[.int .i64 (n : Int), v, .slice (some ⟨I, 0, none⟩) n ic, .slice (some ⟨O, 0, none⟩) n oc] w fun e w' => OdIs w n l (blkOf inn out) e w' := by
  obtain ⟨b0, hb0, hbz0, hbz1, hbz2⟩ := info_parts Tryz.infoBool
  obtain ⟨i0, hi0, hz0, hz1, hz2⟩ := info_parts Tryz.infoInt
  have HR : Hid (NPr w v l) := h
  have HIn : Hid (Bls w I n inn) := hI
  have HO : Hid (Bls w O n out) := hO
  have HG : Hid (GrOk (grL n l)) := E.gr hn
  obtain ⟨so, cap, hv, hcap, hcc⟩ := h
  subst hv
  clear hcc hO hI E
  go_enter Tryz.func77, Tryz.ntmps77
  go_wp2_with (at_make; go_must (refine wpList_make_full _ rfl _ _ 129 rfl w.heap.size 4 b0 (.bool false) 1 Tryz.underlying129 hb0 hbz0 hbz1 .i64 .i64 _ _ n rfl rfl rfl rfl ?c1 ?c2 ?c3 ?_))
  case c1 => rw [hbz2]; omega
  case c2 => unfold maxLen; omega
  case c3 => exact Nat.le_refl _
  intro w1 hown hgrow
  have HST : Hid (GrS w w1 w.heap.size n fun _ => false) := ⟨Bls.made hown, (Below.refl _ w).grown hgrow (Nat.le_refl _) (by simp), Nat.le_refl _, (hown.lt _ rfl).2⟩
  clear hown hgrow
  generalize w.heap.size = Z at HST ⊢
  go_wp2_with fail
  go_loopg [10, 11] 26 (fun k v10 v11 wr => ∃ (i : Nat) (S : Nat → Bool) (name : Nat → Nat), i ≤ n ∧ 25 - i ≤ k ∧ v11 = .int .i64 (i : Nat) ∧ v10 = .int .i64 (total i (fun a => pieceCnt n S name a % 2) : Nat) ∧ GrS w wr Z n S ∧ Bf (grL n l) (blkOf inn out) i S name)
  case atStart => exact ⟨0, fun _ => false, fun k => k, by omega, by omega, rfl, rfl, HST.out, Bf.start _ _⟩
  case round =>
    clear HST
    obtain ⟨i, S, name, hi, hk, rfl, rfl, hat, hbf⟩ := hrel
    have HAT : Hid (GrS w wr Z n S) := hat
    have HBF : Hid (Bf (grL n l) (blkOf inn out) i S name) := hbf
    have hsum := odd_sum n i S name
    clear hat hbf
    by_cases hlt : i < n
    · have hlt' : (i : Int) < (n : Int) := by omega
      have si := HAT.out.bls.cell i hlt
      have ii := (HIn.out.below (by omega) HAT.out.below).cell i hlt
      have oi := (HO.out.below (by omega) HAT.out.below).cell i hlt
      cases hsi : S i
      · rw [hsi] at si
        cases hii : inn i
        · rw [hii] at ii
          have HWH : Hid (blkOf inn out i = true) := (by unfold blkOf; rw [hii]; rfl : blkOf inn out i = true)
          clear hsi hii
          have HN : Hid (Bf (grL n l) (blkOf inn out) (i + 1) S name ∧ total (i + 1) (fun a => pieceCnt n S name a % 2) = total i (fun a => pieceCnt n S name a % 2)) := ⟨HBF.out.skip (.inr HWH.out), by
            show total i (fun a => pieceCnt n S name a % 2) + pieceCnt n S name i % 2 = _
            rw [show pieceCnt n S name i = 0 from HBF.out.none (Nat.le_refl _)]
            rfl⟩
          generalize total i (fun a => pieceCnt n S name a % 2) = T at hsum HN ⊢
          go_wp2_with fail
          go_roundg (25 - (i + 1))
          case measure => omega
          case rel => exact ⟨i + 1, S, name, by omega, Nat.le_refl _, by go_num, by rw [HN.out.2], HAT.out, HN.out.1⟩
        · rw [hii] at ii
          cases hoi : out i
          · rw [hoi] at oi
            have fz := HAT.out.bls.free i
            have HBS : Hid (Bi (grL n l) (blkOf inn out) i S 0 0 (setAt S i true) [i]) := Bi.start hsi (by unfold blkOf; rw [hii, hoi]; rfl) hlt
            have HSI : Hid (S i = false) := hsi
            have hzl := HAT.out.lt
            have HG1 : Hid (GrS w ((wr.setCell ⟨Z, i, none⟩ (.bool true)).alloc (.cells #[.int .i64 (i : Int)] 3)) Z n (setAt S i true)) := (HAT.out.set hlt true).alloc _
            have HI1 : Hid (Ints ((wr.setCell ⟨Z, i, none⟩ (.bool true)).alloc (.cells #[.int .i64 (i : Int)] 3)) (Z + 1) (.slice (some ⟨wr.heap.size, 0, none⟩) 1 1) [i]) := by
              have := ints_fresh (wr.setCell ⟨Z, i, none⟩ (.bool true)) [i] (by unfold maxLen; simp)
              have e : (wr.setCell ⟨Z, i, none⟩ (.bool true)).heap.size = wr.heap.size := by simp
              rw [e] at this
              exact ownsRow_mono this (by omega)
            clear hsi hii hoi
            go_wp2_with fail
            go_loopg [12, 13] 26 (fun k v12 v13 wx => ∃ (m : Nat) (S' : Nat → Bool) (piece : List Nat), m ≤ piece.length ∧ 25 - m ≤ k ∧ v13 = .int .i64 (m : Nat) ∧ Ints wx (Z + 1) v12 piece ∧ GrS w wx Z n S' ∧ Bi (grL n l) (blkOf inn out) i S m 0 S' piece)
            case atStart => exact ⟨0, setAt S i true, [i], by simp, by omega, rfl, HI1.out, HG1.out, HBS.out⟩
            case round =>
              clear HBS HG1 HI1 HAT si ii oi fz hzl
              obtain ⟨m, S', piece, hm, hk2, rfl, hin, hat, hbi⟩ := hrel
              have HAT : Hid (GrS w wr Z n S') := hat
              have HIN : Hid (Ints wr (Z + 1) _ piece) := hin
              have HBI : Hid (Bi (grL n l) (blkOf inn out) i S m 0 S' piece) := hbi
              have hpl : piece.length ≤ n := hbi.len
              obtain ⟨po, pc, hs⟩ := hin.shape
              subst hs
              clear hat hin hbi
              by_cases hml : m < piece.length
              · have hml' : (m : Int) < (piece.length : Int) := by omega
                obtain ⟨x, px⟩ : ∃ x, piece[m]? = some x := ⟨_, List.getElem?_eq_getElem hml⟩
                have HPX : Hid (piece[m]? = some x) := px
                clear px
                go_wp2_with fail
                go_loopg [12, 14] 26 (fun k v12 v14 wx => ∃ (j : Nat) (S' : Nat → Bool) (piece : List Nat), j ≤ n ∧ 25 - j ≤ k ∧ v14 = .int .i64 (j : Nat) ∧ piece[m]? = some x ∧ Ints wx (Z + 1) v12 piece ∧ GrS w wx Z n S' ∧ Bi (grL n l) (blkOf inn out) i S m j S' piece)
                case atStart => exact ⟨0, S', piece, by omega, by omega, rfl, HPX.out, HIN.out, HAT.out, HBI.out⟩
                case round =>
                  clear HPX HIN HAT HBI hm hml hml' hpl
                  obtain ⟨j, S', piece, hj, hk3, rfl, hpx, hin, hat, hbi⟩ := hrel
                  have HAT : Hid (GrS w wr Z n S') := hat
                  have HIN : Hid (Ints wr (Z + 1) _ piece) := hin
                  have HBI : Hid (Bi (grL n l) (blkOf inn out) i S m j S' piece) := hbi
                  have hpl : piece.length ≤ n := hbi.len
                  have HPX : Hid (piece[m]? = some x) := hpx
                  have hml : m < piece.length := (List.getElem?_eq_some_iff.1 hpx).1
                  have hml' : (m : Int) < (piece.length : Int) := by omega
                  obtain ⟨gg, gc, es, hgz, hgl, cx⟩ := hin.at hpx
                  subst es
                  clear hat hin hbi hpx
                  by_cases hjn : j < n
                  · have hjn' : (j : Int) < (n : Int) := by omega
                    have RE := redge_any wr (HR.out.below HAT.out.below) x j hl
                    have sj := HAT.out.bls.cell j hjn
                    have ij := (HIn.out.below (by omega) HAT.out.below).cell j hjn
                    have oj := (HO.out.below (by omega) HAT.out.below).cell j hjn
                    cases hadj : adjL l x j
                    · rw [hadj] at RE
                      have HWH : Hid ((grL n l).adj x j = false) := hadj
                      clear hadj
                      go_wp2_with fail
                      refine RE.mono ?_
                      rintro e w2 ⟨rfl, rfl⟩
                      clear RE
                      have HN : Hid (Bi (grL n l) (blkOf inn out) i S m (j + 1) S' piece) := HBI.out.pass HPX.out (.inl HWH.out)
                      go_wp2_with fail
                      go_roundg (25 - (j + 1))
                      case measure => omega
                      case rel => exact ⟨j + 1, S', piece, by omega, Nat.le_refl _, by go_num, HPX.out, HIN.out, HAT.out, HN.out⟩
                    · rw [hadj] at RE
                      have HAD : Hid ((grL n l).adj x j = true) := hadj
                      clear hadj
                      cases hsj : S' j
                      · rw [hsj] at sj
                        cases hij : inn j
                        · rw [hij] at ij
                          have HWH : Hid (blkOf inn out j = true) := (by unfold blkOf; rw [hij]; rfl : blkOf inn out j = true)
                          clear hsj hij
                          go_wp2_with fail
                          refine RE.mono ?_
                          rintro e w2 ⟨rfl, rfl⟩
                          clear RE
                          have HN : Hid (Bi (grL n l) (blkOf inn out) i S m (j + 1) S' piece) := HBI.out.pass HPX.out (.inr (.inr HWH.out))
                          go_wp2_with fail
                          go_roundg (25 - (j + 1))
                          case measure => omega
                          case rel => exact ⟨j + 1, S', piece, by omega, Nat.le_refl _, by go_num, HPX.out, HIN.out, HAT.out, HN.out⟩
                        · rw [hij] at ij
                          cases hoj : out j
                          · rw [hoj] at oj
                            have HN : Hid (Bi (grL n l) (blkOf inn out) i S m (j + 1) (setAt S' j true) (piece ++ [j])) := HBI.out.add HG.out HPX.out HAD.out hsj (by unfold blkOf; rw [hij, hoj]; rfl)
                            have fz := HAT.out.bls.free j
                            have hgZ : gg ≠ Z := by omega
                            have HG1 : Hid (∀ ob, GrS w ((wr.setCell ⟨Z, j, none⟩ (.bool true)).alloc ob) Z n (setAt S' j true)) := fun ob => (HAT.out.set hjn true).alloc ob
                            have HI1 : Hid (∀ ob, Ints ((wr.setCell ⟨Z, j, none⟩ (.bool true)).alloc ob) (Z + 1) (.slice (some ⟨gg, 0, none⟩) piece.length gc) piece) := fun ob => World.ownsRow.alloc (ownsRow_setCell_other HIN.out (by simp [Value.ownBlock]; exact hgZ) _) ob
                            have HN1 : Hid (∀ t, ∀ q u, [Value.int .i64 (j : Int)][q]? = some u → ((wr.setCell ⟨Z, j, none⟩ (.bool true)).alloc (.cells #[.int .i64 (j : Int)] t)).cell? ((⟨wr.heap.size, 0, none⟩ : Addr).add q) = some u) := fun t q u hq => by
                              have := cells1 (wr.setCell ⟨Z, j, none⟩ (.bool true)) (.int .i64 (j : Int)) t q u hq
                              simpa using this
                            have HZ : Hid (Z < wr.heap.size ∧ w.heap.size ≤ Z) := ⟨HAT.out.lt, HAT.out.le⟩
                            clear hsj hij hoj
                            go_wp2_with fail
                            refine RE.mono ?_
                            rintro e w2 ⟨rfl, rfl⟩
                            clear RE
                            go_wp2_with (at_builtin; go_must (refine wpList_append_mine rfl (.tmp 87) (.tmp 89) 25 rfl (Z + 1) 3 i0 (.int .i64 0) 1 8 Tryz.underlying25 hi0 hz0 hz1 hz2 rfl (by decide) (.slice (some ⟨gg, 0, none⟩) piece.length gc) piece.length (intCells piece) rfl (by exact HI1.out _) ⟨w2.heap.size, 0, none⟩ 1 1 [.int .i64 (j : Int)] rfl rfl (by exact HN1.out _) (by intro u hu; simp at hu; rcases hu with rfl; rfl) (by unfold maxLen; omega) (by omega) (by have := HZ.out; simp; omega) ?_))
                            intro v' w3 ho hg hkk
                            have HI2 : Hid (Ints w3 (Z + 1) v' (piece ++ [j])) := by
                              unfold Hid Ints
                              have e1 : (piece ++ [j]).length = piece.length + 1 := by simp
                              have e2 : intCells (piece ++ [j]) = intCells piece ++ [.int .i64 (j : Int)] := by simp [intCells]
                              rw [e1, e2]
                              exact ho
                            have HG2 : Hid (GrS w w3 Z n (setAt S' j true)) := (HG1.out _).grown hg (fun k hk => by have := HZ.out; simp [Value.ownBlock] at hk; omega) (by simp [Value.ownBlock]; exact hgZ)
                            clear ho hg hkk HG1 HI1 HN1
                            go_wp2_with fail
                            go_roundg (25 - (j + 1))
                            case measure => omega
                            case rel => exact ⟨j + 1, setAt S' j true, piece ++ [j], by omega, Nat.le_refl _, by go_num, by rw [List.getElem?_append_left hml]; exact HPX.out, HI2.out, HG2.out, HN.out⟩
                          · rw [hoj] at oj
                            have HWH : Hid (blkOf inn out j = true) := (by unfold blkOf; rw [hoj]; simp : blkOf inn out j = true)
                            clear hsj hij hoj
                            go_wp2_with fail
                            refine RE.mono ?_
                            rintro e w2 ⟨rfl, rfl⟩
                            clear RE
                            have HN : Hid (Bi (grL n l) (blkOf inn out) i S m (j + 1) S' piece) := HBI.out.pass HPX.out (.inr (.inr HWH.out))
                            go_wp2_with fail
                            go_roundg (25 - (j + 1))
                            case measure => omega
                            case rel => exact ⟨j + 1, S', piece, by omega, Nat.le_refl _, by go_num, HPX.out, HIN.out, HAT.out, HN.out⟩
                      · rw [hsj] at sj
                        have HWH : Hid (S' j = true) := hsj
                        clear hsj
                        go_wp2_with fail
                        refine RE.mono ?_
                        rintro e w2 ⟨rfl, rfl⟩
                        clear RE
                        have HN : Hid (Bi (grL n l) (blkOf inn out) i S m (j + 1) S' piece) := HBI.out.pass HPX.out (.inr (.inl HWH.out))
                        go_wp2_with fail
                        go_roundg (25 - (j + 1))
                        case measure => omega
                        case rel => exact ⟨j + 1, S', piece, by omega, Nat.le_refl _, by go_num, HPX.out, HIN.out, HAT.out, HN.out⟩
                  · have hjn' : ¬ (j : Int) < (n : Int) := by omega
                    obtain rfl : j = n := by omega
                    have HN : Hid (Bi (grL j l) (blkOf inn out) i S (m + 1) 0 S' piece) := HBI.out.row HG.out
                    go_wp2_with fail
                    go_roundg (25 - (m + 1))
                    case measure => omega
                    case rel => exact ⟨m + 1, S', piece, by omega, Nat.le_refl _, by go_num, HIN.out, HAT.out, HN.out⟩
              · have hml' : ¬ (m : Int) < (piece.length : Int) := by omega
                have HF : Hid (Bf (grL n l) (blkOf inn out) (i + 1) S' (namedBy name piece i)) := HBI.out.finish HG.out HBF.out (by omega)
                have HT : Hid (total (i + 1) (fun a => pieceCnt n S' (namedBy name piece i) a % 2) = total i (fun a => pieceCnt n S name a % 2) + piece.length % 2) := by
                  show total i (fun a => pieceCnt n S' (namedBy name piece i) a % 2) + pieceCnt n S' (namedBy name piece i) i % 2 = _
                  rw [show pieceCnt n S' (namedBy name piece i) i = piece.length from HBI.out.size HBF.out, total_congr (g := fun a => pieceCnt n S name a % 2) fun a ha => by rw [show pieceCnt n S' (namedBy name piece i) a = pieceCnt n S name a from HBI.out.same ha]]
                generalize total i (fun a => pieceCnt n S name a % 2) = T at hsum HT ⊢
                have hr2 := rem2 piece.length
                have hr3 : piece.length % 2 < 2 := Nat.mod_lt _ (by omega)
                generalize piece.length % 2 = R at hr2 hr3 HT
                go_wp2_with fail
                go_roundg (25 - (i + 1))
                case measure => omega
                case rel => exact ⟨i + 1, S', namedBy name piece i, by omega, Nat.le_refl _, by go_num, by rw [HT.out]; go_num, HAT.out, HF.out⟩
          · rw [hoi] at oi
            have HWH : Hid (blkOf inn out i = true) := (by unfold blkOf; rw [hoi]; simp : blkOf inn out i = true)
            clear hsi hii hoi
            have HN : Hid (Bf (grL n l) (blkOf inn out) (i + 1) S name ∧ total (i + 1) (fun a => pieceCnt n S name a % 2) = total i (fun a => pieceCnt n S name a % 2)) := ⟨HBF.out.skip (.inr HWH.out), by
              show total i (fun a => pieceCnt n S name a % 2) + pieceCnt n S name i % 2 = _
              rw [show pieceCnt n S name i = 0 from HBF.out.none (Nat.le_refl _)]
              rfl⟩
            generalize total i (fun a => pieceCnt n S name a % 2) = T at hsum HN ⊢
            go_wp2_with fail
            go_roundg (25 - (i + 1))
            case measure => omega
            case rel => exact ⟨i + 1, S, name, by omega, Nat.le_refl _, by go_num, by rw [HN.out.2], HAT.out, HN.out.1⟩
      · rw [hsi] at si
        have HWH : Hid (S i = true) := hsi
        clear hsi
        have HN : Hid (Bf (grL n l) (blkOf inn out) (i + 1) S name ∧ total (i + 1) (fun a => pieceCnt n S name a % 2) = total i (fun a => pieceCnt n S name a % 2)) := ⟨HBF.out.skip (.inl HWH.out), by
          show total i (fun a => pieceCnt n S name a % 2) + pieceCnt n S name i % 2 = _
          rw [show pieceCnt n S name i = 0 from HBF.out.none (Nat.le_refl _)]
          rfl⟩
        generalize total i (fun a => pieceCnt n S name a % 2) = T at hsum HN ⊢
        go_wp2_with fail
        go_roundg (25 - (i + 1))
        case measure => omega
        case rel => exact ⟨i + 1, S, name, by omega, Nat.le_refl _, by go_num, by rw [HN.out.2], HAT.out, HN.out.1⟩
    · have hlt' : ¬ (i : Int) < (n : Int) := by omega
      obtain rfl : i = n := by omega
      go_wp2_with fail
      go_ret
      exact ⟨S, name, HBF.out, rfl, HAT.out.below⟩
theorem Bls.belowL {w w' : World} {U n : Nat} {u : Nat → Bool} (h : Bls w U n u) (hl : U < w.heap.size) (hb : Below w.heap.size w w') : Bls w' U n u := h.same (hb.block U hl)

/-- The row of those that are out, not begun yet, beside block U. -/
structure OBls (w wr : World) (U O k : Nat) : Prop where
  bls : Bls wr O k fun _ => false
  ne : O ≠ U
  le : w.heap.size ≤ O
  lt : O < wr.heap.size

theorem OBls.on {w wr w' : World} {U O k : Nat} (h : OBls w wr U O k) (hb : Below wr.heap.size wr w') : OBls w w' U O k := ⟨h.bls.same (hb.block O h.lt), h.ne, h.le, Nat.lt_of_lt_of_le h.lt hb.size⟩
theorem OBls.drewN {w wr : World} {U O k : Nat} (h : OBls w wr U O k) (m : Nat) : OBls w (wr.drewN m) U O k := ⟨h.bls.same rfl, h.ne, h.le, h.lt⟩
theorem OBls.set {w wr : World} {U O k : Nat} (h : OBls w wr U O k) (a : Nat) (v : Value) : OBls w (wr.setCell ⟨U, a, none⟩ v) U O k := ⟨h.bls.same (Below.heap_setCell wr _ v O h.ne), h.ne, h.le, by simpa using h.lt⟩

set_option maxRecDepth 100000 in
set_option maxHeartbeats 8000000 in
theorem rgreatest_any (w : World) {v pv uv : Value} {l : List (Nat × Nat)} {k I ic base : Nat} {inn : Nat → Bool} {mate : Nat → Option Nat} {f : Fo} {hh : Gh} (h : NPr w v l) (hI : Bls w I k inn) (hIl : I < w.heap.size) (hk24 : k ≤ 24) (E : EdOk k l) (hl : l.length ≤ 1000000000000000)
    (hin : ∀ x y, adjL l x y = true → inn x = true ∧ inn y = true) (hB : Best (grL k l) mate f hh) (hP : NPr w pv (pairsF k mate)) (hU : Ints w base uv (barF k f)) :
    Calls Tryz.prog 48 #[.int .i64 (k : Int), v, .slice (some ⟨I, 0, none⟩) k ic, pv, uv] w fun e w' => e = .returned (.bool true) ∧ Below w.heap.size w w' := by
  obtain ⟨b0, hb0, hbz0, hbz1, hbz2⟩ := info_parts Tryz.infoBool
  have HLW : Hid (NPr w v l) := h
  have HIW : Hid (Bls w I k inn) := hI
  have HEO : Hid (EdOk k l) := E
  have HIN : Hid (∀ x y, adjL l x y = true → inn x = true ∧ inn y = true) := hin
  have HBE : Hid (Best (grL k l) mate f hh) := hB
  have HPW : Hid (NPr w pv (pairsF k mate)) := hP
  have HUW0 : Hid (Ints w base uv (barF k f)) := hU
  have hbl : (barF k f).length ≤ k := filter_len _ _
  have hpl : (pairsF k mate).length ≤ k := prOf_len mate k
  obtain ⟨so, cap, hv, hcap, hcc⟩ := h
  obtain ⟨po, pc, hpv, hpcap, hpcc⟩ := hP
  obtain ⟨uo, uc, huv⟩ := hU.shape
  subst hv hpv huv
  clear hcc hpcc hI E hin hB hU
  go_enter Tryz.func48, Tryz.ntmps48
  go_wp2_with (at_make; go_must (refine wpList_make_full _ rfl _ _ 129 rfl w.heap.size 4 b0 (.bool false) 1 Tryz.underlying129 hb0 hbz0 hbz1 .i64 .i64 _ _ k rfl rfl rfl rfl ?c1 ?c2 ?c3 ?_))
  case c1 => rw [hbz2]; omega
  case c2 => unfold maxLen; omega
  case c3 => exact Nat.le_refl _
  intro w1 hown hgrow
  have HG1 : Hid (GrS w w1 w.heap.size k fun _ => false) := ⟨Bls.made hown, (Below.refl _ w).grown hgrow (Nat.le_refl _) (by simp), Nat.le_refl _, (hown.lt _ rfl).2⟩
  have HW : Hid (w.heap.size ≤ w.heap.size) := Nat.le_refl _
  clear hown hgrow
  generalize hUe : w.heap.size = U at HG1 ⊢
  have HUE : Hid (w.heap.size = U) := hUe
  clear hUe HW
  go_wp2_with (at_make; go_must (refine wpList_make_full _ rfl _ _ 129 rfl w1.heap.size 4 b0 (.bool false) 1 Tryz.underlying129 hb0 hbz0 hbz1 .i64 .i64 _ _ k rfl rfl rfl rfl ?e1 ?e2 ?e3 ?_))
  case e1 => rw [hbz2]; omega
  case e2 => unfold maxLen; omega
  case e3 => exact Nat.le_refl _
  intro w2 hown hgrow
  have HST : Hid (GrS w w2 U k (usedBy ((pairsF k mate).take 0)) ∧ OBls w w2 U w1.heap.size k) := by
    have hb12 : Below w1.heap.size w1 w2 := (Below.refl _ w1).grown hgrow (Nat.le_refl _) (by simp)
    refine ⟨HG1.out.on hb12, ⟨Bls.made hown, ?_, ?_, (hown.lt _ rfl).2⟩⟩
    · have := HG1.out.lt
      omega
    · exact HG1.out.below.size
  clear hown hgrow HG1
  generalize w1.heap.size = O at HST ⊢
  go_wp2_with fail
  go_loopg [13, 14] 26 (fun g v13 v14 wx => ∃ i : Nat, i ≤ k ∧ 25 - i ≤ g ∧ v14 = .int .i64 (i : Nat) ∧ v13 = .int .i64 (cnt i inn : Nat) ∧ w2 = wx)
  case atStart => exact ⟨0, by omega, by omega, rfl, rfl, rfl⟩
  case round =>
    obtain ⟨i, hi, hkg, rfl, rfl, hw⟩ := hrel
    subst hw
    have hcb : cnt i inn ≤ i := cnt_le
    by_cases hlt : i < k
    · have hlt' : (i : Int) < (k : Int) := by omega
      have ii := (HIW.out.below (by omega) HST.out.1.below).cell i hlt
      have HCS : Hid (cnt (i + 1) inn = cnt i inn + if inn i then 1 else 0) := rfl
      generalize cnt i inn = C at hcb HCS ⊢
      cases hii : inn i
      · rw [hii] at ii
        have HC2 : Hid (cnt (i + 1) inn = C) := by rw [HCS.out, hii]; rfl
        clear hii HCS
        go_wp2_with fail
        go_roundg (25 - (i + 1))
        case measure => omega
        case rel => exact ⟨i + 1, by omega, Nat.le_refl _, by go_num, by rw [HC2.out], rfl⟩
      · rw [hii] at ii
        have HC2 : Hid (cnt (i + 1) inn = C + 1) := by rw [HCS.out, hii]; rfl
        clear hii HCS
        go_wp2_with fail
        go_roundg (25 - (i + 1))
        case measure => omega
        case rel => exact ⟨i + 1, by omega, Nat.le_refl _, by go_num, by rw [HC2.out]; go_num, rfl⟩
    · have hlt' : ¬ (i : Int) < (k : Int) := by omega
      obtain rfl : k = i := by omega
      generalize hCe : cnt k inn = C at hcb ⊢
      have HCE : Hid (cnt k inn = C) := hCe
      clear hCe hlt hlt' hi hkg
      go_wp2_with fail
      go_loopg [15] 26 (fun g v15 wr => ∃ i : Nat, i ≤ (pairsF k mate).length ∧ 25 - i ≤ g ∧ v15 = .int .i64 (i : Nat) ∧ GrS w wr U k (usedBy ((pairsF k mate).take i)) ∧ OBls w wr U O k)
      case atStart => exact ⟨0, by omega, by omega, rfl, HST.out.1, HST.out.2⟩
      case round =>
        clear HST
        obtain ⟨i, hi, hkg, rfl, hat, hob⟩ := hrel
        have HAT : Hid (GrS w wr U k (usedBy ((pairsF k mate).take i))) := hat
        have HOB : Hid (OBls w wr U O k) := hob
        clear hat hob
        by_cases hlt : i < (pairsF k mate).length
        · have hk1 : 0 < k := by omega
          have hlt' : (i : Int) < ((pairsF k mate).length : Int) := by omega
          obtain ⟨a, b, gi⟩ : ∃ a b, (pairsF k mate)[i]? = some (a, b) := ⟨_, _, List.getElem?_eq_getElem hlt⟩
          have HGI : Hid ((pairsF k mate)[i]? = some (a, b)) := gi
          obtain ⟨hma, hab, hak⟩ := pairsF_mem (List.mem_of_getElem? gi)
          simp only at hma hab hak
          have hadj := HBE.out.m.adj a b hma
          have hbk : b < k := ((HEO.out.gr hk24).lt a b hadj).2
          have HADJ : Hid (adjL l a b = true) := hadj
          have HUA : Hid (usedBy ((pairsF k mate).take i) a = false ∧ usedBy ((pairsF k mate).take i) b = false) := pairs_apart HBE.out.m gi
          have HIA : Hid (inn a = true ∧ inn b = true) := HIN.out a b hadj
          have HPR : Hid (NPr wr (.slice po (pairsF k mate).length pc) (pairsF k mate)) := HPW.out.below HAT.out.below
          obtain ⟨bb, oo, hso, c0, c1⟩ := HPR.out.at gi
          subst hso
          clear hma hadj gi
          have hab' : ¬ (a : Int) ≥ (b : Int) := by omega
          have hbk' : ¬ (b : Int) ≥ (k : Int) := by omega
          have hbk2 : (b : Int) < (k : Int) := by omega
          have hak2 : (a : Int) < (k : Int) := by omega
          have HQ : Hid (GrS w (wr.alloc (.cells #[.int .i64 (a : Int), .int .i64 (b : Int)] 48)) U k (usedBy ((pairsF k mate).take i))) := HAT.out.alloc _
          have HOQ : Hid (OBls w (wr.alloc (.cells #[.int .i64 (a : Int), .int .i64 (b : Int)] 48)) U O k) := HOB.out.on ((Below.refl _ wr).alloc (Nat.le_refl _) _)
          have HPQ : Hid (NPr (wr.alloc (.cells #[.int .i64 (a : Int), .int .i64 (b : Int)] 48)) (.slice (some ⟨bb, oo, none⟩) (pairsF k mate).length pc) (pairsF k mate)) := HPR.out.below ((Below.refl _ wr).alloc (Nat.le_refl _) _)
          have q0 : (wr.alloc (.cells #[.int .i64 (a : Int), .int .i64 (b : Int)] 48)).cell? ⟨wr.heap.size, 0, none⟩ = some (.int .i64 (a : Int)) := by rw [World.cell?_alloc_new]; rfl
          have q1 : (wr.alloc (.cells #[.int .i64 (a : Int), .int .i64 (b : Int)] 48)).cell? ⟨wr.heap.size, 1, none⟩ = some (.int .i64 (b : Int)) := by rw [World.cell?_alloc_new]; rfl
          have hXU : wr.heap.size ≠ U := by
            have h1 := HAT.out.lt
            omega
          clear HAT HPR HOB
          by_cases hi0 : i = 0
          · have HI0 : Hid (i = 0) := hi0
            clear hi0
            go_upto_region 13 with fail
            generalize wr.alloc (.cells #[.int .i64 (a : Int), .int .i64 (b : Int)] 48) = wq at *
            generalize wr.heap.size = X at *
            clear c0 c1
            go_wp2_with fail
            have d1 : decide ((a : Int) < 0) = false := decide_eq_false (by omega)
            have d2 : decide ((k : Int) ≤ (b : Int)) = false := decide_eq_false (by omega)
            have d3 : decide ((b : Int) ≤ (a : Int)) = false := decide_eq_false (by omega)
            have d5 : decide ((0 : Int) < (i : Int)) = false := decide_eq_false (by have := HI0.out; omega)
            have d6 : decide (0 < i) = false := decide_eq_false (by have := HI0.out; omega)
            have d7 : ¬ (0 < i) := by have := HI0.out; omega
            refine wp_region_quiet_lit (by kernel_rfl) (by kernel_rfl) ?_
            iterate 20 (quiet_step (fail))
            iterate 9 ((with_reducible refine wpQuiet_step (fun K hK => ?_)); go_simp; (with_reducible refine hK _ ?_); clear hK K)
            iterate 2 (quiet_step (fail))
            refine wpQuiet_nil ?_
            intro _ hw'
            obtain ⟨nq, hw''⟩ := hw'
            subst hw''
            clear d1 d2 d3 d5 d6 d7
            have HQ2 : Hid (GrS w (wq.drewN nq) U k (usedBy ((pairsF k mate).take i))) := HQ.out.drewN nq
            have q0' : (wq.drewN nq).cell? ⟨X, 0, none⟩ = some (.int .i64 (a : Int)) := q0
            have q1' : (wq.drewN nq).cell? ⟨X, 1, none⟩ = some (.int .i64 (b : Int)) := q1
            have HOQ2 : Hid (OBls w (wq.drewN nq) U O k) := HOQ.out.drewN nq
            clear q0 q1
            generalize wq.drewN nq = w5 at HQ2 HOQ2 q0' q1' ⊢
            have RE := redge_any w5 (HLW.out.below HQ2.out.below) a b hl
            rw [HADJ.out] at RE
            have ua := HQ2.out.bls.cell a hak
            have ub := HQ2.out.bls.cell b hbk
            rw [HUA.out.1] at ua
            rw [HUA.out.2] at ub
            have ia := (HIW.out.below hk1 HQ2.out.below).cell a hak
            have ib := (HIW.out.below hk1 HQ2.out.below).cell b hbk
            rw [HIA.out.1] at ia
            rw [HIA.out.2] at ib
            have fa := HQ2.out.bls.free a
            have fb := HQ2.out.bls.free b
            have HQ4 : Hid (GrS w ((w5.setCell ⟨U, a, none⟩ (.bool true)).setCell ⟨U, b, none⟩ (.bool true)) U k (usedBy ((pairsF k mate).take (i + 1)))) := by
              have := (HQ2.out.set hak true).set hbk true
              rw [take_snoc HGI.out, usedBy_snoc]
              exact this
            have HO4 : Hid (OBls w ((w5.setCell ⟨U, a, none⟩ (.bool true)).setCell ⟨U, b, none⟩ (.bool true)) U O k) := (HOQ2.out.set a _).set b _
            go_wp2_with fail
            refine RE.mono ?_
            rintro e w6 ⟨rfl, rfl⟩
            clear RE
            go_wp2_with fail
            go_roundg (25 - (i + 1))
            case measure => omega
            case rel => exact ⟨i + 1, by omega, Nat.le_refl _, by go_num, HQ4.out, HO4.out⟩
          · obtain ⟨j, hj⟩ : ∃ j, i = j + 1 := ⟨i - 1, by omega⟩
            obtain ⟨a', b', gp⟩ : ∃ a' b', (pairsF k mate)[j]? = some (a', b') := ⟨_, _, List.getElem?_eq_getElem (by omega)⟩
            have hrise := pairwise_get pairsF_rising (show j < i by omega) gp HGI.out
            simp only at hrise
            have hrise' : ¬ (a' : Int) ≥ (a : Int) := by omega
            obtain ⟨bb', oo', hso, p0, p1⟩ := HPQ.out.at gp
            simp only [Option.some.injEq, Addr.mk.injEq, and_true] at hso
            obtain ⟨rfl, rfl⟩ := hso
            have HIJ : Hid (i = j + 1) := hj
            have hi2 : (j : Int) < ((pairsF k mate).length : Int) := by omega
            clear gp p1 hj hi0
            go_upto_region 13 with fail
            generalize wr.alloc (.cells #[.int .i64 (a : Int), .int .i64 (b : Int)] 48) = wq at *
            generalize wr.heap.size = X at *
            clear c0 c1
            go_wp2_with fail
            have hw1 : IntKind.i64.wrap ((i : Int) - 1) = (j : Int) := by rw [show (i : Int) - 1 = (j : Int) by have := HIJ.out; omega]; exact wrap_small j (by have := HIJ.out; omega)
            have d1 : decide ((a : Int) < 0) = false := decide_eq_false (by omega)
            have d2 : decide ((k : Int) ≤ (b : Int)) = false := decide_eq_false (by omega)
            have d3 : decide ((b : Int) ≤ (a : Int)) = false := decide_eq_false (by omega)
            have d4 : decide ((a : Int) ≤ (a' : Int)) = false := decide_eq_false (by omega)
            have d5 : decide ((0 : Int) < (i : Int)) = true := decide_eq_true (by have := HIJ.out; omega)
            have d6 : decide (0 < i) = true := decide_eq_true (by have := HIJ.out; omega)
            have d7 : 0 < i := by have := HIJ.out; omega
            go_quiet (fail)
            clear hw1 d1 d2 d3 d4 d5 d6 d7
            have HQ2 : Hid (GrS w (wq.drewN nq) U k (usedBy ((pairsF k mate).take i))) := HQ.out.drewN nq
            have q0' : (wq.drewN nq).cell? ⟨X, 0, none⟩ = some (.int .i64 (a : Int)) := q0
            have q1' : (wq.drewN nq).cell? ⟨X, 1, none⟩ = some (.int .i64 (b : Int)) := q1
            have HOQ2 : Hid (OBls w (wq.drewN nq) U O k) := HOQ.out.drewN nq
            clear q0 q1 p0
            generalize wq.drewN nq = w5 at HQ2 HOQ2 q0' q1' ⊢
            have RE := redge_any w5 (HLW.out.below HQ2.out.below) a b hl
            rw [HADJ.out] at RE
            have ua := HQ2.out.bls.cell a hak
            have ub := HQ2.out.bls.cell b hbk
            rw [HUA.out.1] at ua
            rw [HUA.out.2] at ub
            have ia := (HIW.out.below hk1 HQ2.out.below).cell a hak
            have ib := (HIW.out.below hk1 HQ2.out.below).cell b hbk
            rw [HIA.out.1] at ia
            rw [HIA.out.2] at ib
            have fa := HQ2.out.bls.free a
            have fb := HQ2.out.bls.free b
            have HQ4 : Hid (GrS w ((w5.setCell ⟨U, a, none⟩ (.bool true)).setCell ⟨U, b, none⟩ (.bool true)) U k (usedBy ((pairsF k mate).take (i + 1)))) := by
              have := (HQ2.out.set hak true).set hbk true
              rw [take_snoc HGI.out, usedBy_snoc]
              exact this
            have HO4 : Hid (OBls w ((w5.setCell ⟨U, a, none⟩ (.bool true)).setCell ⟨U, b, none⟩ (.bool true)) U O k) := (HOQ2.out.set a _).set b _
            go_wp2_with fail
            refine RE.mono ?_
            rintro e w6 ⟨rfl, rfl⟩
            clear RE
            go_wp2_with fail
            go_roundg (25 - (i + 1))
            case measure => omega
            case rel => exact ⟨i + 1, by omega, Nat.le_refl _, by go_num, HQ4.out, HO4.out⟩
        · have hlt' : ¬ (i : Int) < ((pairsF k mate).length : Int) := by omega
          have HS3 : Hid (GrS w wr O k (outBy ((barF k f).take 0))) := ⟨HOB.out.bls, HAT.out.below, HOB.out.le, HOB.out.lt⟩
          clear HAT HOB
          go_wp2_with fail
          go_loopg [18] 26 (fun g v18 wr => ∃ j : Nat, j ≤ (barF k f).length ∧ 25 - j ≤ g ∧ v18 = .int .i64 (j : Nat) ∧ GrS w wr O k (outBy ((barF k f).take j)))
          case atStart => exact ⟨0, by omega, by omega, rfl, HS3.out⟩
          case round =>
            clear HS3
            obtain ⟨j, hj, hkj, rfl, hat⟩ := hrel
            have HAT : Hid (GrS w wr O k (outBy ((barF k f).take j))) := hat
            clear hat
            by_cases hjt : j < (barF k f).length
            · have hk1 : 0 < k := by omega
              have hjt' : (j : Int) < ((barF k f).length : Int) := by omega
              obtain ⟨x, gx⟩ : ∃ x, (barF k f)[j]? = some x := ⟨_, List.getElem?_eq_getElem hjt⟩
              have hxm := barF_mem.1 (List.mem_of_getElem? gx)
              have hxk : x < k := hxm.1
              have hxi : inn x = true := HBE.out.barIn HIN.out hxm.2
              have HGX : Hid ((barF k f)[j]? = some x) := gx
              have HUW : Hid (Ints wr base (.slice uo (barF k f).length uc) (barF k f)) := ownsRow_same HUW0.out fun q hq => HAT.out.below.block q (HUW0.out.lt q hq).2
              obtain ⟨gg, cc, es, _, _, cx⟩ := HUW.out.at gx
              simp only [Value.slice.injEq, true_and] at es
              obtain ⟨rfl, rfl⟩ := es
              have ix := (HIW.out.below hk1 HAT.out.below).cell x hxk
              rw [hxi] at ix
              have hxk' : (x : Int) < (k : Int) := by omega
              clear gx hxm hxi
              by_cases hj0 : j = 0
              · have HJ0 : Hid (j = 0) := hj0
                clear hj0
                go_wp2_with fail
                have d1 : decide ((x : Int) < 0) = false := decide_eq_false (by omega)
                have d2 : decide ((k : Int) ≤ (x : Int)) = false := decide_eq_false (by omega)
                have d5 : decide ((0 : Int) < (j : Int)) = false := decide_eq_false (by have := HJ0.out; omega)
                have d6 : decide (0 < j) = false := decide_eq_false (by have := HJ0.out; omega)
                have d7 : ¬ (0 < j) := by have := HJ0.out; omega
                refine wp_region_quiet_lit (by kernel_rfl) (by kernel_rfl) ?_
                iterate 17 (quiet_step (fail))
                iterate 10 ((with_reducible refine wpQuiet_step (fun K hK => ?_)); go_simp; (with_reducible refine hK _ ?_); clear hK K)
                iterate 12 (quiet_step (fail))
                refine wpQuiet_nil ?_
                intro _ hw'
                obtain ⟨nq, hw''⟩ := hw'
                subst hw''
                clear d1 d2 d5 d6 d7
                have HQ2 : Hid (GrS w (wr.drewN nq) O k (outBy ((barF k f).take j))) := HAT.out.drewN nq
                have cx' : (wr.drewN nq).cell? ⟨gg, j, none⟩ = some (.int .i64 (x : Int)) := cx
                clear cx ix HAT HUW
                generalize wr.drewN nq = w7 at HQ2 cx' ⊢
                have ox := HQ2.out.bls.cell x hxk
                have fx := HQ2.out.bls.free x
                have HQ4 : Hid (GrS w (w7.setCell ⟨O, x, none⟩ (.bool true)) O k (outBy ((barF k f).take (j + 1)))) := by
                  have := HQ2.out.set hxk true
                  rw [take_snoc HGX.out, outBy_snoc]
                  exact this
                go_wp2_with fail
                go_roundg (25 - (j + 1))
                case measure => omega
                case rel => exact ⟨j + 1, by omega, Nat.le_refl _, by go_num, HQ4.out⟩
              · obtain ⟨q, hq⟩ : ∃ q, j = q + 1 := ⟨j - 1, by omega⟩
                obtain ⟨x', gp⟩ : ∃ x', (barF k f)[q]? = some x' := ⟨_, List.getElem?_eq_getElem (by omega)⟩
                have hrise := pairwise_get (barF_rising k f) (show q < j by omega) gp HGX.out
                have hrise' : ¬ (x' : Int) ≥ (x : Int) := by omega
                obtain ⟨gg', cc', es, _, _, p0⟩ := HUW.out.at gp
                simp only [Value.slice.injEq, Option.some.injEq, Addr.mk.injEq, and_true, true_and] at es
                obtain ⟨rfl, rfl⟩ := es
                have HIJ : Hid (j = q + 1) := hq
                have hi2 : (q : Int) < ((barF k f).length : Int) := by omega
                clear gp hq hj0
                go_wp2_with fail
                have hw1 : IntKind.i64.wrap ((j : Int) - 1) = (q : Int) := by rw [show (j : Int) - 1 = (q : Int) by have := HIJ.out; omega]; exact wrap_small q (by have := HIJ.out; omega)
                have d1 : decide ((x : Int) < 0) = false := decide_eq_false (by omega)
                have d2 : decide ((k : Int) ≤ (x : Int)) = false := decide_eq_false (by omega)
                have d4 : decide ((x : Int) ≤ (x' : Int)) = false := decide_eq_false (by omega)
                have d5 : decide ((0 : Int) < (j : Int)) = true := decide_eq_true (by have := HIJ.out; omega)
                have d6 : decide (0 < j) = true := decide_eq_true (by have := HIJ.out; omega)
                have d7 : 0 < j := by have := HIJ.out; omega
                go_quiet (fail)
                clear hw1 d1 d2 d4 d5 d6 d7
                have HQ2 : Hid (GrS w (wr.drewN nq) O k (outBy ((barF k f).take j))) := HAT.out.drewN nq
                have cx' : (wr.drewN nq).cell? ⟨gg, j, none⟩ = some (.int .i64 (x : Int)) := cx
                clear cx ix HAT HUW p0
                generalize wr.drewN nq = w7 at HQ2 cx' ⊢
                have ox := HQ2.out.bls.cell x hxk
                have fx := HQ2.out.bls.free x
                have HQ4 : Hid (GrS w (w7.setCell ⟨O, x, none⟩ (.bool true)) O k (outBy ((barF k f).take (j + 1)))) := by
                  have := HQ2.out.set hxk true
                  rw [take_snoc HGX.out, outBy_snoc]
                  exact this
                go_wp2_with fail
                go_roundg (25 - (j + 1))
                case measure => omega
                case rel => exact ⟨j + 1, by omega, Nat.le_refl _, by go_num, HQ4.out⟩
            · have hjt' : ¬ (j : Int) < ((barF k f).length : Int) := by omega
              have et : (barF k f).take j = barF k f := List.take_of_length_le (by omega)
              have HAT2 : Hid (GrS w wr O k (outBy (barF k f))) := by have := HAT.out; rw [et] at this; exact this
              clear et HAT
              have OD := rodd_any wr (HLW.out.below HAT2.out.below) (ic := ic) (oc := k) (HIW.out.belowL hIl HAT2.out.below) HAT2.out.bls hk24 HEO.out hl
              go_wp2_with fail
              refine OD.mono ?_
              rintro e w8 ⟨S, name, hf, rfl, hb8⟩
              have HE : Hid (Below w.heap.size w w8) := HAT2.out.below.trans (hb8.mono HAT2.out.below.size)
              have hsum := bf_count (HEO.out.gr hk24) HBE.out HIN.out (fun x hx => by unfold blkOf; rw [outBy_bar (n := k) hx]) hf
              have hsum2 : total k (fun a => pieceCnt k S name a % 2) + 2 * (pairsF k mate).length = C + (barF k f).length := by rw [← HCE.out]; exact hsum
              have hto := odd_sum k k S name
              clear OD hf hb8 hsum HAT2
              generalize total k (fun a => pieceCnt k S name a % 2) = T at hsum2 hto ⊢
              generalize (pairsF k mate).length = np at *
              generalize (barF k f).length = nb at *
              have hfin : ((T : Int) == (C : Int) - 2 * (np : Int) + (nb : Int)) = true := by simp; omega
              have HSUM : Hid _ := hsum2
              clear hsum2
              go_wp2_with fail
              go_ret
              exact ⟨rfl, HE.out⟩
end Go.Proofs.YtcabaecbmkgclaaGreatDoor.Rf
