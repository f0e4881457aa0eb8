/-
  What the document's Greatest does with what a search found.
  One step of a script that is a Match: the answer is right by the document, what was handed in stays, and the lists that came out are kept.
  A world in which Go's two tables lie as the program's text lays them: for the witness of each row.
-/
import Derived.Test.YtcabaecbmkgclaaGreatDoorP14
import Derived.Test.YtcabaecbmkgclaaGreatDoorCards
import Derived.Test.YtcabaecbmkgclaaGreatDoorTie
import Derived.WalkKit
import Derived.ProofKit
import Derived.OpenShut
import Derived.Deep.DeepHandedRow
import Derived.Lib.LaidTab

namespace Go.Proofs.YtcabaecbmkgclaaGreatDoor.Rf
open Go.RowKit Mt Mg

theorem Bls.belowL {w w' : World} {U n : Nat} {u : Nat → Bool} (h : Bls w U n u) (hl : U < w.heap.size) (hb : Below w.heap.size w w') : Bls w' U n u := h.same (hb.block U hl)

/-- The row of those that are out, not begun yet, beside block U. -/
structure OBls (w wr : World) (U O k : Nat) : Prop where
  bls : Bls wr O k fun _ => false
  ne : O ≠ U
  le : w.heap.size ≤ O
  lt : O < wr.heap.size

theorem OBls.on {w wr w' : World} {U O k : Nat} (h : OBls w wr U O k) (hb : Below wr.heap.size wr w') : OBls w w' U O k := ⟨h.bls.same (hb.block O h.lt), h.ne, h.le, Nat.lt_of_lt_of_le h.lt hb.size⟩
theorem OBls.drewN {w wr : World} {U O k : Nat} (h : OBls w wr U O k) (m : Nat) : OBls w (wr.drewN m) U O k := ⟨h.bls.same rfl, h.ne, h.le, h.lt⟩
theorem OBls.set {w wr : World} {U O k : Nat} (h : OBls w wr U O k) (a : Nat) (v : Value) : OBls w (wr.setCell ⟨U, a, none⟩ v) U O k := ⟨h.bls.same (Below.heap_setCell wr _ v O h.ne), h.ne, h.le, by simpa using h.lt⟩

set_option maxRecDepth 100000 in
set_option maxHeartbeats 8000000 in
theorem rgreatest_any (w : World) {v pv uv : Value} {l : List (Nat × Nat)} {k I ic base : Nat} {inn : Nat → Bool} {mate : Nat → Option Nat} {f : Fo} {hh : Gh} (h : NPr w v l) (hI : Bls w I k inn) (hIl : I < w.heap.size) (hk24 : k ≤ 24) (E : EdOk k l) (hl : l.length ≤ 1000000000000000)
    (hin : ∀ x y, adjL l x y = true → inn x = true ∧ inn y = true) (hB : Best (grL k l) mate f hh) (hP : NPr w pv (pairsF k mate)) (hU : Ints w base uv (barF k f)) :
    Calls Tryz.prog 48 #[.int .i64 (k : Int), v, .slice (some ⟨I, 0, none⟩) k ic, pv, uv] w fun e w' => e = .returned (.bool true) ∧ Below w.heap.size w w' := by
  obtain ⟨b0, hb0, hbz0, hbz1, hbz2⟩ := info_parts Tryz.infoBool
  have HLW : Hid (NPr w v l) := h
  have HIW : Hid (Bls w I k inn) := hI
  have HEO : Hid (EdOk k l) := E
  have HIN : Hid (∀ x y, adjL l x y = true → inn x = true ∧ inn y = true) := hin
  have HBE : Hid (Best (grL k l) mate f hh) := hB
  have HPW : Hid (NPr w pv (pairsF k mate)) := hP
  have HUW0 : Hid (Ints w base uv (barF k f)) := hU
  have hbl : (barF k f).length ≤ k := filter_len _ _
  have hpl : (pairsF k mate).length ≤ k := prOf_len mate k
  obtain ⟨so, cap, hv, hcap, hcc⟩ := h
  obtain ⟨po, pc, hpv, hpcap, hpcc⟩ := hP
  obtain ⟨uo, uc, huv⟩ := hU.shape
  subst hv hpv huv
  clear hcc hpcc hI E hin hB hU
  go_enter Tryz.func48, Tryz.ntmps48
  go_wp2_with (at_make; go_must (refine wpList_make_full _ rfl _ _ 129 rfl w.heap.size 4 b0 (.bool false) 1 Tryz.underlying129 hb0 hbz0 hbz1 .i64 .i64 _ _ k rfl rfl rfl rfl ?c1 ?c2 ?c3 ?_))
  case c1 => rw [hbz2]; omega
  case c2 => unfold maxLen; omega
  case c3 => exact Nat.le_refl _
  intro w1 hown hgrow
  have HG1 : Hid (GrS w w1 w.heap.size k fun _ => false) := ⟨Bls.made hown, (Below.refl _ w).grown hgrow (Nat.le_refl _) (by simp), Nat.le_refl _, (hown.lt _ rfl).2⟩
  have HW : Hid (w.heap.size ≤ w.heap.size) := Nat.le_refl _
  clear hown hgrow
  generalize hUe : w.heap.size = U at HG1 ⊢
  have HUE : Hid (w.heap.size = U) := hUe
  clear hUe HW
  go_wp2_with (at_make; go_must (refine wpList_make_full _ rfl _ _ 129 rfl w1.heap.size 4 b0 (.bool false) 1 Tryz.underlying129 hb0 hbz0 hbz1 .i64 .i64 _ _ k rfl rfl rfl rfl ?e1 ?e2 ?e3 ?_))
  case e1 => rw [hbz2]; omega
  case e2 => unfold maxLen; omega
  case e3 => exact Nat.le_refl _
  intro w2 hown hgrow
  have HST : Hid (GrS w w2 U k (usedBy ((pairsF k mate).take 0)) ∧ OBls w w2 U w1.heap.size k) := by
    have hb12 : Below w1.heap.size w1 w2 := (Below.refl _ w1).grown hgrow (Nat.le_refl _) (by simp)
    refine ⟨HG1.out.on hb12, ⟨Bls.made hown, ?_, ?_, (hown.lt _ rfl).2⟩⟩
    · have := HG1.out.lt
      omega
    · exact HG1.out.below.size
  clear hown hgrow HG1
  generalize w1.heap.size = O at HST ⊢
  go_wp2_with fail
  go_loopg [13, 14] 26 (fun g v13 v14 wx => ∃ i : Nat, i ≤ k ∧ 25 - i ≤ g ∧ v14 = .int .i64 (i : Nat) ∧ v13 = .int .i64 (cnt i inn : Nat) ∧ w2 = wx)
  case atStart => exact ⟨0, by omega, by omega, rfl, rfl, rfl⟩
  case round =>
    obtain ⟨i, hi, hkg, rfl, rfl, hw⟩ := hrel
    subst hw
    have hcb : cnt i inn ≤ i := cnt_le
    by_cases hlt : i < k
    · have hlt' : (i : Int) < (k : Int) := by omega
      have ii := (HIW.out.below (by omega) HST.out.1.below).cell i hlt
      have HCS : Hid (cnt (i + 1) inn = cnt i inn + if inn i then 1 else 0) := rfl
      generalize cnt i inn = C at hcb HCS ⊢
      cases hii : inn i
      · rw [hii] at ii
        have HC2 : Hid (cnt (i + 1) inn = C) := by rw [HCS.out, hii]; rfl
        clear hii HCS
        go_wp2_with fail
        go_roundg (25 - (i + 1))
        case measure => omega
        case rel => exact ⟨i + 1, by omega, Nat.le_refl _, by go_num, by rw [HC2.out], rfl⟩
      · rw [hii] at ii
        have HC2 : Hid (cnt (i + 1) inn = C + 1) := by rw [HCS.out, hii]; rfl
        clear hii HCS
        go_wp2_with fail
        go_roundg (25 - (i + 1))
        case measure => omega
        case rel => exact ⟨i + 1, by omega, Nat.le_refl _, by go_num, by rw [HC2.out]; go_num, rfl⟩
    · have hlt' : ¬ (i : Int) < (k : Int) := by omega
      obtain rfl : k = i := by omega
      generalize hCe : cnt k inn = C at hcb ⊢
      have HCE : Hid (cnt k inn = C) := hCe
      clear hCe hlt hlt' hi hkg
      go_wp2_with fail
      go_loopg [15] 26 (fun g v15 wr => ∃ i : Nat, i ≤ (pairsF k mate).length ∧ 25 - i ≤ g ∧ v15 = .int .i64 (i : Nat) ∧ GrS w wr U k (usedBy ((pairsF k mate).take i)) ∧ OBls w wr U O k)
      case atStart => exact ⟨0, by omega, by omega, rfl, HST.out.1, HST.out.2⟩
      case round =>
        clear HST
        obtain ⟨i, hi, hkg, rfl, hat, hob⟩ := hrel
        have HAT : Hid (GrS w wr U k (usedBy ((pairsF k mate).take i))) := hat
        have HOB : Hid (OBls w wr U O k) := hob
        clear hat hob
        by_cases hlt : i < (pairsF k mate).length
        · have hk1 : 0 < k := by omega
          have hlt' : (i : Int) < ((pairsF k mate).length : Int) := by omega
          obtain ⟨a, b, gi⟩ : ∃ a b, (pairsF k mate)[i]? = some (a, b) := ⟨_, _, List.getElem?_eq_getElem hlt⟩
          have HGI : Hid ((pairsF k mate)[i]? = some (a, b)) := gi
          obtain ⟨hma, hab, hak⟩ := pairsF_mem (List.mem_of_getElem? gi)
          simp only at hma hab hak
          have hadj := HBE.out.m.adj a b hma
          have hbk : b < k := ((HEO.out.gr hk24).lt a b hadj).2
          have HADJ : Hid (adjL l a b = true) := hadj
          have HUA : Hid (usedBy ((pairsF k mate).take i) a = false ∧ usedBy ((pairsF k mate).take i) b = false) := pairs_apart HBE.out.m gi
          have HIA : Hid (inn a = true ∧ inn b = true) := HIN.out a b hadj
          have HPR : Hid (NPr wr (.slice po (pairsF k mate).length pc) (pairsF k mate)) := HPW.out.below HAT.out.below
          obtain ⟨bb, oo, hso, c0, c1⟩ := HPR.out.at gi
          subst hso
          clear hma hadj gi
          have hab' : ¬ (a : Int) ≥ (b : Int) := by omega
          have hbk' : ¬ (b : Int) ≥ (k : Int) := by omega
          have hbk2 : (b : Int) < (k : Int) := by omega
          have hak2 : (a : Int) < (k : Int) := by omega
          have HQ : Hid (GrS w (wr.alloc (.cells #[.int .i64 (a : Int), .int .i64 (b : Int)] 48)) U k (usedBy ((pairsF k mate).take i))) := HAT.out.alloc _
          have HOQ : Hid (OBls w (wr.alloc (.cells #[.int .i64 (a : Int), .int .i64 (b : Int)] 48)) U O k) := HOB.out.on ((Below.refl _ wr).alloc (Nat.le_refl _) _)
          have HPQ : Hid (NPr (wr.alloc (.cells #[.int .i64 (a : Int), .int .i64 (b : Int)] 48)) (.slice (some ⟨bb, oo, none⟩) (pairsF k mate).length pc) (pairsF k mate)) := HPR.out.below ((Below.refl _ wr).alloc (Nat.le_refl _) _)
          have q0 : (wr.alloc (.cells #[.int .i64 (a : Int), .int .i64 (b : Int)] 48)).cell? ⟨wr.heap.size, 0, none⟩ = some (.int .i64 (a : Int)) := by rw [World.cell?_alloc_new]; rfl
          have q1 : (wr.alloc (.cells #[.int .i64 (a : Int), .int .i64 (b : Int)] 48)).cell? ⟨wr.heap.size, 1, none⟩ = some (.int .i64 (b : Int)) := by rw [World.cell?_alloc_new]; rfl
          have hXU : wr.heap.size ≠ U := by
            have h1 := HAT.out.lt
            omega
          clear HAT HPR HOB
          by_cases hi0 : i = 0
          · have HI0 : Hid (i = 0) := hi0
            clear hi0
            go_upto_region 13 with fail
            generalize wr.alloc (.cells #[.int .i64 (a : Int), .int .i64 (b : Int)] 48) = wq at *
            generalize wr.heap.size = X at *
            clear c0 c1
            go_wp2_with fail
            have d1 : decide ((a : Int) < 0) = false := decide_eq_false (by omega)
            have d2 : decide ((k : Int) ≤ (b : Int)) = false := decide_eq_false (by omega)
            have d3 : decide ((b : Int) ≤ (a : Int)) = false := decide_eq_false (by omega)
            have d5 : decide ((0 : Int) < (i : Int)) = false := decide_eq_false (by have := HI0.out; omega)
            have d6 : decide (0 < i) = false := decide_eq_false (by have := HI0.out; omega)
            have d7 : ¬ (0 < i) := by have := HI0.out; omega
            refine wp_region_quiet_lit (by kernel_rfl) (by kernel_rfl) ?_
            iterate 20 (quiet_step (fail))
            iterate 9 ((with_reducible refine wpQuiet_step (fun K hK => ?_)); go_simp; (with_reducible refine hK _ ?_); clear hK K)
            iterate 2 (quiet_step (fail))
            refine wpQuiet_nil ?_
            intro _ hw'
            obtain ⟨nq, hw''⟩ := hw'
            subst hw''
            clear d1 d2 d3 d5 d6 d7
            have HQ2 : Hid (GrS w (wq.drewN nq) U k (usedBy ((pairsF k mate).take i))) := HQ.out.drewN nq
            have q0' : (wq.drewN nq).cell? ⟨X, 0, none⟩ = some (.int .i64 (a : Int)) := q0
            have q1' : (wq.drewN nq).cell? ⟨X, 1, none⟩ = some (.int .i64 (b : Int)) := q1
            have HOQ2 : Hid (OBls w (wq.drewN nq) U O k) := HOQ.out.drewN nq
            clear q0 q1
            generalize wq.drewN nq = w5 at HQ2 HOQ2 q0' q1' ⊢
            have RE := redge_any w5 (HLW.out.below HQ2.out.below) a b hl
            rw [HADJ.out] at RE
            have ua := HQ2.out.bls.cell a hak
            have ub := HQ2.out.bls.cell b hbk
            rw [HUA.out.1] at ua
            rw [HUA.out.2] at ub
            have ia := (HIW.out.below hk1 HQ2.out.below).cell a hak
            have ib := (HIW.out.below hk1 HQ2.out.below).cell b hbk
            rw [HIA.out.1] at ia
            rw [HIA.out.2] at ib
            have fa := HQ2.out.bls.free a
            have fb := HQ2.out.bls.free b
            have HQ4 : Hid (GrS w ((w5.setCell ⟨U, a, none⟩ (.bool true)).setCell ⟨U, b, none⟩ (.bool true)) U k (usedBy ((pairsF k mate).take (i + 1)))) := by
              have := (HQ2.out.set hak true).set hbk true
              rw [take_snoc HGI.out, usedBy_snoc]
              exact this
            have HO4 : Hid (OBls w ((w5.setCell ⟨U, a, none⟩ (.bool true)).setCell ⟨U, b, none⟩ (.bool true)) U O k) := (HOQ2.out.set a _).set b _
            go_wp2_with fail
            refine RE.mono ?_
            rintro e w6 ⟨rfl, rfl⟩
            clear RE
            go_wp2_with fail
            go_roundg (25 - (i + 1))
            case measure => omega
            case rel => exact ⟨i + 1, by omega, Nat.le_refl _, by go_num, HQ4.out, HO4.out⟩
          · obtain ⟨j, hj⟩ : ∃ j, i = j + 1 := ⟨i - 1, by omega⟩
            obtain ⟨a', b', gp⟩ : ∃ a' b', (pairsF k mate)[j]? = some (a', b') := ⟨_, _, List.getElem?_eq_getElem (by omega)⟩
            have hrise := pairwise_get pairsF_rising (show j < i by omega) gp HGI.out
            simp only at hrise
            have hrise' : ¬ (a' : Int) ≥ (a : Int) := by omega
            obtain ⟨bb', oo', hso, p0, p1⟩ := HPQ.out.at gp
            simp only [Option.some.injEq, Addr.mk.injEq, and_true] at hso
            obtain ⟨rfl, rfl⟩ := hso
            have HIJ : Hid (i = j + 1) := hj
            have hi2 : (j : Int) < ((pairsF k mate).length : Int) := by omega
            clear gp p1 hj hi0
            go_upto_region 13 with fail
            generalize wr.alloc (.cells #[.int .i64 (a : Int), .int .i64 (b : Int)] 48) = wq at *
            generalize wr.heap.size = X at *
            clear c0 c1
            go_wp2_with fail
            have hw1 : IntKind.i64.wrap ((i : Int) - 1) = (j : Int) := by rw [show (i : Int) - 1 = (j : Int) by have := HIJ.out; omega]; exact wrap_small j (by have := HIJ.out; omega)
            have d1 : decide ((a : Int) < 0) = false := decide_eq_false (by omega)
            have d2 : decide ((k : Int) ≤ (b : Int)) = false := decide_eq_false (by omega)
            have d3 : decide ((b : Int) ≤ (a : Int)) = false := decide_eq_false (by omega)
            have d4 : decide ((a : Int) ≤ (a' : Int)) = false := decide_eq_false (by omega)
            have d5 : decide ((0 : Int) < (i : Int)) = true := decide_eq_true (by have := HIJ.out; omega)
            have d6 : decide (0 < i) = true := decide_eq_true (by have := HIJ.out; omega)
            have d7 : 0 < i := by have := HIJ.out; omega
            go_quiet (fail)
            clear hw1 d1 d2 d3 d4 d5 d6 d7
            have HQ2 : Hid (GrS w (wq.drewN nq) U k (usedBy ((pairsF k mate).take i))) := HQ.out.drewN nq
            have q0' : (wq.drewN nq).cell? ⟨X, 0, none⟩ = some (.int .i64 (a : Int)) := q0
            have q1' : (wq.drewN nq).cell? ⟨X, 1, none⟩ = some (.int .i64 (b : Int)) := q1
            have HOQ2 : Hid (OBls w (wq.drewN nq) U O k) := HOQ.out.drewN nq
            clear q0 q1 p0
            generalize wq.drewN nq = w5 at HQ2 HOQ2 q0' q1' ⊢
            have RE := redge_any w5 (HLW.out.below HQ2.out.below) a b hl
            rw [HADJ.out] at RE
            have ua := HQ2.out.bls.cell a hak
            have ub := HQ2.out.bls.cell b hbk
            rw [HUA.out.1] at ua
            rw [HUA.out.2] at ub
            have ia := (HIW.out.below hk1 HQ2.out.below).cell a hak
            have ib := (HIW.out.below hk1 HQ2.out.below).cell b hbk
            rw [HIA.out.1] at ia
            rw [HIA.out.2] at ib
            have fa := HQ2.out.bls.free a
            have fb := HQ2.out.bls.free b
            have HQ4 : Hid (GrS w ((w5.setCell ⟨U, a, none⟩ (.bool true)).setCell ⟨U, b, none⟩ (.bool true)) U k (usedBy ((pairsF k mate).take (i + 1)))) := by
              have := (HQ2.out.set hak true).set hbk true
              rw [take_snoc HGI.out, usedBy_snoc]
              exact this
            have HO4 : Hid (OBls w ((w5.setCell ⟨U, a, none⟩ (.bool true)).setCell ⟨U, b, none⟩ (.bool true)) U O k) := (HOQ2.out.set a _).set b _
            go_wp2_with fail
            refine RE.mono ?_
            rintro e w6 ⟨rfl, rfl⟩
            clear RE
            go_wp2_with fail
            go_roundg (25 - (i + 1))
            case measure => omega
            case rel => exact ⟨i + 1, by omega, Nat.le_refl _, by go_num, HQ4.out, HO4.out⟩
        · have hlt' : ¬ (i : Int) < ((pairsF k mate).length : Int) := by omega
          have HS3 : Hid (GrS w wr O k (outBy ((barF k f).take 0))) := ⟨HOB.out.bls, HAT.out.below, HOB.out.le, HOB.out.lt⟩
          clear HAT HOB
          go_wp2_with fail
          go_loopg [18] 26 (fun g v18 wr => ∃ j : Nat, j ≤ (barF k f).length ∧ 25 - j ≤ g ∧ v18 = .int .i64 (j : Nat) ∧ GrS w wr O k (outBy ((barF k f).take j)))
          case atStart => exact ⟨0, by omega, by omega, rfl, HS3.out⟩
          case round =>
            clear HS3
            obtain ⟨j, hj, hkj, rfl, hat⟩ := hrel
            have HAT : Hid (GrS w wr O k (outBy ((barF k f).take j))) := hat
            clear hat
            by_cases hjt : j < (barF k f).length
            · have hk1 : 0 < k := by omega
              have hjt' : (j : Int) < ((barF k f).length : Int) := by omega
              obtain ⟨x, gx⟩ : ∃ x, (barF k f)[j]? = some x := ⟨_, List.getElem?_eq_getElem hjt⟩
              have hxm := barF_mem.1 (List.mem_of_getElem? gx)
              have hxk : x < k := hxm.1
              have hxi : inn x = true := HBE.out.barIn HIN.out hxm.2
              have HGX : Hid ((barF k f)[j]? = some x) := gx
              have HUW : Hid (Ints wr base (.slice uo (barF k f).length uc) (barF k f)) := ownsRow_same HUW0.out fun q hq => HAT.out.below.block q (HUW0.out.lt q hq).2
              obtain ⟨gg, cc, es, _, _, cx⟩ := HUW.out.at gx
              simp only [Value.slice.injEq, true_and] at es
              obtain ⟨rfl, rfl⟩ := es
              have ix := (HIW.out.below hk1 HAT.out.below).cell x hxk
              rw [hxi] at ix
              have hxk' : (x : Int) < (k : Int) := by omega
              clear gx hxm hxi
              by_cases hj0 : j = 0
              · have HJ0 : Hid (j = 0) := hj0
                clear hj0
                go_wp2_with fail
                have d1 : decide ((x : Int) < 0) = false := decide_eq_false (by omega)
                have d2 : decide ((k : Int) ≤ (x : Int)) = false := decide_eq_false (by omega)
                have d5 : decide ((0 : Int) < (j : Int)) = false := decide_eq_false (by have := HJ0.out; omega)
                have d6 : decide (0 < j) = false := decide_eq_false (by have := HJ0.out; omega)
                have d7 : ¬ (0 < j) := by have := HJ0.out; omega
                refine wp_region_quiet_lit (by kernel_rfl) (by kernel_rfl) ?_
                iterate 17 (quiet_step (fail))
                iterate 10 ((with_reducible refine wpQuiet_step (fun K hK => ?_)); go_simp; (with_reducible refine hK _ ?_); clear hK K)
                iterate 12 (quiet_step (fail))
                refine wpQuiet_nil ?_
                intro _ hw'
                obtain ⟨nq, hw''⟩ := hw'
                subst hw''
                clear d1 d2 d5 d6 d7
                have HQ2 : Hid (GrS w (wr.drewN nq) O k (outBy ((barF k f).take j))) := HAT.out.drewN nq
                have cx' : (wr.drewN nq).cell? ⟨gg, j, none⟩ = some (.int .i64 (x : Int)) := cx
                clear cx ix HAT HUW
                generalize wr.drewN nq = w7 at HQ2 cx' ⊢
                have ox := HQ2.out.bls.cell x hxk
                have fx := HQ2.out.bls.free x
                have HQ4 : Hid (GrS w (w7.setCell ⟨O, x, none⟩ (.bool true)) O k (outBy ((barF k f).take (j + 1)))) := by
                  have := HQ2.out.set hxk true
                  rw [take_snoc HGX.out, outBy_snoc]
                  exact this
                go_wp2_with fail
                go_roundg (25 - (j + 1))
                case measure => omega
                case rel => exact ⟨j + 1, by omega, Nat.le_refl _, by go_num, HQ4.out⟩
              · obtain ⟨q, hq⟩ : ∃ q, j = q + 1 := ⟨j - 1, by omega⟩
                obtain ⟨x', gp⟩ : ∃ x', (barF k f)[q]? = some x' := ⟨_, List.getElem?_eq_getElem (by omega)⟩
                have hrise := pairwise_get (barF_rising k f) (show q < j by omega) gp HGX.out
                have hrise' : ¬ (x' : Int) ≥ (x : Int) := by omega
                obtain ⟨gg', cc', es, _, _, p0⟩ := HUW.out.at gp
                simp only [Value.slice.injEq, Option.some.injEq, Addr.mk.injEq, and_true, true_and] at es
                obtain ⟨rfl, rfl⟩ := es
                have HIJ : Hid (j = q + 1) := hq
                have hi2 : (q : Int) < ((barF k f).length : Int) := by omega
                clear gp hq hj0
                go_wp2_with fail
                have hw1 : IntKind.i64.wrap ((j : Int) - 1) = (q : Int) := by rw [show (j : Int) - 1 = (q : Int) by have := HIJ.out; omega]; exact wrap_small q (by have := HIJ.out; omega)
                have d1 : decide ((x : Int) < 0) = false := decide_eq_false (by omega)
                have d2 : decide ((k : Int) ≤ (x : Int)) = false := decide_eq_false (by omega)
                have d4 : decide ((x : Int) ≤ (x' : Int)) = false := decide_eq_false (by omega)
                have d5 : decide ((0 : Int) < (j : Int)) = true := decide_eq_true (by have := HIJ.out; omega)
                have d6 : decide (0 < j) = true := decide_eq_true (by have := HIJ.out; omega)
                have d7 : 0 < j := by have := HIJ.out; omega
                go_quiet (fail)
                clear hw1 d1 d2 d4 d5 d6 d7
                have HQ2 : Hid (GrS w (wr.drewN nq) O k (outBy ((barF k f).take j))) := HAT.out.drewN nq
                have cx' : (wr.drewN nq).cell? ⟨gg, j, none⟩ = some (.int .i64 (x : Int)) := cx
                clear cx ix HAT HUW p0
                generalize wr.drewN nq = w7 at HQ2 cx' ⊢
                have ox := HQ2.out.bls.cell x hxk
                have fx := HQ2.out.bls.free x
                have HQ4 : Hid (GrS w (w7.setCell ⟨O, x, none⟩ (.bool true)) O k (outBy ((barF k f).take (j + 1)))) := by
                  have := HQ2.out.set hxk true
                  rw [take_snoc HGX.out, outBy_snoc]
                  exact this
                go_wp2_with fail
                go_roundg (25 - (j + 1))
                case measure => omega
                case rel => exact ⟨j + 1, by omega, Nat.le_refl _, by go_num, HQ4.out⟩
            · have hjt' : ¬ (j : Int) < ((barF k f).length : Int) := by omega
              have et : (barF k f).take j = barF k f := List.take_of_length_le (by omega)
              have HAT2 : Hid (GrS w wr O k (outBy (barF k f))) := by have := HAT.out; rw [et] at this; exact this
              clear et HAT
              have OD := rodd_any wr (HLW.out.below HAT2.out.below) (ic := ic) (oc := k) (HIW.out.belowL hIl HAT2.out.below) HAT2.out.bls hk24 HEO.out hl
              go_wp2_with fail
              refine OD.mono ?_
              rintro e w8 ⟨S, name, hf, rfl, hb8⟩
              have HE : Hid (Below w.heap.size w w8) := HAT2.out.below.trans (hb8.mono HAT2.out.below.size)
              have hsum := bf_count (HEO.out.gr hk24) HBE.out HIN.out (fun x hx => by unfold blkOf; rw [outBy_bar (n := k) hx]) hf
              have hsum2 : total k (fun a => pieceCnt k S name a % 2) + 2 * (pairsF k mate).length = C + (barF k f).length := by rw [← HCE.out]; exact hsum
              have hto := odd_sum k k S name
              clear OD hf hb8 hsum HAT2
              generalize total k (fun a => pieceCnt k S name a % 2) = T at hsum2 hto ⊢
              generalize (pairsF k mate).length = np at *
              generalize (barF k f).length = nb at *
              have hfin : ((T : Int) == (C : Int) - 2 * (np : Int) + (nb : Int)) = true := by simp; omega
              have HSUM : Hid _ := hsum2
              clear hsum2
              go_wp2_with fail
              go_ret
              exact ⟨rfl, HE.out⟩
end Go.Proofs.YtcabaecbmkgclaaGreatDoor.Rf

namespace Go.Proofs.YtcabaecbmkgclaaGreatDoor.Rf
open Go.RowKit Mt Mg

set_option maxRecDepth 100000 in
set_option maxHeartbeats 8000000 in
theorem bmatch_any {N : Nat} {w : World} {B : Nat} {l : List Sl} (h : BookOk N w B l) (hl : l.length ≤ 8999990) (n : Int) {ov : Value} {L : List (Int × Int)} (hL : IPr w ov L) (hc : ∀ so cap, ov = .slice so L.length cap → L.length ≤ cap) (hlen : L.length ≤ 1048576) :
    Calls Tryz.prog 28 #[.pointer (some ⟨B, 0, none⟩), .int .i64 n, ov] w (StepPost N w B l 2) := by
  obtain ⟨j0, hj0, hy0, hy1, hy2⟩ := info_parts Tryz.infoPair2
  obtain ⟨b0, hb0, hbz0, hbz1, hbz2⟩ := info_parts Tryz.infoBool
  have HBK : Hid (BookOk N w B l) := h
  have HL : Hid (IPr w ov L) := hL
  have HC : Hid (∀ so cap, ov = .slice so L.length cap → L.length ≤ cap) := hc
  obtain ⟨so, cap, hv, hcc⟩ := hL
  have HNL : Hid (so = none → L = []) := fun e => by
    cases hq : L with
    | nil => rfl
    | cons p r =>
      obtain ⟨b, o, e', _⟩ := hcc 0 p.1 p.2 (by rw [hq]; rfl)
      rw [e] at e'
      cases e'
  subst hv
  clear h hcc hc
  go_enter Tryz.func28, Tryz.ntmps28
  go_wp2_with (at_make; go_must (refine wpList_make_full _ rfl _ _ 29 rfl w.heap.size 48 j0 (.agg #[.int .i64 0, .int .i64 0]) 2 Tryz.underlying29 hj0 hy0 hy1 .i64 .i64 _ _ (L.length + 4) rfl rfl (by omega) (by omega) ?c1 ?c2 ?c3 ?_))
  case c1 => rw [hy2]; omega
  case c2 => unfold maxLen; omega
  case c3 => exact Nat.le_refl _
  intro w1 hown hgrow
  have HST : Hid (MaAt w w1 w.heap.size (L.length + 4) fun _ => (0, 0)) := ⟨Ars.made hown (by omega), (Below.refl _ w).grown hgrow (Nat.le_refl _) (by simp), Nat.le_refl _, (hown.lt _ rfl).2⟩
  clear hown hgrow
  generalize w.heap.size = A at HST ⊢
  go_wp2_with fail
  go_loopg [8] (L.length + 5) (fun k v8 wr => ∃ i : Nat, i ≤ L.length + 4 ∧ L.length + 4 - i < k ∧ v8 = .int .i64 (i : Nat) ∧ MaAt w wr A (L.length + 4) fun x => if x < i then origC L x else (0, 0))
  case atStart => exact ⟨0, by omega, by omega, rfl, HST.out⟩
  case round =>
    clear HST
    obtain ⟨i, hi, hk, rfl, hat⟩ := hrel
    have HAT : Hid (MaAt w wr A (L.length + 4) fun x => if x < i then origC L x else (0, 0)) := hat
    clear hat
    by_cases hlt : i < L.length + 4
    · have hlt' : (i : Int) < (L.length : Int) + 4 := by omega
      have hlt2 : (i : Int) < ((L.length + 4 : Nat) : Int) := by omega
      have c0 := HAT.out.ars.fst i hlt
      have c1 := HAT.out.ars.snd i hlt
      have f0 := HAT.out.ars.free (i * 2)
      have f1 := HAT.out.ars.free (i * 2 + 1)
      have HM2 : Hid (MaAt w ((wr.setCell ⟨A, i * 2, none⟩ (.int .i64 0)).setCell ⟨A, i * 2 + 1, none⟩ (.int .i64 1)) A (L.length + 4) (setAt (fun x => if x < i then origC L x else (0, 0)) i (0, 1))) := HAT.out.set hlt 0 1
      clear HAT
      go_upto_region 6 with fail
      generalize (wr.setCell ⟨A, i * 2, none⟩ (.int .i64 0)).setCell ⟨A, i * 2 + 1, none⟩ (.int .i64 1) = w2 at HM2 ⊢
      clear c0 c1 f0 f1
      by_cases hil : i < L.length
      · have hil' : (i : Int) < (L.length : Int) := by omega
        obtain ⟨x, y, gi⟩ : ∃ x y, L[i]? = some (x, y) := ⟨_, _, List.getElem?_eq_getElem hil⟩
        obtain ⟨so', cap', es, hx⟩ := HL.out.below HM2.out.below
        simp only [Value.slice.injEq, true_and] at es
        obtain ⟨rfl, rfl⟩ := es
        obtain ⟨bb, oo, rfl, d0, d1⟩ := hx i x y gi
        have HO : Hid (origC L i = (x, y)) := (by unfold origC; rw [List.getD_eq_getElem?_getD, gi]; rfl : origC L i = (x, y))
        have c0 := HM2.out.ars.fst i hlt
        have c1 := HM2.out.ars.snd i hlt
        have f0 := HM2.out.ars.free (i * 2)
        have f1 := HM2.out.ars.free (i * 2 + 1)
        have HM3 : Hid (MaAt w ((w2.setCell ⟨A, i * 2, none⟩ (.int .i64 x)).setCell ⟨A, i * 2 + 1, none⟩ (.int .i64 y)) A (L.length + 4) (fun z => if z < i + 1 then origC L z else (0, 0))) := (HM2.out.set hlt x y).congr fun z hz => by
          simp only [setAt]
          by_cases e : z = i
          · rw [if_pos (by omega), if_pos e, e, HO.out]
          · rw [if_neg e, if_neg e]
            by_cases e2 : z < i
            · rw [if_pos (by omega), if_pos e2]
            · rw [if_neg (by omega), if_neg e2]
        clear gi hx HM2
        go_wp2_with fail
        go_roundg (L.length + 4 - i)
        case measure => omega
        case rel => exact ⟨i + 1, by omega, by omega, by go_num, HM3.out⟩
      · have hil' : ¬ (i : Int) < (L.length : Int) := by omega
        have HM3 : Hid (MaAt w w2 A (L.length + 4) (fun z => if z < i + 1 then origC L z else (0, 0))) := HM2.out.congr fun z hz => by
          simp only [setAt]
          by_cases e : z = i
          · rw [if_pos (by omega), if_pos e, e]
            unfold origC
            rw [List.getD_eq_getElem?_getD, List.getElem?_eq_none (by omega)]
            rfl
          · rw [if_neg e]
            by_cases e2 : z < i
            · rw [if_pos (by omega), if_pos e2]
            · rw [if_neg (by omega), if_neg e2]
        clear HM2
        go_wp2_with fail
        go_roundg (L.length + 4 - i)
        case measure => omega
        case rel => exact ⟨i + 1, by omega, by omega, by go_num, HM3.out⟩
    · have hlt' : ¬ (i : Int) < (L.length : Int) + 4 := by omega
      have hlt2 : ¬ (i : Int) < ((L.length + 4 : Nat) : Int) := by omega
      have HMA : Hid (MaAt w wr A (L.length + 4) (origC L)) := HAT.out.congr fun z hz => by rw [if_pos (by omega)]
      clear HAT
      generalize wr = wb at HMA ⊢
      have hnil : ∀ wx, Sem.run Tryz.prog (binOp BinOp.eql 29 (Value.slice so L.length cap) (Value.slice none 0 0)) wx = .ok (.bool so.isNone) wx := fun wx => by cases so <;> rfl
      go_upto_if 50 with fail
      clear hnil
      go_cut [9] from 51 to 57 (fun v9 wc => IPr wc v9 L ∧ (∃ so cap, v9 = .slice so L.length cap) ∧ wb = wc)
      case first =>
        cases so with
        | some ad =>
          simp only [Option.isNone_some]
          go_wp2_with fail
          go_meet
          exact ⟨HMA.out.ipr, ⟨_, _, rfl⟩, rfl⟩
        | none =>
          simp only [Option.isNone_none]
          have HLE : Hid (IPr wb (.slice none 0 0) L ∧ ∃ so cap, Value.slice none 0 0 = .slice so L.length cap) := by
            rw [HNL.out rfl]
            exact ⟨⟨none, 0, rfl, fun i a c hi => by simp at hi⟩, ⟨none, 0, rfl⟩⟩
          go_wp2_with fail
          go_meet
          exact ⟨HLE.out.1, HLE.out.2, rfl⟩
      case rest =>
        obtain ⟨hip, ⟨lso, lcap, rfl⟩, hw⟩ := hcut
        subst hw
        have MT := match_any wb hip n (by omega)
        clear hip
        go_wp2_with fail
        refine MT.mono ?_
        intro e w2 hmt
        obtain ⟨hb2, P, U, ec, pv, uv, rfl, hmr, hPr, hUr⟩ := MtIs.both hmt
        clear MT hmt
        obtain ⟨po, pc, hs1⟩ := ownsRow_shape hPr
        obtain ⟨uo, uc, hs2⟩ := ownsRow_shape hUr
        subst hs1 hs2
        have HMR : Hid (MrIs n L P U ec) := hmr
        have hpl := hmr.small.1
        have hul := hmr.small.2
        have HS2 : Hid (MaAt w w2 A (L.length + 4) (fun x => if x < 0 then (-5, -5) else origC L x)) := (HMA.out.on hb2).congr fun z _ => by rw [if_neg (by omega)]
        have HPr : Hid (Prs w2 wb.heap.size (.slice po P.length pc) P) := hPr
        have HUr : Hid (Ints w2 wb.heap.size (.slice uo U.length uc) U) := hUr
        have HAL : Hid (A < wb.heap.size) := HMA.out.lt
        have HWB : Hid (w.heap.size ≤ wb.heap.size) := HMA.out.below.size
        clear hb2 hmr hPr hUr HMA
        go_wp2_with fail
        go_loopg [13, 14] (L.length + 5) (fun k v13 v14 wr => ∃ i : Nat, i ≤ L.length + 4 ∧ L.length + 4 - i < k ∧ v13 = .bool true ∧ v14 = .int .i64 (i : Nat) ∧ MaAt w wr A (L.length + 4) (fun x => if x < i then (-5, -5) else origC L x) ∧ MFr A w2 wr)
        case atStart => exact ⟨0, by omega, by omega, rfl, rfl, HS2.out, MFr.refl _ _⟩
        case round =>
          clear HS2
          obtain ⟨i, hi, hk, rfl, rfl, hat, hfr⟩ := hrel
          have HAT : Hid (MaAt w wr A (L.length + 4) fun x => if x < i then (-5, -5) else origC L x) := hat
          have HFR : Hid (MFr A w2 wr) := hfr
          clear hat hfr
          by_cases hlt : i < L.length + 4
          · have hlt' : (i : Int) < (L.length : Int) + 4 := by omega
            have hlt2 : (i : Int) < ((L.length + 4 : Nat) : Int) := by omega
            by_cases hil : i < L.length
            · have hil' : (i : Int) < (L.length : Int) := by omega
              obtain ⟨x, y, gi⟩ : ∃ x y, L[i]? = some (x, y) := ⟨_, _, List.getElem?_eq_getElem hil⟩
              obtain ⟨so', cap', es, hx⟩ := HL.out.below HAT.out.below
              simp only [Value.slice.injEq, true_and] at es
              obtain ⟨rfl, rfl⟩ := es
              obtain ⟨bb, oo, rfl, d0, d1⟩ := hx i x y gi
              have eo : origC L i = (x, y) := by unfold origC; rw [List.getD_eq_getElem?_getD, gi]; rfl
              have HM2 : Hid (MaAt w (wr.alloc (.cells #[.int .i64 x, .int .i64 y] 48)) A (L.length + 4) fun x => if x < i then (-5, -5) else origC L x) := HAT.out.on ((Below.refl _ wr).alloc (Nat.le_refl _) _)
              have HF2 : Hid (MFr A w2 (wr.alloc (.cells #[.int .i64 x, .int .i64 y] 48))) := HFR.out.trans (MFr.of_below ((Below.refl _ wr).alloc (Nat.le_refl _) _))
              have q0 : (wr.alloc (.cells #[.int .i64 x, .int .i64 y] 48)).cell? ⟨wr.heap.size, 0, none⟩ = some (.int .i64 x) := by rw [World.cell?_alloc_new]; rfl
              have q1 : (wr.alloc (.cells #[.int .i64 x, .int .i64 y] 48)).cell? ⟨wr.heap.size, 1, none⟩ = some (.int .i64 y) := by rw [World.cell?_alloc_new]; rfl
              have HO : Hid (origC L i = (x, y)) := eo
              have d0a : (wr.alloc (.cells #[.int .i64 0, .int .i64 1] 48)).cell? ⟨bb, oo + i * 2, none⟩ = some (.int .i64 x) := by rw [World.cell?_alloc_lt _ _ _ (World.block_lt_of_cell? wr ⟨bb, oo + i * 2, none⟩ d0)]; exact d0
              have d1a : (wr.alloc (.cells #[.int .i64 0, .int .i64 1] 48)).cell? ⟨bb, oo + i * 2 + 1, none⟩ = some (.int .i64 y) := by rw [World.cell?_alloc_lt _ _ _ (World.block_lt_of_cell? wr ⟨bb, oo + i * 2 + 1, none⟩ d1)]; exact d1
              clear gi hx HAT HFR eo
              go_upto_region 19 with fail
              have o0 := HM2.out.ars.fst i hlt
              have o1 := HM2.out.ars.snd i hlt
              simp only [Nat.lt_irrefl, if_false, HO.out] at o0 o1
              generalize wr.heap.size = X at *
              generalize wr.alloc _ = wq at *
              clear d0 d1 d0a d1a
              go_wp2_with fail
              go_quiet (fail)
              have HM3 : Hid (MaAt w (wq.drewN nq) A (L.length + 4) fun x => if x < i then (-5, -5) else origC L x) := HM2.out.drewN nq
              have HF3 : Hid (MFr A w2 (wq.drewN nq)) := HF2.out.drewN nq
              clear o0 o1 q0 q1 HM2 HF2
              generalize wq.drewN nq = w4 at HM3 HF3 ⊢
              have c0 := HM3.out.ars.fst i hlt
              have c1 := HM3.out.ars.snd i hlt
              have f0 := HM3.out.ars.free (i * 2)
              have f1 := HM3.out.ars.free (i * 2 + 1)
              have HM4 : Hid (MaAt w ((w4.setCell ⟨A, i * 2, none⟩ (.int .i64 (-5))).setCell ⟨A, i * 2 + 1, none⟩ (.int .i64 (-5))) A (L.length + 4) (fun z => if z < i + 1 then (-5, -5) else origC L z)) := (HM3.out.set hlt (-5) (-5)).congr fun z hz => by
                simp only [setAt]
                by_cases e : z = i
                · rw [if_pos (by omega), if_pos e]
                · rw [if_neg e]
                  by_cases e2 : z < i
                  · rw [if_pos (by omega), if_pos e2]
                  · rw [if_neg (by omega), if_neg e2]
              have HF4 : Hid (MFr A w2 ((w4.setCell ⟨A, i * 2, none⟩ (.int .i64 (-5))).setCell ⟨A, i * 2 + 1, none⟩ (.int .i64 (-5)))) := (HF3.out.set _ _).set _ _
              go_wp2_with fail
              go_roundg (L.length + 4 - i)
              case measure => omega
              case rel => exact ⟨i + 1, by omega, by omega, rfl, by go_num, HM4.out, HF4.out⟩
            · have hil' : ¬ (i : Int) < (L.length : Int) := by omega
              have eo : origC L i = (0, 1) := by
                unfold origC
                rw [List.getD_eq_getElem?_getD, List.getElem?_eq_none (by omega)]
                rfl
              obtain ⟨x, hx0⟩ : ∃ x : Int, x = 0 := ⟨_, rfl⟩
              obtain ⟨y, hy1⟩ : ∃ y : Int, y = 1 := ⟨_, rfl⟩
              have HM2 : Hid (MaAt w (wr.alloc (.cells #[.int .i64 0, .int .i64 1] 48)) A (L.length + 4) fun x => if x < i then (-5, -5) else origC L x) := HAT.out.on ((Below.refl _ wr).alloc (Nat.le_refl _) _)
              have HF2 : Hid (MFr A w2 (wr.alloc (.cells #[.int .i64 0, .int .i64 1] 48))) := HFR.out.trans (MFr.of_below ((Below.refl _ wr).alloc (Nat.le_refl _) _))
              have q0 : (wr.alloc (.cells #[.int .i64 0, .int .i64 1] 48)).cell? ⟨wr.heap.size, 0, none⟩ = some (.int .i64 x) := by rw [World.cell?_alloc_new, hx0]; rfl
              have q1 : (wr.alloc (.cells #[.int .i64 0, .int .i64 1] 48)).cell? ⟨wr.heap.size, 1, none⟩ = some (.int .i64 y) := by rw [World.cell?_alloc_new, hy1]; rfl
              have HO : Hid (origC L i = (x, y)) := eo.trans (by rw [hx0, hy1])
              clear HAT HFR eo hx0 hy1
              go_upto_region 19 with fail
              have o0 := HM2.out.ars.fst i hlt
              have o1 := HM2.out.ars.snd i hlt
              simp only [Nat.lt_irrefl, if_false, HO.out] at o0 o1
              generalize wr.heap.size = X at *
              generalize wr.alloc _ = wq at *
              go_wp2_with fail
              go_quiet (fail)
              have HM3 : Hid (MaAt w (wq.drewN nq) A (L.length + 4) fun x => if x < i then (-5, -5) else origC L x) := HM2.out.drewN nq
              have HF3 : Hid (MFr A w2 (wq.drewN nq)) := HF2.out.drewN nq
              clear o0 o1 q0 q1 HM2 HF2
              generalize wq.drewN nq = w4 at HM3 HF3 ⊢
              have c0 := HM3.out.ars.fst i hlt
              have c1 := HM3.out.ars.snd i hlt
              have f0 := HM3.out.ars.free (i * 2)
              have f1 := HM3.out.ars.free (i * 2 + 1)
              have HM4 : Hid (MaAt w ((w4.setCell ⟨A, i * 2, none⟩ (.int .i64 (-5))).setCell ⟨A, i * 2 + 1, none⟩ (.int .i64 (-5))) A (L.length + 4) (fun z => if z < i + 1 then (-5, -5) else origC L z)) := (HM3.out.set hlt (-5) (-5)).congr fun z hz => by
                simp only [setAt]
                by_cases e : z = i
                · rw [if_pos (by omega), if_pos e]
                · rw [if_neg e]
                  by_cases e2 : z < i
                  · rw [if_pos (by omega), if_pos e2]
                  · rw [if_neg (by omega), if_neg e2]
              have HF4 : Hid (MFr A w2 ((w4.setCell ⟨A, i * 2, none⟩ (.int .i64 (-5))).setCell ⟨A, i * 2 + 1, none⟩ (.int .i64 (-5)))) := (HF3.out.set _ _).set _ _
              go_wp2_with fail
              go_roundg (L.length + 4 - i)
              case measure => omega
              case rel => exact ⟨i + 1, by omega, by omega, rfl, by go_num, HM4.out, HF4.out⟩
          · have hlt' : ¬ (i : Int) < (L.length : Int) + 4 := by omega
            have hlt2 : ¬ (i : Int) < ((L.length + 4 : Nat) : Int) := by omega
            have HB4 : Hid (Below w.heap.size w wr) := HAT.out.below
            have HP4 : Hid (Prs wr w.heap.size (.slice po P.length pc) P) := ownsRow_mono (ownsRow_same HPr.out fun q hq => HFR.out.block q (HPr.out.lt q hq).2 (by have h1 := (HPr.out.lt q hq).1; have h2 := HAL.out; omega)) HWB.out
            have HU4 : Hid (Ints wr w.heap.size (.slice uo U.length uc) U) := ownsRow_mono (ownsRow_same HUr.out fun q hq => HFR.out.block q (HUr.out.lt q hq).2 (by have h1 := (HUr.out.lt q hq).1; have h2 := HAL.out; omega)) HWB.out
            clear HAT HFR HPr HUr HAL HWB
            generalize wr = w4 at HB4 HP4 HU4 ⊢
            have RG := rgraph_any w4 (HL.out.below HB4.out) n (by omega)
            go_wp2_with fail
            refine RG.mono ?_
            rintro e w5 ⟨rfl, hb5⟩
            clear RG
            have HB5 : Hid (Below w.heap.size w w5) := HB4.out.trans (hb5.mono HB4.out.size)
            have HP5 : Hid (Prs w5 w.heap.size (.slice po P.length pc) P) := ownsRow_same HP4.out fun q hq => hb5.block q (HP4.out.lt q hq).2
            have HU5 : Hid (Ints w5 w.heap.size (.slice uo U.length uc) U) := ownsRow_same HU4.out fun q hq => hb5.block q (HU4.out.lt q hq).2
            clear HB4 HP4 HU4 hb5
            generalize hok : okG n L = ok at *
            have HOK : Hid (okG n L = ok) := hok
            clear hok
            go_upto_region 22 with fail
            go_cut [17] from 89 to 100 (fun v17 wc => ∃ b : Bool, v17 = .bool b ∧ (ok = false → b = true) ∧ w5 = wc)
            case first =>
              by_cases hp0 : P.length = 0
              · by_cases hu0 : U.length = 0
                · have hp1 : ((P.length : Int) == 0) = true := by rw [show (P.length : Int) = 0 by omega]; rfl
                  have hu1 : ((U.length : Int) == 0) = true := by rw [show (U.length : Int) = 0 by omega]; rfl
                  by_cases he : ec = 7
                  · have he1 : (ec == (7 : Int)) = true := by rw [he]; rfl
                    clear he hp0 hu0
                    go_wp2_with fail
                    go_meet
                    exact ⟨true, rfl, fun _ => rfl, rfl⟩
                  · have he1 : (ec == (7 : Int)) = false := beq_false_of_ne he
                    have HNO : Hid (ok ≠ false) := fun e => he (HMR.out.no (HOK.out.trans e)).2.2
                    clear he hp0 hu0
                    go_wp2_with fail
                    go_meet
                    exact ⟨false, rfl, fun e => absurd e HNO.out, rfl⟩
                · have hp1 : ((P.length : Int) == 0) = true := by rw [show (P.length : Int) = 0 by omega]; rfl
                  have hu1 : ((U.length : Int) == 0) = false := beq_false_of_ne (by omega)
                  have HNO : Hid (ok ≠ false) := fun e => hu0 (by rw [(HMR.out.no (HOK.out.trans e)).2.1]; rfl)
                  clear hp0 hu0
                  go_wp2_with fail
                  go_meet
                  exact ⟨false, rfl, fun e => absurd e HNO.out, rfl⟩
              · have hp1 : ((P.length : Int) == 0) = false := beq_false_of_ne (by omega)
                have HNO : Hid (ok ≠ false) := fun e => hp0 (by rw [(HMR.out.no (HOK.out.trans e)).1]; rfl)
                clear hp0
                go_wp2_with fail
                go_meet
                exact ⟨false, rfl, fun e => absurd e HNO.out, rfl⟩
            case rest =>
              obtain ⟨bq, rfl, hbq, hw⟩ := hcut
              subst hw
              go_upto_if 101 with fail
              go_cut [17, 18, 19] from 102 to 121 (fun v17 v18 v19 wc => v17 = .bool true ∧ v18 = v18 ∧ v19 = v19 ∧ Below w5.heap.size w5 wc)
              case first =>
                cases ok
                · have hb1 := hbq rfl
                  subst hb1
                  go_wp2_with fail
                  go_meet
                  exact ⟨rfl, trivial, trivial, Below.refl _ _⟩
                · obtain ⟨hn24, hnn, hed⟩ := okG_ed HOK.out
                  obtain ⟨k, hkn⟩ : ∃ k : Nat, n = (k : Int) := ⟨n.toNat, hnn.symm⟩
                  subst hkn
                  obtain ⟨mate, f, hh, hB, eP, eU, eec⟩ := HMR.out.yes HOK.out
                  simp only [Int.toNat_natCast] at hn24 hed hB eP eU
                  subst eP eU eec
                  have HBE : Hid (Best (grL k (natL L)) mate f hh) := hB
                  have HED : Hid (EdOk k (natL L)) := hed
                  have HNP : Hid (NPr w5 (.slice so L.length cap) (natL L)) := (ipr_nat (HL.out.below HB5.out) HC.out HOK.out).1
                  clear hB hed hnn
                  go_wp2_with (at_make; go_must (refine wpList_make_full _ rfl _ _ 129 rfl w5.heap.size 4 b0 (.bool false) 1 Tryz.underlying129 hb0 hbz0 hbz1 .i64 .i64 _ _ k rfl rfl rfl rfl ?m1 ?m2 ?m3 ?_))
                  case m1 => first | omega | (rw [hbz2]; omega)
                  case m2 => unfold maxLen; omega
                  intro w6 hown hgrow
                  have HS3 : Hid (GrS w5 w6 w5.heap.size k fun x => decide (x < 0)) := ⟨Bls.made hown, (Below.refl _ w5).grown hgrow (Nat.le_refl _) (by simp), Nat.le_refl _, (hown.lt _ rfl).2⟩
                  clear hown hgrow
                  generalize w5.heap.size = I at HS3 ⊢
                  go_wp2_with fail
                  go_loopg [19] 26 (fun g v19 wr => ∃ i : Nat, i ≤ k ∧ 25 - i ≤ g ∧ v19 = .int .i64 (i : Nat) ∧ GrS w5 wr I k fun x => decide (x < i))
                  case atStart => exact ⟨0, by omega, by omega, rfl, HS3.out⟩
                  case round =>
                    clear HS3
                    obtain ⟨i, hi3, hk3, rfl, hat⟩ := hrel
                    have HAT : Hid (GrS w5 wr I k fun x => decide (x < i)) := hat
                    clear hat
                    by_cases hik : i < k
                    · have hik' : (i : Int) < (k : Int) := by omega
                      have ci := HAT.out.bls.cell i hik
                      have fi := HAT.out.bls.free i
                      have HN : Hid (GrS w5 (wr.setCell ⟨I, i, none⟩ (.bool true)) I k fun x => decide (x < i + 1)) := by
                        have := HAT.out.set hik true
                        rw [show setAt (fun x => decide (x < i)) i true = fun x => decide (x < i + 1) by
                          funext x
                          simp only [setAt]
                          by_cases e : x = i
                          · rw [if_pos e, e]; simp
                          · rw [if_neg e]
                            by_cases e2 : x < i
                            · rw [decide_eq_true e2, decide_eq_true (by omega)]
                            · rw [decide_eq_false e2, decide_eq_false (by omega)]] at this
                        exact this
                      go_wp2_with fail
                      go_roundg (25 - (i + 1))
                      case measure => omega
                      case rel => exact ⟨i + 1, by omega, Nat.le_refl _, by go_num, HN.out⟩
                    · have hik' : ¬ (i : Int) < (k : Int) := by omega
                      obtain rfl : k = i := by omega
                      have GR := rgreatest_any wr (ic := k) (HNP.out.below HAT.out.below) HAT.out.bls HAT.out.lt hn24 HED.out (by simp [natL]; omega) (fun x y hxy => by
                        obtain ⟨h1, h2⟩ := (HED.out.gr hn24).lt x y hxy
                        exact ⟨decide_eq_true h1, decide_eq_true h2⟩) HBE.out ((NPr.of HP5.out).below HAT.out.below) (ownsRow_same HU5.out fun q hq => HAT.out.below.block q (HU5.out.lt q hq).2)
                      have HBW : Hid (Below w5.heap.size w5 wr) := HAT.out.below
                      clear HAT
                      go_wp2_with fail
                      refine GR.mono ?_
                      rintro e w7 ⟨rfl, hb7⟩
                      have HB7 : Hid (Below w5.heap.size w5 w7) := HBW.out.trans (hb7.mono HBW.out.size)
                      clear GR hb7
                      go_wp2_with fail
                      go_meet
                      exact ⟨rfl, trivial, trivial, HB7.out⟩
              case rest =>
                obtain ⟨rfl, _, _, hb6⟩ := hcut
                have HB6 : Hid (Below w.heap.size w wc) := HB5.out.trans (hb6.mono HB5.out.size)
                have HP6 : Hid (Prs wc w.heap.size (.slice po P.length pc) P) := ownsRow_same HP5.out fun q hq => hb6.block q (HP5.out.lt q hq).2
                have HU6 : Hid (Ints wc w.heap.size (.slice uo U.length uc) U) := ownsRow_same HU5.out fun q hq => hb6.block q (HU5.out.lt q hq).2
                have HXB : Hid (∀ k, (∃ x ∈ l, x.has k) ∨ k = B ∨ (∃ bv, w.cell? ⟨B, 0, none⟩ = some bv ∧ bv.ownBlock = some k) → k < w.heap.size) := by
                  rintro k (⟨x, hx, hk⟩ | rfl | ⟨bv, hbv, hk⟩)
                  · exact (HBK.out.ok x hx).lt hk
                  · obtain ⟨_, _, _, _, hlt, _, _⟩ := HBK.out.at
                    exact hlt
                  · exact ((HBK.out.row hbv).2.lt k hk).2
                have hBl : B < w.heap.size := HXB.out B (.inr (.inl rfl))
                have KA := keepP_any (HBK.out.below HB6.out) (by omega) HP6.out (by omega) HB6.out.size (fun k hk x hx hh => by
                  have h1 := (HP6.out.lt k hk).1
                  have h2 := HXB.out k (.inl ⟨x, hx, hh⟩)
                  omega)
                clear hb6 HB5 HP5 HU5
                go_wp2_with fail
                refine KA.mono ?_
                rintro e w7 ⟨rfl, ⟨x, hbk7, hx7⟩, hf7⟩
                have hrow : ∀ bv, wc.cell? ⟨B, 0, none⟩ = some bv → ∀ k, bv.ownBlock = some k → k < w.heap.size := by
                  intro bv hbv k hk
                  rw [HB6.out.cell (p := ⟨B, 0, none⟩) hBl] at hbv
                  exact HXB.out k (.inr (.inr ⟨bv, hbv, hk⟩))
                have hu7 : w7.ownsRow w.heap.size 3 1 (.slice uo U.length uc) U.length (intCells U) := by
                  refine ownsRow_same HU6.out fun k hk => ?_
                  have h1 := HU6.out.lt k hk
                  exact hf7.block k h1.2 (by omega) (fun bv hbv e => by have := hrow bv hbv k e; omega) (fun e => ownBlock_ne HU6.out HP6.out (by decide) k hk e)
                have KB := keepN_any hbk7 (by simp; omega) hu7 (by omega) (Nat.le_trans HB6.out.size hf7.size) (fun k hk y hy hh => by
                  have h1 := HU6.out.lt k hk
                  rcases List.mem_append.1 hy with hy | hy
                  · have h2 := HXB.out k (.inl ⟨y, hy, hh⟩)
                    omega
                  · simp at hy
                    subst hy
                    rcases hx7 k hh with e | e
                    · exact ownBlock_ne HU6.out HP6.out (by decide) k hk e
                    · omega)
                have HB7 : Hid (BFr w w7 B) := (BFr.of_below HB6.out hBl).keep hf7 (fun k hk => (HP6.out.lt k hk).1)
                have HVB : Hid (∀ k, (Value.slice uo U.length uc).ownBlock = some k → w.heap.size ≤ k) := fun k hk => (hu7.lt k hk).1
                clear hu7 hrow hf7 hx7 hbk7 KA
                go_wp2_with fail
                refine KB.mono ?_
                rintro e w8 ⟨rfl, ⟨x', hbk8, _⟩, hf8⟩
                have HB8 : Hid (BFr w w8 B) := HB7.out.keep hf8 HVB.out
                have HK8 : Hid (BookOk N w8 B ((l ++ [x]) ++ [x'])) := hbk8
                clear hbk8 hf8 KB
                go_wp2_with fail
                go_ret
                exact ⟨rfl, ⟨_, HK8.out, by simp⟩, HB8.out⟩
end Go.Proofs.YtcabaecbmkgclaaGreatDoor.Rf

namespace Go.Proofs.YtcabaecbmkgclaaGreatDoor
open Go.ChangeShapes Go.WideShapes Go.ChangeAt Go.RowKit

theorem own : ownKnob Tryz.prog.godebug = none := by kernel_rfl
theorem laidOut : laidOutB Tryz.prog = true := by kernel_rfl

def layWith (cs : Array Value) : Obj → Obj
  | .cells _ t frozen => .cells cs t frozen
  | o => o
def acceptCells : Array Value := #[.int .u8 128, .int .u8 191, .int .u8 160, .int .u8 191, .int .u8 128, .int .u8 159, .int .u8 144, .int .u8 191, .int .u8 128, .int .u8 143, .int .u8 0, .int .u8 0, .int .u8 0, .int .u8 0, .int .u8 0, .int .u8 0,
  .int .u8 0, .int .u8 0, .int .u8 0, .int .u8 0, .int .u8 0, .int .u8 0, .int .u8 0, .int .u8 0, .int .u8 0, .int .u8 0, .int .u8 0, .int .u8 0, .int .u8 0, .int .u8 0, .int .u8 0, .int .u8 0]
def firstCells : Array Value := (Pinned.utf8FirstZ.map fun (n : Nat) => Value.int .u8 n).toArray

/-- The settled world, the two tables holding what their initialisers lay. -/
noncomputable def laidWorld (os : Os) : World :=
  { World.holding Tryz.prog os ⟨#[], #[], []⟩ with heap := ((World.holding Tryz.prog os ⟨#[], #[], []⟩).heap.modify 0 (layWith firstCells)).modify 1 (layWith acceptCells) }

set_option maxRecDepth 100000 in
theorem laid_script (os : Os) : laidMet Tryz.prog Rows.parsesRow.laid ((laidWorld os).forCall (fun _ _ => 0) ⟨#[], #[.slice none 0 0], []⟩).memory :=
  laidMet_of_run' 8 (by kernel_rfl) (by kernel_rfl)
end Go.Proofs.YtcabaecbmkgclaaGreatDoor
