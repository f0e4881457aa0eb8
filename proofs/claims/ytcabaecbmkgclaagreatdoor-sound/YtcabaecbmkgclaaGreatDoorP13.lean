/-
  What benzol.Match does.
  What the molecule's Candidates does.
  Where all have a mate there is no barrier; two numbers and one edge.
  Pieces found one by one, each from its least number on: what stands while they are found; a naming at the end.
  Lists of pairs, rows of Booleans; what the document's edge does.
  What slices.Contains (over pairs), the molecule's Doubled and counted do.
-/
import Derived.Test.YtcabaecbmkgclaaGreatDoorP12
import Derived.OwnWalk

namespace Go.Proofs.YtcabaecbmkgclaaGreatDoor.Mg
open Go.RowKit Mt

/-- What Match hands back. -/
def MtIs (w : World) (n : Int) (l : List (Int × Int)) (e : Ending) (w' : World) : Prop :=
  Below w.heap.size w w' ∧ ((okG n l = true ∧ ∃ mate f h, Best (grL n.toNat (natL l)) mate f h ∧ ∃ pv uv, e = .returned (.tuple #[pv, uv, .int .i64 0]) ∧ Prs w' w.heap.size pv (pairsF n.toNat mate) ∧ Ints w' w.heap.size uv (barF n.toNat f)) ∨
    (okG n l = false ∧ e = .returned (.tuple #[.slice none 0 0, .slice none 0 0, .int .i64 7])))

theorem okG_ed {n : Int} {l : List (Int × Int)} (h : okG n l = true) : n.toNat ≤ 24 ∧ (n.toNat : Int) = n ∧ EdOk n.toNat (natL l) := by
  unfold okG at h
  simp only [Bool.and_eq_true, decide_eq_true_eq] at h
  obtain ⟨⟨h1, h2⟩, h3⟩ := h
  refine ⟨by omega, by omega, fun p hp => ?_⟩
  obtain ⟨q, hq, rfl⟩ := List.mem_map.1 hp
  have := List.all_eq_true.1 h3 q hq
  unfold edgeOk at this
  simp only [Bool.and_eq_true, inR_iff, Bool.not_eq_true', beq_eq_false_iff_ne] at this
  obtain ⟨⟨⟨k1, k2⟩, k3, k4⟩, k5⟩ := this
  refine ⟨by simp only; omega, by simp only; omega, ?_⟩
  simp only
  omega

theorem gr_there (w : World) (nr : Nat → Nat) (t : TypeId) : ((w.alloc (.cells (nearCells fun _ => 0).toArray t)).setCells w.heap.size 0 (nearCells nr)).rangeAt w.heap.size 0 (nearCells nr) :=
  World.rangeAt_setCells_same _ _ _ _ (by rw [nearCells_len]; exact near_there _ _ _)

theorem gr0_obj : Obj.cells (nearCells fun _ => 0).toArray 65 = Obj.cells #[.int .u32 0, .int .u32 0, .int .u32 0, .int .u32 0, .int .u32 0, .int .u32 0, .int .u32 0, .int .u32 0, .int .u32 0, .int .u32 0, .int .u32 0, .int .u32 0, .int .u32 0, .int .u32 0, .int .u32 0, .int .u32 0, .int .u32 0, .int .u32 0, .int .u32 0, .int .u32 0, .int .u32 0, .int .u32 0, .int .u32 0, .int .u32 0] 65 := rfl

set_option maxRecDepth 100000 in
set_option maxHeartbeats 1000000 in
theorem match_any (w : World) {v : Value} {l : List (Int × Int)} (h : IPr w v l) (n : Int) (hl : l.length ≤ 1000000000000000) :
    Calls Tryz.prog 46 #[.int .i64 n, v] w fun e w' => MtIs w n l e w' := by
  have OF := of_any w h n hl
  obtain ⟨so, cap, hv, hcc⟩ := h
  subst hv
  clear hcc
  go_enter Tryz.func46, Tryz.ntmps46
  go_wp2_with fail
  refine OF.mono ?_
  rintro e w1 ⟨hb1, hcase⟩
  clear OF
  have HB1 : Hid (Below w.heap.size w w1) := hb1
  clear hb1
  rcases hcase with ⟨hok, nr, hnr, rfl⟩ | ⟨hok, rfl⟩
  · obtain ⟨hn24, hnn, hed⟩ := okG_ed hok
    have HTH : Hid ((w1.alloc (.cells (nearCells fun _ => 0).toArray 65)).there w1.heap.size 0 24) := near_there _ _ _
    have HRG : Hid (((w1.alloc (.cells (nearCells fun _ => 0).toArray 65)).setCells w1.heap.size 0 (nearCells nr)).rangeAt w1.heap.size 0 (nearCells nr)) := gr_there _ _ _
    have HB2 : Hid (Below w.heap.size w ((w1.alloc (.cells (nearCells fun _ => 0).toArray 65)).setCells w1.heap.size 0 (nearCells nr))) := below_cells HB1.out.size _ _ _ (HB1.out.alloc HB1.out.size _)
    have HOK : Hid (okG n l = true) := hok
    have GM := greatest_any ((w1.alloc (.cells (nearCells fun _ => 0).toArray 65)).setCells w1.heap.size 0 (nearCells nr)) (nr := nr) (g := grL n.toNat (natL l)) hnr (hed.gr hn24)
    rw [show (((grL n.toNat (natL l)).n : Nat) : Int) = n from hnn] at GM
    clear hok hnr hed hn24 hnn
    go_upto_region 2 with (first | (refine wpList_alloc rfl 65 rfl _ _ (alloc_gr0 _) ?_; simp only [Act.put, List.setIfInBounds_toArray, List.set_cons_zero, List.set_cons_succ]) | (refine wpList_store_mid rfl 65 (.tmp 7) (.tmp 15) rfl w1.heap.size 0 (nearCells nr).toArray (by simp [Act.eval]) (by simp [Act.eval]) (by rw [near_size]; with_reducible exact HTH.out) (by rw [near_size]; exact Tryz.sizeGraph) (near_one _) ?_; simp only [Act.put]))
    generalize World.setCells _ _ _ _ = w2 at HRG HB2 GM ⊢
    generalize w1.heap.size = L at HRG ⊢
    clear HTH
    go_wp2_with (refine wpList_load_mid rfl 65 (.tmp 7) rfl L 0 (by simp [Act.eval]) (nearCells nr) _ HRG.out Tryz.underlying65 rfl (by rw [Tryz.sizeGraph, nearCells_len]) ?_; simp only [Act.put, List.setIfInBounds_toArray, List.set_cons_zero, List.set_cons_succ])
    refine GM.mono ?_
    rintro e w3 ⟨mate, f, h, hbest, pv, uv, rfl, hP, hU, hb3⟩
    have HE : Hid (MtIs w n l (.returned (.tuple #[pv, uv, .int .i64 0])) w3) := ⟨HB2.out.trans (hb3.mono HB2.out.size), .inl ⟨HOK.out, mate, f, h, hbest, pv, uv, rfl, ownsRow_mono hP HB2.out.size, ownsRow_mono hU HB2.out.size⟩⟩
    clear GM hbest hP hU hb3
    go_wp2_with fail
    refine bodyPost_ret (v := .tuple #[pv, uv, .int .i64 0]) ?_ rfl HE.out
    simp [results, Tryz.results46]
  · have HTH : Hid ((w1.alloc (.cells (nearCells fun _ => 0).toArray 65)).there w1.heap.size 0 24) := near_there _ _ _
    have HE : Hid (MtIs w n l (.returned (.tuple #[.slice none 0 0, .slice none 0 0, .int .i64 7])) ((w1.alloc (.cells (nearCells fun _ => 0).toArray 65)).setCells w1.heap.size 0 (nearCells fun _ => 0))) := ⟨below_cells HB1.out.size _ _ _ (HB1.out.alloc HB1.out.size _), .inr ⟨hok, rfl⟩⟩
    clear hok
    go_upto_region 2 with (first | (refine wpList_alloc rfl 65 rfl _ _ (alloc_gr0 _) ?_; simp only [Act.put, List.setIfInBounds_toArray, List.set_cons_zero, List.set_cons_succ]) | (refine wpList_store_mid rfl 65 (.tmp 7) (.tmp 15) rfl w1.heap.size 0 (nearCells fun _ => 0).toArray (by simp [Act.eval]) (by simp [Act.eval]) (by rw [near_size]; with_reducible exact HTH.out) (by rw [near_size]; exact Tryz.sizeGraph) (near_one _) ?_; simp only [Act.put]))
    generalize World.setCells _ _ _ _ = w2 at HE ⊢
    clear HTH
    go_wp2_with fail
    refine bodyPost_ret (v := .tuple #[.slice none 0 0, .slice none 0 0, .int .i64 7]) ?_ rfl HE.out
    simp [results, Tryz.results46]
end Go.Proofs.YtcabaecbmkgclaaGreatDoor.Mg

namespace Go.Proofs.YtcabaecbmkgclaaGreatDoor.Kd
open Go.RowKit Bz Mt Mg

/-- Is it a candidate? -/
def cand (q : St) (i : Nat) : Bool := match q.atoms[i]? with
  | some a => a.aro && (match valences a.el a.ch with
    | x :: _ => fill q i a == x - 1
    | [] => false)
  | none => false

section
variable {w : World} {B base : Nat} {s : ByteArray} {p : St}

theorem candidate_any (h : Kd w B base p) (o : Ok s p) (hs : s.size ≤ 160) (i : Nat) (hi : i < p.atoms.length) :
    Calls Tryz.prog 32 #[.pointer (some ⟨B, 0, none⟩), .int .i64 (i : Int)] w fun e w' => e = .returned (.bool (cand p i)) ∧ Below w.heap.size w w' := by
  have gi := List.getElem?_eq_getElem hi
  generalize p.atoms[i] = a at gi
  cases ha : a.aro with
  | false =>
    have : cand p i = false := by unfold cand; rw [gi]; simp [ha]
    rw [this]
    exact candidate_no h i a gi ha
  | true =>
    cases hx : valences a.el a.ch with
    | nil => exact absurd hx (o.aros a (List.mem_of_getElem? gi) ha)
    | cons x r =>
      have : cand p i = (fill p i a == x - 1) := by unfold cand; rw [gi]; simp [ha, hx]
      rw [this]
      exact candidate_yes h o hs i a gi ha x r hx

def isEdge (p : St) (b : Bnd) : Bool := b.o == 4 && (cand p b.a && cand p b.b)
/-- The aromatic bonds between candidates. -/
def candEdges (p : St) (l : List Bnd) : List (Nat × Nat) := (l.filter (isEdge p)).map fun b => (b.a, b.b)

theorem candEdges_yes {l : List Bnd} {i : Nat} {b : Bnd} (hi : l[i]? = some b) (h : isEdge p b = true) : candEdges p (l.take (i + 1)) = candEdges p (l.take i) ++ [(b.a, b.b)] := by
  rw [take_snoc hi]
  unfold candEdges
  rw [List.filter_append, List.map_append]
  simp [h]
theorem candEdges_no {l : List Bnd} {i : Nat} {b : Bnd} (hi : l[i]? = some b) (h : isEdge p b = false) : candEdges p (l.take (i + 1)) = candEdges p (l.take i) := by
  rw [take_snoc hi]
  unfold candEdges
  rw [List.filter_append, List.map_append]
  simp [h]

/-- What Candidates hands back. -/
def CdIs (w : World) (p : St) (e : Ending) (w' : World) : Prop :=
  ∃ nr, NrOk (candEdges p p.bonds) nr ∧ e = .returned (.tuple #[.agg (nearCells nr).toArray, .int .i64 (cnt p.atoms.length (cand p) : Nat)]) ∧ Below w.heap.size w w'

set_option maxRecDepth 100000 in
set_option maxHeartbeats 4000000 in
theorem candidates_any (h : Kd w B base p) (o : Ok s p) (hs : s.size ≤ 160) (en : En p.atoms.length p.bonds s.size) :
    Calls Tryz.prog 23 #[.pointer (some ⟨B, 0, none⟩)] w fun e w' => CdIs w p e w' := by
  have HK : Hid (Kd w B base p) := h
  have HO : Hid (Ok s p) := o
  have HEN : Hid (En p.atoms.length p.bonds s.size) := en
  have hbl : p.bonds.length ≤ 160 := by have := o.bonds; have := o.pos; omega
  have hal := o.atoms
  have hBl := h.lt
  clear h o en
  go_enter Tryz.func23, Tryz.ntmps23
  go_upto_region 2 with (refine wpList_alloc rfl 65 rfl _ _ (alloc_gr0 _) ?_; simp only [Act.put, List.setIfInBounds_toArray, List.set_cons_zero, List.set_cons_succ])
  have e1 : (w.alloc (.cells (nearCells fun _ => 0).toArray 65)).heap.size = w.heap.size + 1 := by simp
  rw [e1]
  clear e1
  have HST : Hid (OfAt w.heap.size w ((w.alloc (.cells (nearCells fun _ => 0).toArray 65)).alloc (.cells (nearCells fun _ => 0).toArray 65)) fun _ => 0) := OfAt.start w _
  generalize (w.alloc (.cells (nearCells fun _ => 0).toArray 65)).alloc (.cells (nearCells fun _ => 0).toArray 65) = wm at HST ⊢
  obtain ⟨bv, hbv0, hbo⟩ := HK.out.bonds
  obtain ⟨bso, bcap, hbs⟩ := ownsRow_shape hbo
  subst hbs
  have HBV : Hid (w.cell? ⟨B, 25, none⟩ = some (.slice bso p.bonds.length bcap)) := hbv0
  have hbv := (HST.out.below.cell (p := ⟨B, 25, none⟩) hBl).trans hbv0
  clear hbo hbv0
  go_wp2_with fail
  go_loopg [14] (p.bonds.length + 1) (fun k v14 wr => ∃ (i : Nat) (nr : Nat → Nat), i ≤ p.bonds.length ∧ p.bonds.length - i < k ∧ v14 = .int .i64 (i : Nat) ∧ NrOk (candEdges p (p.bonds.take i)) nr ∧ OfAt w.heap.size w wr nr)
  case atStart => exact ⟨0, fun _ => 0, by omega, by omega, rfl, NrOk.nil, HST.out⟩
  case round =>
    clear hbv HST
    obtain ⟨i, nr, hi, hk, rfl, hnr, hat⟩ := hrel
    have HNR : Hid (NrOk (candEdges p (p.bonds.take i)) nr) := hnr
    have HAT : Hid (OfAt w.heap.size w wr nr) := hat
    clear hnr hat
    by_cases hlt : i < p.bonds.length
    · have hlt' : (i : Int) < (p.bonds.length : Int) := by omega
      have gi := List.getElem?_eq_getElem hlt
      obtain ⟨g, cap, hv, hc, _, _, hgl⟩ := HK.out.bondsAt (by omega)
      have es := hv.symm.trans HBV.out
      simp only [Option.some.injEq, Value.slice.injEq, true_and] at es
      obtain ⟨rfl, rfl⟩ := es
      have c0 := (HAT.out.below.cell (p := ⟨g, i * 4, none⟩) hgl).trans (hc i _ 0 _ gi rfl)
      have c1 := (HAT.out.below.cell (p := ⟨g, i * 4 + 1, none⟩) hgl).trans (hc i _ 1 _ gi rfl)
      have c2 := (HAT.out.below.cell (p := ⟨g, i * 4 + 2, none⟩) hgl).trans (hc i _ 2 _ gi rfl)
      have c3 := (HAT.out.below.cell (p := ⟨g, i * 4 + 3, none⟩) hgl).trans (hc i _ 3 _ gi rfl)
      have hends := HEN.out.ends _ (List.mem_of_getElem? gi)
      generalize p.bonds[i] = b at *
      obtain ⟨ba, bb, bo, bpl⟩ := b
      simp only at c0 c1 c2 c3 hends
      obtain ⟨hab, hbn⟩ := hends
      have HGI : Hid (p.bonds[i]? = some ⟨ba, bb, bo, bpl⟩) := gi
      clear gi hc hv
      have HA2 : Hid (OfAt w.heap.size w (wr.alloc (.cells #[.int .i64 (ba : Int), .int .i64 (bb : Int), .int .i64 bo, .int .i64 (bpl : Int)] 102)) nr) := HAT.out.on rfl ((Below.refl _ _).alloc (Nat.le_refl _) _)
      have q0 : (wr.alloc (.cells #[.int .i64 (ba : Int), .int .i64 (bb : Int), .int .i64 bo, .int .i64 (bpl : Int)] 102)).cell? ⟨wr.heap.size, 0, none⟩ = some (.int .i64 (ba : Int)) := by rw [World.cell?_alloc_new]; rfl
      have q1 : (wr.alloc (.cells #[.int .i64 (ba : Int), .int .i64 (bb : Int), .int .i64 bo, .int .i64 (bpl : Int)] 102)).cell? ⟨wr.heap.size, 1, none⟩ = some (.int .i64 (bb : Int)) := by rw [World.cell?_alloc_new]; rfl
      have q2 : (wr.alloc (.cells #[.int .i64 (ba : Int), .int .i64 (bb : Int), .int .i64 bo, .int .i64 (bpl : Int)] 102)).cell? ⟨wr.heap.size, 2, none⟩ = some (.int .i64 bo) := by rw [World.cell?_alloc_new]; rfl
      have hX : wr.heap.size < (wr.alloc (.cells #[.int .i64 (ba : Int), .int .i64 (bb : Int), .int .i64 bo, .int .i64 (bpl : Int)] 102)).heap.size := by simp
      clear HAT
      go_upto_region 5 with fail
      generalize wr.alloc (.cells #[.int .i64 (ba : Int), .int .i64 (bb : Int), .int .i64 bo, .int .i64 (bpl : Int)] 102) = wq at *
      generalize wr.heap.size = X at *
      clear c0 c1 c2 c3
      cases h4 : (bo == 4)
      · have HWH : Hid (isEdge p ⟨ba, bb, bo, bpl⟩ = false) := (by unfold isEdge; simp only [h4]; rfl : isEdge p ⟨ba, bb, bo, bpl⟩ = false)
        have HN : Hid (NrOk (candEdges p (p.bonds.take (i + 1))) nr) := by unfold Hid; rw [candEdges_no HGI.out HWH.out]; exact HNR.out
        go_wp2_with fail
        go_roundg (p.bonds.length - i)
        case measure => omega
        case rel => exact ⟨i + 1, nr, by omega, by omega, by go_num, HN.out, HA2.out⟩
      · have C1 := candidate_any (HK.out.below HA2.out.below) HO.out hs ba (by omega)
        cases hca : cand p ba
        · rw [hca] at C1
          have HWH : Hid (isEdge p ⟨ba, bb, bo, bpl⟩ = false) := (by unfold isEdge; simp only [hca]; simp : isEdge p ⟨ba, bb, bo, bpl⟩ = false)
          clear hca
          go_wp2_with fail
          refine C1.mono ?_
          rintro e w2 ⟨rfl, hb2⟩
          have HA3 : Hid (OfAt w.heap.size w w2 nr) := HA2.out.on rfl hb2
          clear C1 hb2
          have HN : Hid (NrOk (candEdges p (p.bonds.take (i + 1))) nr) := by unfold Hid; rw [candEdges_no HGI.out HWH.out]; exact HNR.out
          go_wp2_with fail
          go_roundg (p.bonds.length - i)
          case measure => omega
          case rel => exact ⟨i + 1, nr, by omega, by omega, by go_num, HN.out, HA3.out⟩
        · rw [hca] at C1
          have HCA : Hid (cand p ba = true) := hca
          clear hca
          go_wp2_with fail
          refine C1.mono ?_
          rintro e w2 ⟨rfl, hb2⟩
          have HA3 : Hid (OfAt w.heap.size w w2 nr) := HA2.out.on rfl hb2
          have r0 : w2.cell? ⟨X, 0, none⟩ = some (.int .i64 (ba : Int)) := (hb2.cell (p := ⟨X, 0, none⟩) hX).trans q0
          have r1 : w2.cell? ⟨X, 1, none⟩ = some (.int .i64 (bb : Int)) := (hb2.cell (p := ⟨X, 1, none⟩) hX).trans q1
          have hX2 : X < w2.heap.size := Nat.lt_of_lt_of_le hX hb2.size
          clear C1 hb2 q0 q1 q2 HA2 hX
          have C2 := candidate_any (HK.out.below HA3.out.below) HO.out hs bb (by omega)
          cases hcb : cand p bb
          · rw [hcb] at C2
            have HWH : Hid (isEdge p ⟨ba, bb, bo, bpl⟩ = false) := (by unfold isEdge; simp only [hcb]; simp : isEdge p ⟨ba, bb, bo, bpl⟩ = false)
            clear hcb
            go_wp2_with fail
            refine C2.mono ?_
            rintro e w3 ⟨rfl, hb3⟩
            have HA4 : Hid (OfAt w.heap.size w w3 nr) := HA3.out.on rfl hb3
            clear C2 hb3
            have HN : Hid (NrOk (candEdges p (p.bonds.take (i + 1))) nr) := by unfold Hid; rw [candEdges_no HGI.out HWH.out]; exact HNR.out
            go_wp2_with fail
            go_roundg (p.bonds.length - i)
            case measure => omega
            case rel => exact ⟨i + 1, nr, by omega, by omega, by go_num, HN.out, HA4.out⟩
          · rw [hcb] at C2
            have HWH : Hid (isEdge p ⟨ba, bb, bo, bpl⟩ = true) := (by unfold isEdge; simp only [h4, hcb, HCA.out]; rfl : isEdge p ⟨ba, bb, bo, bpl⟩ = true)
            clear hcb
            go_wp2_with fail
            refine C2.mono ?_
            rintro e w3 ⟨rfl, hb3⟩
            have HA4 : Hid (OfAt w.heap.size w w3 nr) := HA3.out.on rfl hb3
            have u0 : w3.cell? ⟨X, 0, none⟩ = some (.int .i64 (ba : Int)) := (hb3.cell (p := ⟨X, 0, none⟩) hX2).trans r0
            have u1 : w3.cell? ⟨X, 1, none⟩ = some (.int .i64 (bb : Int)) := (hb3.cell (p := ⟨X, 1, none⟩) hX2).trans r1
            clear C2 hb3 r0 r1 HA3
            have JN := Mg.join_any HA4.out.g (fun k hk => (HNR.out k hk).1) (show ba < 24 by omega) (show bb < 24 by omega)
            go_wp2_with fail
            refine JN.mono ?_
            rintro e w4 ⟨rfl, hA4, hf4⟩
            have HA5 : Hid (OfAt w.heap.size w w4 (joinN nr ba bb)) := HA4.out.same rfl hf4 hA4
            have HN : Hid (NrOk (candEdges p (p.bonds.take (i + 1))) (joinN nr ba bb)) := by unfold Hid; rw [candEdges_yes HGI.out HWH.out]; exact HNR.out.join (show ba < 24 by omega) (show bb < 24 by omega) (show ba ≠ bb by omega)
            clear JN hA4 hf4
            go_wp2_with fail
            go_roundg (p.bonds.length - i)
            case measure => omega
            case rel => exact ⟨i + 1, joinN nr ba bb, by omega, by omega, by go_num, HN.out, HA5.out⟩
    · have hlt' : ¬ (i : Int) < (p.bonds.length : Int) := by omega
      have HNR2 : Hid (NrOk (candEdges p p.bonds) nr) := by have := HNR.out; rw [List.take_of_length_le (by omega)] at this; exact this
      obtain ⟨av, hav0, hao⟩ := HK.out.atoms
      obtain ⟨aso, acap, has⟩ := ownsRow_shape hao
      subst has
      have hav := (HAT.out.below.cell (p := ⟨B, 24, none⟩) hBl).trans hav0
      clear hao hav0 HNR
      generalize wr = wn at HAT hav ⊢
      go_wp2_with fail
      go_loopg [7, 49] 26 (fun k v7 v49 wr => ∃ j : Nat, j ≤ p.atoms.length ∧ 25 - j ≤ k ∧ v49 = .int .i64 (j : Nat) ∧ v7 = .int .i64 (cnt j (cand p) : Nat) ∧ OfAt w.heap.size w wr nr)
      case atStart => exact ⟨0, by omega, by omega, rfl, rfl, HAT.out⟩
      case round =>
        clear HAT hav
        obtain ⟨j, hj, hkj, rfl, rfl, hat⟩ := hrel
        have HAT : Hid (OfAt w.heap.size w wr nr) := hat
        clear hat
        have hcb : cnt j (cand p) ≤ j := cnt_le
        have HCS : Hid (cnt (j + 1) (cand p) = cnt j (cand p) + if cand p j then 1 else 0) := rfl
        by_cases hjn : j < p.atoms.length
        · have hjn' : (j : Int) < (p.atoms.length : Int) := by omega
          have C1 := candidate_any (HK.out.below HAT.out.below) HO.out hs j hjn
          generalize cnt j (cand p) = C at hcb HCS ⊢
          cases hcj : cand p j
          · rw [hcj] at C1
            have HC2 : Hid (cnt (j + 1) (cand p) = C) := by rw [HCS.out, hcj]; rfl
            clear hcj HCS
            go_wp2_with fail
            refine C1.mono ?_
            rintro e w2 ⟨rfl, hb2⟩
            have HA2 : Hid (OfAt w.heap.size w w2 nr) := HAT.out.on rfl hb2
            clear C1 hb2
            go_wp2_with fail
            go_roundg (25 - (j + 1))
            case measure => omega
            case rel => exact ⟨j + 1, by omega, Nat.le_refl _, by go_num, by rw [HC2.out], HA2.out⟩
          · rw [hcj] at C1
            have HC2 : Hid (cnt (j + 1) (cand p) = C + 1) := by rw [HCS.out, hcj]; rfl
            clear hcj HCS
            go_wp2_with fail
            refine C1.mono ?_
            rintro e w2 ⟨rfl, hb2⟩
            have HA2 : Hid (OfAt w.heap.size w w2 nr) := HAT.out.on rfl hb2
            clear C1 hb2
            go_wp2_with fail
            go_roundg (25 - (j + 1))
            case measure => omega
            case rel => exact ⟨j + 1, by omega, Nat.le_refl _, by go_num, by rw [HC2.out]; go_num, HA2.out⟩
        · have hjn' : ¬ (j : Int) < (p.atoms.length : Int) := by omega
          have HE : Hid (CdIs w p (.returned (.tuple #[.agg (nearCells nr).toArray, .int .i64 (cnt j (cand p) : Nat)])) (wr.setCells w.heap.size 0 (nearCells nr))) := by
            have ej : j = p.atoms.length := by omega
            rw [ej]
            exact ⟨nr, HNR2.out, rfl, below_cells (Nat.le_refl _) _ _ _ HAT.out.below⟩
          have HLD : Hid _ := of_stored nr HAT.out.res
          have HRG : Hid (wr.rangeAt (w.heap.size + 1) 0 (nearCells nr)) := HAT.out.g.range
          clear HCS
          generalize cnt j (cand p) = C at hcb HE ⊢
          go_wp2_with (first | (refine wpList_load_mid rfl 65 (.tmp 4) rfl (w.heap.size + 1) 0 (by simp [Act.eval]) (nearCells nr) _ HRG.out Tryz.underlying65 rfl (by rw [Tryz.sizeGraph, nearCells_len]) ?_; simp only [Act.put, List.setIfInBounds_toArray, List.set_cons_zero, List.set_cons_succ]) | (refine wpList_store_mid rfl 65 (.tmp 2) (.tmp 58) rfl w.heap.size 0 (nearCells nr).toArray (by simp [Act.eval]) (by simp [Act.eval]) (by rw [near_size]; with_reducible exact HAT.out.res) (by rw [near_size]; exact Tryz.sizeGraph) (near_one _) ?_; simp only [Act.put]))
          refine bodyPost_ret (v := .tuple #[.agg (nearCells nr).toArray, .int .i64 (C : Nat)]) ?_ rfl HE.out
          have HLD := HLD.out
          simp [results, Tryz.results23, asAddr, HLD]
end
end Go.Proofs.YtcabaecbmkgclaaGreatDoor.Kd

namespace Go.Proofs.YtcabaecbmkgclaaGreatDoor.Mt

section
variable {g : Gr} {mate : Nat → Option Nat} {f : Fo} {h : Gh} {n : Nat}

theorem Inv.rooted (I : Inv g mate f h) : ∀ (N v : Nat), h.lev v ≤ N → f.outer v = true → ∃ r, r < g.n ∧ mate r = none := by
  intro N
  induction N with
  | zero =>
    intro v hl hv
    have hb := I.base v hv
    have ho := I.rout v _ hv hb
    obtain ⟨k1, k2, _⟩ := I.baseC v _ hv hb
    cases hm : mate (h.base v) with
    | none => exact ⟨_, I.olt _ ho, hm⟩
    | some m =>
      obtain ⟨_, _, _, _, h5, _⟩ := I.up _ m ho k1 hm
      omega
  | succ N ih =>
    intro v hl hv
    have hb := I.base v hv
    have ho := I.rout v _ hv hb
    obtain ⟨k1, k2, _⟩ := I.baseC v _ hv hb
    cases hm : mate (h.base v) with
    | none => exact ⟨_, I.olt _ ho, hm⟩
    | some m =>
      obtain ⟨_, _, _, h4, h5, _⟩ := I.up _ m ho k1 hm
      exact ih _ (by omega) h4

theorem Inv.noBar (I : Inv g mate f h) (hf : ∀ r, r < g.n → mate r ≠ none) : barF g.n f = [] := by
  cases hc : barF g.n f with
  | nil => rfl
  | cons x l =>
    have hx : x ∈ barF g.n f := by rw [hc]; simp
    obtain ⟨_, hb⟩ := barF_mem.1 hx
    obtain ⟨h1, h2⟩ := bar_iff.1 hb
    obtain ⟨b, _, hb2, _⟩ := I.inn x h1 h2
    obtain ⟨r, hr, hm⟩ := I.rooted _ b (Nat.le_refl _) hb2
    exact absurd hm (hf r hr)

theorem cnt_zero {p : Nat → Bool} : ∀ {n : Nat}, cnt n p = 0 → ∀ k, k < n → p k = false
  | 0, _, k, hk => by omega
  | n + 1, hc, k, hk => by
    rw [cnt] at hc
    by_cases e : k = n
    · subst e
      cases hp : p k
      · rfl
      · rw [hp] at hc
        simp at hc
    · exact cnt_zero (n := n) (by omega) k (by omega)

theorem two_pairs (b : Best (grL 2 [(1, 0)]) mate f h) : pairsF 2 mate = [(0, 1)] ∧ barF 2 f = [] := by
  have E : EdOk 2 [(1, 0)] := by
    intro p hp
    simp at hp
    subst hp
    decide
  have h1 : (pairsF 2 mate).length = 1 := (b.most E (by omega)).trans (by decide)
  have h3 := pairs_count (E.gr (by omega)) b.m
  have e1 : (pairsF 2 mate).length = cnt 2 (fun v => (mate v).isSome && decide (v < mateOf mate v)) := by
    unfold pairsF
    rw [List.length_map, cnt_len]
  simp only [grL] at h3
  have h0 : cnt 2 (fun x => (mate x).isNone) = 0 := by omega
  refine ⟨?_, b.inv.noBar fun r hr hm => ?_⟩
  · match hp : pairsF 2 mate, h1 with
    | [(x, y)], _ =>
      obtain ⟨k1, k2, k3⟩ := pairsF_mem (n := 2) (mate := mate) (p := (x, y)) (by rw [hp]; simp)
      simp only at k1 k2 k3
      have := ((E.gr (by omega)).lt x y (b.m.adj x y k1)).2
      simp only [grL] at this
      obtain rfl : x = 0 := by omega
      obtain rfl : y = 1 := by omega
      rfl
  · have := cnt_zero h0 r hr
    rw [hm] at this
    cases this
end
end Go.Proofs.YtcabaecbmkgclaaGreatDoor.Mt

namespace Go.Proofs.YtcabaecbmkgclaaGreatDoor.Mt

def Shutin (g : Gr) (blk : Nat → Bool) (P : Nat → Prop) : Prop := ∀ x y, P x → g.adj x y = true → blk y = false → P y

/-- All pieces of the numbers below i are found. -/
structure Bf (g : Gr) (blk : Nat → Bool) (i : Nat) (S : Nat → Bool) (name : Nat → Nat) : Prop where
  free : ∀ k, S k = true → blk k = false ∧ k < g.n
  nlt : ∀ k, S k = true → name k < i
  ns : ∀ k, S k = false → name k = k
  closed : ∀ k j, S k = true → g.adj k j = true → blk j = false → S j = true ∧ name j = name k
  hang : ∀ k, S k = true → ∀ P, Shutin g blk P → (P (name k) ↔ P k)
  all : ∀ k, k < i → blk k = false → S k = true

theorem Bf.start (g : Gr) (blk : Nat → Bool) : Bf g blk 0 (fun _ => false) fun k => k :=
  ⟨fun _ h => (by cases h), fun _ h => (by cases h), fun _ _ => rfl, fun _ _ h => (by cases h), fun _ h => (by cases h), fun k hk => (by omega)⟩

theorem Bf.skip {g : Gr} {blk : Nat → Bool} {i : Nat} {S : Nat → Bool} {name : Nat → Nat} (h : Bf g blk i S name) (hi : S i = true ∨ blk i = true) : Bf g blk (i + 1) S name := by
  refine ⟨h.free, fun k hk => by have := h.nlt k hk; omega, h.ns, h.closed, h.hang, fun k hk hb => ?_⟩
  by_cases e : k = i
  · subst e
    rcases hi with hi | hi
    · exact hi
    · rw [hi] at hb; cases hb
  · exact h.all k (by omega) hb

/-- One piece is being found, from i on: its m-th is looked at, with all below j. -/
structure Bi (g : Gr) (blk : Nat → Bool) (i : Nat) (S0 : Nat → Bool) (m j : Nat) (S : Nat → Bool) (piece : List Nat) : Prop where
  mem : ∀ k, S k = true ↔ S0 k = true ∨ k ∈ piece
  new : ∀ x ∈ piece, S0 x = false ∧ blk x = false ∧ x < g.n
  nodup : piece.Nodup
  head : i ∈ piece
  conn : ∀ x ∈ piece, ∀ P, Shutin g blk P → (P i ↔ P x)
  done : ∀ p x, p < m → piece[p]? = some x → ∀ y, g.adj x y = true → blk y = false → S y = true
  cur : ∀ x, piece[m]? = some x → ∀ y, y < j → g.adj x y = true → blk y = false → S y = true

section
variable {g : Gr} {blk : Nat → Bool} {i m j : Nat} {S0 S : Nat → Bool} {name0 : Nat → Nat} {piece : List Nat}

theorem Bi.start (hi : S0 i = false) (hb : blk i = false) (hn : i < g.n) : Bi g blk i S0 0 0 (setAt S0 i true) [i] := by
  refine ⟨fun k => ?_, fun x hx => by simp at hx; subst hx; exact ⟨hi, hb, hn⟩, by simp, by simp, fun x hx P _ => by simp at hx; subst hx; exact Iff.rfl, fun p _ hp => by omega, fun _ _ y hy => by omega⟩
  simp only [setAt, List.mem_singleton]
  by_cases e : k = i
  · rw [if_pos e]; simp [e]
  · rw [if_neg e]; simp [e]

theorem Bi.len (h : Bi g blk i S0 m j S piece) : piece.length ≤ g.n := by
  have := len_inj piece (fun x => x) (List.range g.n) h.nodup (fun x hx => List.mem_range.2 (h.new x hx).2.2) (fun x _ y _ e => e)
  simpa using this

/-- j is no neighbour, or is blocked, or was seen. -/
theorem Bi.pass (h : Bi g blk i S0 m j S piece) {x : Nat} (hx : piece[m]? = some x) (hj : g.adj x j = false ∨ S j = true ∨ blk j = true) : Bi g blk i S0 m (j + 1) S piece := by
  refine ⟨h.mem, h.new, h.nodup, h.head, h.conn, h.done, fun y hy z hz ha hb => ?_⟩
  rw [hx] at hy
  cases hy
  by_cases e : z = j
  · subst e
    rcases hj with hj | hj | hj
    · rw [hj] at ha; cases ha
    · exact hj
    · rw [hj] at hb; cases hb
  · exact h.cur x hx z (by omega) ha hb

/-- j is a new neighbour. -/
theorem Bi.add (G : GrOk g) (h : Bi g blk i S0 m j S piece) {x : Nat} (hx : piece[m]? = some x) (ha : g.adj x j = true) (hs : S j = false) (hb : blk j = false) : Bi g blk i S0 m (j + 1) (setAt S j true) (piece ++ [j]) := by
  have hm := (List.getElem?_eq_some_iff.1 hx).1
  have hjn := (G.lt x j ha).2
  have hj0 : S0 j = false := by
    cases e : S0 j
    · rfl
    · rw [(h.mem j).2 (.inl e)] at hs; cases hs
  have hjp : j ∉ piece := fun e => by rw [(h.mem j).2 (.inr e)] at hs; cases hs
  have up : ∀ k, S k = true → setAt S j true k = true := fun k hk => by
    unfold setAt
    split
    · rfl
    · exact hk
  have hxm := List.mem_of_getElem? hx
  refine ⟨fun k => ?_, fun z hz => ?_, ?_, by simp [h.head], fun z hz P hP => ?_, fun p z hp hz y hy hby => ?_, fun z hz y hy hay hby => ?_⟩
  · simp only [setAt, List.mem_append, List.mem_singleton]
    by_cases e : k = j
    · rw [if_pos e]; simp [e]
    · rw [if_neg e, h.mem k]; simp [e]
  · rcases List.mem_append.1 hz with hz | hz
    · exact h.new z hz
    · simp at hz; subst hz; exact ⟨hj0, hb, hjn⟩
  · rw [List.nodup_append]
    refine ⟨h.nodup, by simp, fun a ha' b hb' e => ?_⟩
    simp at hb'
    subst hb' e
    exact hjp ha'
  · rcases List.mem_append.1 hz with hz | hz
    · exact h.conn z hz P hP
    · simp at hz
      subst hz
      refine (h.conn x hxm P hP).trans ⟨fun k => hP x z k ha hb, fun k => hP z x k (G.sym x z ha) (h.new x hxm).2.1⟩
  · rw [List.getElem?_append_left (by omega)] at hz
    exact up y (h.done p z hp hz y hy hby)
  · rw [List.getElem?_append_left hm, hx] at hz
    cases hz
    by_cases e : y = j
    · subst e
      unfold setAt
      rw [if_pos rfl]
    · exact up y (h.cur x hx y (by omega) hay hby)

theorem Bi.row (G : GrOk g) (h : Bi g blk i S0 m g.n S piece) : Bi g blk i S0 (m + 1) 0 S piece := by
  refine ⟨h.mem, h.new, h.nodup, h.head, h.conn, fun p x hp hx y hy hb => ?_, fun _ _ y hy => by omega⟩
  by_cases e : p = m
  · subst e
    exact h.cur x hx y (G.lt x y hy).2 hy hb
  · exact h.done p x (by omega) hx y hy hb

def namedBy (name : Nat → Nat) (piece : List Nat) (i : Nat) : Nat → Nat := fun k => if k ∈ piece then i else name k

theorem Bi.finish (G : GrOk g) (hf : Bf g blk i S0 name0) (h : Bi g blk i S0 m j S piece) (hm : piece.length ≤ m) : Bf g blk (i + 1) S (namedBy name0 piece i) := by
  have dn : ∀ x ∈ piece, ∀ y, g.adj x y = true → blk y = false → S y = true := fun x hx y hy hb => by
    obtain ⟨p, hp⟩ := List.mem_iff_getElem?.1 hx
    have := (List.getElem?_eq_some_iff.1 hp).1
    exact h.done p x (by omega) hp y hy hb
  have old : ∀ k, S0 k = true → k ∉ piece := fun k hk hp => by rw [(h.new k hp).1] at hk; cases hk
  have nold : ∀ k, S0 k = true → namedBy name0 piece i k = name0 k := fun k hk => by unfold namedBy; rw [if_neg (old k hk)]
  have nnew : ∀ k, k ∈ piece → namedBy name0 piece i k = i := fun k hk => by unfold namedBy; rw [if_pos hk]
  refine ⟨fun k hk => ?_, fun k hk => ?_, fun k hk => ?_, fun k y hk ha hb => ?_, fun k hk P hP => ?_, fun k hk hb => ?_⟩
  · rcases (h.mem k).1 hk with hk | hk
    · exact hf.free k hk
    · exact (h.new k hk).2
  · rcases (h.mem k).1 hk with hk | hk
    · rw [nold k hk]; have := hf.nlt k hk; omega
    · rw [nnew k hk]; omega
  · have : k ∉ piece := fun e => by rw [(h.mem k).2 (.inr e)] at hk; cases hk
    unfold namedBy
    rw [if_neg this]
    refine hf.ns k ?_
    cases e : S0 k
    · rfl
    · rw [(h.mem k).2 (.inl e)] at hk; cases hk
  · rcases (h.mem k).1 hk with hk | hk
    · obtain ⟨h1, h2⟩ := hf.closed k y hk ha hb
      exact ⟨(h.mem y).2 (.inl h1), by rw [nold y h1, nold k hk, h2]⟩
    · have hy := dn k hk y ha hb
      refine ⟨hy, ?_⟩
      rcases (h.mem y).1 hy with hy | hy
      · have := (hf.closed y k hy (G.sym k y ha) (h.new k hk).2.1).1
        rw [(h.new k hk).1] at this
        cases this
      · rw [nnew y hy, nnew k hk]
  · rcases (h.mem k).1 hk with hk | hk
    · rw [nold k hk]; exact hf.hang k hk P hP
    · rw [nnew k hk]; exact h.conn k hk P hP
  · by_cases e : k = i
    · subst e
      exact (h.mem k).2 (.inr h.head)
    · exact (h.mem k).2 (.inl (hf.all k (by omega) hb))

/-- How many are in the piece named h. -/
def pieceCnt (n : Nat) (S : Nat → Bool) (name : Nat → Nat) (h : Nat) : Nat := cnt n (fun k => S k && (name k == h))

theorem Bf.none (hf : Bf g blk i S0 name0) {h : Nat} (hh : i ≤ h) : pieceCnt g.n S0 name0 h = 0 := by
  refine cnt_none fun k _ => ?_
  cases e : S0 k
  · rfl
  · have := hf.nlt k e
    simp
    omega

theorem Bi.same (h : Bi g blk i S0 m j S piece) {a : Nat} (ha : a < i) : pieceCnt g.n S (namedBy name0 piece i) a = pieceCnt g.n S0 name0 a := by
  refine cnt_congr fun k _ => ?_
  by_cases hp : k ∈ piece
  · have h1 := (h.mem k).2 (.inr hp)
    have h2 := (h.new k hp).1
    unfold namedBy
    rw [if_pos hp, h1, h2]
    simp
    omega
  · unfold namedBy
    rw [if_neg hp]
    have : S k = S0 k := by
      rw [Bool.eq_iff_iff, h.mem k]
      simp [hp]
    rw [this]

theorem Bi.size (hf : Bf g blk i S0 name0) (h : Bi g blk i S0 m j S piece) : pieceCnt g.n S (namedBy name0 piece i) i = piece.length := by
  unfold pieceCnt
  rw [← cnt_len]
  have key : ∀ k, (k ∈ (List.range g.n).filter fun k => S k && (namedBy name0 piece i k == i)) ↔ k ∈ piece := by
    intro k
    rw [List.mem_filter, List.mem_range]
    constructor
    · rintro ⟨_, hk⟩
      simp only [Bool.and_eq_true, beq_iff_eq] at hk
      rcases (h.mem k).1 hk.1 with h0 | h0
      · have h1 := hf.nlt k h0
        have hp : k ∉ piece := fun e => by rw [(h.new k e).1] at h0; cases h0
        have h2 := hk.2
        unfold namedBy at h2
        rw [if_neg hp] at h2
        omega
      · exact h0
    · intro hk
      refine ⟨(h.new k hk).2.2, ?_⟩
      unfold namedBy
      rw [if_pos hk, (h.mem k).2 (.inr hk)]
      simp
  refine Nat.le_antisymm (len_inj _ (fun x => x) _ (List.Pairwise.filter _ List.nodup_range) (fun x hx => (key x).1 hx) (fun x _ y _ e => e)) (len_inj _ (fun x => x) _ h.nodup (fun x hx => (key x).2 hx) (fun x _ y _ e => e))

theorem Bf.naming (hf : Bf g blk g.n S0 name0) (G : GrOk g) : Naming g blk name0 := by
  refine ⟨fun k hk => ?_, fun a b hab ha hb => ?_, fun P a b ha hb oa ob e hP pa => ?_⟩
  · cases e : S0 k
    · rw [hf.ns k e]; exact hk
    · exact hf.nlt k e
  · exact (hf.closed a b (hf.all a (G.lt a b hab).1 ha) hab hb).2.symm
  · have h1 := (hf.hang a (hf.all a ha oa) P hP).2 pa
    rw [e] at h1
    exact (hf.hang b (hf.all b hb ob) P hP).1 h1

theorem Bf.total (hf : Bf g blk g.n S0 name0) : total g.n (fun a => pieceCnt g.n S0 name0 a % 2) = total g.n (fun a => cnt g.n (fun k => !blk k && (name0 k == a)) % 2) := by
  refine total_congr fun a _ => ?_
  unfold pieceCnt
  rw [cnt_congr (q := fun k => !blk k && (name0 k == a))]
  intro k hk
  cases e : blk k
  · rw [hf.all k hk e]; rfl
  · have : S0 k = false := by
      cases e2 : S0 k
      · rfl
      · rw [(hf.free k e2).1] at e; cases e
    rw [this]
    rfl
end
end Go.Proofs.YtcabaecbmkgclaaGreatDoor.Mt

namespace Go.Proofs.YtcabaecbmkgclaaGreatDoor.Rf
open Go.RowKit Mt Mg

/-- A list of pairs of numbers that is read: it lies in block b from o on. -/
def NPr (w : World) (v : Value) (l : List (Nat × Nat)) : Prop := ∃ so cap, v = .slice so l.length cap ∧ l.length ≤ cap ∧ (l = [] ∨ ∃ b o, so = some ⟨b, o, none⟩ ∧ ∀ i a c : Nat, l[i]? = some (a, c) → w.cell? ⟨b, o + i * 2, none⟩ = some (.int .i64 (a : Int)) ∧ w.cell? ⟨b, o + i * 2 + 1, none⟩ = some (.int .i64 (c : Int)))

theorem NPr.at {w : World} {so : Option Addr} {n cap : Nat} {l : List (Nat × Nat)} (h : NPr w (.slice so n cap) l) {i a c : Nat} (hi : l[i]? = some (a, c)) : ∃ b o, so = some ⟨b, o, none⟩ ∧ w.cell? ⟨b, o + i * 2, none⟩ = some (.int .i64 (a : Int)) ∧ w.cell? ⟨b, o + i * 2 + 1, none⟩ = some (.int .i64 (c : Int)) := by
  obtain ⟨so', cap', e, _, hl⟩ := h
  simp only [Value.slice.injEq] at e
  obtain ⟨rfl, -, -⟩ := e
  rcases hl with rfl | ⟨b, o, rfl, hx⟩
  · simp at hi
  · exact ⟨b, o, rfl, hx i a c hi⟩

theorem NPr.same {w w' : World} {v : Value} {l : List (Nat × Nat)} (h : NPr w v l) (hs : ∀ so n cap b o, v = .slice so n cap → so = some ⟨b, o, none⟩ → b < w.heap.size → w'.heap[b]? = w.heap[b]?) : NPr w' v l := by
  obtain ⟨so, cap, rfl, hc, hl⟩ := h
  refine ⟨so, cap, rfl, hc, ?_⟩
  rcases hl with rfl | ⟨b, o, rfl, hx⟩
  · exact .inl rfl
  · refine .inr ⟨b, o, rfl, fun i a c hi => ?_⟩
    have hlt := World.block_lt_of_cell? w ⟨b, o + i * 2, none⟩ (hx i a c hi).1
    have hb := hs _ _ _ b o rfl rfl hlt
    exact ⟨(World.cell?_of_block (a := ⟨b, o + i * 2, none⟩) hb).trans (hx i a c hi).1, (World.cell?_of_block (a := ⟨b, o + i * 2 + 1, none⟩) hb).trans (hx i a c hi).2⟩

theorem NPr.below {w w' : World} {v : Value} {l : List (Nat × Nat)} (h : NPr w v l) (hb : Below w.heap.size w w') : NPr w' v l := h.same fun _ _ _ b _ _ _ hlt => hb.block b hlt

theorem pairCells_at {l : List (Nat × Nat)} {i a c : Nat} (h : l[i]? = some (a, c)) : (pairCells l)[i * 2]? = some (.int .i64 (a : Int)) ∧ (pairCells l)[i * 2 + 1]? = some (.int .i64 (c : Int)) := by
  induction l generalizing i with
  | nil => simp at h
  | cons p l ih =>
    have e : pairCells (p :: l) = .int .i64 (p.1 : Int) :: .int .i64 (p.2 : Int) :: pairCells l := by simp [pairCells]
    rw [e]
    cases i with
    | zero =>
      simp at h
      subst h
      exact ⟨rfl, rfl⟩
    | succ i =>
      simp only [List.getElem?_cons_succ] at h
      obtain ⟨h1, h2⟩ := ih h
      rw [show (i + 1) * 2 = i * 2 + 1 + 1 by omega]
      simp only [List.getElem?_cons_succ]
      exact ⟨h1, h2⟩

theorem ownsRow_cap {w : World} {base : Nat} {e : TypeId} {size : Nat} {so : Option Addr} {n cap : Nat} {xs : List Value} (h : w.ownsRow base e size (.slice so n cap) n xs) : n ≤ cap := by
  rcases h.2 with ⟨e, rfl⟩ | ⟨g, cap', cur, e, _, _, hnc, _⟩
  · exact Nat.zero_le _
  · simp only [Value.slice.injEq] at e
    obtain ⟨-, -, rfl⟩ := e
    exact hnc

theorem NPr.of {w : World} {base : Nat} {v : Value} {l : List (Nat × Nat)} (h : Prs w base v l) : NPr w v l := by
  obtain ⟨so, cap, rfl⟩ := ownsRow_shape h
  refine ⟨so, cap, rfl, ownsRow_cap h, ?_⟩
  by_cases hl : l = []
  · exact .inl hl
  · obtain ⟨g, cap', e, _, _, hc, _⟩ := ownsRow_at h (List.length_pos_iff.2 hl)
    simp only [Value.slice.injEq, true_and] at e
    obtain ⟨rfl, rfl⟩ := e
    refine .inr ⟨g, 0, rfl, fun i a c hi => ?_⟩
    have hil := (List.getElem?_eq_some_iff.1 hi).1
    obtain ⟨h1, h2⟩ := pairCells_at hi
    rw [Nat.zero_add]
    exact ⟨(hc _ (by omega)).trans h1, (hc _ (by omega)).trans h2⟩

theorem adjL_take_no {l : List (Nat × Nat)} {i x y a b : Nat} (h : adjL (l.take i) a b = false) (hi : l[i]? = some (x, y)) (h1 : ¬ (x = a ∧ y = b)) (h2 : ¬ (x = b ∧ y = a)) : adjL (l.take (i + 1)) a b = false := by
  rw [take_snoc hi]
  unfold adjL at *
  rw [List.any_append, h]
  simp
  exact ⟨fun k1 k2 => h1 ⟨k1, k2⟩, fun k1 k2 => h2 ⟨k1, k2⟩⟩

theorem adjL_yes {l : List (Nat × Nat)} {i x y a b : Nat} (hi : l[i]? = some (x, y)) (h : (x = a ∧ y = b) ∨ (x = b ∧ y = a)) : adjL l a b = true := by
  rcases h with ⟨rfl, rfl⟩ | ⟨rfl, rfl⟩
  · exact adjL_iff.2 (.inl (List.mem_of_getElem? hi))
  · exact adjL_iff.2 (.inr (List.mem_of_getElem? hi))

/-- Block U holds n Booleans. -/
structure Bls (w : World) (U n : Nat) (u : Nat → Bool) : Prop where
  cell : ∀ x, x < n → w.cell? ⟨U, x, none⟩ = some (.bool (u x))
  free : ∀ i, w.frozen? ⟨U, i, none⟩ = false

theorem Bls.set {w : World} {U n : Nat} {u : Nat → Bool} (h : Bls w U n u) {a : Nat} (ha : a < n) (b : Bool) : Bls (w.setCell ⟨U, a, none⟩ (.bool b)) U n (setAt u a b) := by
  refine ⟨fun k hk => ?_, fun i => by rw [World.frozen?_setCell]; exact h.free i⟩
  by_cases e : k = a
  · subst e
    rw [World.cell?_setCell_same w _ _ (h.cell k hk)]
    simp [setAt]
  · rw [cell_set_ne (fun e' => e e'.symm)]
    simp only [setAt, if_neg e]
    exact h.cell k hk

theorem Bls.same {w w' : World} {U n : Nat} {u : Nat → Bool} (h : Bls w U n u) (hs : w'.heap[U]? = w.heap[U]?) : Bls w' U n u :=
  ⟨fun k hk => (World.cell?_of_block (a := ⟨U, k, none⟩) hs).trans (h.cell k hk), fun i => (World.frozen?_of_block (a := ⟨U, i, none⟩) hs).trans (h.free i)⟩

def Away (v : Value) (U : Nat) : Prop := ∀ b o n c, v = .slice (some ⟨b, o, none⟩) n c → b ≠ U

theorem NPr.mfr {w w' : World} {v : Value} {l : List (Nat × Nat)} {U : Nat} (h : NPr w v l) (ha : Away v U) (hf : MFr U w w') : NPr w' v l :=
  h.same fun so n cap b o hv hso hlt => hf.block b hlt (ha b o n cap (by rw [hv, hso]))

def castL (l : List (Nat × Nat)) : List (Int × Int) := l.map fun p => ((p.1 : Int), (p.2 : Int))

theorem castL_len (l : List (Nat × Nat)) : (castL l).length = l.length := by simp [castL]
theorem natL_castL (l : List (Nat × Nat)) : natL (castL l) = l := by
  unfold natL castL
  rw [List.map_map]
  conv => rhs; rw [← List.map_id l]
  exact List.map_congr_left fun p _ => by simp

theorem okG_castL {k : Nat} {l : List (Nat × Nat)} (hk : k ≤ 24) (h : EdOk k l) : okG (k : Int) (castL l) = true := by
  unfold okG
  rw [decide_eq_true (by omega), decide_eq_true (by omega)]
  simp only [Bool.and_self, Bool.true_and]
  rw [List.all_eq_true]
  intro p hp
  obtain ⟨q, hq, rfl⟩ := List.mem_map.1 hp
  obtain ⟨h1, h2, h3⟩ := h q hq
  exact edgeOk_yes (inR_iff.2 ⟨by omega, by omega⟩) (inR_iff.2 ⟨by omega, by omega⟩) (by simp; omega)

theorem NPr.ipr {w : World} {v : Value} {l : List (Nat × Nat)} (h : NPr w v l) : IPr w v (castL l) := by
  obtain ⟨so, cap, rfl, _, hl⟩ := h
  refine ⟨so, cap, by rw [castL_len], fun i a c hi => ?_⟩
  unfold castL at hi
  rw [List.getElem?_map] at hi
  cases hq : l[i]? with
  | none => rw [hq] at hi; cases hi
  | some q =>
    rw [hq] at hi
    simp only [Option.map_some, Option.some.injEq, Prod.mk.injEq] at hi
    obtain ⟨rfl, rfl⟩ := hi
    rcases hl with rfl | ⟨b, o, rfl, hx⟩
    · simp at hq
    · exact ⟨b, o, rfl, hx i q.1 q.2 hq⟩

/-- What Match hands back where the edges are between k numbers. -/
def MnIs (w : World) (k : Nat) (l : List (Nat × Nat)) (e : Ending) (w' : World) : Prop :=
  ∃ mate f h, Best (grL k l) mate f h ∧ ∃ pv uv, e = .returned (.tuple #[pv, uv, .int .i64 0]) ∧ Prs w' w.heap.size pv (pairsF k mate) ∧ Ints w' w.heap.size uv (barF k f) ∧ Below w.heap.size w w'

theorem matchN_any (w : World) {v : Value} {l : List (Nat × Nat)} (h : NPr w v l) {k : Nat} (hk : k ≤ 24) (E : EdOk k l) (hl : l.length ≤ 1000000000000000) :
    Calls Tryz.prog 46 #[.int .i64 (k : Int), v] w fun e w' => MnIs w k l e w' := by
  refine (match_any w h.ipr (k : Int) (by rw [castL_len]; exact hl)).mono ?_
  rintro e w' ⟨hb, ⟨_, mate, f, h, hB, pv, uv, rfl, hP, hU⟩ | ⟨hno, _⟩⟩
  · rw [natL_castL, show ((k : Int).toNat) = k by omega] at hB
    rw [show ((k : Int).toNat) = k by omega] at hP hU
    exact ⟨mate, f, h, hB, pv, uv, rfl, hP, hU, hb⟩
  · rw [okG_castL hk E] at hno
    cases hno

theorem Away.of {w : World} {base : Nat} {l : List (Nat × Nat)} {so : Option Addr} {n m cap : Nat} (h : Prs w base (.slice so n cap) l) {U : Nat} (hU : w.heap.size ≤ U) : Away (.slice so m cap) U := by
  intro b o n' c' e
  simp only [Value.slice.injEq] at e
  obtain ⟨rfl, -, -⟩ := e
  have := (h.lt b rfl).2
  omega

theorem Bls.made {w : World} {base U n : Nat} (h : w.ownsRow base 4 1 (.slice (some ⟨U, 0, none⟩) n n) n (madeCells #[.bool false] n).toList) : Bls w U n fun _ => false := by
  refine ⟨fun x hx => ?_, fun i => ?_⟩
  · obtain ⟨g, cap, e, _, _, hc, hf⟩ := ownsRow_at h (by omega)
    simp only [Value.slice.injEq, Option.some.injEq, Addr.mk.injEq, and_true, true_and] at e
    obtain ⟨rfl, -⟩ := e
    rw [hc x (by omega), toList_madeCells_one]
    simp [hx]
  · rcases h.2 with ⟨e, _⟩ | ⟨g, cap, cur, e, _⟩
    · simp at e
    · exact h.frozenAt i

theorem Tryz.infoBool : (Tryz.prog.info? 4).map (fun i => (i.zero, i.size, i.bytes)) = some (some (.bool false), 1, 1) := by kernel_rfl

theorem Bls.below {w w' : World} {U n : Nat} {u : Nat → Bool} (h : Bls w U n u) (hn : 0 < n) (hb : Below w.heap.size w w') : Bls w' U n u :=
  h.same (hb.block U (World.block_lt_of_cell? w ⟨U, 0, none⟩ (h.cell 0 hn)))

/-- Booleans in block U; nothing else that was there has turned. -/
structure ShAt (wb wr : World) (U k : Nat) (u : Nat → Bool) : Prop where
  bls : Bls wr U k u
  fr : MFr U wb wr
  lt : U < wb.heap.size

theorem ShAt.alloc {wb wr : World} {U k : Nat} {u : Nat → Bool} (h : ShAt wb wr U k u) (ob : Obj) : ShAt wb (wr.alloc ob) U k u :=
  ⟨h.bls.same (heap_alloc_lt _ _ _ (Nat.lt_of_lt_of_le h.lt h.fr.size)), h.fr.trans (MFr.of_below ((Below.refl _ wr).alloc (Nat.le_refl _) _)), h.lt⟩
theorem ShAt.drewN {wb wr : World} {U k : Nat} {u : Nat → Bool} (h : ShAt wb wr U k u) (m : Nat) : ShAt wb (wr.drewN m) U k u := ⟨h.bls.same rfl, h.fr.drewN m, h.lt⟩
theorem ShAt.set {wb wr : World} {U k : Nat} {u : Nat → Bool} (h : ShAt wb wr U k u) {a : Nat} (ha : a < k) (b : Bool) : ShAt wb (wr.setCell ⟨U, a, none⟩ (.bool b)) U k (setAt u a b) := ⟨h.bls.set ha b, h.fr.set _ _, h.lt⟩

theorem Ints.away {w w' : World} {base : Nat} {v : Value} {l : List Nat} (h : Ints w base v l) {U : Nat} (hU : w.heap.size ≤ U) (wb : World) (hb : Below w.heap.size w wb) (hf : MFr U wb w') : Ints w' base v l :=
  ownsRow_same h fun k hk => by
    have := (h.lt k hk).2
    exact (hf.block k (Nat.lt_of_lt_of_le this hb.size) (by omega)).trans (hb.block k this)

theorem wrap_small (i : Nat) (h : i < 1000000) : IntKind.i64.wrap (i : Int) = (i : Int) := by
  simp only [IntKind.wrap, IntKind.signed, IntKind.bits]
  simp
  omega

set_option maxRecDepth 100000 in
set_option maxHeartbeats 1000000 in
theorem redge_any (w : World) {v : Value} {l : List (Nat × Nat)} (h : NPr w v l) (a b : Nat) (hl : l.length ≤ 1000000000000000) :
    Calls Tryz.prog 76 #[v, .int .i64 (a : Int), .int .i64 (b : Int)] w fun e w' => e = .returned (.bool (adjL l a b)) ∧ w' = w := by
  have HR : Hid (NPr w v l) := h
  obtain ⟨so, cap, hv, hcap, hcc⟩ := h
  subst hv
  clear hcc
  go_enter Tryz.func76, Tryz.ntmps76
  go_wp2_with fail
  go_loopg [7] (l.length + 1) (fun k v7 wr => ∃ i : Nat, i ≤ l.length ∧ l.length - i < k ∧ v7 = .int .i64 (i : Nat) ∧ adjL (l.take i) a b = false ∧ w = wr)
  case atStart => exact ⟨0, by omega, by omega, rfl, rfl, rfl⟩
  case round =>
    obtain ⟨i, hi, hk, rfl, hno, hw⟩ := hrel
    subst hw
    have HNO : Hid (adjL (l.take i) a b = false) := hno
    clear hno
    by_cases hlt : i < l.length
    · have hlt' : (i : Int) < (l.length : Int) := by omega
      obtain ⟨x, y, gi⟩ : ∃ x y, l[i]? = some (x, y) := ⟨_, _, List.getElem?_eq_getElem hlt⟩
      obtain ⟨bb, oo, hso, c0, c1⟩ := HR.out.at gi
      subst hso
      have HGI : Hid (l[i]? = some (x, y)) := gi
      clear gi
      by_cases k1 : x = a
      · have k1' : ((x : Int) == (a : Int)) = true := by simp; omega
        have K1 : Hid (x = a) := k1
        clear k1
        by_cases k2 : y = b
        · have k2' : ((y : Int) == (b : Int)) = true := by simp; omega
          have K2 : Hid (y = b) := k2
          clear k2
          have HE : Hid (adjL l a b = true) := adjL_yes HGI.out (.inl ⟨K1.out, K2.out⟩)
          go_wp2_with fail
          go_ret
          exact ⟨by rw [HE.out]; rfl, rfl⟩
        · have k2' : ((y : Int) == (b : Int)) = false := by simp; omega
          have K2 : Hid (¬ y = b) := k2
          clear k2
          by_cases k3 : x = b
          · have k3' : ((x : Int) == (b : Int)) = true := by simp; omega
            have K3 : Hid (x = b) := k3
            clear k3
            by_cases k4 : y = a
            · have k4' : ((y : Int) == (a : Int)) = true := by simp; omega
              have K4 : Hid (y = a) := k4
              clear k4
              have HE : Hid (adjL l a b = true) := adjL_yes HGI.out (.inr ⟨K3.out, K4.out⟩)
              go_wp2_with fail
              go_ret
              exact ⟨by rw [HE.out]; rfl, rfl⟩
            · have k4' : ((y : Int) == (a : Int)) = false := by simp; omega
              have K4 : Hid (¬ y = a) := k4
              clear k4
              have HN : Hid (adjL (l.take (i + 1)) a b = false) := adjL_take_no HNO.out HGI.out (fun k => K2.out k.2) (fun k => K4.out k.2)
              go_wp2_with fail
              go_roundg (l.length - i)
              case measure => omega
              case rel => exact ⟨i + 1, by omega, by omega, by go_num, HN.out, rfl⟩
          · have k3' : ((x : Int) == (b : Int)) = false := by simp; omega
            have K3 : Hid (¬ x = b) := k3
            clear k3
            have HN : Hid (adjL (l.take (i + 1)) a b = false) := adjL_take_no HNO.out HGI.out (fun k => K2.out k.2) (fun k => K3.out k.1)
            go_wp2_with fail
            go_roundg (l.length - i)
            case measure => omega
            case rel => exact ⟨i + 1, by omega, by omega, by go_num, HN.out, rfl⟩
      · have k1' : ((x : Int) == (a : Int)) = false := by simp; omega
        have K1 : Hid (¬ x = a) := k1
        clear k1
        by_cases k3 : x = b
        · have k3' : ((x : Int) == (b : Int)) = true := by simp; omega
          have K3 : Hid (x = b) := k3
          clear k3
          by_cases k4 : y = a
          · have k4' : ((y : Int) == (a : Int)) = true := by simp; omega
            have K4 : Hid (y = a) := k4
            clear k4
            have HE : Hid (adjL l a b = true) := adjL_yes HGI.out (.inr ⟨K3.out, K4.out⟩)
            go_wp2_with fail
            go_ret
            exact ⟨by rw [HE.out]; rfl, rfl⟩
          · have k4' : ((y : Int) == (a : Int)) = false := by simp; omega
            have K4 : Hid (¬ y = a) := k4
            clear k4
            have HN : Hid (adjL (l.take (i + 1)) a b = false) := adjL_take_no HNO.out HGI.out (fun k => K1.out k.1) (fun k => K4.out k.2)
            go_wp2_with fail
            go_roundg (l.length - i)
            case measure => omega
            case rel => exact ⟨i + 1, by omega, by omega, by go_num, HN.out, rfl⟩
        · have k3' : ((x : Int) == (b : Int)) = false := by simp; omega
          have K3 : Hid (¬ x = b) := k3
          clear k3
          have HN : Hid (adjL (l.take (i + 1)) a b = false) := adjL_take_no HNO.out HGI.out (fun k => K1.out k.1) (fun k => K3.out k.1)
          go_wp2_with fail
          go_roundg (l.length - i)
          case measure => omega
          case rel => exact ⟨i + 1, by omega, by omega, by go_num, HN.out, rfl⟩
    · have hlt' : ¬ (i : Int) < (l.length : Int) := by omega
      have HE : Hid (adjL l a b = false) := by have := HNO.out; rw [List.take_of_length_le (by omega)] at this; exact this
      go_wp2_with fail
      go_ret
      exact ⟨by rw [HE.out]; rfl, rfl⟩
end Go.Proofs.YtcabaecbmkgclaaGreatDoor.Rf

namespace Go.Proofs.YtcabaecbmkgclaaGreatDoor.Kd
open Go.RowKit Bz Mt Mg Rf

section
variable {w : World} {B base : Nat} {s : ByteArray} {p : St}

set_option maxRecDepth 100000 in
set_option maxHeartbeats 2000000 in
theorem pindex_any (w : World) {v : Value} {l : List (Nat × Nat)} (h : NPr w v l) (a b : Nat) (hl : l.length ≤ 1000) :
    Calls Tryz.prog 88 #[v, .agg #[.int .i64 (a : Int), .int .i64 (b : Int)]] w fun e w' => ∃ r : Int, e = .returned (.int .i64 r) ∧ (0 ≤ r ↔ (a, b) ∈ l) ∧ Below w.heap.size w w' := by
  have HR : Hid (NPr w v l) := h
  have HB0 : Hid (Below w.heap.size w (w.alloc (.cells #[.int .i64 (a : Int), .int .i64 (b : Int)] 48))) := (Below.refl _ w).alloc (Nat.le_refl _) _
  have q0 : (w.alloc (.cells #[.int .i64 (a : Int), .int .i64 (b : Int)] 48)).cell? ⟨w.heap.size, 0, none⟩ = some (.int .i64 (a : Int)) := by rw [World.cell?_alloc_new]; rfl
  have q1 : (w.alloc (.cells #[.int .i64 (a : Int), .int .i64 (b : Int)] 48)).cell? ⟨w.heap.size, 1, none⟩ = some (.int .i64 (b : Int)) := by rw [World.cell?_alloc_new]; rfl
  obtain ⟨so, cap, hv, hcap, hcc⟩ := h
  subst hv
  clear hcc
  go_enter Tryz.func88, Tryz.ntmps88
  go_upto_region 1 with fail
  generalize w.alloc (.cells #[.int .i64 (a : Int), .int .i64 (b : Int)] 48) = wq at *
  have HQ : Hid (wq.cell? ⟨w.heap.size, 0, none⟩ = some (.int .i64 (a : Int)) ∧ wq.cell? ⟨w.heap.size, 1, none⟩ = some (.int .i64 (b : Int)) ∧ Below w.heap.size w wq) := ⟨q0, q1, HB0.out⟩
  clear q0 q1 HB0
  generalize hX : w.heap.size = X at *
  have HX : Hid (w.heap.size = X) := hX
  clear hX
  go_wp2_with fail
  go_loopg [8] (l.length + 1) (fun k v8 wr => ∃ i : Nat, i ≤ l.length ∧ l.length - i < k ∧ v8 = .int .i64 (i : Nat) ∧ (a, b) ∉ l.take i ∧ (wr.cell? ⟨X, 0, none⟩ = some (.int .i64 (a : Int)) ∧ wr.cell? ⟨X, 1, none⟩ = some (.int .i64 (b : Int)) ∧ Below X w wr))
  case atStart => exact ⟨0, by omega, by omega, rfl, by simp, HQ.out⟩
  case round =>
    clear HQ
    obtain ⟨i, hi, hk, rfl, hno, hat⟩ := hrel
    have HNO : Hid ((a, b) ∉ l.take i) := hno
    have HAT : Hid (wr.cell? ⟨X, 0, none⟩ = some (.int .i64 (a : Int)) ∧ wr.cell? ⟨X, 1, none⟩ = some (.int .i64 (b : Int)) ∧ Below X w wr) := hat
    clear hno hat
    by_cases hlt : i < l.length
    · have hlt' : (i : Int) < (l.length : Int) := by omega
      obtain ⟨x, y, gi⟩ : ∃ x y, l[i]? = some (x, y) := ⟨_, _, List.getElem?_eq_getElem hlt⟩
      obtain ⟨bb, oo, hso, c0, c1⟩ := (HR.out.below (by rw [HX.out]; exact HAT.out.2.2)).at gi
      subst hso
      have HGI : Hid (l[i]? = some (x, y)) := gi
      obtain ⟨q0, q1, _⟩ := HAT.out
      have HA2 : Hid (∀ n, (wr.drewN n).cell? ⟨X, 0, none⟩ = some (.int .i64 (a : Int)) ∧ (wr.drewN n).cell? ⟨X, 1, none⟩ = some (.int .i64 (b : Int)) ∧ Below X w (wr.drewN n)) := fun n => ⟨HAT.out.1, HAT.out.2.1, below_drewN HAT.out.2.2 n⟩
      clear gi
      by_cases hx : a = x ∧ b = y
      · have HY : Hid ((a, b) ∈ l) := by
          have := List.mem_of_getElem? HGI.out
          rw [← hx.1, ← hx.2] at this
          exact this
        obtain ⟨rfl, rfl⟩ := hx
        clear HAT
        go_wp2_with fail
        go_quiet (fail)
        go_wp2_with fail
        go_ret
        exact ⟨_, rfl, ⟨fun _ => HY.out, fun _ => by simp⟩, by rw [HX.out]; exact (HA2.out nq).2.2⟩
      · have HN : Hid ((a, b) ∉ l.take (i + 1)) := by
          rw [take_snoc HGI.out]
          intro hm
          rcases List.mem_append.1 hm with hm | hm
          · exact HNO.out hm
          · simp at hm
            exact hx hm
        by_cases hax : a = x
        · have hby : ¬ b = y := fun e => hx ⟨hax, e⟩
          subst hax
          have e1 : ((b : Int) == (y : Int)) = false := beq_false_of_ne (by omega)
          have e2 : ¬ ((b : Int) = (y : Int)) := by omega
          clear hx HAT
          go_wp2_with fail
          go_quiet (fail)
          go_wp2_with fail
          go_roundg (l.length - i)
          case measure => omega
          case rel => exact ⟨i + 1, by omega, by omega, by go_num, HN.out, HA2.out nq⟩
        · have e1 : ((a : Int) == (x : Int)) = false := beq_false_of_ne (by omega)
          have e2 : ¬ ((a : Int) = (x : Int)) := by omega
          clear hx HAT
          go_wp2_with fail
          go_quiet (fail)
          go_wp2_with fail
          go_roundg (l.length - i)
          case measure => omega
          case rel => exact ⟨i + 1, by omega, by omega, by go_num, HN.out, HA2.out nq⟩
    · have hlt' : ¬ (i : Int) < (l.length : Int) := by omega
      have HN : Hid ((a, b) ∉ l) := by have := HNO.out; rw [List.take_of_length_le (by omega)] at this; exact this
      go_wp2_with fail
      go_ret
      exact ⟨_, rfl, ⟨fun h => absurd h (by simp), fun h => absurd h HN.out⟩, by rw [HX.out]; exact HAT.out.2.2⟩

set_option maxRecDepth 100000 in
set_option maxHeartbeats 1000000 in
theorem pcontains_any (w : World) {v : Value} {l : List (Nat × Nat)} (h : NPr w v l) (a b : Nat) (hl : l.length ≤ 1000) :
    Calls Tryz.prog 66 #[v, .agg #[.int .i64 (a : Int), .int .i64 (b : Int)]] w fun e w' => e = .returned (.bool (decide ((a, b) ∈ l))) ∧ Below w.heap.size w w' := by
  have HI : Hid (∀ wx, Below w.heap.size w wx → Calls Tryz.prog 88 #[v, .agg #[.int .i64 (a : Int), .int .i64 (b : Int)]] wx fun e w' => ∃ r : Int, e = .returned (.int .i64 r) ∧ (0 ≤ r ↔ (a, b) ∈ l) ∧ Below w.heap.size w w') := fun wx hb => (pindex_any wx (h.below hb) a b hl).mono (by
    rintro e w' ⟨r, he, hr, hb'⟩
    exact ⟨r, he, hr, hb.trans (hb'.mono hb.size)⟩)
  have HB0 : Hid (∀ ob, Below w.heap.size w (w.alloc ob)) := fun ob => (Below.refl _ w).alloc (Nat.le_refl _) ob
  obtain ⟨so, cap, hv, hcap, hcc⟩ := h
  subst hv
  clear hcc
  go_enter Tryz.func66, Tryz.ntmps66
  go_wp2_with fail
  refine (HI.out _ (HB0.out _)).mono ?_
  rintro e w2 ⟨r, rfl, hr, hb⟩
  have HR : Hid (decide (0 ≤ r) = decide ((a, b) ∈ l)) := by
    unfold Hid
    by_cases h0 : 0 ≤ r
    · rw [decide_eq_true h0, decide_eq_true (hr.1 h0)]
    · rw [decide_eq_false h0, decide_eq_false (fun h1 => h0 (hr.2 h1))]
  have HB : Hid (Below w.heap.size w w2) := hb
  clear hr hb
  go_wp2_with fail
  go_ret
  exact ⟨Mg.ret_bool HR.out, HB.out⟩

/-- The order of a bond, when these pairs are double. -/
def ordN (P : List (Nat × Nat)) (b : Bnd) : Nat := if b.o = 4 then (if (b.a, b.b) ∈ P then 2 else 1) else b.o.toNat

/-- The first i of a list, zeros behind. -/
def osAt (f : List Nat) (n i : Nat) : List Nat := f.take i ++ List.replicate (n - i) 0

theorem osAt_len {f : List Nat} {n i : Nat} (hf : f.length = n) (hi : i ≤ n) : (osAt f n i).length = n := by unfold osAt; rw [List.length_append, List.length_take, List.length_replicate]; omega
theorem osAt_set {f : List Nat} {n i x : Nat} (hf : f.length = n) (hi : i < n) (hx : f[i]? = some x) : (osAt f n i).set i x = osAt f n (i + 1) := by
  have hl : (f.take i).length = i := by rw [List.length_take]; omega
  unfold osAt
  rw [take_snoc hx, List.set_append_right _ _ (by omega), hl, show i - i = 0 by omega, show n - i = (n - (i + 1)) + 1 by omega, List.replicate_succ, List.set_cons_zero, List.append_assoc]
  rfl
theorem osAt_zero (f : List Nat) (n : Nat) : osAt f n 0 = List.replicate n 0 := by unfold osAt; simp
theorem osAt_full {f : List Nat} {n : Nat} (hf : f.length = n) : osAt f n n = f := by unfold osAt; rw [List.take_of_length_le (by omega)]; simp

theorem ints_made {w : World} {base D n : Nat} (h : w.ownsRow base 3 1 (.slice (some ⟨D, 0, none⟩) n n) n (madeCells #[.int .i64 0] n).toList) : Ints w base (.slice (some ⟨D, 0, none⟩) n n) (List.replicate n 0) := by
  unfold Ints
  rw [List.length_replicate, show intCells (List.replicate n 0) = (madeCells #[.int .i64 0] n).toList by rw [toList_madeCells_one]; unfold intCells; rw [List.map_replicate]; rfl]
  exact h

/-- A row that is being written. -/
structure RwAt (w wr : World) (D n : Nat) (f : List Nat) (i : Nat) : Prop where
  row : Ints wr w.heap.size (.slice (some ⟨D, 0, none⟩) n n) (osAt f n i)
  below : Below w.heap.size w wr
  le : w.heap.size ≤ D

theorem RwAt.cell {w wr : World} {D n : Nat} {f : List Nat} {i : Nat} (h : RwAt w wr D n f i) (hf : f.length = n) (hi : i < n) : (∃ y : Nat, wr.cell? ⟨D, i, none⟩ = some (.int .i64 (y : Int))) ∧ wr.frozen? ⟨D, i, none⟩ = false := by
  have hl := osAt_len hf (Nat.le_of_lt hi)
  have hg : (osAt f n i)[i]? = some ((osAt f n i)[i]'(by omega)) := List.getElem?_eq_getElem (by omega)
  obtain ⟨g, cap, e, _, _, hc⟩ := h.row.at hg
  simp only [Value.slice.injEq, Option.some.injEq, Addr.mk.injEq, and_true] at e
  obtain ⟨rfl, -, -⟩ := e
  have hr : Ints wr w.heap.size (.slice (some ⟨D, 0, none⟩) (osAt f n i).length n) (osAt f n i) := by rw [hl]; exact h.row
  exact ⟨⟨_, hc⟩, Mg.Ints.free hr i⟩

theorem RwAt.set {w wr : World} {D n : Nat} {f : List Nat} {i x : Nat} (h : RwAt w wr D n f i) (hf : f.length = n) (hi : i < n) (hx : f[i]? = some x) : RwAt w (wr.setCell ⟨D, i, none⟩ (.int .i64 (x : Int))) D n f (i + 1) := by
  have hl := osAt_len hf (Nat.le_of_lt hi)
  refine ⟨?_, h.below.setCell (p := ⟨D, i, none⟩) h.le _, h.le⟩
  have hr : Ints wr w.heap.size (.slice (some ⟨D, 0, none⟩) (osAt f n i).length n) (osAt f n i) := by rw [hl]; exact h.row
  have := Mg.Ints.set hr (i := i) (by omega) x
  rw [osAt_set hf hi hx, hl] at this
  exact this

theorem RwAt.on {w wr w' : World} {D n : Nat} {f : List Nat} {i : Nat} (h : RwAt w wr D n f i) (hb : Below wr.heap.size wr w') : RwAt w w' D n f i :=
  ⟨ownsRow_same h.row fun k hk => hb.block k (h.row.lt k hk).2, h.below.trans (hb.mono h.below.size), h.le⟩

set_option maxRecDepth 100000 in
set_option maxHeartbeats 1000000 in
theorem counted_any (w : World) (n : Nat) (hn : n ≤ 24) : Calls Tryz.prog 42 #[.int .i64 (n : Int)] w fun e w' => ∃ v, e = .returned v ∧ Ints w' w.heap.size v (List.range n) ∧ Below w.heap.size w w' := by
  obtain ⟨i0, hi0, hz0, hz1, hz2⟩ := info_parts Mg.Tryz.infoInt
  have hf : (List.range n).length = n := by simp
  have HF : Hid ((List.range n).length = n) := hf
  clear hf
  go_enter Tryz.func42, Tryz.ntmps42
  go_wp2_with (at_make; go_must (refine wpList_make_full _ rfl _ _ 25 rfl w.heap.size 3 i0 (.int .i64 0) 1 Tryz.underlying25 hi0 hz0 hz1 .i64 .i64 _ _ n rfl rfl rfl rfl ?c1 ?c2 ?c3 ?_))
  case c1 => rw [hz2]; omega
  case c2 => unfold maxLen; omega
  case c3 => exact Nat.le_refl _
  intro w1 hown hgrow
  have HST : Hid (RwAt w w1 w.heap.size n (List.range n) 0) := ⟨by rw [osAt_zero]; exact ints_made hown, (Below.refl _ w).grown hgrow (Nat.le_refl _) (by simp), Nat.le_refl _⟩
  clear hown hgrow
  generalize w.heap.size = D at HST ⊢
  go_wp2_with fail
  go_loopg [9] 26 (fun k v9 wr => ∃ i : Nat, i ≤ n ∧ 25 - i ≤ k ∧ v9 = .int .i64 (i : Nat) ∧ RwAt w wr D n (List.range n) i)
  case atStart => exact ⟨0, by omega, by omega, rfl, HST.out⟩
  case round =>
    clear HST
    obtain ⟨i, hi, hk, rfl, hat⟩ := hrel
    have HAT : Hid (RwAt w wr D n (List.range n) i) := hat
    clear hat
    by_cases hlt : i < n
    · have hlt' : (i : Int) < (n : Int) := by omega
      obtain ⟨⟨y, cy⟩, fy⟩ := HAT.out.cell HF.out hlt
      have HN : Hid (RwAt w (wr.setCell ⟨D, i, none⟩ (.int .i64 (i : Int))) D n (List.range n) (i + 1)) := HAT.out.set HF.out hlt (List.getElem?_range hlt)
      go_wp2_with fail
      go_roundg (25 - (i + 1))
      case measure => omega
      case rel => exact ⟨i + 1, by omega, Nat.le_refl _, by go_num, HN.out⟩
    · have hlt' : ¬ (i : Int) < (n : Int) := by omega
      obtain rfl : n = i := by omega
      have HE : Hid (Ints wr w.heap.size (.slice (some ⟨D, 0, none⟩) n n) (List.range n)) := by have := HAT.out.row; rw [osAt_full HF.out] at this; exact this
      go_wp2_with fail
      go_ret
      exact ⟨_, rfl, HE.out, HAT.out.below⟩
end
end Go.Proofs.YtcabaecbmkgclaaGreatDoor.Kd
