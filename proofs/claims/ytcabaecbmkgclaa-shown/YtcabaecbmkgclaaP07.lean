/-
  The law Greatest: what its call does.
  A list of raw numbers that came in.
  What odd does: how many odd pieces there are.
  The law Shown: what its call does.
-/
import Derived.Test.YtcabaecbmkgclaaP06
import Derived.ProofKit
import Derived.SizedLaws

namespace Go.Proofs.Ytcabaecbmkgclaa.Kp
open Go.RowKit Mt Mg

def castL (l : List (Nat × Nat)) : List (Int × Int) := l.map fun p => ((p.1 : Int), (p.2 : Int))

theorem castL_len (l : List (Nat × Nat)) : (castL l).length = l.length := by simp [castL]
theorem natL_castL (l : List (Nat × Nat)) : natL (castL l) = l := by
  unfold natL castL
  rw [List.map_map]
  conv => rhs; rw [← List.map_id l]
  exact List.map_congr_left fun p _ => by simp

theorem okG_castL {k : Nat} {l : List (Nat × Nat)} (hk : k ≤ 24) (h : EdOk k l) : okG (k : Int) (castL l) = true := by
  unfold okG
  rw [decide_eq_true (by omega), decide_eq_true (by omega)]
  simp only [Bool.and_self, Bool.true_and]
  rw [List.all_eq_true]
  intro p hp
  obtain ⟨q, hq, rfl⟩ := List.mem_map.1 hp
  obtain ⟨h1, h2, h3⟩ := h q hq
  exact edgeOk_yes (inR_iff.2 ⟨by omega, by omega⟩) (inR_iff.2 ⟨by omega, by omega⟩) (by simp; omega)

theorem NPr.ipr {w : World} {v : Value} {l : List (Nat × Nat)} (h : NPr w v l) : IPr w v (castL l) := by
  obtain ⟨so, cap, rfl, _, hl⟩ := h
  refine ⟨so, cap, by rw [castL_len], fun i a c hi => ?_⟩
  unfold castL at hi
  rw [List.getElem?_map] at hi
  cases hq : l[i]? with
  | none => rw [hq] at hi; cases hi
  | some q =>
    rw [hq] at hi
    simp only [Option.map_some, Option.some.injEq, Prod.mk.injEq] at hi
    obtain ⟨rfl, rfl⟩ := hi
    rcases hl with rfl | ⟨b, o, rfl, hx⟩
    · simp at hq
    · exact ⟨b, o, rfl, hx i q.1 q.2 hq⟩

/-- What Match hands back where the edges are between k numbers. -/
def MnIs (w : World) (k : Nat) (l : List (Nat × Nat)) (e : Ending) (w' : World) : Prop :=
  ∃ mate f h, Best (grL k l) mate f h ∧ ∃ pv uv, e = .returned (.tuple #[pv, uv, .int .i64 0]) ∧ Prs w' w.heap.size pv (pairsF k mate) ∧ Ints w' w.heap.size uv (barF k f) ∧ Below w.heap.size w w'

theorem matchN_any (w : World) {v : Value} {l : List (Nat × Nat)} (h : NPr w v l) {k : Nat} (hk : k ≤ 24) (E : EdOk k l) (hl : l.length ≤ 1000000000000000) :
    Calls Try.prog 7 #[.int .i64 (k : Int), v] w fun e w' => MnIs w k l e w' := by
  refine (match_any w h.ipr (k : Int) (by rw [castL_len]; exact hl)).mono ?_
  rintro e w' ⟨hb, ⟨_, mate, f, h, hB, pv, uv, rfl, hP, hU⟩ | ⟨hno, _⟩⟩
  · rw [natL_castL, show ((k : Int).toNat) = k by omega] at hB
    rw [show ((k : Int).toNat) = k by omega] at hP hU
    exact ⟨mate, f, h, hB, pv, uv, rfl, hP, hU, hb⟩
  · rw [okG_castL hk E] at hno
    cases hno

theorem NPr.take {w : World} {so : Option Addr} {n cap : Nat} {l : List (Nat × Nat)} (h : NPr w (.slice so n cap) l) (m : Nat) (hm : m ≤ l.length) : NPr w (.slice so m cap) (l.take m) := by
  obtain ⟨so', cap', e, hc, hl⟩ := h
  simp only [Value.slice.injEq] at e
  obtain ⟨rfl, rfl, rfl⟩ := e
  have e1 : (l.take m).length = m := by rw [List.length_take]; omega
  refine ⟨so, cap, by rw [e1], by omega, ?_⟩
  rcases hl with rfl | ⟨b, o, rfl, hx⟩
  · exact .inl (by simp)
  · refine .inr ⟨b, o, rfl, fun i a c hi => ?_⟩
    by_cases him : i < m
    · rw [List.getElem?_take_of_lt him] at hi
      exact hx i a c hi
    · rw [List.getElem?_eq_none (by omega)] at hi
      cases hi

theorem edOk_take {n : Nat} {l : List (Nat × Nat)} (h : EdOk n l) (m : Nat) : EdOk n (l.take m) := fun p hp => h p (List.mem_of_mem_take hp)

theorem Away.of {w : World} {base : Nat} {l : List (Nat × Nat)} {so : Option Addr} {n m cap : Nat} (h : Prs w base (.slice so n cap) l) {U : Nat} (hU : w.heap.size ≤ U) : Away (.slice so m cap) U := by
  intro b o n' c' e
  simp only [Value.slice.injEq] at e
  obtain ⟨rfl, -, -⟩ := e
  have := (h.lt b rfl).2
  omega

theorem Bls.made {w : World} {base U n : Nat} (h : w.ownsRow base 4 1 (.slice (some ⟨U, 0, none⟩) n n) n (madeCells #[.bool false] n).toList) (hn : 0 < n) : Bls w U n fun _ => false := by
  obtain ⟨g, cap, e, _, _, hc, hf⟩ := ownsRow_at h hn
  simp only [Value.slice.injEq, Option.some.injEq, Addr.mk.injEq, and_true, true_and] at e
  obtain ⟨rfl, -⟩ := e
  refine ⟨fun x hx => ?_, hf⟩
  rw [hc x (by omega), toList_madeCells_one]
  simp [hx]

theorem Try.infoBool : (Try.prog.info? 4).map (fun i => (i.zero, i.size, i.bytes)) = some (some (.bool false), 1, 1) := by kernel_rfl

set_option maxRecDepth 100000 in
set_option maxHeartbeats 1000000 in
theorem glaw_any (w : World) {v : Value} {raw : List Int} (h : IRd w v raw) (n0 : Int) (hn0 : In64 n0) (hr : raw.length * 8 ≤ 140737488355328) (h64 : ∀ x ∈ raw, In64 x) :
    Calls Try.prog 3 #[.int .i64 n0, v] w fun e w' => e = .returned (.bool true) ∧ Below w.heap.size w w' := by
  obtain ⟨b0, hb0, hbz0, hbz1, hbz2⟩ := info_parts Try.infoBool
  have P1 := pick_any w n0 11 (by omega) (by omega) hn0
  have hk := pickF_lt n0 (n := 11) (by omega)
  generalize pickF n0 11 = k at P1 hk
  have ED := edges_any w h k (by omega) hr h64
  have HEO : Hid (EdOk k (edgesF k raw)) := edgesF_ok k raw
  have hel := edgesF_len k raw
  have hl0 : (edgesF k raw).length ≤ 1000000000000000 := by omega
  clear hel
  generalize edgesF k raw = l0 at ED HEO hl0
  obtain ⟨so0, cap0, hv0, hcc⟩ := h
  subst hv0
  clear hcc h64 hn0
  go_enter Try.func3, Try.ntmps3
  go_wp2_with fail
  refine P1.mono ?_
  rintro e w1 ⟨rfl, rfl⟩
  clear P1
  go_wp2_with fail
  refine ED.mono ?_
  rintro e w2 ⟨lv, rfl, hP, hb2⟩
  clear ED
  obtain ⟨so, cap, hs⟩ := ownsRow_shape hP
  subst hs
  have HP : Hid (Prs w2 w1.heap.size (.slice so l0.length cap) l0) := hP
  have HB2 : Hid (Below w1.heap.size w1 w2) := hb2
  have hlc := ownsRow_cap hP
  clear hP hb2
  go_upto_if 22 with fail
  go_cut [6] from 23 to 24 (fun v6 wc => ∃ l, v6 = .slice so l.length cap ∧ l.length ≤ 14 ∧ NPr wc (.slice so l.length cap) l ∧ EdOk k l ∧ w2 = wc)
  case first =>
    by_cases h14 : l0.length ≤ 14
    · have h14' : ¬ (l0.length : Int) > 14 := by omega
      go_wp2_with fail
      go_meet
      exact ⟨l0, rfl, h14, NPr.of HP.out, HEO.out, rfl⟩
    · have h14' : (l0.length : Int) > 14 := by omega
      have hc14 : (14 : Int) ≤ (cap : Int) := by omega
      go_wp2_with fail
      go_meet
      have e1 : (l0.take 14).length = 14 := by rw [List.length_take]; omega
      exact ⟨l0.take 14, by rw [e1], by omega, by rw [e1]; exact (NPr.of HP.out).take 14 (by omega), edOk_take HEO.out 14, rfl⟩
  case rest =>
    obtain ⟨l, rfl, hl14, hnp, hed, hw⟩ := hcut
    subst hw
    have HNP : Hid (NPr w2 (.slice so l.length cap) l) := hnp
    have HED : Hid (EdOk k l) := hed
    have M1 := matchN_any w2 hnp (show k ≤ 24 by omega) hed (by omega)
    clear hnp hed
    go_wp2_with fail
    refine M1.mono ?_
    rintro e w3 ⟨mate, f, hh, hB, pv, uv, rfl, hPp, hUu, hb3⟩
    clear M1
    obtain ⟨po, pc, hs1⟩ := ownsRow_shape hPp
    obtain ⟨uo, uc, hs2⟩ := ownsRow_shape hUu
    subst hs1 hs2
    have HL : Hid ((pairsF k mate).length = mostF l fun _ => false) := hB.most HED.out (by omega)
    have hbl : (barF k f).length ≤ k := filter_len _ _
    have hml := mostF_len l fun _ => false
    have HB3 : Hid (Below w1.heap.size w1 w3) := HB2.out.trans (hb3.mono HB2.out.size)
    have HNP3 : Hid (NPr w3 (.slice so l.length cap) l) := HNP.out.below hb3
    have HS3 : Hid (w2.heap.size ≤ w3.heap.size) := hb3.size
    generalize (pairsF k mate).length = np at *
    generalize (barF k f).length = nb at *
    clear hB hPp hUu hb3 HNP
    have NP2 : NPr (w3.alloc (.cells #[.int .i64 1, .int .i64 0] 30)) (.slice (some ⟨w3.heap.size, 0, none⟩) 1 1) [(1, 0)] := by
      refine ⟨_, _, rfl, Nat.le_refl _, .inr ⟨_, _, rfl, fun i a c hi => ?_⟩⟩
      cases i with
      | zero =>
        simp at hi
        obtain ⟨rfl, rfl⟩ := hi
        constructor <;> (rw [World.cell?_alloc_new]; rfl)
      | succ i => simp at hi
    have M2 := matchN_any _ NP2 (show 2 ≤ 24 by omega) (by intro p hp; simp at hp; subst hp; decide) (by simp)
    clear NP2
    go_wp2_with fail
    refine M2.mono ?_
    rintro e w4 ⟨mate2, f2, h2, hB2, pv2, uv2, rfl, hP2, hU2, hb4⟩
    clear M2
    obtain ⟨e1, e2⟩ := two_pairs hB2
    rw [e1] at hP2
    rw [e2] at hU2
    obtain ⟨g2, pc2, hs1, _, hg2, hc2, _⟩ := ownsRow_at hP2 (by simp)
    obtain ⟨uo2, uc2, hs2⟩ := ownsRow_shape hU2
    subst hs1 hs2
    simp only [List.length_cons, List.length_nil, Nat.zero_add]
    have t0 : w4.cell? ⟨g2, 0, none⟩ = some (.int .i64 0) := (hc2 0 (by simp)).trans rfl
    have t1 : w4.cell? ⟨g2, 1, none⟩ = some (.int .i64 1) := (hc2 1 (by simp)).trans rfl
    have HB4 : Hid (Below w1.heap.size w1 w4) := (HB3.out.alloc HB3.out.size _).trans (hb4.mono (by have := HB3.out.size; simp; omega))
    have HNP4 : Hid (NPr w4 (.slice so l.length cap) l) := HNP3.out.below (((Below.refl _ w3).alloc (Nat.le_refl _) _).trans (hb4.mono (by simp)))
    have HS4 : Hid (w2.heap.size ≤ w4.heap.size) := by have := hb4.size; have h3 := HS3.out; simp at this; unfold Hid; omega
    clear hB2 e1 e2 hP2 hU2 hb4 hc2 HB3 HNP3
    go_wp2_with (at_make; go_must (refine wpList_make_full _ rfl _ _ 32 rfl w4.heap.size 4 b0 (.bool false) 1 Try.underlying32 hb0 hbz0 hbz1 .i64 .i64 _ _ (k + 1) rfl rfl (by omega) (by omega) ?c1 ?c2 ?c3 ?_))
    case c1 => rw [hbz2]; omega
    case c2 => unfold maxLen; omega
    case c3 => exact Nat.le_refl _
    intro w5 hown hgrow
    have hb45 : Below w4.heap.size w4 w5 := (Below.refl _ w4).grown hgrow (Nat.le_refl _) (by simp)
    have MO := most_any 14 w5 (.slice so l.length cap) l w4.heap.size (k + 1) (k + 1) (fun _ => false) hl14 (by omega) (HNP4.out.below hb45) (Away.of HP.out HS4.out) (fun p hp => by obtain ⟨h1, h2, h3⟩ := HED.out p hp; exact ⟨by omega, by omega, h3⟩) (by omega) (Bls.made hown (by omega))
    have HB5 : Hid (Below w1.heap.size w1 w5) := HB4.out.trans (hb45.mono HB4.out.size)
    have HT : Hid (w5.cell? ⟨g2, 0, none⟩ = some (.int .i64 0) ∧ w5.cell? ⟨g2, 1, none⟩ = some (.int .i64 1)) := ⟨(hb45.cell (p := ⟨g2, 0, none⟩) hg2).trans t0, (hb45.cell (p := ⟨g2, 1, none⟩) hg2).trans t1⟩
    have HS5 : Hid (w4.heap.size ≤ w5.heap.size) := hb45.size
    have HS1 : Hid (w1.heap.size ≤ w4.heap.size) := HB4.out.size
    rw [← HL.out] at MO hml
    clear hown hgrow hb45 t0 t1 HB4 HNP4 HED HL
    go_wp2_with fail
    refine MO.mono ?_
    rintro e w6 ⟨rfl, _, hf6⟩
    have h2 : w6.heap[g2]? = w5.heap[g2]? := hf6.block g2 (Nat.lt_of_lt_of_le hg2 HS5.out) (by omega)
    have t0 : w6.cell? ⟨g2, 0, none⟩ = some (.int .i64 0) := (World.cell?_of_block (a := ⟨g2, 0, none⟩) h2).trans HT.out.1
    have t1 : w6.cell? ⟨g2, 1, none⟩ = some (.int .i64 1) := (World.cell?_of_block (a := ⟨g2, 1, none⟩) h2).trans HT.out.2
    have HE : Hid (Below w1.heap.size w1 w6) := HB5.out.trans (hf6.toBelow HS1.out HB5.out.size)
    clear MO hf6 h2 HT
    have hnb' : (nb : Int) ≤ (k : Int) := by omega
    go_wp2_with fail
    go_ret
    exact ⟨rfl, HE.out⟩
end Go.Proofs.Ytcabaecbmkgclaa.Kp

namespace Go.Proofs.Ytcabaecbmkgclaa.Kp
open Go.ChangeShapes Go.WideShapes Go.ChangeAt Go.RowKit

theorem own : ownKnob Try.prog.godebug = none := by kernel_rfl
theorem laidOut : laidOutB Try.prog = true := by kernel_rfl
theorem Try.cellsInt : Try.prog.cellsOf 3 = 1 := by kernel_rfl
theorem Try.bytesInt : Try.prog.bytesOf 3 = 8 := by kernel_rfl

theorem in64 {n : Int} (h : (Lit.int .i64 n).wf = true) : In64 n := by
  have h1 : IntKind.i64.min = -9223372036854775808 := rfl
  have h2 : IntKind.i64.max = 9223372036854775807 := rfl
  simp only [Lit.wf, Bool.and_eq_true, decide_eq_true_eq] at h
  unfold In64
  omega

/-- A list of raw numbers that came in. -/
theorem raw_in {H : Type} {enc : TypeId × Value → H} {W : World} {v : Value} {d : DataW H} {p : List MemPlace} (hv : ∃ a len cap, v = .slice a len cap) (h : DataW.Trod enc Try.prog W 0 (fun _ => true) true 22 v d p)
    (hs : ∀ elems spare, d = .slice elems spare → (elems.length + spare.length) * 8 ≤ reachBytes) : ∃ raw, IRd W v raw ∧ raw.length * 8 ≤ 140737488355328 ∧ ∀ x ∈ raw, In64 x := by
  obtain ⟨a0, len, cap, rfl⟩ := hv
  obtain ⟨fuel, hf⟩ := h
  rcases open_ints Try.underlying22 Try.underlying3 Try.cellsInt hf with ⟨hcs, hx⟩ | ⟨a, len', cap', zs, hcs, _, hl, hm, hz, hx, hcell, hwz⟩
  · simp [Value.cells] at hcs
    obtain ⟨rfl, rfl, rfl⟩ := hcs
    exact ⟨[], ⟨none, 0, rfl, fun i x hi => by simp at hi⟩, by simp, fun x hx => by cases hx⟩
  · simp [Value.cells] at hcs
    obtain ⟨rfl, rfl, rfl⟩ := hcs
    simp only [Prod.mk.injEq] at hx
    obtain ⟨rfl, rfl⟩ := hx
    simp only [if_true] at hz
    have hreach := hs _ _ rfl
    simp only [lits, List.length_map, List.length_take, List.length_drop, reachBytes] at hreach
    have el : (zs.take len).length = len := by rw [List.length_take]; omega
    refine ⟨zs.take len, ⟨some a, cap, by rw [el], fun i x hi => ⟨a, rfl, ?_⟩⟩, by rw [el]; omega, fun x hx => in64 (hwz x (List.mem_of_mem_take hx))⟩
    have hil := (List.getElem?_eq_some_iff.1 hi).1
    rw [el] at hil
    rw [List.getElem?_take_of_lt hil] at hi
    rw [hcell i (by omega), List.getD_eq_getElem?_getD, hi]
    rfl
end Go.Proofs.Ytcabaecbmkgclaa.Kp

namespace Go.Proofs.Ytcabaecbmkgclaa.Kp
open Go.RowKit Mt Mg

/-- Block N holds n names. -/
structure Nms (w : World) (N n : Nat) (name : Nat → Nat) : Prop where
  cell : ∀ x, x < n → w.cell? ⟨N, x, none⟩ = some (.int .i64 (name x : Int))
  free : ∀ i, w.frozen? ⟨N, i, none⟩ = false

theorem Nms.set {w : World} {N n : Nat} {name : Nat → Nat} (h : Nms w N n name) {a : Nat} (ha : a < n) (b : Nat) : Nms (w.setCell ⟨N, a, none⟩ (.int .i64 (b : Int))) N n (setAt name a b) := by
  refine ⟨fun k hk => ?_, fun i => by rw [World.frozen?_setCell]; exact h.free i⟩
  by_cases e : k = a
  · subst e
    rw [World.cell?_setCell_same w _ _ (h.cell k hk)]
    simp [setAt]
  · rw [cell_set_ne (fun e' => e e'.symm)]
    simp only [setAt, if_neg e]
    exact h.cell k hk

theorem Nms.same {w w' : World} {N n : Nat} {name : Nat → Nat} (h : Nms w N n name) (hs : w'.heap[N]? = w.heap[N]?) : Nms w' N n name :=
  ⟨fun k hk => (World.cell?_of_block (a := ⟨N, k, none⟩) hs).trans (h.cell k hk), fun i => (World.frozen?_of_block (a := ⟨N, i, none⟩) hs).trans (h.free i)⟩

theorem Nms.congr {w : World} {N n : Nat} {name name' : Nat → Nat} (h : Nms w N n name) (e : ∀ k, k < n → name' k = name k) : Nms w N n name' :=
  ⟨fun k hk => by rw [e k hk]; exact h.cell k hk, h.free⟩

theorem Nms.made {w : World} {base N n : Nat} (h : w.ownsRow base 3 1 (.slice (some ⟨N, 0, none⟩) n n) n (madeCells #[.int .i64 0] n).toList) (hn : 0 < n) : Nms w N n fun _ => 0 := by
  obtain ⟨g, cap, e, _, _, hc, hf⟩ := ownsRow_at h hn
  simp only [Value.slice.injEq, Option.some.injEq, Addr.mk.injEq, and_true, true_and] at e
  obtain ⟨rfl, -⟩ := e
  refine ⟨fun x hx => ?_, hf⟩
  rw [hc x (by omega), toList_madeCells_one]
  simp [hx]

/-- Where odd stands: its names in block N, which is new. -/
structure OdAt (w wr : World) (N n : Nat) (name : Nat → Nat) : Prop where
  nms : Nms wr N n name
  below : Below w.heap.size w wr
  le : w.heap.size ≤ N

theorem OdAt.set {w wr : World} {N n : Nat} {name : Nat → Nat} (h : OdAt w wr N n name) {a : Nat} (ha : a < n) (b : Nat) : OdAt w (wr.setCell ⟨N, a, none⟩ (.int .i64 (b : Int))) N n (setAt name a b) :=
  ⟨h.nms.set ha b, h.below.setCell (p := ⟨N, a, none⟩) h.le _, h.le⟩

theorem OdAt.drew {w wr : World} {N n : Nat} {name : Nat → Nat} (h : OdAt w wr N n name) : OdAt w wr.drew N n name := ⟨h.nms.same rfl, h.below.drew, h.le⟩
theorem OdAt.drewN {w wr : World} {N n : Nat} {name : Nat → Nat} (h : OdAt w wr N n name) (m : Nat) : OdAt w (wr.drewN m) N n name := ⟨h.nms.same rfl, ⟨h.below.os, h.below.tape, h.below.output, h.below.size, h.below.block⟩, h.le⟩

/-- What a pass has made of the names. -/
structure Pass (n : Nat) (l : List (Nat × Nat)) (out : Nat → Bool) (T i : Nat) (ag : Bool) (name : Nat → Nat) : Prop where
  nm : Nm n l out name
  again : ag = true → total n name < T
  still : ag = false → total n name ≤ T ∧ ∀ p ∈ l.take i, out p.1 = false → out p.2 = false → name p.1 = name p.2

theorem Pass.skip {n : Nat} {l : List (Nat × Nat)} {out : Nat → Bool} {T i : Nat} {ag : Bool} {name : Nat → Nat} (h : Pass n l out T i ag name) {a b : Nat} (hi : l[i]? = some (a, b)) (hs : out a = false → out b = false → name a = name b) : Pass n l out T (i + 1) ag name := by
  refine ⟨h.nm, h.again, fun e => ⟨(h.still e).1, fun p hp => ?_⟩⟩
  rw [take_snoc hi] at hp
  rcases List.mem_append.1 hp with hp | hp
  · exact (h.still e).2 p hp
  · simp at hp
    subst hp
    exact hs

theorem Pass.step {n : Nat} {l : List (Nat × Nat)} {out : Nat → Bool} {T i : Nat} {ag : Bool} {name : Nat → Nat} (h : Pass n l out T i ag name) (E : EdOk n l) {a b : Nat} (hi : l[i]? = some (a, b)) (oa : out a = false) (ob : out b = false) (hne : name a ≠ name b) : Pass n l out T (i + 1) true (named name a b) := by
  have hm := List.mem_of_getElem? hi
  have ha : a < n := (E _ hm).1
  have hb : b < n := (E _ hm).2.1
  have hl := named_less ha hb hne
  refine ⟨h.nm.step hm ha hb oa ob hne, fun _ => ?_, fun e => (by cases e)⟩
  cases hag : ag with
  | true => have := h.again hag; omega
  | false => have := (h.still hag).1; omega

/-- Is the piece named i odd? -/
def oddAt (n : Nat) (out : Nat → Bool) (name : Nat → Nat) (i : Nat) : Nat := cnt n (fun k => !out k && (name k == i)) % 2

theorem oddAt_le (n : Nat) (out : Nat → Bool) (name : Nat → Nat) (i : Nat) : oddAt n out name i ≤ 1 := by unfold oddAt; omega
theorem odd_total (n m : Nat) (out : Nat → Bool) (name : Nat → Nat) : total m (oddAt n out name) ≤ m := by
  have := total_le (n := m) (m := 1) (f := oddAt n out name) fun k _ => oddAt_le n out name k
  omega

def inPiece (out : Nat → Bool) (name : Nat → Nat) (i k : Nat) : Bool := !out k && (name k == i)

/-- What odd hands back. -/
def OdIs (w : World) (n : Nat) (l : List (Nat × Nat)) (out : Nat → Bool) (e : Ending) (w' : World) : Prop :=
  ∃ name, Naming (grL n l) out name ∧ e = .returned (.int .i64 (total n (oddAt n out name) : Nat)) ∧ Below w.heap.size w w'

theorem Bls.below {w w' : World} {U n : Nat} {u : Nat → Bool} (h : Bls w U n u) (hn : 0 < n) (hb : Below w.heap.size w w') : Bls w' U n u :=
  h.same (hb.block U (World.block_lt_of_cell? w ⟨U, 0, none⟩ (h.cell 0 hn)))

set_option maxRecDepth 100000 in
set_option maxHeartbeats 1000000 in
theorem odd_any (w : World) {v : Value} {l : List (Nat × Nat)} (h : NPr w v l) {O n oc : Nat} {out : Nat → Bool} (hO : Bls w O n out) (hn : n ≤ 24) (hn0 : 0 < n) (E : EdOk n l) (hl : l.length ≤ 1000000000000000) :
    Calls Try.prog 10 #[v, .slice (some ⟨O, 0, none⟩) n oc, .int .i64 (n : Int)] w fun e w' => OdIs w n l out e w' := by
  obtain ⟨i0, hi, hz0, hz1, hz2⟩ := info_parts Try.infoInt
  have HR : Hid (NPr w v l) := h
  have HO : Hid (Bls w O n out) := hO
  have HE : Hid (EdOk n l) := E
  obtain ⟨so, cap, hv, hcap, hcc⟩ := h
  subst hv
  clear hcc hO E
  go_enter Try.func10, Try.ntmps10
  go_wp2_with (at_make; go_must (refine wpList_make_full _ rfl _ _ 22 rfl w.heap.size 3 i0 (.int .i64 0) 1 Try.underlying22 hi hz0 hz1 .i64 .i64 _ _ n rfl rfl rfl rfl ?c1 ?c2 ?c3 ?_))
  case c1 => rw [hz2]; omega
  case c2 => unfold maxLen; omega
  case c3 => exact Nat.le_refl _
  intro w1 hown hgrow
  have HST : Hid (OdAt w w1 w.heap.size n fun _ => 0) := ⟨Nms.made hown hn0, (Below.refl _ w).grown hgrow (Nat.le_refl _) (by simp), Nat.le_refl _⟩
  clear hown hgrow
  generalize w.heap.size = N at HST ⊢
  go_wp2_with fail
  go_loopg [8] 26 (fun k v8 wr => ∃ i : Nat, i ≤ n ∧ 25 - i ≤ k ∧ v8 = .int .i64 (i : Nat) ∧ OdAt w wr N n fun x => if x < i then x else 0)
  case atStart => exact ⟨0, by omega, by omega, rfl, HST.out⟩
  case round =>
    clear HST
    obtain ⟨i, hi', hk, rfl, hat⟩ := hrel
    have HAT : Hid (OdAt w wr N n fun x => if x < i then x else 0) := hat
    clear hat
    by_cases hlt : i < n
    · have hlt' : (i : Int) < (n : Int) := by omega
      have ci := HAT.out.nms.cell i hlt
      have fi := HAT.out.nms.free i
      have HN : Hid (OdAt w (wr.setCell ⟨N, i, none⟩ (.int .i64 (i : Int))) N n fun x => if x < i + 1 then x else 0) := by
        have := HAT.out.set hlt i
        refine ⟨this.nms.congr fun k hk => ?_, this.below, this.le⟩
        simp only [setAt]
        by_cases e : k = i
        · rw [if_pos e, if_pos (by omega), e]
        · rw [if_neg e]
          by_cases e2 : k < i
          · rw [if_pos e2, if_pos (by omega)]
          · rw [if_neg e2, if_neg (by omega)]
      go_wp2_with fail
      go_roundg (25 - (i + 1))
      case measure => omega
      case rel => exact ⟨i + 1, by omega, Nat.le_refl _, by go_num, HN.out⟩
    · have hlt' : ¬ (i : Int) < (n : Int) := by omega
      have HS2 : Hid (OdAt w wr N n fun x => x) := ⟨HAT.out.nms.congr fun k hk => by rw [if_pos (by omega)], HAT.out.below, HAT.out.le⟩
      clear HAT
      go_wp2_with fail
      go_loopg [9] 1160 (fun k v9 wr => ∃ (ag : Bool) (name : Nat → Nat), v9 = .bool ag ∧ 2 * total n name + (if ag then 1 else 0) ≤ k ∧ OdAt w wr N n name ∧ Nm n l out name ∧ (ag = false → ∀ p ∈ l, out p.1 = false → out p.2 = false → name p.1 = name p.2))
      case atStart => exact ⟨true, fun x => x, rfl, by have := total_ids hn; simp; omega, HS2.out, Nm.start n l out, fun h => by cases h⟩
      case round =>
        clear HS2 hlt hlt'
        obtain ⟨ag, name, rfl, hme, hat, hnm, hst⟩ := hrel
        have HAT : Hid (OdAt w wr N n name) := hat
        have HME : Hid (2 * total n name + (if ag then 1 else 0) ≤ gk) := hme
        have HNM : Hid (Nm n l out name) := hnm
        have HSL : Hid (ag = false → ∀ p ∈ l, out p.1 = false → out p.2 = false → name p.1 = name p.2) := hst
        clear hat hme hnm hst
        cases ag
        · have HNA : Hid (Naming (grL n l) out name) := HNM.out.naming (HSL.out rfl)
          clear HNM HSL HME
          generalize wr = wd at HAT ⊢
          go_wp2_with fail
          go_loopg [13, 14] 26 (fun k v13 v14 wx => ∃ i : Nat, i ≤ n ∧ 25 - i ≤ k ∧ v14 = .int .i64 (i : Nat) ∧ v13 = .int .i64 (total i (oddAt n out name) : Nat) ∧ wd = wx)
          case atStart => exact ⟨0, by omega, by omega, rfl, rfl, rfl⟩
          case round =>
            obtain ⟨i, hi1, hk1, rfl, rfl, hw⟩ := hrel
            subst hw
            have htb := odd_total n i out name
            by_cases hlt : i < n
            · have hlt' : (i : Int) < (n : Int) := by omega
              have HTN : Hid (total (i + 1) (oddAt n out name) = total i (oddAt n out name) + cnt n (inPiece out name i) % 2) := rfl
              generalize total i (oddAt n out name) = S at htb HTN ⊢
              go_wp2_with fail
              go_loopg [15, 16] 26 (fun k v15 v16 wx => ∃ c : Nat, c ≤ n ∧ 25 - c ≤ k ∧ v16 = .int .i64 (c : Nat) ∧ v15 = .int .i64 (cnt c (inPiece out name i) : Nat) ∧ wd = wx)
              case atStart => exact ⟨0, by omega, by omega, rfl, rfl, rfl⟩
              case round =>
                obtain ⟨c, hc1, hk2, rfl, rfl, hw⟩ := hrel
                subst hw
                have hcb : cnt c (inPiece out name i) ≤ c := cnt_le
                have HCS : Hid (cnt (c + 1) (inPiece out name i) = cnt c (inPiece out name i) + if inPiece out name i c then 1 else 0) := rfl
                by_cases hcn : c < n
                · have hcn' : (c : Int) < (n : Int) := by omega
                  have oc := (HO.out.below hn0 HAT.out.below).cell c hcn
                  have nc := HAT.out.nms.cell c hcn
                  generalize cnt c (inPiece out name i) = C at hcb HCS ⊢
                  cases hoc : out c
                  · rw [hoc] at oc
                    cases hni : (name c == i)
                    · have hni' : ((name c : Int) == (i : Int)) = false := by simp at hni ⊢; omega
                      have HC2 : Hid (cnt (c + 1) (inPiece out name i) = C) := by rw [HCS.out]; unfold inPiece; rw [hoc, hni]; rfl
                      clear hoc hni HCS
                      go_wp2_with fail
                      go_roundg (25 - (c + 1))
                      case measure => omega
                      case rel => exact ⟨c + 1, by omega, Nat.le_refl _, by go_num, by rw [HC2.out], rfl⟩
                    · have hni' : ((name c : Int) == (i : Int)) = true := by simp at hni ⊢; omega
                      have HC2 : Hid (cnt (c + 1) (inPiece out name i) = C + 1) := by rw [HCS.out]; unfold inPiece; rw [hoc, hni]; rfl
                      clear hoc hni HCS
                      go_wp2_with fail
                      go_roundg (25 - (c + 1))
                      case measure => omega
                      case rel => exact ⟨c + 1, by omega, Nat.le_refl _, by go_num, by rw [HC2.out]; go_num, rfl⟩
                  · rw [hoc] at oc
                    have HC2 : Hid (cnt (c + 1) (inPiece out name i) = C) := by rw [HCS.out]; unfold inPiece; rw [hoc]; rfl
                    clear hoc HCS
                    go_wp2_with fail
                    go_roundg (25 - (c + 1))
                    case measure => omega
                    case rel => exact ⟨c + 1, by omega, Nat.le_refl _, by go_num, by rw [HC2.out], rfl⟩
                · have hcn' : ¬ (c : Int) < (n : Int) := by omega
                  obtain rfl : c = n := by omega
                  generalize cnt c (inPiece out name i) = C at hcb HTN ⊢
                  clear HCS
                  have hr2 : Int.tmod (C : Int) 2 = ((C % 2 : Nat) : Int) := rem_nat (x := (C : Int)) (by omega) 2
                  have hr3 : C % 2 < 2 := Nat.mod_lt _ (by omega)
                  generalize C % 2 = R at hr2 hr3 HTN
                  go_wp2_with fail
                  go_roundg (25 - (i + 1))
                  case measure => omega
                  case rel => exact ⟨i + 1, by omega, Nat.le_refl _, by go_num, by rw [HTN.out]; go_num, rfl⟩
            · have hlt' : ¬ (i : Int) < (n : Int) := by omega
              obtain rfl : i = n := by omega
              go_wp2_with fail
              go_ret
              exact ⟨name, HNA.out, rfl, HAT.out.below⟩
        · go_wp2_with fail
          go_loopg [9, 10] (l.length + 1) (fun k v9 v10 wx => ∃ (i : Nat) (ag : Bool) (nam : Nat → Nat), i ≤ l.length ∧ l.length - i < k ∧ v9 = .bool ag ∧ v10 = .int .i64 (i : Nat) ∧ OdAt w wx N n nam ∧ Pass n l out (total n name) i ag nam)
          case atStart => exact ⟨0, false, name, by omega, by omega, rfl, rfl, HAT.out, ⟨HNM.out, fun h => (by cases h), fun _ => ⟨Nat.le_refl _, fun p hp => by simp at hp⟩⟩⟩
          case round =>
            clear HAT HNM HSL
            obtain ⟨i, ag, nam, hi1, hk1, rfl, rfl, hat, hps⟩ := hrel
            have HAT : Hid (OdAt w wr N n nam) := hat
            have HPS : Hid (Pass n l out (total n name) i ag nam) := hps
            clear hat hps
            by_cases hlt : i < l.length
            · have hlt' : (i : Int) < (l.length : Int) := by omega
              obtain ⟨a, b, gi⟩ : ∃ a b, l[i]? = some (a, b) := ⟨_, _, List.getElem?_eq_getElem hlt⟩
              obtain ⟨bb, oo, hso, c0, c1⟩ := (HR.out.below HAT.out.below).at gi
              subst hso
              have HGI : Hid (l[i]? = some (a, b)) := gi
              have ha : a < n := (HE.out _ (List.mem_of_getElem? gi)).1
              have hb : b < n := (HE.out _ (List.mem_of_getElem? gi)).2.1
              have hab : a ≠ b := (HE.out _ (List.mem_of_getElem? gi)).2.2
              have ha' : (a : Int) < (n : Int) := by omega
              have hb' : (b : Int) < (n : Int) := by omega
              have oa := (HO.out.below hn0 HAT.out.below).cell a ha
              have ob := (HO.out.below hn0 HAT.out.below).cell b hb
              have na := HAT.out.nms.cell a ha
              have nb := HAT.out.nms.cell b hb
              clear gi
              cases hoa : out a
              · rw [hoa] at oa
                cases hob : out b
                · rw [hob] at ob
                  cases hnn : (nam a == nam b)
                  · have hnn' : ((nam a : Int) == (nam b : Int)) = false := by simp at hnn ⊢; omega
                    have hnn2 : ((nam a : Int) != (nam b : Int)) = true := by simp at hnn ⊢; omega
                    have HN : Hid (Pass n l out (total n name) (i + 1) true (named nam a b)) := HPS.out.step HE.out HGI.out hoa hob (by simpa using hnn)
                    clear hoa hob hnn
                    go_wp2_with fail
                    go_quiet (fail)
                    have HA2 : Hid (OdAt w (wr.drewN nq) N n nam) := HAT.out.drewN nq
                    generalize wr.drewN nq = w2 at HA2 ⊢
                    clear oa ob na nb c0 c1
                    have na := HA2.out.nms.cell a ha
                    have nb := HA2.out.nms.cell b hb
                    have fa := HA2.out.nms.free a
                    by_cases hle : nam a ≤ nam b
                    · have hle' : (nam a : Int) ≤ (nam b : Int) := by omega
                      have HM : Hid (named nam a b = setAt (setAt nam a (nam a)) b (nam a)) := by unfold Hid named; rw [show min (nam a) (nam b) = nam a by omega]
                      have HA3 : Hid (OdAt w (w2.setCell ⟨N, a, none⟩ (.int .i64 (nam a : Int))).drew N n (setAt nam a (nam a))) := (HA2.out.set ha _).drew
                      go_wp2_with fail
                      go_region
                      generalize (w2.setCell ⟨N, a, none⟩ (.int .i64 (nam a : Int))).drew = w3 at HA3 ⊢
                      clear na nb fa
                      have na : w3.cell? ⟨N, a, none⟩ = some (.int .i64 (nam a : Int)) := by have := HA3.out.nms.cell a ha; simpa [setAt] using this
                      have nb := HA3.out.nms.cell b hb
                      have fb := HA3.out.nms.free b
                      have HA4 : Hid (OdAt w (w3.setCell ⟨N, b, none⟩ (.int .i64 (nam a : Int))) N n (setAt (setAt nam a (nam a)) b (nam a))) := HA3.out.set hb _
                      go_wp2_with fail
                      go_roundg (l.length - i)
                      case measure => omega
                      case rel => exact ⟨i + 1, true, named nam a b, by omega, by omega, rfl, by go_num, by rw [HM.out]; exact HA4.out, HN.out⟩
                    · have hle' : ¬ (nam a : Int) ≤ (nam b : Int) := by omega
                      have HM : Hid (named nam a b = setAt (setAt nam a (nam b)) b (nam b)) := by unfold Hid named; rw [show min (nam a) (nam b) = nam b by omega]
                      have HA3 : Hid (OdAt w (w2.setCell ⟨N, a, none⟩ (.int .i64 (nam b : Int))).drew N n (setAt nam a (nam b))) := (HA2.out.set ha _).drew
                      go_wp2_with fail
                      go_region
                      generalize (w2.setCell ⟨N, a, none⟩ (.int .i64 (nam b : Int))).drew = w3 at HA3 ⊢
                      clear na nb fa
                      have na : w3.cell? ⟨N, a, none⟩ = some (.int .i64 (nam b : Int)) := by have := HA3.out.nms.cell a ha; simpa [setAt] using this
                      have nb := HA3.out.nms.cell b hb
                      have fb := HA3.out.nms.free b
                      have HA4 : Hid (OdAt w (w3.setCell ⟨N, b, none⟩ (.int .i64 (nam b : Int))) N n (setAt (setAt nam a (nam b)) b (nam b))) := HA3.out.set hb _
                      go_wp2_with fail
                      go_roundg (l.length - i)
                      case measure => omega
                      case rel => exact ⟨i + 1, true, named nam a b, by omega, by omega, rfl, by go_num, by rw [HM.out]; exact HA4.out, HN.out⟩
                  · have hnn' : ((nam a : Int) == (nam b : Int)) = true := by simp at hnn ⊢; omega
                    have hnn2 : ((nam a : Int) != (nam b : Int)) = false := by simp at hnn ⊢; omega
                    have HNE : Hid (nam a = nam b) := (by simpa using hnn : nam a = nam b)
                    clear hoa hob hnn
                    have HN : Hid (Pass n l out (total n name) (i + 1) ag nam) := HPS.out.skip HGI.out (fun _ _ => HNE.out)
                    go_wp2_with fail
                    go_quiet (fail)
                    have HA2 : Hid (OdAt w (wr.drewN nq) N n nam) := HAT.out.drewN _
                    go_wp2_with fail
                    go_roundg (l.length - i)
                    case measure => omega
                    case rel => exact ⟨i + 1, ag, nam, by omega, by omega, rfl, by go_num, HA2.out, HN.out⟩
                · rw [hob] at ob
                  have HOB : Hid (out b = true) := hob
                  clear hoa hob
                  have HN : Hid (Pass n l out (total n name) (i + 1) ag nam) := HPS.out.skip HGI.out (fun _ h => by rw [HOB.out] at h; cases h)
                  go_wp2_with fail
                  go_quiet (fail)
                  have HA2 : Hid (OdAt w (wr.drewN nq) N n nam) := HAT.out.drewN _
                  go_wp2_with fail
                  go_roundg (l.length - i)
                  case measure => omega
                  case rel => exact ⟨i + 1, ag, nam, by omega, by omega, rfl, by go_num, HA2.out, HN.out⟩
              · rw [hoa] at oa
                have HOA : Hid (out a = true) := hoa
                clear hoa
                have HN : Hid (Pass n l out (total n name) (i + 1) ag nam) := HPS.out.skip HGI.out (fun h => by rw [HOA.out] at h; cases h)
                go_wp2_with fail
                go_quiet (fail)
                have HA2 : Hid (OdAt w (wr.drewN nq) N n nam) := HAT.out.drewN _
                go_wp2_with fail
                go_roundg (l.length - i)
                case measure => omega
                case rel => exact ⟨i + 1, ag, nam, by omega, by omega, rfl, by go_num, HA2.out, HN.out⟩
            · have hlt' : ¬ (i : Int) < (l.length : Int) := by omega
              have et : l.take i = l := List.take_of_length_le (by omega)
              have HP2 : Hid (Nm n l out nam ∧ (ag = false → ∀ p ∈ l, out p.1 = false → out p.2 = false → nam p.1 = nam p.2) ∧ 2 * total n nam + (if ag then 1 else 0) < 2 * total n name + 1) := by
                refine ⟨HPS.out.nm, fun e => ?_, ?_⟩
                · have := (HPS.out.still e).2
                  rw [et] at this
                  exact this
                · cases hag : ag
                  · have := (HPS.out.still hag).1
                    simp
                    omega
                  · have := HPS.out.again hag
                    simp
                    omega
              clear et
              go_wp2_with fail
              go_roundg (2 * total n nam + (if ag then 1 else 0))
              case measure =>
                have h1 := HME.out
                have h2 := HP2.out.2.2
                simp at h1
                omega
              case rel => exact ⟨ag, nam, rfl, Nat.le_refl _, HAT.out, HP2.out.1, HP2.out.2.1⟩
end Go.Proofs.Ytcabaecbmkgclaa.Kp

namespace Go.Proofs.Ytcabaecbmkgclaa.Kp
open Go.RowKit Mt Mg

/-- Booleans in block U; nothing else that was there has turned. -/
structure ShAt (wb wr : World) (U k : Nat) (u : Nat → Bool) : Prop where
  bls : Bls wr U k u
  fr : MFr U wb wr
  lt : U < wb.heap.size

theorem ShAt.alloc {wb wr : World} {U k : Nat} {u : Nat → Bool} (h : ShAt wb wr U k u) (ob : Obj) : ShAt wb (wr.alloc ob) U k u :=
  ⟨h.bls.same (heap_alloc_lt _ _ _ (Nat.lt_of_lt_of_le h.lt h.fr.size)), h.fr.trans (MFr.of_below ((Below.refl _ wr).alloc (Nat.le_refl _) _)), h.lt⟩
theorem ShAt.drewN {wb wr : World} {U k : Nat} {u : Nat → Bool} (h : ShAt wb wr U k u) (m : Nat) : ShAt wb (wr.drewN m) U k u := ⟨h.bls.same rfl, h.fr.drewN m, h.lt⟩
theorem ShAt.set {wb wr : World} {U k : Nat} {u : Nat → Bool} (h : ShAt wb wr U k u) {a : Nat} (ha : a < k) (b : Bool) : ShAt wb (wr.setCell ⟨U, a, none⟩ (.bool b)) U k (setAt u a b) := ⟨h.bls.set ha b, h.fr.set _ _, h.lt⟩

theorem Ints.away {w w' : World} {base : Nat} {v : Value} {l : List Nat} (h : Ints w base v l) {U : Nat} (hU : w.heap.size ≤ U) (wb : World) (hb : Below w.heap.size w wb) (hf : MFr U wb w') : Ints w' base v l :=
  ownsRow_same h fun k hk => by
    have := (h.lt k hk).2
    exact (hf.block k (Nat.lt_of_lt_of_le this hb.size) (by omega)).trans (hb.block k this)

/-- The odd pieces are as many as they must be. -/
theorem Best.shown {k : Nat} {l : List (Nat × Nat)} {mate : Nat → Option Nat} {f : Fo} {h : Gh} (hk : k ≤ 24) (E : EdOk k l) (b : Best (grL k l) mate f h) {name : Nat → Nat} (N : Naming (grL k l) (outBy (barF k f)) name) :
    total k (oddAt k (outBy (barF k f)) name) + 2 * (pairsF k mate).length = k + (barF k f).length := by
  have h1 := b.count (E.gr hk) (N.congr (E.gr hk) fun x hx => (outBy_bar hx).symm)
  have h2 : total k (oddAt k (outBy (barF k f)) name) = total k (fun i => cnt k (fun x => !bar f x && (name x == i)) % 2) := by
    refine total_congr fun i _ => ?_
    unfold oddAt
    rw [cnt_congr (q := fun x => !bar f x && (name x == i))]
    intro x hx
    rw [outBy_bar hx]
  rw [h2]
  exact h1

theorem wrap_small (i : Nat) (h : i < 1000000) : IntKind.i64.wrap (i : Int) = (i : Int) := by
  simp only [IntKind.wrap, IntKind.signed, IntKind.bits]
  simp
  omega

set_option maxRecDepth 100000 in
set_option maxHeartbeats 4000000 in
theorem slaw_any (w : World) {v : Value} {raw : List Int} (h : IRd w v raw) (n0 : Int) (hn0 : In64 n0) (hr : raw.length * 8 ≤ 140737488355328) (h64 : ∀ x ∈ raw, In64 x) :
    Calls Try.prog 4 #[.int .i64 n0, v] w fun e w' => e = .returned (.bool true) ∧ Below w.heap.size w w' := by
  obtain ⟨b0, hb0, hbz0, hbz1, hbz2⟩ := info_parts Try.infoBool
  have P1 := pick_any w n0 24 (by omega) (by omega) hn0
  have hk' := pickF_lt n0 (n := 24) (by omega)
  generalize pickF n0 24 = k' at P1 hk'
  obtain ⟨k, hkk⟩ : ∃ k, k = 1 + k' := ⟨_, rfl⟩
  have hk1 : 0 < k := by omega
  have hk24 : k ≤ 24 := by omega
  have hki : (1 : Int) + (k' : Int) = (k : Int) := by omega
  clear hkk hk'
  have ED := edges_any w h k (by omega) hr h64
  have HEO : Hid (EdOk k (edgesF k raw)) := edgesF_ok k raw
  have hel := edgesF_len k raw
  have hl0 : (edgesF k raw).length ≤ 1000000000000000 := by omega
  clear hel
  generalize edgesF k raw = l at ED HEO hl0
  obtain ⟨so0, cap0, hv0, hcc⟩ := h
  subst hv0
  clear hcc h64 hn0
  go_enter Try.func4, Try.ntmps4
  go_wp2_with fail
  refine P1.mono ?_
  rintro e w1 ⟨rfl, rfl⟩
  clear P1
  go_wp2_with fail
  refine ED.mono ?_
  rintro e w2 ⟨lv, rfl, hP, hb2⟩
  clear ED
  obtain ⟨so, cap, hs⟩ := ownsRow_shape hP
  subst hs
  have HP : Hid (Prs w2 w1.heap.size (.slice so l.length cap) l) := hP
  have HB2 : Hid (Below w1.heap.size w1 w2) := hb2
  have M1 := matchN_any w2 (NPr.of hP) hk24 HEO.out hl0
  clear hP hb2
  go_wp2_with fail
  refine M1.mono ?_
  rintro e w3 ⟨mate, f, hh, hB, pv, uv, rfl, hPp, hUu, hb3⟩
  clear M1
  obtain ⟨po, pc, hs1⟩ := ownsRow_shape hPp
  obtain ⟨uo, uc, hs2⟩ := ownsRow_shape hUu
  subst hs1 hs2
  have HBE : Hid (Best (grL k l) mate f hh) := hB
  have hbl : (barF k f).length ≤ k := filter_len _ _
  have hpl : (pairsF k mate).length ≤ k := prOf_len mate k
  have HB3 : Hid (Below w1.heap.size w1 w3) := HB2.out.trans (hb3.mono HB2.out.size)
  have HL3 : Hid (Prs w3 w1.heap.size (.slice so l.length cap) l) := ownsRow_same HP.out fun k hk => hb3.block k (HP.out.lt k hk).2
  have HP3 : Hid (Prs w3 w1.heap.size (.slice po (pairsF k mate).length pc) (pairsF k mate)) := ownsRow_mono hPp HB2.out.size
  have HU3 : Hid (Ints w3 w1.heap.size (.slice uo (barF k f).length uc) (barF k f)) := ownsRow_mono hUu HB2.out.size
  clear hB hPp hUu hb3 HP HB2
  go_wp2_with (at_make; go_must (refine wpList_make_full _ rfl _ _ 32 rfl w3.heap.size 4 b0 (.bool false) 1 Try.underlying32 hb0 hbz0 hbz1 .i64 .i64 _ _ k rfl rfl rfl rfl ?c1 ?c2 ?c3 ?_))
  case c1 => rw [hbz2]; omega
  case c2 => unfold maxLen; omega
  case c3 => exact Nat.le_refl _
  intro w4 hown hgrow
  have hb34 : Below w3.heap.size w3 w4 := (Below.refl _ w3).grown hgrow (Nat.le_refl _) (by simp)
  have HST : Hid (ShAt w4 w4 w3.heap.size k (usedBy ((pairsF k mate).take 0))) := ⟨Bls.made hown hk1, MFr.refl _ _, World.block_lt_of_cell? w4 ⟨w3.heap.size, 0, none⟩ ((Bls.made hown hk1).cell 0 hk1)⟩
  have HB34 : Hid (Below w3.heap.size w3 w4) := hb34
  clear hown hgrow hb34
  go_wp2_with fail
  go_loopg [11] 26 (fun g v11 wr => ∃ i : Nat, i ≤ (pairsF k mate).length ∧ 25 - i ≤ g ∧ v11 = .int .i64 (i : Nat) ∧ ShAt w4 wr w3.heap.size k (usedBy ((pairsF k mate).take i)))
  case atStart => exact ⟨0, by omega, by omega, rfl, HST.out⟩
  case round =>
    clear HST
    obtain ⟨i, hi, hkg, rfl, hat⟩ := hrel
    have HAT : Hid (ShAt w4 wr w3.heap.size k (usedBy ((pairsF k mate).take i))) := hat
    clear hat
    by_cases hlt : i < (pairsF k mate).length
    · have hlt' : (i : Int) < ((pairsF k mate).length : Int) := by omega
      obtain ⟨a, b, gi⟩ : ∃ a b, (pairsF k mate)[i]? = some (a, b) := ⟨_, _, List.getElem?_eq_getElem hlt⟩
      have HGI : Hid ((pairsF k mate)[i]? = some (a, b)) := gi
      obtain ⟨hma, hab, hak⟩ := pairsF_mem (List.mem_of_getElem? gi)
      simp only at hma hab hak
      have hadj := HBE.out.m.adj a b hma
      have hbk : b < k := ((HEO.out.gr hk24).lt a b hadj).2
      have HADJ : Hid (adjL l a b = true) := hadj
      obtain ⟨hua, hub⟩ := pairs_apart HBE.out.m gi
      have HPW : Hid (NPr wr (.slice po (pairsF k mate).length pc) (pairsF k mate)) := ((NPr.of HP3.out).below HB34.out).mfr (Away.of HP3.out (Nat.le_refl _)) HAT.out.fr
      obtain ⟨bb, oo, hso, c0, c1⟩ := HPW.out.at gi
      subst hso
      clear hma hadj gi
      have hab' : ¬ (a : Int) ≥ (b : Int) := by omega
      have hbk' : ¬ (b : Int) ≥ (k : Int) := by omega
      have hbk2 : (b : Int) < (k : Int) := by omega
      have hak2 : (a : Int) < (k : Int) := by omega
      have HQ : Hid (ShAt w4 (wr.alloc (.cells #[.int .i64 (a : Int), .int .i64 (b : Int)] 30)) w3.heap.size k (usedBy ((pairsF k mate).take i))) := HAT.out.alloc _
      have HPQ : Hid (NPr (wr.alloc (.cells #[.int .i64 (a : Int), .int .i64 (b : Int)] 30)) (.slice (some ⟨bb, oo, none⟩) (pairsF k mate).length pc) (pairsF k mate)) := HPW.out.below ((Below.refl _ wr).alloc (Nat.le_refl _) _)
      have q0 : (wr.alloc (.cells #[.int .i64 (a : Int), .int .i64 (b : Int)] 30)).cell? ⟨wr.heap.size, 0, none⟩ = some (.int .i64 (a : Int)) := by rw [World.cell?_alloc_new]; rfl
      have q1 : (wr.alloc (.cells #[.int .i64 (a : Int), .int .i64 (b : Int)] 30)).cell? ⟨wr.heap.size, 1, none⟩ = some (.int .i64 (b : Int)) := by rw [World.cell?_alloc_new]; rfl
      have ua := HQ.out.bls.cell a hak
      have ub := HQ.out.bls.cell b hbk
      rw [hua] at ua
      rw [hub] at ub
      have hXU : wr.heap.size ≠ w3.heap.size := by
        have h1 := HAT.out.lt
        have h2 := HAT.out.fr.size
        omega
      clear hua hub HAT HPW
      by_cases hi0 : i = 0
      · have HI0 : Hid (i = 0) := hi0
        clear hi0
        go_upto_region 11 with fail
        generalize wr.alloc (.cells #[.int .i64 (a : Int), .int .i64 (b : Int)] 30) = wq at *
        generalize wr.heap.size = X at *
        clear c0 c1
        go_wp2_with fail
        have d1 : decide ((a : Int) < 0) = false := decide_eq_false (by omega)
        have d2 : decide ((k : Int) ≤ (b : Int)) = false := decide_eq_false (by omega)
        have d3 : decide ((b : Int) ≤ (a : Int)) = false := decide_eq_false (by omega)
        have d5 : decide ((0 : Int) < (i : Int)) = false := decide_eq_false (by have := HI0.out; omega)
        have d6 : decide (0 < i) = false := decide_eq_false (by have := HI0.out; omega)
        have d7 : ¬ (0 < i) := by have := HI0.out; omega
        refine wp_region_quiet_lit (by kernel_rfl) (by kernel_rfl) ?_
        iterate 34 (quiet_step (fail))
        iterate 9 ((with_reducible refine wpQuiet_step (fun K hK => ?_)); go_simp; (with_reducible refine hK _ ?_); clear hK K)
        iterate 2 (quiet_step (fail))
        refine wpQuiet_nil ?_
        intro _ hw'
        obtain ⟨nq, hw''⟩ := hw'
        subst hw''
        clear d1 d2 d3 d5 d6 d7
        have HQ2 : Hid (ShAt w4 (wq.drewN nq) w3.heap.size k (usedBy ((pairsF k mate).take i))) := HQ.out.drewN nq
        have q0' : (wq.drewN nq).cell? ⟨X, 0, none⟩ = some (.int .i64 (a : Int)) := q0
        have q1' : (wq.drewN nq).cell? ⟨X, 1, none⟩ = some (.int .i64 (b : Int)) := q1
        clear ua ub q0 q1
        generalize wq.drewN nq = w5 at HQ2 q0' q1' ⊢
        have KJ := kjoined_any w5 (((NPr.of HL3.out).below HB34.out).mfr (Away.of HL3.out (Nat.le_refl _)) HQ2.out.fr) a b hl0
        rw [HADJ.out] at KJ
        have ua := HQ2.out.bls.cell a hak
        have ub := HQ2.out.bls.cell b hbk
        have fa := HQ2.out.bls.free a
        have fb := HQ2.out.bls.free b
        have HQ4 : Hid (ShAt w4 ((w5.setCell ⟨w3.heap.size, a, none⟩ (.bool true)).setCell ⟨w3.heap.size, b, none⟩ (.bool true)) w3.heap.size k (usedBy ((pairsF k mate).take (i + 1)))) := by
          have := (HQ2.out.set hak true).set hbk true
          rw [take_snoc HGI.out, usedBy_snoc]
          exact this
        go_wp2_with fail
        refine KJ.mono ?_
        rintro e w6 ⟨rfl, rfl⟩
        clear KJ
        go_wp2_with fail
        go_roundg (25 - (i + 1))
        case measure => omega
        case rel => exact ⟨i + 1, by omega, Nat.le_refl _, by go_num, HQ4.out⟩
      · obtain ⟨j, hj⟩ : ∃ j, i = j + 1 := ⟨i - 1, by omega⟩
        obtain ⟨a', b', gp⟩ : ∃ a' b', (pairsF k mate)[j]? = some (a', b') := ⟨_, _, List.getElem?_eq_getElem (by omega)⟩
        have hrise := pairwise_get pairsF_rising (show j < i by omega) gp HGI.out
        simp only at hrise
        have hrise' : ¬ (a' : Int) ≥ (a : Int) := by omega
        obtain ⟨bb', oo', hso, p0, p1⟩ := HPQ.out.at gp
        simp only [Option.some.injEq, Addr.mk.injEq, and_true] at hso
        obtain ⟨rfl, rfl⟩ := hso
        have HIJ : Hid (i = j + 1) := hj
        have hi2 : (j : Int) < ((pairsF k mate).length : Int) := by omega
        clear gp p1 hj hi0
        go_upto_region 11 with fail
        generalize wr.alloc (.cells #[.int .i64 (a : Int), .int .i64 (b : Int)] 30) = wq at *
        generalize wr.heap.size = X at *
        clear c0 c1
        go_wp2_with fail
        have hw1 : IntKind.i64.wrap ((i : Int) - 1) = (j : Int) := by rw [show (i : Int) - 1 = (j : Int) by have := HIJ.out; omega]; exact wrap_small j (by have := HIJ.out; omega)
        have d1 : decide ((a : Int) < 0) = false := decide_eq_false (by omega)
        have d2 : decide ((k : Int) ≤ (b : Int)) = false := decide_eq_false (by omega)
        have d3 : decide ((b : Int) ≤ (a : Int)) = false := decide_eq_false (by omega)
        have d4 : decide ((a : Int) ≤ (a' : Int)) = false := decide_eq_false (by omega)
        have d5 : decide ((0 : Int) < (i : Int)) = true := decide_eq_true (by have := HIJ.out; omega)
        have d6 : decide (0 < i) = true := decide_eq_true (by have := HIJ.out; omega)
        have d7 : 0 < i := by have := HIJ.out; omega
        go_quiet (fail)
        clear hw1 d1 d2 d3 d4 d5 d6 d7
        have HQ2 : Hid (ShAt w4 (wq.drewN nq) w3.heap.size k (usedBy ((pairsF k mate).take i))) := HQ.out.drewN nq
        have q0' : (wq.drewN nq).cell? ⟨X, 0, none⟩ = some (.int .i64 (a : Int)) := q0
        have q1' : (wq.drewN nq).cell? ⟨X, 1, none⟩ = some (.int .i64 (b : Int)) := q1
        clear ua ub q0 q1 p0
        generalize wq.drewN nq = w5 at HQ2 q0' q1' ⊢
        have KJ := kjoined_any w5 (((NPr.of HL3.out).below HB34.out).mfr (Away.of HL3.out (Nat.le_refl _)) HQ2.out.fr) a b hl0
        rw [HADJ.out] at KJ
        have ua := HQ2.out.bls.cell a hak
        have ub := HQ2.out.bls.cell b hbk
        have fa := HQ2.out.bls.free a
        have fb := HQ2.out.bls.free b
        have HQ4 : Hid (ShAt w4 ((w5.setCell ⟨w3.heap.size, a, none⟩ (.bool true)).setCell ⟨w3.heap.size, b, none⟩ (.bool true)) w3.heap.size k (usedBy ((pairsF k mate).take (i + 1)))) := by
          have := (HQ2.out.set hak true).set hbk true
          rw [take_snoc HGI.out, usedBy_snoc]
          exact this
        go_wp2_with fail
        refine KJ.mono ?_
        rintro e w6 ⟨rfl, rfl⟩
        clear KJ
        go_wp2_with fail
        go_roundg (25 - (i + 1))
        case measure => omega
        case rel => exact ⟨i + 1, by omega, Nat.le_refl _, by go_num, HQ4.out⟩
    · have hlt' : ¬ (i : Int) < ((pairsF k mate).length : Int) := by omega
      have HBW : Hid (Below w3.heap.size w3 wr) := HB34.out.trans (HAT.out.fr.toBelow (Nat.le_refl _) HB34.out.size)
      clear HAT HB34
      generalize wr = w5 at HBW ⊢
      go_wp2_with (at_make; go_must (refine wpList_make_full _ rfl _ _ 32 rfl w5.heap.size 4 b0 (.bool false) 1 Try.underlying32 hb0 hbz0 hbz1 .i64 .i64 _ _ k rfl rfl rfl rfl ?d1 ?d2 ?d3 ?_))
      case d1 => omega
      case d2 => unfold maxLen; omega
      intro w6 hown hgrow
      have hb56 : Below w5.heap.size w5 w6 := (Below.refl _ w5).grown hgrow (Nat.le_refl _) (by simp)
      have HST : Hid (ShAt w6 w6 w5.heap.size k (outBy ((barF k f).take 0))) := ⟨Bls.made hown hk1, MFr.refl _ _, World.block_lt_of_cell? w6 ⟨w5.heap.size, 0, none⟩ ((Bls.made hown hk1).cell 0 hk1)⟩
      have HB56 : Hid (Below w5.heap.size w5 w6) := hb56
      have HS5 : Hid (w3.heap.size ≤ w5.heap.size) := HBW.out.size
      have HU5 : Hid (Ints w5 w1.heap.size (.slice uo (barF k f).length uc) (barF k f)) := ownsRow_same HU3.out fun k hk => HBW.out.block k (HU3.out.lt k hk).2
      have HL5 : Hid (Prs w5 w1.heap.size (.slice so l.length cap) l) := ownsRow_same HL3.out fun k hk => HBW.out.block k (HL3.out.lt k hk).2
      have HB5 : Hid (Below w1.heap.size w1 w5) := HB3.out.trans (HBW.out.mono HB3.out.size)
      clear hown hgrow hb56 HL3 HU3 HP3
      go_wp2_with fail
      go_loopg [15] 26 (fun g v15 wr => ∃ i : Nat, i ≤ (barF k f).length ∧ 25 - i ≤ g ∧ v15 = .int .i64 (i : Nat) ∧ ShAt w6 wr w5.heap.size k (outBy ((barF k f).take i)))
      case atStart => exact ⟨0, by omega, by omega, rfl, HST.out⟩
      case round =>
        clear HST
        obtain ⟨j, hj, hkj, rfl, hat⟩ := hrel
        have HAT : Hid (ShAt w6 wr w5.heap.size k (outBy ((barF k f).take j))) := hat
        clear hat
        by_cases hjt : j < (barF k f).length
        · have hjt' : (j : Int) < ((barF k f).length : Int) := by omega
          obtain ⟨x, gx⟩ : ∃ x, (barF k f)[j]? = some x := ⟨_, List.getElem?_eq_getElem hjt⟩
          have hxk : x < k := (barF_mem.1 (List.mem_of_getElem? gx)).1
          have hxo := bar_apart gx
          have HGX : Hid ((barF k f)[j]? = some x) := gx
          have HUW : Hid (Ints wr w1.heap.size (.slice uo (barF k f).length uc) (barF k f)) := Ints.away HU5.out (Nat.le_refl _) w6 HB56.out HAT.out.fr
          obtain ⟨gg, cc, es, _, _, cx⟩ := HUW.out.at gx
          simp only [Value.slice.injEq, true_and] at es
          obtain ⟨rfl, rfl⟩ := es
          have ox := HAT.out.bls.cell x hxk
          rw [hxo] at ox
          have hxk' : (x : Int) < (k : Int) := by omega
          clear gx hxo
          by_cases hj0 : j = 0
          · have HJ0 : Hid (j = 0) := hj0
            clear hj0
            go_wp2_with fail
            have d1 : decide ((x : Int) < 0) = false := decide_eq_false (by omega)
            have d2 : decide ((k : Int) ≤ (x : Int)) = false := decide_eq_false (by omega)
            have d5 : decide ((0 : Int) < (j : Int)) = false := decide_eq_false (by have := HJ0.out; omega)
            have d6 : decide (0 < j) = false := decide_eq_false (by have := HJ0.out; omega)
            have d7 : ¬ (0 < j) := by have := HJ0.out; omega
            refine wp_region_quiet_lit (by kernel_rfl) (by kernel_rfl) ?_
            iterate 26 (quiet_step (fail))
            iterate 10 ((with_reducible refine wpQuiet_step (fun K hK => ?_)); go_simp; (with_reducible refine hK _ ?_); clear hK K)
            iterate 2 (quiet_step (fail))
            refine wpQuiet_nil ?_
            intro _ hw'
            obtain ⟨nq, hw''⟩ := hw'
            subst hw''
            clear d1 d2 d5 d6 d7
            have HQ2 : Hid (ShAt w6 (wr.drewN nq) w5.heap.size k (outBy ((barF k f).take j))) := HAT.out.drewN nq
            have cx' : (wr.drewN nq).cell? ⟨gg, j, none⟩ = some (.int .i64 (x : Int)) := cx
            clear cx ox HAT HUW
            generalize wr.drewN nq = w7 at HQ2 cx' ⊢
            have ox := HQ2.out.bls.cell x hxk
            have fx := HQ2.out.bls.free x
            have HQ4 : Hid (ShAt w6 (w7.setCell ⟨w5.heap.size, x, none⟩ (.bool true)) w5.heap.size k (outBy ((barF k f).take (j + 1)))) := by
              have := HQ2.out.set hxk true
              rw [take_snoc HGX.out, outBy_snoc]
              exact this
            go_wp2_with fail
            go_roundg (25 - (j + 1))
            case measure => omega
            case rel => exact ⟨j + 1, by omega, Nat.le_refl _, by go_num, HQ4.out⟩
          · obtain ⟨q, hq⟩ : ∃ q, j = q + 1 := ⟨j - 1, by omega⟩
            obtain ⟨x', gp⟩ : ∃ x', (barF k f)[q]? = some x' := ⟨_, List.getElem?_eq_getElem (by omega)⟩
            have hrise := pairwise_get (barF_rising k f) (show q < j by omega) gp HGX.out
            have hrise' : ¬ (x' : Int) ≥ (x : Int) := by omega
            obtain ⟨gg', cc', es, _, _, p0⟩ := HUW.out.at gp
            simp only [Value.slice.injEq, Option.some.injEq, Addr.mk.injEq, and_true, true_and] at es
            obtain ⟨rfl, rfl⟩ := es
            have HIJ : Hid (j = q + 1) := hq
            have hi2 : (q : Int) < ((barF k f).length : Int) := by omega
            clear gp hq hj0
            go_wp2_with fail
            have hw1 : IntKind.i64.wrap ((j : Int) - 1) = (q : Int) := by rw [show (j : Int) - 1 = (q : Int) by have := HIJ.out; omega]; exact wrap_small q (by have := HIJ.out; omega)
            have d1 : decide ((x : Int) < 0) = false := decide_eq_false (by omega)
            have d2 : decide ((k : Int) ≤ (x : Int)) = false := decide_eq_false (by omega)
            have d4 : decide ((x : Int) ≤ (x' : Int)) = false := decide_eq_false (by omega)
            have d5 : decide ((0 : Int) < (j : Int)) = true := decide_eq_true (by have := HIJ.out; omega)
            have d6 : decide (0 < j) = true := decide_eq_true (by have := HIJ.out; omega)
            have d7 : 0 < j := by have := HIJ.out; omega
            go_quiet (fail)
            clear hw1 d1 d2 d4 d5 d6 d7
            have HQ2 : Hid (ShAt w6 (wr.drewN nq) w5.heap.size k (outBy ((barF k f).take j))) := HAT.out.drewN nq
            have cx' : (wr.drewN nq).cell? ⟨gg, j, none⟩ = some (.int .i64 (x : Int)) := cx
            clear cx ox HAT HUW p0
            generalize wr.drewN nq = w7 at HQ2 cx' ⊢
            have ox := HQ2.out.bls.cell x hxk
            have fx := HQ2.out.bls.free x
            have HQ4 : Hid (ShAt w6 (w7.setCell ⟨w5.heap.size, x, none⟩ (.bool true)) w5.heap.size k (outBy ((barF k f).take (j + 1)))) := by
              have := HQ2.out.set hxk true
              rw [take_snoc HGX.out, outBy_snoc]
              exact this
            go_wp2_with fail
            go_roundg (25 - (j + 1))
            case measure => omega
            case rel => exact ⟨j + 1, by omega, Nat.le_refl _, by go_num, HQ4.out⟩
        · have hjt' : ¬ (j : Int) < ((barF k f).length : Int) := by omega
          have et : (barF k f).take j = barF k f := List.take_of_length_le (by omega)
          have HAT2 : Hid (ShAt w6 wr w5.heap.size k (outBy (barF k f))) := by have := HAT.out; rw [et] at this; exact this
          have HBW2 : Hid (Below w5.heap.size w5 wr) := HB56.out.trans (HAT2.out.fr.toBelow (Nat.le_refl _) HB56.out.size)
          have HLW : Hid (Prs wr w1.heap.size (.slice so l.length cap) l) := ownsRow_same HL5.out fun k hk => HBW2.out.block k (HL5.out.lt k hk).2
          have OD := odd_any wr (NPr.of HLW.out) (oc := k) HAT2.out.bls hk24 hk1 HEO.out hl0
          clear et HAT
          go_wp2_with fail
          refine OD.mono ?_
          rintro e w7 ⟨name, hN, rfl, hb7⟩
          have HE : Hid (Below w1.heap.size w1 w7) := (HB5.out.trans (HBW2.out.mono HB5.out.size)).trans (hb7.mono (Nat.le_trans HB5.out.size HBW2.out.size))
          have hsum := Best.shown hk24 HEO.out HBE.out hN
          have hto := odd_total k k (outBy (barF k f)) name
          clear OD hN hb7
          generalize total k (oddAt k (outBy (barF k f)) name) = S at hsum hto ⊢
          generalize (pairsF k mate).length = np at *
          generalize (barF k f).length = nb at *
          have hfin : ((S : Int) == (k : Int) - 2 * (np : Int) + (nb : Int)) = true := by simp; omega
          have HSUM : Hid _ := hsum
          clear hsum
          go_wp2_with fail
          go_ret
          exact ⟨rfl, HE.out⟩
end Go.Proofs.Ytcabaecbmkgclaa.Kp
