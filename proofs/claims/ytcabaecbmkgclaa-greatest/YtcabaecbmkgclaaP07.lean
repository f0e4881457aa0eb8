/-
  The law Greatest: what its call does.
  A list of raw numbers that came in.
-/
import Derived.Test.YtcabaecbmkgclaaP06
import Derived.ProofKit
import Derived.SizedLaws

namespace Go.Proofs.Ytcabaecbmkgclaa.Kp
open Go.RowKit Mt Mg

def castL (l : List (Nat × Nat)) : List (Int × Int) := l.map fun p => ((p.1 : Int), (p.2 : Int))

theorem castL_len (l : List (Nat × Nat)) : (castL l).length = l.length := by simp [castL]
theorem natL_castL (l : List (Nat × Nat)) : natL (castL l) = l := by
  unfold natL castL
  rw [List.map_map]
  conv => rhs; rw [← List.map_id l]
  exact List.map_congr_left fun p _ => by simp

theorem okG_castL {k : Nat} {l : List (Nat × Nat)} (hk : k ≤ 24) (h : EdOk k l) : okG (k : Int) (castL l) = true := by
  unfold okG
  rw [decide_eq_true (by omega), decide_eq_true (by omega)]
  simp only [Bool.and_self, Bool.true_and]
  rw [List.all_eq_true]
  intro p hp
  obtain ⟨q, hq, rfl⟩ := List.mem_map.1 hp
  obtain ⟨h1, h2, h3⟩ := h q hq
  exact edgeOk_yes (inR_iff.2 ⟨by omega, by omega⟩) (inR_iff.2 ⟨by omega, by omega⟩) (by simp; omega)

theorem NPr.ipr {w : World} {v : Value} {l : List (Nat × Nat)} (h : NPr w v l) : IPr w v (castL l) := by
  obtain ⟨so, cap, rfl, _, hl⟩ := h
  refine ⟨so, cap, by rw [castL_len], fun i a c hi => ?_⟩
  unfold castL at hi
  rw [List.getElem?_map] at hi
  cases hq : l[i]? with
  | none => rw [hq] at hi; cases hi
  | some q =>
    rw [hq] at hi
    simp only [Option.map_some, Option.some.injEq, Prod.mk.injEq] at hi
    obtain ⟨rfl, rfl⟩ := hi
    rcases hl with rfl | ⟨b, o, rfl, hx⟩
    · simp at hq
    · exact ⟨b, o, rfl, hx i q.1 q.2 hq⟩

/-- What Match hands back where the edges are between k numbers. -/
def MnIs (w : World) (k : Nat) (l : List (Nat × Nat)) (e : Ending) (w' : World) : Prop :=
  ∃ mate f h, Best (grL k l) mate f h ∧ ∃ pv uv, e = .returned (.tuple #[pv, uv, .int .i64 0]) ∧ Prs w' w.heap.size pv (pairsF k mate) ∧ Ints w' w.heap.size uv (barF k f) ∧ Below w.heap.size w w'

theorem matchN_any (w : World) {v : Value} {l : List (Nat × Nat)} (h : NPr w v l) {k : Nat} (hk : k ≤ 24) (E : EdOk k l) (hl : l.length ≤ 1000000000000000) :
    Calls Try.prog 7 #[.int .i64 (k : Int), v] w fun e w' => MnIs w k l e w' := by
  refine (match_any w h.ipr (k : Int) (by rw [castL_len]; exact hl)).mono ?_
  rintro e w' ⟨hb, ⟨_, mate, f, h, hB, pv, uv, rfl, hP, hU⟩ | ⟨hno, _⟩⟩
  · rw [natL_castL, show ((k : Int).toNat) = k by omega] at hB
    rw [show ((k : Int).toNat) = k by omega] at hP hU
    exact ⟨mate, f, h, hB, pv, uv, rfl, hP, hU, hb⟩
  · rw [okG_castL hk E] at hno
    cases hno

theorem NPr.take {w : World} {so : Option Addr} {n cap : Nat} {l : List (Nat × Nat)} (h : NPr w (.slice so n cap) l) (m : Nat) (hm : m ≤ l.length) : NPr w (.slice so m cap) (l.take m) := by
  obtain ⟨so', cap', e, hc, hl⟩ := h
  simp only [Value.slice.injEq] at e
  obtain ⟨rfl, rfl, rfl⟩ := e
  have e1 : (l.take m).length = m := by rw [List.length_take]; omega
  refine ⟨so, cap, by rw [e1], by omega, ?_⟩
  rcases hl with rfl | ⟨b, o, rfl, hx⟩
  · exact .inl (by simp)
  · refine .inr ⟨b, o, rfl, fun i a c hi => ?_⟩
    by_cases him : i < m
    · rw [List.getElem?_take_of_lt him] at hi
      exact hx i a c hi
    · rw [List.getElem?_eq_none (by omega)] at hi
      cases hi

theorem edOk_take {n : Nat} {l : List (Nat × Nat)} (h : EdOk n l) (m : Nat) : EdOk n (l.take m) := fun p hp => h p (List.mem_of_mem_take hp)

theorem Away.of {w : World} {base : Nat} {l : List (Nat × Nat)} {so : Option Addr} {n m cap : Nat} (h : Prs w base (.slice so n cap) l) {U : Nat} (hU : w.heap.size ≤ U) : Away (.slice so m cap) U := by
  intro b o n' c' e
  simp only [Value.slice.injEq] at e
  obtain ⟨rfl, -, -⟩ := e
  have := (h.lt b rfl).2
  omega

theorem Bls.made {w : World} {base U n : Nat} (h : w.ownsRow base 4 1 (.slice (some ⟨U, 0, none⟩) n n) n (madeCells #[.bool false] n).toList) (hn : 0 < n) : Bls w U n fun _ => false := by
  obtain ⟨g, cap, e, _, _, hc, hf⟩ := ownsRow_at h hn
  simp only [Value.slice.injEq, Option.some.injEq, Addr.mk.injEq, and_true, true_and] at e
  obtain ⟨rfl, -⟩ := e
  refine ⟨fun x hx => ?_, hf⟩
  rw [hc x (by omega), toList_madeCells_one]
  simp [hx]

theorem Try.infoBool : (Try.prog.info? 4).map (fun i => (i.zero, i.size, i.bytes)) = some (some (.bool false), 1, 1) := by kernel_rfl

set_option maxRecDepth 100000 in
set_option maxHeartbeats 1000000 in
theorem glaw_any (w : World) {v : Value} {raw : List Int} (h : IRd w v raw) (n0 : Int) (hn0 : In64 n0) (hr : raw.length * 8 ≤ 140737488355328) (h64 : ∀ x ∈ raw, In64 x) :
    Calls Try.prog 3 #[.int .i64 n0, v] w fun e w' => e = .returned (.bool true) ∧ Below w.heap.size w w' := by
  obtain ⟨b0, hb0, hbz0, hbz1, hbz2⟩ := info_parts Try.infoBool
  have P1 := pick_any w n0 11 (by omega) (by omega) hn0
  have hk := pickF_lt n0 (n := 11) (by omega)
  generalize pickF n0 11 = k at P1 hk
  have ED := edges_any w h k (by omega) hr h64
  have HEO : Hid (EdOk k (edgesF k raw)) := edgesF_ok k raw
  have hel := edgesF_len k raw
  have hl0 : (edgesF k raw).length ≤ 1000000000000000 := by omega
  clear hel
  generalize edgesF k raw = l0 at ED HEO hl0
  obtain ⟨so0, cap0, hv0, hcc⟩ := h
  subst hv0
  clear hcc h64 hn0
  go_enter Try.func3, Try.ntmps3
  go_wp2_with fail
  refine P1.mono ?_
  rintro e w1 ⟨rfl, rfl⟩
  clear P1
  go_wp2_with fail
  refine ED.mono ?_
  rintro e w2 ⟨lv, rfl, hP, hb2⟩
  clear ED
  obtain ⟨so, cap, hs⟩ := ownsRow_shape hP
  subst hs
  have HP : Hid (Prs w2 w1.heap.size (.slice so l0.length cap) l0) := hP
  have HB2 : Hid (Below w1.heap.size w1 w2) := hb2
  have hlc := ownsRow_cap hP
  clear hP hb2
  go_upto_if 22 with fail
  go_cut [6] from 23 to 24 (fun v6 wc => ∃ l, v6 = .slice so l.length cap ∧ l.length ≤ 14 ∧ NPr wc (.slice so l.length cap) l ∧ EdOk k l ∧ w2 = wc)
  case first =>
    by_cases h14 : l0.length ≤ 14
    · have h14' : ¬ (l0.length : Int) > 14 := by omega
      go_wp2_with fail
      go_meet
      exact ⟨l0, rfl, h14, NPr.of HP.out, HEO.out, rfl⟩
    · have h14' : (l0.length : Int) > 14 := by omega
      have hc14 : (14 : Int) ≤ (cap : Int) := by omega
      go_wp2_with fail
      go_meet
      have e1 : (l0.take 14).length = 14 := by rw [List.length_take]; omega
      exact ⟨l0.take 14, by rw [e1], by omega, by rw [e1]; exact (NPr.of HP.out).take 14 (by omega), edOk_take HEO.out 14, rfl⟩
  case rest =>
    obtain ⟨l, rfl, hl14, hnp, hed, hw⟩ := hcut
    subst hw
    have HNP : Hid (NPr w2 (.slice so l.length cap) l) := hnp
    have HED : Hid (EdOk k l) := hed
    have M1 := matchN_any w2 hnp (show k ≤ 24 by omega) hed (by omega)
    clear hnp hed
    go_wp2_with fail
    refine M1.mono ?_
    rintro e w3 ⟨mate, f, hh, hB, pv, uv, rfl, hPp, hUu, hb3⟩
    clear M1
    obtain ⟨po, pc, hs1⟩ := ownsRow_shape hPp
    obtain ⟨uo, uc, hs2⟩ := ownsRow_shape hUu
    subst hs1 hs2
    have HL : Hid ((pairsF k mate).length = mostF l fun _ => false) := hB.most HED.out (by omega)
    have hbl : (barF k f).length ≤ k := filter_len _ _
    have hml := mostF_len l fun _ => false
    have HB3 : Hid (Below w1.heap.size w1 w3) := HB2.out.trans (hb3.mono HB2.out.size)
    have HNP3 : Hid (NPr w3 (.slice so l.length cap) l) := HNP.out.below hb3
    have HS3 : Hid (w2.heap.size ≤ w3.heap.size) := hb3.size
    generalize (pairsF k mate).length = np at *
    generalize (barF k f).length = nb at *
    clear hB hPp hUu hb3 HNP
    have NP2 : NPr (w3.alloc (.cells #[.int .i64 1, .int .i64 0] 30)) (.slice (some ⟨w3.heap.size, 0, none⟩) 1 1) [(1, 0)] := by
      refine ⟨_, _, rfl, Nat.le_refl _, .inr ⟨_, _, rfl, fun i a c hi => ?_⟩⟩
      cases i with
      | zero =>
        simp at hi
        obtain ⟨rfl, rfl⟩ := hi
        constructor <;> (rw [World.cell?_alloc_new]; rfl)
      | succ i => simp at hi
    have M2 := matchN_any _ NP2 (show 2 ≤ 24 by omega) (by intro p hp; simp at hp; subst hp; decide) (by simp)
    clear NP2
    go_wp2_with fail
    refine M2.mono ?_
    rintro e w4 ⟨mate2, f2, h2, hB2, pv2, uv2, rfl, hP2, hU2, hb4⟩
    clear M2
    obtain ⟨e1, e2⟩ := two_pairs hB2
    rw [e1] at hP2
    rw [e2] at hU2
    obtain ⟨g2, pc2, hs1, _, hg2, hc2, _⟩ := ownsRow_at hP2 (by simp)
    obtain ⟨uo2, uc2, hs2⟩ := ownsRow_shape hU2
    subst hs1 hs2
    simp only [List.length_cons, List.length_nil, Nat.zero_add]
    have t0 : w4.cell? ⟨g2, 0, none⟩ = some (.int .i64 0) := (hc2 0 (by simp)).trans rfl
    have t1 : w4.cell? ⟨g2, 1, none⟩ = some (.int .i64 1) := (hc2 1 (by simp)).trans rfl
    have HB4 : Hid (Below w1.heap.size w1 w4) := (HB3.out.alloc HB3.out.size _).trans (hb4.mono (by have := HB3.out.size; simp; omega))
    have HNP4 : Hid (NPr w4 (.slice so l.length cap) l) := HNP3.out.below (((Below.refl _ w3).alloc (Nat.le_refl _) _).trans (hb4.mono (by simp)))
    have HS4 : Hid (w2.heap.size ≤ w4.heap.size) := by have := hb4.size; have h3 := HS3.out; simp at this; unfold Hid; omega
    clear hB2 e1 e2 hP2 hU2 hb4 hc2 HB3 HNP3
    go_wp2_with (at_make; go_must (refine wpList_make_full _ rfl _ _ 32 rfl w4.heap.size 4 b0 (.bool false) 1 Try.underlying32 hb0 hbz0 hbz1 .i64 .i64 _ _ (k + 1) rfl rfl (by omega) (by omega) ?c1 ?c2 ?c3 ?_))
    case c1 => rw [hbz2]; omega
    case c2 => unfold maxLen; omega
    case c3 => exact Nat.le_refl _
    intro w5 hown hgrow
    have hb45 : Below w4.heap.size w4 w5 := (Below.refl _ w4).grown hgrow (Nat.le_refl _) (by simp)
    have MO := most_any 14 w5 (.slice so l.length cap) l w4.heap.size (k + 1) (k + 1) (fun _ => false) hl14 (by omega) (HNP4.out.below hb45) (Away.of HP.out HS4.out) (fun p hp => by obtain ⟨h1, h2, h3⟩ := HED.out p hp; exact ⟨by omega, by omega, h3⟩) (by omega) (Bls.made hown (by omega))
    have HB5 : Hid (Below w1.heap.size w1 w5) := HB4.out.trans (hb45.mono HB4.out.size)
    have HT : Hid (w5.cell? ⟨g2, 0, none⟩ = some (.int .i64 0) ∧ w5.cell? ⟨g2, 1, none⟩ = some (.int .i64 1)) := ⟨(hb45.cell (p := ⟨g2, 0, none⟩) hg2).trans t0, (hb45.cell (p := ⟨g2, 1, none⟩) hg2).trans t1⟩
    have HS5 : Hid (w4.heap.size ≤ w5.heap.size) := hb45.size
    have HS1 : Hid (w1.heap.size ≤ w4.heap.size) := HB4.out.size
    rw [← HL.out] at MO hml
    clear hown hgrow hb45 t0 t1 HB4 HNP4 HED HL
    go_wp2_with fail
    refine MO.mono ?_
    rintro e w6 ⟨rfl, _, hf6⟩
    have h2 : w6.heap[g2]? = w5.heap[g2]? := hf6.block g2 (Nat.lt_of_lt_of_le hg2 HS5.out) (by omega)
    have t0 : w6.cell? ⟨g2, 0, none⟩ = some (.int .i64 0) := (World.cell?_of_block (a := ⟨g2, 0, none⟩) h2).trans HT.out.1
    have t1 : w6.cell? ⟨g2, 1, none⟩ = some (.int .i64 1) := (World.cell?_of_block (a := ⟨g2, 1, none⟩) h2).trans HT.out.2
    have HE : Hid (Below w1.heap.size w1 w6) := HB5.out.trans (hf6.toBelow HS1.out HB5.out.size)
    clear MO hf6 h2 HT
    have hnb' : (nb : Int) ≤ (k : Int) := by omega
    go_wp2_with fail
    go_ret
    exact ⟨rfl, HE.out⟩
end Go.Proofs.Ytcabaecbmkgclaa.Kp

namespace Go.Proofs.Ytcabaecbmkgclaa.Kp
open Go.ChangeShapes Go.WideShapes Go.ChangeAt Go.RowKit

theorem own : ownKnob Try.prog.godebug = none := by kernel_rfl
theorem laidOut : laidOutB Try.prog = true := by kernel_rfl
theorem Try.cellsInt : Try.prog.cellsOf 3 = 1 := by kernel_rfl
theorem Try.bytesInt : Try.prog.bytesOf 3 = 8 := by kernel_rfl

theorem in64 {n : Int} (h : (Lit.int .i64 n).wf = true) : In64 n := by
  have h1 : IntKind.i64.min = -9223372036854775808 := rfl
  have h2 : IntKind.i64.max = 9223372036854775807 := rfl
  simp only [Lit.wf, Bool.and_eq_true, decide_eq_true_eq] at h
  unfold In64
  omega

/-- A list of raw numbers that came in. -/
theorem raw_in {H : Type} {enc : TypeId × Value → H} {W : World} {v : Value} {d : DataW H} {p : List MemPlace} (hv : ∃ a len cap, v = .slice a len cap) (h : DataW.Trod enc Try.prog W 0 (fun _ => true) true 22 v d p)
    (hs : ∀ elems spare, d = .slice elems spare → (elems.length + spare.length) * 8 ≤ reachBytes) : ∃ raw, IRd W v raw ∧ raw.length * 8 ≤ 140737488355328 ∧ ∀ x ∈ raw, In64 x := by
  obtain ⟨a0, len, cap, rfl⟩ := hv
  obtain ⟨fuel, hf⟩ := h
  rcases open_ints Try.underlying22 Try.underlying3 Try.cellsInt hf with ⟨hcs, hx⟩ | ⟨a, len', cap', zs, hcs, _, hl, hm, hz, hx, hcell, hwz⟩
  · simp [Value.cells] at hcs
    obtain ⟨rfl, rfl, rfl⟩ := hcs
    exact ⟨[], ⟨none, 0, rfl, fun i x hi => by simp at hi⟩, by simp, fun x hx => by cases hx⟩
  · simp [Value.cells] at hcs
    obtain ⟨rfl, rfl, rfl⟩ := hcs
    simp only [Prod.mk.injEq] at hx
    obtain ⟨rfl, rfl⟩ := hx
    simp only [if_true] at hz
    have hreach := hs _ _ rfl
    simp only [lits, List.length_map, List.length_take, List.length_drop, reachBytes] at hreach
    have el : (zs.take len).length = len := by rw [List.length_take]; omega
    refine ⟨zs.take len, ⟨some a, cap, by rw [el], fun i x hi => ⟨a, rfl, ?_⟩⟩, by rw [el]; omega, fun x hx => in64 (hwz x (List.mem_of_mem_take hx))⟩
    have hil := (List.getElem?_eq_some_iff.1 hi).1
    rw [el] at hil
    rw [List.getElem?_take_of_lt hil] at hi
    rw [hcell i (by omega), List.getD_eq_getElem?_getD, hi]
    rfl
end Go.Proofs.Ytcabaecbmkgclaa.Kp
