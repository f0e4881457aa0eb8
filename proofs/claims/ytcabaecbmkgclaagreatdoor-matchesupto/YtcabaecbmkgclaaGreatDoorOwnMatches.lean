/-
  Matches: of every script (of at most 1048576 values and letters) each Match gives an error where the document says so, else a matching and numbers that show that there is no greater one; what is handed in stays, and the lists that came out stay their owner's: the call answers true, and the script reads behind it as it did.
-/
import Derived.Test.YtcabaecbmkgclaaGreatDoorR22
import Derived.Test.YtcabaecbmkgclaaGreatDoorR34
namespace Go.Proofs.YtcabaecbmkgclaaGreatDoor
open Go.ChangeShapes Go.WideShapes Go.ChangeAt Go.RowKit Bz
section
set_option maxRecDepth 100000 in
set_option maxHeartbeats 1000000 in
/-- A step that is a Match. -/
theorem plays_match {w wr : World} {l : List Sl} (o : OpD) (hk : o.kind = 2) {L : List (Int × Int)} (hll : o.ll = L.length) (hL : Mg.IPr wr (.slice o.lo o.ll o.lc) L) (hc : L.length ≤ o.lc) (hlen : L.length ≤ 1048576) (hst : Stand w wr l) (hl : l.length ≤ 8999990) :
    Calls Tryz.prog 20 #[.pointer (some ⟨w.heap.size, 0, none⟩), opV o] wr (StepPost w.heap.size wr w.heap.size l 4) := by
  obtain ⟨kind, n, s, lo, ll, lc⟩ := o
  simp only at hk hL hc hll
  subst hk hll
  unfold opV
  simp only
  have HB : Hid (∀ ob, BFr wr (wr.alloc ob) w.heap.size) := fun ob => BFr.of_below ((Below.refl _ wr).alloc (Nat.le_refl _) _) (by have := hst.lt; omega)
  have HP : Hid (∀ ob, Calls Tryz.prog 28 #[.pointer (some ⟨w.heap.size, 0, none⟩), .int .i64 n, .slice lo L.length lc] (wr.alloc ob) (StepPost w.heap.size (wr.alloc ob) w.heap.size l 2)) := fun ob => Rf.bmatch_any (hst.stepBelow ((Below.refl _ wr).alloc (Nat.le_refl _) _)).bk hl n (hL.below ((Below.refl _ wr).alloc (Nat.le_refl _) _)) (fun so cap e => by simp only [Value.slice.injEq] at e; obtain ⟨_, _, rfl⟩ := e; exact hc) hlen
  clear hst hL
  go_enter Tryz.func20, Tryz.ntmps20
  go_wp2_with fail
  refine (HP.out _).mono ?_
  rintro e w2 ⟨rfl, ⟨l', hbk, hl'⟩, hf⟩
  have HF : Hid (BFr wr w2 w.heap.size) := (HB.out _).trans hf
  clear hf
  go_wp2_with fail
  go_ret
  exact ⟨rfl, ⟨l', hbk, by omega⟩, HF.out⟩

theorem first_pairs {w wr : World} {l : List Sl} (hst : Stand w wr l) : Mg.IPr wr (.slice (some ⟨w.heap.size + 1, 0, none⟩) 2 2) [(0, 1), (1, 2)] := by
  have hc : ∀ k, wr.cell? ⟨w.heap.size + 1, k, none⟩ = (#[Value.int .i64 0, .int .i64 1, .int .i64 1, .int .i64 2] : Array Value)[k]? := fun k => by simp [World.cell?, hst.ps, firstPairs]
  refine ⟨_, _, rfl, fun i a c hi => ⟨_, _, rfl, ?_⟩⟩
  rw [hc, hc]
  match i, hi with
  | 0, hi => simp at hi; obtain ⟨rfl, rfl⟩ := hi; exact ⟨rfl, rfl⟩
  | 1, hi => simp at hi; obtain ⟨rfl, rfl⟩ := hi; exact ⟨rfl, rfl⟩
  | i + 2, hi => simp at hi

set_option maxRecDepth 100000 in
theorem matches_walk {w : World} {ao : Option Addr} {cap : Nat} {ops : List OpD} (h : Script w ao cap ops) (hm : ∀ o ∈ ops, ∃ L : List (Int × Int), o.ll = L.length ∧ Mg.IPr w (.slice o.lo o.ll o.lc) L ∧ L.length ≤ o.lc ∧ L.length ≤ 1048576) :
    Calls Tryz.prog 4 #[.slice ao ops.length cap] w fun e w' => e = .returned (.bool true) ∧ Below w.heap.size w w' := by
  have HU := upTo_any h 2 2 (by
    intro o ho h1 h2 wr l hst hl
    rcases List.mem_append.1 ho with ho | ho
    · simp only [firstOps, List.mem_cons, List.mem_nil_iff, or_false] at ho
      rcases ho with rfl | rfl | rfl
      · simp only at h1; omega
      · exact plays_match _ rfl (L := [(0, 1), (1, 2)]) rfl (first_pairs hst) (by simp) (by simp) hst hl
      · simp only at h2; omega
    · obtain ⟨L, e1, e2, e3, e4⟩ := hm o ho
      exact plays_match o (by omega) e1 (e2.below hst.below) e3 e4 hst hl)
  go_enter Tryz.func4, Tryz.ntmps4
  go_wp2_with fail
  refine HU.mono ?_
  rintro e w2 ⟨rfl, hb⟩
  go_wp2_with fail
  go_ret
  exact ⟨rfl, hb⟩
end
set_option maxRecDepth 100000 in
theorem matches_contract (H : Type) (enc : TypeId × Value → H) (W : World) (base : Nat) (args : Array Value) (ds gs : List (DataW H)) (before : List MemPlace)
    (hval : ∀ (j : Nat) t v, Tryz.f4.params[j]? = some t → args[j]? = some v → Value.okWide Tryz.prog W .any base t v)
    (hW : DataW.Whole enc Tryz.prog Tryz.f4.params.toList Rows.matchesSpec.vars false W args.toList ds gs before) (hk : Rows.uptoSmall H (ds ++ gs) = true) :
    Calls Tryz.prog 4 args W fun e W' => ∃ v, e = .returned v ∧ Rows.matchesSpec.post enc Tryz.prog Tryz.f4 false true false false W args v W' := by
  have hW' := hW
  obtain ⟨p, q, hA0, hV, rfl, hfz, hnd⟩ := hW
  have hA : DataW.TrodAll enc Tryz.prog W 0 (fun _ => true) true Tryz.f4.params.toList args.toList ds p := hA0
  rw [Tryz.params4] at hA hval
  obtain ⟨v0, vs0, d0, ds0, p0, q0, hargs, rfl, rfl, h0, r0⟩ := trodAll_cons hA
  obtain ⟨rfl, rfl, rfl⟩ := trodAll_nil r0
  obtain rfl : args = #[v0] := by cases args; simp_all
  obtain ⟨rfl, rfl⟩ := trodVars_none hV
  obtain ⟨a0, len0, cap0, rfl⟩ := okWide_slice Tryz.underlying22 (hval 0 22 v0 rfl rfl)
  have k0 := h0
  have lt0 : ∀ x ∈ p0, x.block < W.heap.size := by obtain ⟨m, hm⟩ := k0; exact DataW.trod_lt m _ _ _ hm
  obtain ⟨fuel, hf⟩ := h0
  have hbk : Rows.uptoBulk d0 ≤ 1048576 := by
    have h := of_decide_eq_true hk
    simp only [List.append_nil, Rows.uptoBulkAll] at h
    omega
  obtain ⟨ao, cap, ops, hv, hS, hops⟩ := script_in (v := .slice a0 len0 cap0) (x := (d0, p0)) (by simpa [Value.cells] using hf) hbk
  simp only [Value.slice.injEq] at hv
  obtain ⟨rfl, rfl, rfl⟩ := hv
  clear hA0
  simp only [List.append_nil] at hW'
  refine (matches_walk hS (fun o ho => by obtain ⟨d, hd, hb⟩ := hops o ho; exact Rf.list_in hd hb)).mono fun e W' ⟨he, bel⟩ => ?_
  subst he
  exact ⟨_, rfl, _, _, _, [], _, [], hW', trodAll_mk1 (shut_bool Tryz.underlying4 _), (trodAll_cons_mk (Below.trod laidOut (by kernel_rfl) (of_decide_eq_true (by kernel_rfl)) k0 bel lt0) trodAll_mk0), rfl, bel.frame _, fun h => by cases h⟩

theorem matches_reads (os : Os) {H : Type} (enc : TypeId × Value → H) : ∃ places, DataW.whole enc Tryz.prog ((laidOn (World.holding Tryz.prog os ⟨#[], #[], []⟩)).forCall (fun _ _ => 0) ⟨#[], #[.slice none 0 0], []⟩).memory Tryz.f4.params.toList Rows.matchesSpec.vars false #[Value.slice none 0 0].toList 8 = some ([.nil], [], places) :=
  ⟨[], by kernel_rfl⟩

set_option maxRecDepth 100000 in
theorem matches_lifted (os : Os) (started : os.Started) (H : Type) (enc : TypeId × Value → H) (F : Stop.Interp) :
    ReturnsInHanded {} Tryz.checked os 4 .any ((Rows.OpenSpec.upto Rows.matchesSpec).preRow enc Tryz.prog Tryz.f4 Rows.matchesUptoRow.domain false Rows.matchesUptoRow.laid) (((Rows.OpenSpec.upto Rows.matchesSpec).at F).post enc Tryz.prog Tryz.f4 false true false false) := by
  obtain ⟨places, hx⟩ := matches_reads os enc
  refine returnsInHanded_of_row (C := Tryz.checked) (s := Rows.OpenSpec.upto Rows.matchesSpec) own started (by kernel_rfl) Tryz.func4
    (witness_row_at (enc := enc) (C := Tryz.checked) false (laidOn (World.holding Tryz.prog os ⟨#[], #[], []⟩)) #[.slice none 0 0] rfl (by kernel_rfl) (by kernel_rfl) (by kernel_rfl)
      (OpenSpec.preRow_of_cond 8 hx (by kernel_rfl) (fun k hk => by cases hk; kernel_rfl) (by kernel_rfl) (laid_script os))) ?_
  intro W base args ds gs before hval hW _ hcond _ _ _ _
  exact matches_contract H enc W base args ds gs before hval hW (hcond _ rfl)

theorem matches_said : Rows.MatchesUptoSaid :=
  OpenClaim.holds_of_cond 4 Tryz.f4 rfl rfl rfl rfl rfl rfl rfl ⟨rfl, rfl, rfl, rfl, rfl⟩ rfl rfl rfl rfl rfl (by kernel_rfl) Tryz.func4 (by kernel_rfl)
    (of_decide_eq_true (by kernel_rfl)) (by unfold Func.isWrapper; first | (rw [if_pos (by decide +kernel)]; kernel_rfl) | (rw [if_neg (by decide +kernel)]; exact ⟨rfl, rfl⟩))
    (fun os started H enc _ F => by rw [OpenClaim.pre_eq_preRow]; exact matches_lifted os started H enc F)

theorem matches_plain (f : FuncId) (fn : Func) (hf : Tryz.pinned.checked.prog.funcNamed "benzol/benzollaw.Matches" = some f) (hfn : Tryz.pinned.checked.prog.funcs[f]? = some fn) :
    false = Tryz.pinned.checked.prog.looks [] ∧ ∀ (j : Nat) t, fn.params[j]? = some t → Tryz.pinned.checked.prog.wantsStandIn t = false := by
  obtain rfl : f = 4 := Option.some.inj ((show Tryz.prog.funcNamed "benzol/benzollaw.Matches" = some 4 by kernel_rfl).symm.trans hf) |>.symm
  obtain rfl : fn = Tryz.f4 := (Option.some.inj (Tryz.func4.symm.trans hfn)).symm
  refine ⟨by kernel_rfl, fun j t ht => ?_⟩
  rw [Tryz.params4] at ht
  obtain rfl : t = 22 := by simpa using Array.mem_of_getElem? ht
  exact (show Tryz.prog.wantsStandIn 22 = false by kernel_rfl)

/-- The card of the second form. -/
theorem matches_holds : Rows.MatchesUptoCardSaid :=
  Claim7.holds_tied_plain_at .later [] _ _ _ _ matches_said (fun _ h => by cases h) (by kernel_rfl) (fun _ h => by cases h) matchesUpto_row_tie rfl ⟨rfl, rfl⟩ (by kernel_rfl) rfl matches_plain (by kernel_rfl)
end Go.Proofs.YtcabaecbmkgclaaGreatDoor
