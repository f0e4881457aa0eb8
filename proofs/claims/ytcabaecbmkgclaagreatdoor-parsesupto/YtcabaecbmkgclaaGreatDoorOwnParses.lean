/-
  Parses: of every script (of at most 1048576 values and letters) each Parse gives the document's answer, with its place, and the lists that came out stay their owner's: the call answers true, and the script reads behind it as it did.
-/
import Derived.Test.YtcabaecbmkgclaaGreatDoorR21
import Derived.Test.YtcabaecbmkgclaaGreatDoorR22
namespace Go.Proofs.YtcabaecbmkgclaaGreatDoor
open Go.ChangeShapes Go.WideShapes Go.ChangeAt Go.RowKit Bz
section
set_option maxRecDepth 100000 in
set_option maxHeartbeats 1000000 in
/-- A step that is a Parse. -/
theorem plays_parse {w wr : World} {l : List Sl} (o : OpD) (hk : o.kind = 1) (hm : o.s.size ≤ maxLen) (hst : Stand w wr l) (hl : l.length ≤ 8999990) :
    Calls Tryz.prog 20 #[.pointer (some ⟨w.heap.size, 0, none⟩), opV o] wr (StepPost w.heap.size wr w.heap.size l 4) := by
  obtain ⟨kind, n, s, lo, ll, lc⟩ := o
  simp only at hk hm
  subst hk
  unfold opV
  simp only
  have HB : Hid (∀ ob, BFr wr (wr.alloc ob) w.heap.size) := fun ob => BFr.of_below ((Below.refl _ wr).alloc (Nat.le_refl _) _) (by have := hst.lt; omega)
  have HP : Hid (∀ ob, Calls Tryz.prog 27 #[.pointer (some ⟨w.heap.size, 0, none⟩), .string s] (wr.alloc ob) (StepPost w.heap.size (wr.alloc ob) w.heap.size l 2)) := fun ob => bparse_any (hst.stepBelow ((Below.refl _ wr).alloc (Nat.le_refl _) _)).bk hl s hm
  clear hst
  go_enter Tryz.func20, Tryz.ntmps20
  go_wp2_with fail
  refine (HP.out _).mono ?_
  rintro e w2 ⟨rfl, ⟨l', hbk, hl'⟩, hf⟩
  have HF : Hid (BFr wr w2 w.heap.size) := (HB.out _).trans hf
  clear hf
  go_wp2_with fail
  go_ret
  exact ⟨rfl, ⟨l', hbk, by omega⟩, HF.out⟩

set_option maxRecDepth 100000 in
theorem parses_walk {w : World} {ao : Option Addr} {cap : Nat} {ops : List OpD} (h : Script w ao cap ops) (hm : ∀ o ∈ ops, o.s.size ≤ maxLen) :
    Calls Tryz.prog 3 #[.slice ao ops.length cap] w fun e w' => e = .returned (.bool true) ∧ Below w.heap.size w w' := by
  have HU := upTo_any h 1 1 (by
    intro o ho h1 h2 wr l hst hl
    refine plays_parse o (by omega) ?_ hst hl
    rcases List.mem_append.1 ho with ho | ho
    · simp only [firstOps, List.mem_cons, List.mem_nil_iff, or_false] at ho
      rcases ho with rfl | rfl | rfl
      · simp only; unfold maxLen; decide
      · simp only; unfold maxLen; decide
      · simp only; unfold maxLen; decide
    · exact hm o ho)
  go_enter Tryz.func3, Tryz.ntmps3
  go_wp2_with fail
  refine HU.mono ?_
  rintro e w2 ⟨rfl, hb⟩
  go_wp2_with fail
  go_ret
  exact ⟨rfl, hb⟩
end
set_option maxRecDepth 100000 in
theorem parses_contract (H : Type) (enc : TypeId × Value → H) (W : World) (base : Nat) (args : Array Value) (ds gs : List (DataW H)) (before : List MemPlace)
    (hval : ∀ (j : Nat) t v, Tryz.f3.params[j]? = some t → args[j]? = some v → Value.okWide Tryz.prog W .any base t v)
    (hW : DataW.Whole enc Tryz.prog Tryz.f3.params.toList Rows.parsesSpec.vars false W args.toList ds gs before) (hk : Rows.uptoSmall H (ds ++ gs) = true) :
    Calls Tryz.prog 3 args W fun e W' => ∃ v, e = .returned v ∧ Rows.parsesSpec.post enc Tryz.prog Tryz.f3 false true false false W args v W' := by
  have hW' := hW
  obtain ⟨p, q, hA0, hV, rfl, hfz, hnd⟩ := hW
  have hA : DataW.TrodAll enc Tryz.prog W 0 (fun _ => true) true Tryz.f3.params.toList args.toList ds p := hA0
  rw [Tryz.params3] at hA hval
  obtain ⟨v0, vs0, d0, ds0, p0, q0, hargs, rfl, rfl, h0, r0⟩ := trodAll_cons hA
  obtain ⟨rfl, rfl, rfl⟩ := trodAll_nil r0
  obtain rfl : args = #[v0] := by cases args; simp_all
  obtain ⟨rfl, rfl⟩ := trodVars_none hV
  obtain ⟨a0, len0, cap0, rfl⟩ := okWide_slice Tryz.underlying22 (hval 0 22 v0 rfl rfl)
  have k0 := h0
  have lt0 : ∀ x ∈ p0, x.block < W.heap.size := by obtain ⟨m, hm⟩ := k0; exact DataW.trod_lt m _ _ _ hm
  obtain ⟨fuel, hf⟩ := h0
  have hbk : Rows.uptoBulk d0 ≤ 1048576 := by
    have h := of_decide_eq_true hk
    simp only [List.append_nil, Rows.uptoBulkAll] at h
    omega
  obtain ⟨ao, cap, ops, hv, hS, hops⟩ := script_in (v := .slice a0 len0 cap0) (x := (d0, p0)) (by simpa [Value.cells] using hf) hbk
  simp only [Value.slice.injEq] at hv
  obtain ⟨rfl, rfl, rfl⟩ := hv
  clear hA0
  simp only [List.append_nil] at hW'
  refine (parses_walk hS (fun o ho => by obtain ⟨d, hd, _⟩ := hops o ho; exact hd.str)).mono fun e W' ⟨he, bel⟩ => ?_
  subst he
  exact ⟨_, rfl, _, _, _, [], _, [], hW', trodAll_mk1 (shut_bool Tryz.underlying4 _), (trodAll_cons_mk (Below.trod laidOut (by kernel_rfl) (of_decide_eq_true (by kernel_rfl)) k0 bel lt0) trodAll_mk0), rfl, bel.frame _, fun h => by cases h⟩

theorem parses_reads (os : Os) {H : Type} (enc : TypeId × Value → H) : ∃ places, DataW.whole enc Tryz.prog ((laidOn (World.holding Tryz.prog os ⟨#[], #[], []⟩)).forCall (fun _ _ => 0) ⟨#[], #[.slice none 0 0], []⟩).memory Tryz.f3.params.toList Rows.parsesSpec.vars false #[Value.slice none 0 0].toList 8 = some ([.nil], [], places) :=
  ⟨[], by kernel_rfl⟩

set_option maxRecDepth 100000 in
theorem parses_lifted (os : Os) (started : os.Started) (H : Type) (enc : TypeId × Value → H) (F : Stop.Interp) :
    ReturnsInHanded {} Tryz.checked os 3 .any ((Rows.OpenSpec.upto Rows.parsesSpec).preRow enc Tryz.prog Tryz.f3 Rows.parsesUptoRow.domain false Rows.parsesUptoRow.laid) (((Rows.OpenSpec.upto Rows.parsesSpec).at F).post enc Tryz.prog Tryz.f3 false true false false) := by
  obtain ⟨places, hx⟩ := parses_reads os enc
  refine returnsInHanded_of_row (C := Tryz.checked) (s := Rows.OpenSpec.upto Rows.parsesSpec) own started (by kernel_rfl) Tryz.func3
    (witness_row_at (enc := enc) (C := Tryz.checked) false (laidOn (World.holding Tryz.prog os ⟨#[], #[], []⟩)) #[.slice none 0 0] rfl (by kernel_rfl) (by kernel_rfl) (by kernel_rfl)
      (OpenSpec.preRow_of_cond 8 hx (by kernel_rfl) (fun k hk => by cases hk; kernel_rfl) (by kernel_rfl) (laid_script os))) ?_
  intro W base args ds gs before hval hW _ hcond _ _ _ _
  exact parses_contract H enc W base args ds gs before hval hW (hcond _ rfl)

theorem parses_said : Rows.ParsesUptoSaid :=
  OpenClaim.holds_of_cond 3 Tryz.f3 rfl rfl rfl rfl rfl rfl rfl ⟨rfl, rfl, rfl, rfl, rfl⟩ rfl rfl rfl rfl rfl (by kernel_rfl) Tryz.func3 (by kernel_rfl)
    (of_decide_eq_true (by kernel_rfl)) (by unfold Func.isWrapper; first | (rw [if_pos (by decide +kernel)]; kernel_rfl) | (rw [if_neg (by decide +kernel)]; exact ⟨rfl, rfl⟩))
    (fun os started H enc _ F => by rw [OpenClaim.pre_eq_preRow]; exact parses_lifted os started H enc F)

theorem parses_plain (f : FuncId) (fn : Func) (hf : Tryz.pinned.checked.prog.funcNamed "benzol/benzollaw.Parses" = some f) (hfn : Tryz.pinned.checked.prog.funcs[f]? = some fn) :
    false = Tryz.pinned.checked.prog.looks [] ∧ ∀ (j : Nat) t, fn.params[j]? = some t → Tryz.pinned.checked.prog.wantsStandIn t = false := by
  obtain rfl : f = 3 := Option.some.inj ((show Tryz.prog.funcNamed "benzol/benzollaw.Parses" = some 3 by kernel_rfl).symm.trans hf) |>.symm
  obtain rfl : fn = Tryz.f3 := (Option.some.inj (Tryz.func3.symm.trans hfn)).symm
  refine ⟨by kernel_rfl, fun j t ht => ?_⟩
  rw [Tryz.params3] at ht
  obtain rfl : t = 22 := by simpa using Array.mem_of_getElem? ht
  exact (show Tryz.prog.wantsStandIn 22 = false by kernel_rfl)

/-- The card of the second form. -/
theorem parses_holds : Rows.ParsesUptoCardSaid :=
  Claim7.holds_tied_plain_at .later [] _ _ _ _ parses_said (fun _ h => by cases h) (by kernel_rfl) (fun _ h => by cases h) parsesUpto_row_tie rfl ⟨rfl, rfl⟩ (by kernel_rfl) rfl parses_plain (by kernel_rfl)
end Go.Proofs.YtcabaecbmkgclaaGreatDoor
