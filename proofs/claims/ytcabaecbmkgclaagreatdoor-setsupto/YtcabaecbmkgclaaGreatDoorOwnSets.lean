/-
  Sets: of every script (of at most 1048576 values and letters) each Kekulize gives an error where the document says so; else it is done just if it can be, with the orders and the text, or with what bars it; and the lists that came out stay their owner's: the call answers true, and the script reads behind it as it did.
-/
import Derived.Test.YtcabaecbmkgclaaGreatDoorP48
import Derived.ArgAppend
import Derived.Below
import Derived.BigQuiet
import Derived.Deep.CutBlock
import Derived.Deep.CutRange
import Derived.Deep.DeepCutAuto
import Derived.Deep.DeepHandedRow
import Derived.Deep.Light
import Derived.Deep.LoopGhost
import Derived.Deep.MidRow
import Derived.Deep.QuietTactic
import Derived.Deep.RegionHeld
import Derived.Deep.RegionHeld3
import Derived.Deep.RegionHeldLaw
import Derived.Deep.RegionLaw
import Derived.Deep.RegionWith
import Derived.Deep.Slices
import Derived.Ground.NamesProg
import Derived.Laws.BytesArg
import Derived.Laws.DeepBits32
import Derived.Lib.AppendZeros
import Derived.Lib.LaidTab
import Derived.Lib.SliceRun
import Derived.Lib.SmallJoins
import Derived.OneCell
import Derived.OpenShut
import Derived.OwnWalk
import Derived.ProofKit
import Derived.Shelf.Strings.BuilderK
import Derived.Shelf.Strings.MapGrows
import Derived.Test.YtcabaecbmkgclaaGreatDoorCards
import Derived.Test.YtcabaecbmkgclaaGreatDoorRows
import Derived.Test.YtcabaecbmkgclaaGreatDoorTie
import Derived.WalkKit
import Derived.WalkLawsBesides
import Derived.WalkMore
import Derived.WalkSpells
set_option maxRecDepth 100000
namespace Go.Proofs.YtcabaecbmkgclaaGreatDoor
open Go.ChangeShapes Go.WideShapes Go.ChangeAt Go.RowKit Bz
section
theorem sets_walk {w:World}{ao:Option Addr}{cap:Nat}{ops:List OpD}(h:Script w ao cap ops)(hm:∀o∈ops,o.s.size≤maxLen):
  Calls Tryz.prog 5 #[.slice ao ops.length cap] w fun e w'=>e=.returned (.bool true)∧Below w.heap.size w w':=by
 have HU:=upTo_any h 3 3 (by
  intro o ho h1 h2 wr l hst hl;refine Ny o (by omega) ?_ hst hl;rcases List.mem_append.1 ho with ho|ho
  ·simp only[DJ,List.mem_cons,List.mem_nil_iff,or_false]at ho;rcases ho with rfl|rfl|rfl
   ·simp only;unfold maxLen;decide
   ·simp only;unfold maxLen;decide
   ·simp only;unfold maxLen;decide
  ·exact hm o ho)
 go_enter Tryz.func5,Tryz.ntmps5
 go_wp2_with fail;refine HU.mono ?_;rintro e w2 ⟨rfl,hb⟩;go_wp2_with fail;go_ret
 exact⟨rfl,hb⟩
end
theorem sets_contract (H:Type)(enc:TypeId×Value→H)(W:World)(base:Nat)(args:Array Value)(ds gs:List (DataW H))(before:List MemPlace)
  (hval:∀(j:Nat)t v,Tryz.f5.params[j]? =some t→args[j]? =some v→Value.okWide Tryz.prog W .any base t v)
  (hW:DataW.Whole enc Tryz.prog Tryz.f5.params.toList Rows.setsSpec.vars false W args.toList ds gs before)(hk:Rows.uptoSmall H (ds++gs)=true):
  Calls Tryz.prog 5 args W fun e W'=>∃v,e=.returned v∧Rows.setsSpec.post enc Tryz.prog Tryz.f5 false true false false W args v W':=by
 have hW':=hW;obtain⟨p,q,hA0,hV,rfl,hfz,hnd⟩:=hW;have hA:DataW.TrodAll enc Tryz.prog W 0 (fun _=>true) true Tryz.f5.params.toList args.toList ds p:=hA0;rw[Tryz.params5]at hA hval;obtain⟨v0,vs0,d0,ds0,p0,q0,hargs,rfl,rfl,h0,r0⟩:=trodAll_cons hA;obtain⟨rfl,rfl,rfl⟩:=trodAll_nil r0;obtain rfl:args=#[v0]:=by cases args;simp_all
 obtain⟨rfl,rfl⟩:=trodVars_none hV;obtain⟨a0,len0,cap0,rfl⟩:=okWide_slice Tryz.underlying22 (hval 0 22 v0 rfl rfl);have k0:=h0;have lt0:∀x∈p0,x.block<W.heap.size:=by obtain⟨m,hm⟩:=k0;exact DataW.trod_lt m _ _ _ hm
 obtain⟨fuel,hf⟩:=h0;have hbk:Rows.uptoBulk d0≤1048576:=by have h:=of_decide_eq_true hk;simp only[List.append_nil,Rows.uptoBulkAll]at h;omega
 obtain⟨ao,cap,ops,hv,hS,hops⟩:=script_in (v:=.slice a0 len0 cap0) (x:=(d0,p0)) (by simpa[Value.cells]using hf) hbk;simp only[Value.slice.injEq]at hv;obtain⟨rfl,rfl,rfl⟩:=hv;clear hA0;simp only[List.append_nil]at hW';refine(sets_walk hS (fun o ho=>by obtain⟨d,hd,_⟩:=hops o ho;exact hd.str)).mono fun e W' ⟨he,bel⟩=>?_;subst he;exact⟨_,rfl,_,_,_,[],_,[],hW',trodAll_mk1 (shut_bool Tryz.underlying4 _),(trodAll_cons_mk (Below.trod laidOut (by kernel_rfl) (of_decide_eq_true (by kernel_rfl)) k0 bel lt0) trodAll_mk0),rfl,bel.frame _,fun h=>by cases h⟩
theorem sets_reads (os:Os){H:Type}(enc:TypeId×Value→H):∃places,DataW.whole enc Tryz.prog ((Po (World.holding Tryz.prog os ⟨#[],#[],[]⟩)).forCall (fun _ _=>0) ⟨#[],#[.slice none 0 0],[]⟩).memory Tryz.f5.params.toList Rows.setsSpec.vars false #[Value.slice none 0 0].toList 8=some ([.nil],[],places):=
 ⟨[],by kernel_rfl⟩
theorem sets_lifted (os:Os)(started:os.Started)(H:Type)(enc:TypeId×Value→H)(F:Stop.Interp):
  ReturnsInHanded {} Tryz.checked os 5 .any ((Rows.OpenSpec.upto Rows.setsSpec).preRow enc Tryz.prog Tryz.f5 Rows.setsUptoRow.domain false Rows.setsUptoRow.laid) (((Rows.OpenSpec.upto Rows.setsSpec).at F).post enc Tryz.prog Tryz.f5 false true false false):=by
 obtain⟨places,hx⟩:=sets_reads os enc;refine returnsInHanded_of_row (C:=Tryz.checked) (s:=Rows.OpenSpec.upto Rows.setsSpec) own started (by kernel_rfl) Tryz.func5
  (witness_row_at (enc:=enc) (C:=Tryz.checked) false (Po (World.holding Tryz.prog os ⟨#[],#[],[]⟩)) #[.slice none 0 0] rfl (by kernel_rfl) (by kernel_rfl) (by kernel_rfl)
   (OpenSpec.preRow_of_cond 8 hx (by kernel_rfl) (fun k hk=>by cases hk;kernel_rfl) (by kernel_rfl) (O9 os))) ?_
 intro W base args ds gs before hval hW _ hcond _ _ _ _;exact sets_contract H enc W base args ds gs before hval hW (hcond _ rfl)
theorem sets_said:Rows.SetsUptoSaid:=
 OpenClaim.holds_of_cond 5 Tryz.f5 rfl rfl rfl rfl rfl rfl rfl ⟨rfl,rfl,rfl,rfl,rfl⟩ rfl rfl rfl rfl rfl (by kernel_rfl) Tryz.func5 (by kernel_rfl)
  (of_decide_eq_true (by kernel_rfl)) (by unfold Func.isWrapper;first|(rw[if_pos (by decide+kernel)];kernel_rfl)|(rw[if_neg (by decide+kernel)];exact⟨rfl,rfl⟩))
  (fun os started H enc _ F=>by rw[OpenClaim.pre_eq_preRow];exact sets_lifted os started H enc F)
theorem sets_plain (f:FuncId)(fn:Func)(hf:Tryz.pinned.checked.prog.funcNamed "benzol/benzollaw.Sets" =some f)(hfn:Tryz.pinned.checked.prog.funcs[f]? =some fn):
  false=Tryz.pinned.checked.prog.looks []∧∀(j:Nat)t,fn.params[j]? =some t→Tryz.pinned.checked.prog.wantsStandIn t=false:=by
 obtain rfl:f=5:=Option.some.inj ((show Tryz.prog.funcNamed "benzol/benzollaw.Sets" =some 5 by kernel_rfl).symm.trans hf)|>.symm;obtain rfl:fn=Tryz.f5:=(Option.some.inj (Tryz.func5.symm.trans hfn)).symm;refine⟨by kernel_rfl,fun j t ht=>?_⟩;rw[Tryz.params5]at ht;obtain rfl:t=22:=by simpa using Array.mem_of_getElem? ht
 exact(show Tryz.prog.wantsStandIn 22=false by kernel_rfl)
theorem sets_holds:Rows.SetsUptoCardSaid:=
 Claim7.holds_tied_plain_at .later [] _ _ _ _ sets_said (fun _ h=>by cases h) (by kernel_rfl) (fun _ h=>by cases h) setsUpto_row_tie rfl ⟨rfl,rfl⟩ (by kernel_rfl) rfl sets_plain (by kernel_rfl)
end Go.Proofs.YtcabaecbmkgclaaGreatDoor
