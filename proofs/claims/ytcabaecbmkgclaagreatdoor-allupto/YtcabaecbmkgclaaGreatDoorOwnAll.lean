/-
  All: of every script (of at most 1048576 values and letters) each call, in whatever order, gives the document's answer: Parse, Match and Kekulize; what is handed in stays, and the lists that came out stay their owner's: the call answers true, and the script reads behind it as it did.
-/
import Derived.Test.YtcabaecbmkgclaaGreatDoorP38
import Derived.Test.YtcabaecbmkgclaaGreatDoorP48
set_option maxRecDepth 100000
namespace Go.Proofs.YtcabaecbmkgclaaGreatDoor
open Go.ChangeShapes Go.WideShapes Go.ChangeAt Go.RowKit Bz
section
theorem all_walk {w:World}{ao:Option Addr}{cap:Nat}{ops:List OpD}(h:Script w ao cap ops)(hm:∀o∈ops,o.s.size≤maxLen∧∃L:List (Int×Int),o.ll=L.length∧Mg.IPr w (.slice o.lo o.ll o.lc) L∧L.length≤o.lc∧L.length≤1048576):
  Calls Tryz.prog 10 #[.slice ao ops.length cap] w fun e w'=>e=.returned (.bool true)∧Below w.heap.size w w':=by
 have HU:=upTo_any h 1 3 (by
  intro o ho h1 h2 wr l hst hl;rcases List.mem_append.1 ho with ho|ho
  ·simp only[DJ,List.mem_cons,List.mem_nil_iff,or_false]at ho;rcases ho with rfl|rfl|rfl
   ·exact OA _ rfl (by simp only;unfold maxLen;decide) hst hl
   ·exact OL _ rfl (L:=[(0,1),(1,2)]) rfl (first_pairs hst) (by simp) (by simp) hst hl
   ·exact Ny _ rfl (by simp only;unfold maxLen;decide) hst hl
  ·obtain⟨hs,L,e1,e2,e3,e4⟩:=hm o ho;have hk:o.kind=1∨o.kind=2∨o.kind=3:=by omega
   rcases hk with hk|hk|hk
   ·exact OA o hk hs hst hl
   ·exact OL o hk e1 (e2.below hst.below) e3 e4 hst hl
   ·exact Ny o hk hs hst hl)
 go_enter Tryz.func10,Tryz.ntmps10
 go_wp2_with fail;refine HU.mono ?_;rintro e w2 ⟨rfl,hb⟩;go_wp2_with fail;go_ret
 exact⟨rfl,hb⟩
end
theorem all_contract (H:Type)(enc:TypeId×Value→H)(W:World)(base:Nat)(args:Array Value)(ds gs:List (DataW H))(before:List MemPlace)
  (hval:∀(j:Nat)t v,Tryz.f10.params[j]? =some t→args[j]? =some v→Value.okWide Tryz.prog W .any base t v)
  (hW:DataW.Whole enc Tryz.prog Tryz.f10.params.toList Rows.allSpec.vars false W args.toList ds gs before)(hk:Rows.uptoSmall H (ds++gs)=true):
  Calls Tryz.prog 10 args W fun e W'=>∃v,e=.returned v∧Rows.allSpec.post enc Tryz.prog Tryz.f10 false true false false W args v W':=by
 have hW':=hW;obtain⟨p,q,hA0,hV,rfl,hfz,hnd⟩:=hW;have hA:DataW.TrodAll enc Tryz.prog W 0 (fun _=>true) true Tryz.f10.params.toList args.toList ds p:=hA0;rw[Tryz.params10]at hA hval;obtain⟨v0,vs0,d0,ds0,p0,q0,hargs,rfl,rfl,h0,r0⟩:=trodAll_cons hA;obtain⟨rfl,rfl,rfl⟩:=trodAll_nil r0;obtain rfl:args=#[v0]:=by cases args;simp_all
 obtain⟨rfl,rfl⟩:=trodVars_none hV;obtain⟨a0,len0,cap0,rfl⟩:=okWide_slice Tryz.underlying22 (hval 0 22 v0 rfl rfl);have k0:=h0;have lt0:∀x∈p0,x.block<W.heap.size:=by obtain⟨m,hm⟩:=k0;exact DataW.trod_lt m _ _ _ hm
 obtain⟨fuel,hf⟩:=h0;have hbk:Rows.uptoBulk d0≤1048576:=by have h:=of_decide_eq_true hk;simp only[List.append_nil,Rows.uptoBulkAll]at h;omega
 obtain⟨ao,cap,ops,hv,hS,hops⟩:=script_in (v:=.slice a0 len0 cap0) (x:=(d0,p0)) (by simpa[Value.cells]using hf) hbk;simp only[Value.slice.injEq]at hv;obtain⟨rfl,rfl,rfl⟩:=hv;clear hA0;simp only[List.append_nil]at hW';refine(all_walk hS (fun o ho=>by obtain⟨d,hd,hb⟩:=hops o ho;exact⟨hd.str,Rf.list_in hd hb⟩)).mono fun e W' ⟨he,bel⟩=>?_;subst he;exact⟨_,rfl,_,_,_,[],_,[],hW',trodAll_mk1 (shut_bool Tryz.underlying4 _),(trodAll_cons_mk (Below.trod laidOut (by kernel_rfl) (of_decide_eq_true (by kernel_rfl)) k0 bel lt0) trodAll_mk0),rfl,bel.frame _,fun h=>by cases h⟩
theorem all_reads (os:Os){H:Type}(enc:TypeId×Value→H):∃places,DataW.whole enc Tryz.prog ((Po (World.holding Tryz.prog os ⟨#[],#[],[]⟩)).forCall (fun _ _=>0) ⟨#[],#[.slice none 0 0],[]⟩).memory Tryz.f10.params.toList Rows.allSpec.vars false #[Value.slice none 0 0].toList 8=some ([.nil],[],places):=
 ⟨[],by kernel_rfl⟩
theorem all_lifted (os:Os)(started:os.Started)(H:Type)(enc:TypeId×Value→H)(F:Stop.Interp):
  ReturnsInHanded {} Tryz.checked os 10 .any ((Rows.OpenSpec.upto Rows.allSpec).preRow enc Tryz.prog Tryz.f10 Rows.allUptoRow.domain false Rows.allUptoRow.laid) (((Rows.OpenSpec.upto Rows.allSpec).at F).post enc Tryz.prog Tryz.f10 false true false false):=by
 obtain⟨places,hx⟩:=all_reads os enc;refine returnsInHanded_of_row (C:=Tryz.checked) (s:=Rows.OpenSpec.upto Rows.allSpec) own started (by kernel_rfl) Tryz.func10
  (witness_row_at (enc:=enc) (C:=Tryz.checked) false (Po (World.holding Tryz.prog os ⟨#[],#[],[]⟩)) #[.slice none 0 0] rfl (by kernel_rfl) (by kernel_rfl) (by kernel_rfl)
   (OpenSpec.preRow_of_cond 8 hx (by kernel_rfl) (fun k hk=>by cases hk;kernel_rfl) (by kernel_rfl) (O9 os))) ?_
 intro W base args ds gs before hval hW _ hcond _ _ _ _;exact all_contract H enc W base args ds gs before hval hW (hcond _ rfl)
theorem all_said:Rows.AllUptoSaid:=
 OpenClaim.holds_of_cond 10 Tryz.f10 rfl rfl rfl rfl rfl rfl rfl ⟨rfl,rfl,rfl,rfl,rfl⟩ rfl rfl rfl rfl rfl (by kernel_rfl) Tryz.func10 (by kernel_rfl)
  (of_decide_eq_true (by kernel_rfl)) (by unfold Func.isWrapper;first|(rw[if_pos (by decide+kernel)];kernel_rfl)|(rw[if_neg (by decide+kernel)];exact⟨rfl,rfl⟩))
  (fun os started H enc _ F=>by rw[OpenClaim.pre_eq_preRow];exact all_lifted os started H enc F)
theorem all_plain (f:FuncId)(fn:Func)(hf:Tryz.pinned.checked.prog.funcNamed "benzol/benzollaw.All" =some f)(hfn:Tryz.pinned.checked.prog.funcs[f]? =some fn):
  false=Tryz.pinned.checked.prog.looks []∧∀(j:Nat)t,fn.params[j]? =some t→Tryz.pinned.checked.prog.wantsStandIn t=false:=by
 obtain rfl:f=10:=Option.some.inj ((show Tryz.prog.funcNamed "benzol/benzollaw.All" =some 10 by kernel_rfl).symm.trans hf)|>.symm;obtain rfl:fn=Tryz.f10:=(Option.some.inj (Tryz.func10.symm.trans hfn)).symm;refine⟨by kernel_rfl,fun j t ht=>?_⟩;rw[Tryz.params10]at ht;obtain rfl:t=22:=by simpa using Array.mem_of_getElem? ht
 exact(show Tryz.prog.wantsStandIn 22=false by kernel_rfl)
theorem all_holds:Rows.AllUptoCardSaid:=
 Claim7.holds_tied_plain_at .later [] _ _ _ _ all_said (fun _ h=>by cases h) (by kernel_rfl) (fun _ h=>by cases h) allUpto_row_tie rfl ⟨rfl,rfl⟩ (by kernel_rfl) rfl all_plain (by kernel_rfl)
end Go.Proofs.YtcabaecbmkgclaaGreatDoor
