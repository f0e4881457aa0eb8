import Derived.Test.YtcabaecbmkgclaaGreatDoorP30
set_option maxHeartbeats 1000000
set_option maxRecDepth 100000
namespace Go.Proofs.YtcabaecbmkgclaaGreatDoor.Mg
open Go.RowKit Mt
section
variable {w w' wr:World}{M:Nat}{g:Gr}{mate:Nat→Option Nat}
theorem MAt.mat (h:MAt w M g mate):∃nr:Nat→Nat,(∀k,k<24→nr k<4294967296∧∀j,j<24→(nr k).testBit j=g.adj k j)∧w.rangeAt M 0 (AX nr g.n fun k=>mi (mate k)):=by
 have hx:∀k,∃m:Nat,k<24→w.cell? ⟨M,k,none⟩=some (.int .u32 m)∧m<4294967296∧∀j,j<24→m.testBit j=g.adj k j:=fun k=>by
  by_cases hk:k<24
  ·obtain⟨m,hm⟩:=h.near k hk;exact⟨m,fun _=>hm⟩
  ·exact⟨0,fun k'=>absurd k' hk⟩
 refine⟨fun k=>Classical.choose (hx k),fun k hk=>(Classical.choose_spec (hx k) hk).2,fun j v hj=>?_⟩;have hl:j<49:=by have:=(List.getElem?_eq_some_iff.1 hj).1;rwa[BJ]at this
 rw[Nat.zero_add];rcases Nat.lt_trichotomy j 24 with k|k|k
 ·rw[FD _ _ _ k]at hj;cases hj;exact(Classical.choose_spec (hx j) k).1
 ·subst k;rw[GG]at hj;cases hj;exact h.n
 ·obtain⟨q,rfl⟩:∃q,j=25+q:=⟨j-25,by omega⟩
  rw[Dl _ _ _ (by omega)]at hj;cases hj;exact h.mate q (by omega)
theorem MAt.of {nr:Nat→Nat}{n:Nat}{mt:Nat→Int}(hr:w.rangeAt M 0 (AX nr n mt))(hz:∀i,w.frozen? ⟨M,i,none⟩=false)(hb:∀k,k<24→nr k<4294967296∧∀j,j<24→(nr k).testBit j=g.adj k j)(hn:n=g.n)(hm:∀k,k<24→mt k=mi (mate k)):MAt w M g mate:=by
 have c:∀j u,(AX nr n mt)[j]? =some u→w.cell? ⟨M,j,none⟩=some u:=fun j u hu=>by have:=hr j u hu;rwa[Nat.zero_add]at this
 exact⟨fun k hk=>⟨nr k,c k _ (FD _ _ _ hk),hb k hk⟩,by rw[←hn];exact c 24 _ (GG _ _ _),fun k hk=>by rw[←hm k hk];exact c _ _ (Dl _ _ _ hk),hz⟩
theorem FFr.toBelow {A F:Nat}(hf:FFr F w w')(hm:∀k,CS w F k→A≤k)(hA:A≤w.heap.size):Below A w w':=
 ⟨hf.os,hf.tape,hf.output,hf.size,fun k hk=>hf.block k (by omega) (fun h=>by have:=hm k h;omega)⟩
theorem MFr.toBelow {A:Nat}(hf:MFr M w w')(hm:A≤M)(hA:A≤w.heap.size):Below A w w':=
 ⟨hf.os,hf.tape,hf.output,hf.size,fun k hk=>hf.block k (by omega) (by omega)⟩
def GmIs (w:World)(g:Gr)(e:Ending)(w':World):Prop:=
 ∃mate f h,Ie g mate f h∧∃pv uv,e=.returned (.tuple #[pv,uv])∧Prs w' w.heap.size pv (AQ g.n mate)∧Ints w' w.heap.size uv (Dj g.n f)∧Below w.heap.size w w'
structure GsAt (w:World)(M:Nat)(g:Gr)(mate:Nat→Option Nat)(wr:World):Prop where
 at_:MAt wr M g mate
 ok:EM g mate
 below:Below w.heap.size w wr
 le:w.heap.size≤M
theorem GsAt.start {nr:Nat→Nat}(hb:Below w.heap.size w wr)(hbit:∀k,k<24→nr k<4294967296∧∀j,j<24→(nr k).testBit j=g.adj k j)(t:TypeId):
  GsAt w wr.heap.size g (fun _=>none) ((wr.alloc (.cells (AX (fun _=>0) 0 fun _=>0).toArray t)).setCells wr.heap.size 0 (AX nr g.n fun _=> -1)):=by
 refine⟨MAt.of (World.rangeAt_setCells_same _ _ _ _ (by rw[BJ];exact J7 _ _ _ _ _)) (fun i=>by rw[Eb];simp) hbit rfl (fun _ _=>rfl),⟨fun _ _ h=>(by cases h),fun _ _ h=>(by cases h)⟩,BV hb.size _ _ _ (hb.alloc hb.size _),hb.size⟩
theorem PlIs.laid {w1:World}{cs:List Value}(hl:cs.length=698)(t:TypeId)
  (h:∀wx F,wx.rangeAt F 0 cs→(∀i,wx.frozen? ⟨F,i,none⟩=false)→(F<w.heap.size∨w1.heap.size≤F)→(∀k,w.heap.size≤k→k<w1.heap.size→wx.heap[k]? =w1.heap[k]?)→
   FAt wx F g mate (GY g mate)∧∀k,CS wx F k→k=F∨(w.heap.size≤k∧k<w1.heap.size)):
  FAt ((w1.alloc (.cells (BK (fun _=>0) 0 (fun _=>0) fun _ _=>false).toArray t)).setCells w1.heap.size 0 cs) w1.heap.size g mate (GY g mate)∧
   ∀k,CS ((w1.alloc (.cells (BK (fun _=>0) 0 (fun _=>0) fun _ _=>false).toArray t)).setCells w1.heap.size 0 cs) w1.heap.size k→k=w1.heap.size∨(w.heap.size≤k∧k<w1.heap.size):=
 h _ _ (World.rangeAt_setCells_same _ _ _ _ (by rw[hl];exact KQ _ _ _ _ _ _)) (fun i=>by rw[Eb];simp) (.inr (Nat.le_refl _)) (fun k h1 h2=>by rw[Ih (by omega),Aj _ _ _ h2])
theorem Aug.small (G:EI g){p:List Nat}(A:Aug g mate p):p.length≤48∧∀x∈p,x<24:=by have hx:∀x∈p,x<g.n:=A.lt;have hn:=G.n24;have:=IV p (fun x=>x) (List.range g.n) A.nodup (fun x hx'=>List.mem_range.2 (hx x hx')) (fun x _ y _ e=>e);simp at this;exact⟨by omega,fun x h=>by have:=hx x h;omega⟩
theorem N5 (w:World){nr:Nat→Nat}{g:Gr}(hb:∀k,k<24→nr k<4294967296∧∀j,j<24→(nr k).testBit j=g.adj k j)(G:EI g):
  Calls Tryz.prog 24 #[.agg (AM nr).toArray,.int .i64 (g.n:Int)] w fun e w'=>GmIs w g e w':=by
 have HG:Hid (EI g):=G;have HBT:Hid (∀k,k<24→nr k<4294967296∧∀j,j<24→(nr k).testBit j=g.adj k j):=hb;have HGR:Hid ((w.alloc (.cells (AM nr).toArray 65)).rangeAt w.heap.size 0 (AM nr)):=OH w nr _;have HB0:Hid (Below w.heap.size w (w.alloc (.cells (AM nr).toArray 65))):=(Below.refl _ w).alloc (Nat.le_refl _) _;have HEM:=empty_any (w.alloc (.cells (AM nr).toArray 65)) nr g.n;clear hb G;go_enter Tryz.func24,Tryz.ntmps24
 go_wp2_with (refine wpList_load_mid rfl 65 (.tmp 2) rfl w.heap.size 0 (by simp[Act.eval]) (AM nr) _ HGR.out Tryz.underlying65 rfl (by rw[Tryz.Cj,BQ]) ?_;simp only[Act.put,List.setIfInBounds_toArray,List.set_cons_zero,List.set_cons_succ]);refine HEM.mono ?_;rintro e w1 ⟨rfl,hb1⟩;clear HEM HGR;have HST:Hid (GsAt w w1.heap.size g (fun _=>none) ((w1.alloc (.cells (AX (fun _=>0) 0 fun _=>0).toArray 107)).setCells w1.heap.size 0 (AX nr g.n fun _=> -1))):=GsAt.start (HB0.out.trans (hb1.mono (by simp))) HBT.out _;have HTH:Hid ((w1.alloc (.cells (AX (fun _=>0) 0 fun _=>0).toArray 107)).there w1.heap.size 0 49):=J7 _ _ _ _ _;clear hb1;go_upto_region 2 with(first|(refine Az rfl 107 rfl _ _ (alloc_mat _) ?_;simp only[Act.put,List.setIfInBounds_toArray,List.set_cons_zero,List.set_cons_succ])|(refine wpList_store_mid rfl 107 (.tmp 6) (.tmp 12) rfl w1.heap.size 0 (AX nr g.n fun _=> -1).toArray (by simp[Act.eval]) (by rfl) (by rw[J8];exact HTH.out) (by rw[J8];exact Tryz.EV) (JW _ _ _) ?_;simp only[Act.put]))
 generalize World.setCells _ _ _ _=wm at HST ⊢;generalize w1.heap.size=M at HST ⊢;clear HTH HB0 HBT;go_wp2_with fail;go_loopg [9] 26 (fun k v9 wr=>∃mate,cnt g.n (fun x=>(mate x).isNone)≤k∧v9=v9∧GsAt w M g mate wr)
 case atStart=>exact⟨_,Nat.le_trans cnt_le (Nat.le_trans HG.out.n24 (by omega)),rfl,HST.out⟩
 case round=>
  clear HST;obtain⟨mate,hcn,_,hat⟩:=hrel;have HAT:Hid (GsAt w M g mate wr):=hat;have HCN:Hid (cnt g.n (fun x=>(mate x).isNone)≤gk):=hcn;obtain⟨nr',hb',hrg⟩:=hat.at_.mat;have HRG:Hid (wr.rangeAt M 0 (AX nr' g.n fun k=>mi (mate k))):=hrg;have PL:=plant_any wr hb' rfl (fun _ _=>rfl) HG.out.n24 (mt:=fun k=>mi (mate k)) (mate:=mate);clear hat hcn hb' hrg;go_wp2_with (refine wpList_load_mid rfl 107 (.tmp 6) rfl M 0 (by simp[Act.eval]) (AX nr' g.n fun k=>mi (mate k)) _ HRG.out Tryz.underlying107 rfl (by rw[Tryz.EV,BJ]) ?_;simp only[Act.put,List.setIfInBounds_toArray,List.set_cons_zero,List.set_cons_succ]);refine PL.mono ?_;rintro e w1 ⟨cs,rfl,hcl,hone,hb1,hlaw⟩;have hLA:=PlIs.laid hcl 113 hlaw;have HSZ:Hid (cs.toArray.size=698):=by unfold Hid;simpa using hcl
  have HTH:Hid ((w1.alloc (.cells (BK (fun _=>0) 0 (fun _=>0) fun _ _=>false).toArray 113)).there w1.heap.size 0 698):=KQ _ _ _ _ _ _;have HON:Hid (cs.toArray.all (·.oneCell')=true):=hone;have HB1:Hid (Below wr.heap.size wr ((w1.alloc (.cells (BK (fun _=>0) 0 (fun _=>0) fun _ _=>false).toArray 113)).setCells w1.heap.size 0 cs)):=BV hb1.size _ _ _ (hb1.alloc hb1.size _);have HSB:Hid (wr.heap.size≤w1.heap.size):=hb1.size;have HLA:Hid _:=hLA;clear PL HRG hcl hone hb1 hlaw hLA;go_upto_region 3 with(first|(refine Az rfl 113 rfl _ _ (Q9 _) ?_;simp only[Act.put,List.setIfInBounds_toArray,List.set_cons_zero,List.set_cons_succ])|(refine wpList_store_mid rfl 113 (.tmp 7) (.tmp 14) rfl w1.heap.size 0 cs.toArray (by simp[Act.eval]) (by rfl) (by rw[HSZ.out];exact HTH.out) (by rw[HSZ.out];exact Tryz.GH) HON.out ?_;simp only[Act.put]))
  clear HTH;generalize World.setCells _ _ _ _=w2 at HLA HB1 ⊢;generalize w1.heap.size=F at*;have GW:=Q4 HLA.out.1 HG.out HAT.out.ok (plant_inv HG.out);go_wp2_with fail;refine GW.mono ?_;rintro e w3 ⟨hf,hcase⟩;have hMl:=HAT.out.at_.lt;have hnm:∀k,k<wr.heap.size→¬CS w2 F k:=fun k hk hm=>by have h1:=HSB.out;rcases HLA.out.2 k hm with h|h<;>omega
  have HM3:Hid (MAt w3 M g mate):=HAT.out.at_.same ((hf.block M (Nat.lt_of_lt_of_le hMl HB1.out.size) (hnm M hMl)).trans (HB1.out.block M hMl));have hws:=HAT.out.below.size;have HB3:Hid (Below w.heap.size w w3):=(HAT.out.below.trans (HB1.out.mono hws)).trans (hf.toBelow (fun k hk=>Nat.le_of_not_lt fun hl=>hnm k (by omega) hk) (Nat.le_trans hws HB1.out.size));have HM2:Hid (M<w2.heap.size∧w2.heap.size≤w3.heap.size):=⟨Nat.lt_of_lt_of_le hMl HB1.out.size,hf.size⟩
  clear GW hf hnm;rcases hcase with⟨rfl,f',h',hF,hI,hS⟩|⟨p,hp,rv,rfl,hrv⟩
  ·have PR:=pairs_any HM3.out HG.out.n24;have HF:Hid (FAt w3 F g mate f'):=hF;have HBE:Hid (Ie g mate f' h'):=⟨HAT.out.ok,hI,hS⟩
   clear hF hI hS;go_wp2_with fail;refine PR.mono ?_;rintro e w4 ⟨pv,rfl,hP,hb4⟩;have BA:=barrier_any (HF.out.below hb4) HG.out.n24;have HP:Hid (Prs w4 w3.heap.size pv (AQ g.n mate)):=hP;have HB4:Hid (Below w3.heap.size w3 w4):=hb4;clear PR hP hb4;go_wp2_with fail;refine BA.mono ?_;rintro e w5 ⟨uv,rfl,hU,hb5⟩;have h3:=HB3.out.size;have h4:=HB4.out.size;have HE:Hid (GmIs w g (.returned (.tuple #[pv,uv])) w5):=⟨mate,f',h',HBE.out,pv,uv,rfl,AP (AL HP.out fun k hk=>hb5.block k (HP.out.lt k hk).2) (by omega),AP hU (by omega),(HB3.out.trans (HB4.out.mono h3)).trans (hb5.mono (by omega))⟩
   clear BA hU hb5;go_wp2_with fail;refine bodyPost_ret (v:=.tuple #[pv,uv]) ?_ rfl HE.out;simp[results,Tryz.results24]
  ·have FL:=flip_any HM3.out hrv (fun e=>by have h1:=(hrv.lt _ e).1;have h2:=HM2.out;omega) (Aug.small HG.out hp).1 (Aug.small HG.out hp).2 hp.nodup
   have HLS:Hid _:=aug_less HG.out HAT.out.ok hp;clear hrv hp;go_wp2_with fail;refine FL.mono ?_;rintro e w4 ⟨rfl,hA4,hf4⟩;have HN:Hid (GsAt w M g (Mt.flip mate p) w4):=⟨hA4,HLS.out.1,HB3.out.trans (hf4.toBelow HAT.out.le HB3.out.size),HAT.out.le⟩
   clear FL hA4 hf4;go_wp2_with fail;go_roundg (cnt g.n (fun x=>(Mt.flip mate p x).isNone))
   case measure=>exact Nat.lt_of_lt_of_le HLS.out.2 HCN.out
   case rel=>exact⟨_,Nat.le_refl _,trivial,HN.out⟩
end
end Go.Proofs.YtcabaecbmkgclaaGreatDoor.Mg
