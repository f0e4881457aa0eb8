import Derived.Test.YtcabaecbmkgclaaGreatDoorP40
import Derived.Test.YtcabaecbmkgclaaGreatDoorP37
import Derived.Test.YtcabaecbmkgclaaGreatDoorP41
import Derived.BigQuiet
import Derived.Deep.CutBlock
import Derived.Deep.CutRange
import Derived.Deep.LoopGhost
set_option maxHeartbeats 8000000
set_option maxRecDepth 100000
namespace Go.Proofs.YtcabaecbmkgclaaGreatDoor.Kd
open Go.RowKit Bz Mt Mg Rf Bu Cp
structure KkBad (s:ByteArray)(w:World)(e:Ending)(w':World)(er:Int×Int):Prop where
 h:Bz.parse s=.error er
 he:e=.returned (.tuple #[.agg #[.int .i64 0,.slice none 0 0,.string ⟨#[]⟩,.slice none 0 0,.slice none 0 0,.slice none 0 0],.int .i64 er.1,.int .i64 er.2])
 hne:er.1≠0
 hb:Below w.heap.size w w'
structure KkBar (w:World)(n:Nat)(mate:Nat→Option Nat)(f:Fo)(e:Ending)(w':World)(pv uv:Value):Prop where
 he:e=.returned (.tuple #[.agg #[.int .i64 2,.slice none 0 0,.string ⟨#[]⟩,.slice none 0 0,pv,uv],.int .i64 0,.int .i64 0])
 hp:Prs w' w.heap.size pv (AQ n mate)
 hu:Ints w' w.heap.size uv (Dj n f)
 hb:Below w.heap.size w w'
structure KkDone (s:ByteArray)(w:World)(q:St)(os:List Nat)(e:Ending)(w':World)(ov cv:Value):Prop where
 he:e=.returned (.tuple #[.agg #[.int .i64 1,ov,.string ⟨(wrL s.data.toList q.bonds os).toArray⟩,cv,.slice none 0 0,.slice none 0 0],.int .i64 0,.int .i64 0])
 ho:Ints w' w.heap.size ov os
 hc:Ints w' w.heap.size cv (List.range q.atoms.length)
 ne:∀k,ov.ownBlock=some k→cv.ownBlock≠some k
 hb:Below w.heap.size w w'
structure KkGood (s:ByteArray)(w:World)(e:Ending)(w':World)(q:St)(mate:Nat→Option Nat)(f:Fo)(gh:Gh):Prop where
 h:Bz.parse s=.ok (q.atoms,q.bonds)
 ho:Ok s q
 en:En q.atoms.length q.bonds s.size
 hs:s.size≤160
 hne:0<q.atoms.length
 best:Ie (grL q.atoms.length (AU q q.bonds)) mate f gh
 case:(2*(AQ q.atoms.length mate).length<cnt q.atoms.length (Bj q)∧∃pv uv,KkBar w q.atoms.length mate f e w' pv uv)∨
  (¬2*(AQ q.atoms.length mate).length<cnt q.atoms.length (Bj q)∧∃ov cv,KkDone s w q (q.bonds.map (D4 (AQ q.atoms.length mate))) e w' ov cv)
def QV (s:ByteArray)(w:World)(e:Ending)(w':World):Prop:=(∃er,KkBad s w e w' er)∨∃q mate f h,KkGood s w e w' q mate f h
structure KY (w:World)(q:St)(ns:List Value)(av bv:Value)(M:Nat)(W:World):Prop where
 res:W.heap[w.heap.size]? =some (.cells #[.int .i64 0,.slice none 0 0,.string ⟨#[]⟩,.slice none 0 0,.slice none 0 0,.slice none 0 0] 31 (0,0))
 m:W.rangeAt M 0 (ns++[av,bv])
 len:ns.length=24
 atoms:W.ownsRow (w.heap.size+1) 124 6 av q.atoms.length (q.atoms.flatMap Ba)
 bonds:W.ownsRow (w.heap.size+1) 102 4 bv q.bonds.length (q.bonds.flatMap CJ)
 lt:M<W.heap.size
 below:Below w.heap.size w W
section
variable {w:World}{q:St}{ns:List Value}{av bv:Value}{M:Nat}{W W':World}
theorem KY.rlt (h:KY w q ns av bv M W):w.heap.size<W.heap.size:=(Array.getElem?_eq_some_iff.1 h.res).1
theorem KY.on (h:KY w q ns av bv M W)(hb:Below W.heap.size W W'):KY w q ns av bv M W':=
 ⟨(hb.block _ h.rlt).trans h.res,fun j v hj=>(hb.cell (p:=⟨M,0+j,none⟩) h.lt).trans (h.m j v hj),h.len,AL h.atoms fun k hk=>hb.block k (h.atoms.lt k hk).2,AL h.bonds fun k hk=>hb.block k (h.bonds.lt k hk).2,Nat.lt_of_lt_of_le h.lt hb.size,h.below.trans (hb.mono (Nat.le_of_lt h.rlt))⟩
theorem KY.c24 (h:KY w q ns av bv M W):W.cell? ⟨M,24,none⟩=some av:=by have:=h.m 24 av (by simp[h.len]);rwa[Nat.zero_add]at this
theorem KY.c25 (h:KY w q ns av bv M W):W.cell? ⟨M,25,none⟩=some bv:=by have:=h.m 25 bv (by simp[h.len]);rwa[Nat.zero_add]at this
theorem KY.kd (h:KY w q ns av bv M W):Kd W M (w.heap.size+1) q:=⟨⟨av,h.c24,h.atoms⟩,⟨bv,h.c25,h.bonds⟩,h.lt⟩
theorem KY.cells (h:KY w q ns av bv M W):
  W.cell? ⟨w.heap.size,0,none⟩=some (.int .i64 0)∧W.cell? ⟨w.heap.size,1,none⟩=some (.slice none 0 0)∧W.cell? ⟨w.heap.size,2,none⟩=some (.string ⟨#[]⟩)∧W.cell? ⟨w.heap.size,3,none⟩=some (.slice none 0 0)∧W.cell? ⟨w.heap.size,4,none⟩=some (.slice none 0 0)∧W.cell? ⟨w.heap.size,5,none⟩=some (.slice none 0 0)∧∀j,W.frozen? ⟨w.heap.size,j,none⟩=false:=by
 refine⟨?_,?_,?_,?_,?_,?_,fun j=>Lib.frozen_of_heap h.res j⟩;all_goals (rw[Lib.cell_of_heap h.res];rfl)
end
abbrev resOf (w:World):World:=w.alloc (.cells #[.int .i64 0,.slice none 0 0,.string ⟨#[]⟩,.slice none 0 0,.slice none 0 0,.slice none 0 0] 31)
theorem kk_start {w w1:World}{q:St}{ns:List Value}{av bv:Value}(hr:PH (resOf w) w1 q ns av bv):KY w q ns av bv w1.heap.size ((w1.alloc (.cells Ag 69)).setCells w1.heap.size 0 (ns++[av,bv])):=by
 obtain⟨h1,h2,oa,ob,hb⟩:=hr;have hsz:(resOf w).heap.size=w.heap.size+1:=by simp
 rw[hsz]at hb oa ob;have hs1:=hb.size;rw[hsz]at hs1;have hlen:(ns++[av,bv]).length=26:=by simp[h1]
 have HBL:Below w1.heap.size w1 ((w1.alloc (.cells Ag 69)).setCells w1.heap.size 0 (ns++[av,bv])):=below_setCells (Nat.le_refl _) _ _ _ ((Below.refl _ w1).alloc (Nat.le_refl _) _);have HRA:=World.rangeAt_setCells_same (w1.alloc (.cells Ag 69)) w1.heap.size 0 (ns++[av,bv]) (by rw[hlen];exact H9 w1);have C24:=HRA 24 av (by rw[List.getElem?_append_right (by omega),h1];rfl);refine⟨(HBL.block _ (by omega)).trans ((hb.block _ (by omega)).trans (heap_alloc_new w _)),HRA,h1,AL oa fun k hk=>HBL.block k (oa.lt k hk).2,AL ob fun k hk=>HBL.block k (ob.lt k hk).2,World.block_lt_of_cell? _ ⟨w1.heap.size,0+24,none⟩ C24,?_⟩;exact((Below.refl _ w).alloc (Nat.le_refl _) _).trans ((hb.trans (HBL.mono hs1)).mono (by omega))
theorem JZ (s:ByteArray)(w:World)(hm:s.size≤maxLen):Calls Tryz.prog 14 #[.string s] w (QV s w):=by
 go_enter Tryz.func14,Tryz.ntmps14
 go_wp2_with fail;refine(read_any s _ hm).mono ?_;rintro e w1 h;rcases h with⟨er,h,he,hne,hb⟩|⟨q,ns,av,bv,h,he,hr,ho,hne⟩
 ·subst he;have HP:Hid (Bz.parse s=.error er):=h;have hsz:(resOf w).heap.size=w.heap.size+1:=by simp
  rw[hsz]at hb;have hs1:=hb.size;rw[hsz]at hs1;have HT:Hid ((w1.alloc (.cells Ag 69)).there w1.heap.size 0 26):=H9 w1;have HBL:Below (w.heap.size+1) (resOf w) ((w1.alloc (.cells Ag 69)).setCells w1.heap.size 0 Ag.toList):=hb.trans ((below_setCells (Nat.le_refl _) _ _ _ ((Below.refl _ w1).alloc (Nat.le_refl _) _)).mono hs1);have HRS:Hid (((w1.alloc (.cells Ag 69)).setCells w1.heap.size 0 Ag.toList).heap[w.heap.size]? =some (.cells #[.int .i64 0,.slice none 0 0,.string ⟨#[]⟩,.slice none 0 0,.slice none 0 0,.slice none 0 0] 31 (0,0))):=(HBL.block _ (by omega)).trans (heap_alloc_new w _);have HB:Hid (Below w.heap.size w ((w1.alloc (.cells Ag 69)).setCells w1.heap.size 0 Ag.toList)):=((Below.refl _ w).alloc (Nat.le_refl _) _).trans (HBL.mono (by omega));clear h hb hsz hs1 HBL;go_upto_region 2 with(first|(refine Az rfl 69 rfl _ _ (G4 _) ?_;simp only[Act.put,List.setIfInBounds_toArray,List.set_cons_zero,List.set_cons_succ];have tokS:True:=trivial)|(have _t:=tokS;go_must (refine wpList_store_mid rfl 69 (.tmp 5) (.tmp 15) rfl w1.heap.size 0 Ag (by simp[Act.eval]) (by simp[Act.eval]) HT.out Tryz.GV IQ ?_);simp only[Act.put];clear tokS))
  generalize World.setCells _ _ _ _=W at HRS HB ⊢;clear HT;have hne':¬(er.1=0):=hne;have hneb:(er.1 != 0)=true:=by simp[hne]
  have r0:W.cell? ⟨w.heap.size,0,none⟩=some (.int .i64 0):=by rw[Lib.cell_of_heap HRS.out];rfl
  have r1:W.cell? ⟨w.heap.size,1,none⟩=some (.slice none 0 0):=by rw[Lib.cell_of_heap HRS.out];rfl
  have r2:W.cell? ⟨w.heap.size,2,none⟩=some (.string ⟨#[]⟩):=by rw[Lib.cell_of_heap HRS.out];rfl
  have r3:W.cell? ⟨w.heap.size,3,none⟩=some (.slice none 0 0):=by rw[Lib.cell_of_heap HRS.out];rfl
  have r4:W.cell? ⟨w.heap.size,4,none⟩=some (.slice none 0 0):=by rw[Lib.cell_of_heap HRS.out];rfl
  have r5:W.cell? ⟨w.heap.size,5,none⟩=some (.slice none 0 0):=by rw[Lib.cell_of_heap HRS.out];rfl
  have rf:∀j,W.frozen? ⟨w.heap.size,j,none⟩=false:=fun j=>Lib.frozen_of_heap HRS.out j;have HE:Hid (∀v0 v1 v2 v3 v4 v5,Below w.heap.size w ((((((W.setCell ⟨w.heap.size,0,none⟩ v0).setCell ⟨w.heap.size,1,none⟩ v1).setCell ⟨w.heap.size,2,none⟩ v2).setCell ⟨w.heap.size,3,none⟩ v3).setCell ⟨w.heap.size,4,none⟩ v4).setCell ⟨w.heap.size,5,none⟩ v5)):=fun v0 v1 v2 v3 v4 v5=>
   (((((HB.out.setCell (p:=⟨w.heap.size,0,none⟩) (Nat.le_refl _) _).setCell (p:=⟨w.heap.size,1,none⟩) (Nat.le_refl _) _).setCell (p:=⟨w.heap.size,2,none⟩) (Nat.le_refl _) _).setCell (p:=⟨w.heap.size,3,none⟩) (Nat.le_refl _) _).setCell (p:=⟨w.heap.size,4,none⟩) (Nat.le_refl _) _).setCell (p:=⟨w.heap.size,5,none⟩) (Nat.le_refl _) _
  clear HRS HB;go_wp2_with fail;refine bodyPost_ret (v:=.tuple #[.agg #[.int .i64 0,.slice none 0 0,.string ⟨#[]⟩,.slice none 0 0,.slice none 0 0,.slice none 0 0],.int .i64 er.1,.int .i64 er.2]) ?_ rfl (Or.inl ⟨er,HP.out,rfl,hne,HE.out _ _ _ _ _ _⟩);simp only[results,Tryz.results14];go_simp
 ·subst he;have hKK:=kk_start hr;obtain⟨h1,h2,oa,ob,hb⟩:=hr;obtain⟨hs,en⟩:=QQ h;have hac:=parse_ac h;have hone:∀v∈ns++[av,bv],v.oneCell'=true:=by
   intro v hv;rcases List.mem_append.1 hv with hv|hv
   ·exact h2 v hv
   ·obtain⟨x,y,rfl⟩:=ownsRow_shape oa;obtain⟨x',y',rfl⟩:=ownsRow_shape ob;simp at hv;rcases hv with rfl|rfl<;>rfl
  have HT:Hid ((w1.alloc (.cells Ag 69)).there w1.heap.size 0 26):=H9 w1;have HK:Hid (KY w q ns av bv w1.heap.size ((w1.alloc (.cells Ag 69)).setCells w1.heap.size 0 (ns++[av,bv]))):=hKK;have HONE:Hid ((ns++[av,bv]).toArray.all (·.oneCell')=true):=all_oneCell_toArray hone;have HSI:Hid (26=(ns++[av,bv]).length):=by show _=_;simp[h1]
  have HP:Hid (Bz.parse s=.ok (q.atoms,q.bonds)):=h;have HO:Hid (Ok s q):=ho;have HEN:Hid (En q.atoms.length q.bonds s.size):=en;have HAC:Hid (Ascii s.data.toList):=hac;clear h1 h2 oa ob hb hone h ho en hac hKK;generalize hcs:ns++[av,bv]=cs at*;go_upto_region 2 with(first|(refine Az rfl 69 rfl _ _ (G4 _) ?_;simp only[Act.put,List.setIfInBounds_toArray,List.set_cons_zero,List.set_cons_succ];have tokS:True:=trivial)|(have _t:=tokS;go_must (refine wpList_store_mid rfl 69 (.tmp 5) (.tmp 15) rfl w1.heap.size 0 cs.toArray (by simp[Act.eval]) (by simp[Act.eval]) (by simp only[List.size_toArray,←HSI.out];exact HT.out) (by simp only[List.size_toArray,←HSI.out];exact Tryz.GV) HONE.out ?_);simp only[Act.put];clear tokS))
  generalize World.setCells _ _ _ _=W at HK ⊢;generalize w1.heap.size=M at HK ⊢;clear HT;have HCS:Hid (ns++[av,bv]=cs):=hcs;clear hcs;have CA:=QP HK.out.kd HO.out hs HEN.out;have hal:=HO.out.atoms;go_wp2_with fail;refine CA.mono ?_;rintro e w2 ⟨nr,hnr,rfl,hb2⟩;clear CA;have hed:=Fq HEN.out;have HTH:Hid ((w2.alloc (.cells (AM fun _=>0).toArray 65)).there w2.heap.size 0 24):=IC _ _ _;have HRG:Hid (((w2.alloc (.cells (AM fun _=>0).toArray 65)).setCells w2.heap.size 0 (AM nr)).rangeAt w2.heap.size 0 (AM nr)):=gr_there _ _ _;have hB3:Below w2.heap.size w2 ((w2.alloc (.cells (AM fun _=>0).toArray 65)).setCells w2.heap.size 0 (AM nr)):=BV (Nat.le_refl _) _ _ _ ((Below.refl _ w2).alloc (Nat.le_refl _) _);have HK3:Hid (KY w q ns av bv M ((w2.alloc (.cells (AM fun _=>0).toArray 65)).setCells w2.heap.size 0 (AM nr))):=(HK.out.on hb2).on hB3;have GM:=N5 ((w2.alloc (.cells (AM fun _=>0).toArray 65)).setCells w2.heap.size 0 (AM nr)) (nr:=nr) (g:=grL q.atoms.length (AU q q.bonds)) hnr (hed.gr hal);rw[show(((grL q.atoms.length (AU q q.bonds)).n:Nat):Int)=(q.atoms.length:Int)from rfl]at GM;clear hnr hed hb2 hB3 HK;go_upto_region 5 with(first|(refine Az rfl 65 rfl _ _ (JC _) ?_;simp only[Act.put,List.setIfInBounds_toArray,List.set_cons_zero,List.set_cons_succ])|(refine wpList_store_mid rfl 65 (.tmp 8) (.tmp 25) rfl w2.heap.size 0 (AM nr).toArray (by simp[Act.eval]) (by simp[Act.eval]) (by rw[CE];with_reducible exact HTH.out) (by rw[CE];exact Tryz.Cj) (FI _) ?_;simp only[Act.put]))
  generalize World.setCells _ _ _ _=w3 at HRG HK3 GM ⊢;generalize w2.heap.size=L at HRG ⊢;clear HTH;have c24:=HK3.out.c24;obtain⟨aso,acap,rfl⟩:=ownsRow_shape HK3.out.atoms;go_wp2_with (refine wpList_load_mid rfl 65 (.tmp 8) rfl L 0 (by simp[Act.eval]) (AM nr) _ HRG.out Tryz.underlying65 rfl (by rw[Tryz.Cj,BQ]) ?_;simp only[Act.put,List.setIfInBounds_toArray,List.set_cons_zero,List.set_cons_succ]);refine GM.mono ?_;rintro e w4 ⟨mate,f,gh,hbest,pv,uv,rfl,hP,hU,hb4⟩;clear GM;have hK4:=HK3.out.on hb4;have hpl:(AQ q.atoms.length mate).length≤q.atoms.length:=KL mate _;have hP:Prs w4 w3.heap.size pv (AQ q.atoms.length mate):=hP;have hU:Ints w4 w3.heap.size uv (Dj q.atoms.length f):=hU;obtain⟨pso,pcap,rfl⟩:=ownsRow_shape hP;obtain⟨uso,ucap,rfl⟩:=hU.shape;obtain⟨r0,r1,r2,r3,r4,r5,rf⟩:=hK4.cells;have hlt3:w.heap.size<w3.heap.size:=HK3.out.rlt;have HBE:Hid (Ie (grL q.atoms.length (AU q q.bonds)) mate f gh):=hbest;have HPU:Hid (Prs w4 w3.heap.size (.slice pso (AQ q.atoms.length mate).length pcap) (AQ q.atoms.length mate)∧Ints w4 w3.heap.size (.slice uso (Dj q.atoms.length f).length ucap) (Dj q.atoms.length f)):=⟨hP,hU⟩
  have HK4:Hid (KY w q ns (.slice aso q.atoms.length acap) bv M w4):=hK4;by_cases hlt:2*(AQ q.atoms.length mate).length<cnt q.atoms.length (Bj q)
  ·have hlt':2*((AQ q.atoms.length mate).length:Int)<(cnt q.atoms.length (Bj q):Int):=by omega
   have HE:Hid (∀v0 v1 v2 v3 v4 v5,KkBar w q.atoms.length mate f (.returned (.tuple #[.agg #[.int .i64 2,.slice none 0 0,.string ⟨#[]⟩,.slice none 0 0,.slice pso (AQ q.atoms.length mate).length pcap,.slice uso (Dj q.atoms.length f).length ucap],.int .i64 0,.int .i64 0])) ((((((w4.setCell ⟨w.heap.size,0,none⟩ v0).setCell ⟨w.heap.size,1,none⟩ v1).setCell ⟨w.heap.size,2,none⟩ v2).setCell ⟨w.heap.size,3,none⟩ v3).setCell ⟨w.heap.size,4,none⟩ v4).setCell ⟨w.heap.size,5,none⟩ v5) (.slice pso (AQ q.atoms.length mate).length pcap) (.slice uso (Dj q.atoms.length f).length ucap)):=fun v0 v1 v2 v3 v4 v5=>by
    refine⟨rfl,AP (base:=w3.heap.size) ?_ (by omega),AP (base:=w3.heap.size) ?_ (by omega),?_⟩
    ·exact ownsRow_setCell_below (ownsRow_setCell_below (ownsRow_setCell_below (ownsRow_setCell_below (ownsRow_setCell_below (ownsRow_setCell_below hP hlt3 _) hlt3 _) hlt3 _) hlt3 _) hlt3 _) hlt3 _
    ·exact ownsRow_setCell_below (ownsRow_setCell_below (ownsRow_setCell_below (ownsRow_setCell_below (ownsRow_setCell_below (ownsRow_setCell_below hU hlt3 _) hlt3 _) hlt3 _) hlt3 _) hlt3 _) hlt3 _
    ·exact(((((hK4.below.setCell (p:=⟨w.heap.size,0,none⟩) (Nat.le_refl _) _).setCell (p:=⟨w.heap.size,1,none⟩) (Nat.le_refl _) _).setCell (p:=⟨w.heap.size,2,none⟩) (Nat.le_refl _) _).setCell (p:=⟨w.heap.size,3,none⟩) (Nat.le_refl _) _).setCell (p:=⟨w.heap.size,4,none⟩) (Nat.le_refl _) _).setCell (p:=⟨w.heap.size,5,none⟩) (Nat.le_refl _) _
   clear hP hU hb4 hK4 hbest HK3 HK4 HPU c24;go_wp2_with fail;refine bodyPost_ret (v:=.tuple #[.agg #[.int .i64 2,.slice none 0 0,.string ⟨#[]⟩,.slice none 0 0,.slice pso (AQ q.atoms.length mate).length pcap,.slice uso (Dj q.atoms.length f).length ucap],.int .i64 0,.int .i64 0]) ?_ rfl (Or.inr ⟨q,mate,f,gh,HP.out,HO.out,HEN.out,hs,hne,HBE.out,Or.inl ⟨hlt,_,_,HE.out _ _ _ _ _ _⟩⟩);simp only[results,Tryz.results14];go_simp
  ·have hlt':¬2*((AQ q.atoms.length mate).length:Int)<(cnt q.atoms.length (Bj q):Int):=by omega
   have DN:=done_any (s:=s) hK4.len hK4.atoms hK4.bonds HO.out HEN.out hs HAC.out (NPr.of hP) (by omega);rw[HCS.out]at DN;have HM:Hid (w4.rangeAt M 0 cs):=by have:=hK4.m;rw[HCS.out]at this;exact this
   clear hP hU hb4 hK4 hbest HK3 c24;go_wp2_with (refine wpList_load_mid rfl 69 (.tmp 5) rfl M 0 (by simp[Act.eval]) cs _ HM.out Tryz.underlying69 rfl (by rw[←HSI.out];exact Tryz.GV) ?_;simp only[Act.put,List.setIfInBounds_toArray,List.set_cons_zero,List.set_cons_succ]);refine DN.mono ?_;rintro e w5 ⟨ov,cv,rfl,hO,hC,hne5,hb5⟩;clear DN HM;have hlt4:w.heap.size<w4.heap.size:=HK4.out.rlt;obtain⟨oso,ocap,rfl⟩:=hO.shape;obtain⟨cso,ccap,rfl⟩:=hC.shape;obtain⟨r0,r1,r2,r3,r4,r5,rf⟩:=(HK4.out.on hb5).cells;have hB5:=(HK4.out.on hb5).below;have HE:Hid (∀v0 v1 v2 v3 v4 v5,KkDone s w q (q.bonds.map (D4 (AQ q.atoms.length mate))) (.returned (.tuple #[.agg #[.int .i64 1,.slice oso (q.bonds.map (D4 (AQ q.atoms.length mate))).length ocap,.string ⟨(wrL s.data.toList q.bonds (q.bonds.map (D4 (AQ q.atoms.length mate)))).toArray⟩,.slice cso (List.range q.atoms.length).length ccap,.slice none 0 0,.slice none 0 0],.int .i64 0,.int .i64 0])) ((((((w5.setCell ⟨w.heap.size,0,none⟩ v0).setCell ⟨w.heap.size,1,none⟩ v1).setCell ⟨w.heap.size,2,none⟩ v2).setCell ⟨w.heap.size,3,none⟩ v3).setCell ⟨w.heap.size,4,none⟩ v4).setCell ⟨w.heap.size,5,none⟩ v5) (.slice oso (q.bonds.map (D4 (AQ q.atoms.length mate))).length ocap) (.slice cso (List.range q.atoms.length).length ccap)):=fun v0 v1 v2 v3 v4 v5=>by
    refine⟨rfl,AP (base:=w4.heap.size) ?_ (by omega),AP (base:=w4.heap.size) ?_ (by omega),hne5,?_⟩
    ·exact ownsRow_setCell_below (ownsRow_setCell_below (ownsRow_setCell_below (ownsRow_setCell_below (ownsRow_setCell_below (ownsRow_setCell_below hO hlt4 _) hlt4 _) hlt4 _) hlt4 _) hlt4 _) hlt4 _
    ·exact ownsRow_setCell_below (ownsRow_setCell_below (ownsRow_setCell_below (ownsRow_setCell_below (ownsRow_setCell_below (ownsRow_setCell_below hC hlt4 _) hlt4 _) hlt4 _) hlt4 _) hlt4 _) hlt4 _
    ·exact(((((hB5.setCell (p:=⟨w.heap.size,0,none⟩) (Nat.le_refl _) _).setCell (p:=⟨w.heap.size,1,none⟩) (Nat.le_refl _) _).setCell (p:=⟨w.heap.size,2,none⟩) (Nat.le_refl _) _).setCell (p:=⟨w.heap.size,3,none⟩) (Nat.le_refl _) _).setCell (p:=⟨w.heap.size,4,none⟩) (Nat.le_refl _) _).setCell (p:=⟨w.heap.size,5,none⟩) (Nat.le_refl _) _
   clear hO hC hne5 hb5 hB5 HK4 HPU;obtain⟨os,hos⟩:∃os,q.bonds.map (D4 (AQ q.atoms.length mate))=os:=⟨_,rfl⟩
   obtain⟨rl,hrl⟩:∃rl,(List.range q.atoms.length).length=rl:=⟨_,rfl⟩
   rw[hos,hrl]at HE ⊢;have HOS:Hid (q.bonds.map (D4 (AQ q.atoms.length mate))=os):=hos;clear hos hrl;go_wp2_with fail;refine bodyPost_ret (v:=.tuple #[.agg #[.int .i64 1,.slice oso os.length ocap,.string ⟨(wrL s.data.toList q.bonds os).toArray⟩,.slice cso rl ccap,.slice none 0 0,.slice none 0 0],.int .i64 0,.int .i64 0]) ?_ rfl (Or.inr ⟨q,mate,f,gh,HP.out,HO.out,HEN.out,hs,hne,HBE.out,Or.inr ⟨hlt,_,_,by rw[HOS.out];exact HE.out _ _ _ _ _ _⟩⟩);simp only[results,Tryz.results14];go_simp
end Go.Proofs.YtcabaecbmkgclaaGreatDoor.Kd
namespace Go.Proofs.YtcabaecbmkgclaaGreatDoor.Kd
open Go.RowKit Bz Mt Mg Rf
theorem cnt_mono {n:Nat}{p q:Nat→Bool}(h:∀k,k<n→p k=true→q k=true):cnt n p≤cnt n q:=by
 induction n with
 |zero=>exact Nat.le_refl _
 |succ n ih=>
  have:=ih fun k hk=>h k (by omega);rw[cnt,cnt];have hn:=h n (by omega);cases hp:p n
  ·simp;omega
  ·rw[hn hp];simp;omega
theorem cnt_not (n:Nat)(p:Nat→Bool):cnt n p+cnt n (fun k=> !p k)=n:=by have:=G6 n (fun _=>true) p;rw[cnt_all]at this;simp only[Bool.true_and]at this;have e:cnt n (fun k=>p k)=cnt n p:=rfl;omega
theorem Nq {g:Gr}{mate:Nat→Option Nat}(G:EI g)(M:EM g mate):2*(AQ g.n mate).length+cnt g.n (fun x=>(mate x).isNone)=g.n:=by
 have h3:=OE G M;have e1:(AQ g.n mate).length=cnt g.n (fun v=>(mate v).isSome&&decide (v<BP mate v)):=by unfold AQ;rw[List.length_map,Ky]
 omega
section
variable {p:St}{n pos:Nat}{mate:Nat→Option Nat}{f:Fo}{h:Gh}
theorem LD (hB:EM (grL n (AU p p.bonds)) mate){x:Nat}(hx:(mate x).isSome=true):Bj p x=true:=by obtain⟨y,hy⟩:=Option.isSome_iff_exists.1 hx;exact(JY x y (hB.adj x y hy)).1
theorem best_lo (E:EdOk n (AU p p.bonds))(hn:n≤24)(hB:Ie (grL n (AU p p.bonds)) mate f h){m2:Nat→Option Nat}(M2:EM (grL n (AU p p.bonds)) m2)(hall:∀i,i<n→Bj p i=true→(m2 i).isSome=true):cnt n (Bj p)≤2*(AQ n mate).length:=by
 have h1:2*(AQ n mate).length+cnt n (fun x=>(mate x).isNone)=n:=Nq (E.gr hn) hB.m;have h2:cnt n (fun x=>(mate x).isNone)≤cnt n (fun x=>(m2 x).isNone):=no_more (E.gr hn) hB.m hB.inv hB.shut M2;have h4:cnt n (fun x=>(m2 x).isNone)≤cnt n (fun k=> !Bj p k):=cnt_mono fun k hk hm=>by
  cases hc:Bj p k with
  |false=>rfl
  |true=>
   have:=hall k hk hc;cases h2k:m2 k with
   |none=>rw[h2k]at this;cases this
   |some y=>rw[h2k]at hm;cases hm
 have h3:=cnt_not n (Bj p);omega
end
end Go.Proofs.YtcabaecbmkgclaaGreatDoor.Kd
namespace Go.Proofs.YtcabaecbmkgclaaGreatDoor.Kd
open Bz Mt
def Jg (q:St):Prop:=∃m,EM (grL q.atoms.length (AU q q.bonds)) m∧∀i,i<q.atoms.length→Bj q i=true→(m i).isSome=true
theorem cnt_full {n:Nat}{p q:Nat→Bool}(h:∀k,k<n→p k=true→q k=true)(hc:cnt n q≤cnt n p):∀k,k<n→q k=true→p k=true:=by
 induction n with
 |zero=>intro k hk;omega
 |succ n ih=>
  have hm:=cnt_mono (n:=n) fun k hk=>h k (by omega);have hn:=h n (by omega);rw[cnt,cnt]at hc;have hc':cnt n q≤cnt n p∧(q n=true→p n=true):=by
   cases hp:p n
   ·cases hq:q n
    ·rw[hp,hq]at hc;simp at hc;exact⟨hc,fun h=>h⟩
    ·rw[hp,hq]at hc;simp at hc;omega
   ·rw[hn hp,hp]at hc;simp at hc;exact⟨hc,fun _=>rfl⟩
  intro k hk hq;by_cases hkn:k=n
  ·subst hkn;exact hc'.2 hq
  ·exact ih (fun k hk=>h k (by omega)) hc'.1 k (by omega) hq
theorem perf_iff {q:St}{pos:Nat}{mate:Nat→Option Nat}{f:Fo}{h:Gh}(en:En q.atoms.length q.bonds pos)(hn:q.atoms.length≤24)(hB:Ie (grL q.atoms.length (AU q q.bonds)) mate f h):
  ¬2*(AQ q.atoms.length mate).length<cnt q.atoms.length (Bj q)↔Jg q:=by
 have E:=Fq en;constructor
 ·intro hd;refine⟨mate,hB.m,fun i hi hc=>?_⟩;have h1:2*(AQ q.atoms.length mate).length+cnt q.atoms.length (fun x=>(mate x).isNone)=q.atoms.length:=Nq (E.gr hn) hB.m;have h2:=cnt_not q.atoms.length (fun x=>(mate x).isNone);have h3:cnt q.atoms.length (fun k=> !(mate k).isNone)=cnt q.atoms.length (fun k=>(mate k).isSome):=E4 fun k _=>by cases mate k<;>rfl
  exact cnt_full (p:=fun k=>(mate k).isSome) (q:=Bj q) (fun k _ hk=>LD hB.m hk) (by omega) i hi hc
 ·rintro⟨m,M,hall⟩;have:=best_lo E hn hB M hall;omega
section
variable {q q1 q2:St}{D:Nat}
structure Joint (q q1 q2:St)(D:Nat):Prop where
 atoms:q.atoms=q1.atoms++q2.atoms.map (shA D)
 bonds:q.bonds=q1.bonds++q2.bonds.map (shB q1.atoms.length D)
 ends:∀b∈q1.bonds,b.a<q1.atoms.length∧b.b<q1.atoms.length
 ends2:∀b∈q2.bonds,b.a<q2.atoms.length∧b.b<q2.atoms.length
theorem Joint.cand1 (j:Joint q q1 q2 D){i:Nat}(hi:i<q1.atoms.length):Bj q i=Bj q1 i:=by
 have hs:sum q.bonds i=sum q1.bonds i:=by rw[j.bonds,sum_app,sum_low _ _ _ _ hi];omega
 unfold Bj fill;rw[j.atoms,List.getElem?_append_left hi,hs]
theorem Joint.cand2 (j:Joint q q1 q2 D)(i:Nat):Bj q (i+q1.atoms.length)=Bj q2 i:=by
 have hs:sum q.bonds (i+q1.atoms.length)=sum q2.bonds i:=by
  rw[j.bonds,sum_app,sum_shift];have:sum q1.bonds (i+q1.atoms.length)=0:=sum_out fun b hb=>by have:=j.ends b hb;omega
  omega
 unfold Bj fill;rw[j.atoms,List.getElem?_append_right (by omega),hs,Nat.add_sub_cancel,List.getElem?_map];cases q2.atoms[i]? <;>rfl
theorem Joint.edge (j:Joint q q1 q2 D){x y:Nat}:(x,y)∈AU q q.bonds↔(x,y)∈AU q1 q1.bonds∨∃u v,(u,v)∈AU q2 q2.bonds∧x=u+q1.atoms.length∧y=v+q1.atoms.length:=by
 rw[D6,D6];constructor
 ·rintro⟨b,hb,he,rfl,rfl⟩;rw[j.bonds,List.mem_append,List.mem_map]at hb;rcases hb with hb|⟨c,hc,rfl⟩
  ·obtain⟨e1,e2⟩:=j.ends b hb;unfold DC at he;rw[j.cand1 e1,j.cand1 e2]at he;exact .inl ⟨b,hb,he,rfl,rfl⟩
  ·refine .inr ⟨c.a,c.b,D6.2 ⟨c,hc,?_,rfl,rfl⟩,rfl,rfl⟩;unfold DC shB at he;simp only[j.cand2]at he;exact he
 ·rintro(⟨b,hb,he,rfl,rfl⟩|⟨u,v,hm,rfl,rfl⟩)
  ·obtain⟨e1,e2⟩:=j.ends b hb;refine⟨b,by rw[j.bonds];simp[hb],?_,rfl,rfl⟩;unfold DC at he ⊢;rw[j.cand1 e1,j.cand1 e2];exact he
  ·obtain⟨c,hc,he,rfl,rfl⟩:=D6.1 hm;refine⟨shB q1.atoms.length D c,by rw[j.bonds,List.mem_append];exact .inr (List.mem_map.2 ⟨c,hc,rfl⟩),?_,rfl,rfl⟩;unfold DC at he ⊢;simp only[shB,j.cand2];exact he
end
def KZ (l:List (Nat×Nat))(n:Nat)(inb:Nat→Bool):Prop:=
 ∃m:Nat→Option Nat,(∀a b,m a=some b→Dy l a b=true∧m b=some a∧inb a=true∧a<n∧a≠b)∧∀i,i<n→inb i=true→(m i).isSome=true
def minus (inb:Nat→Bool)(i k:Nat)(x:Nat):Bool:=inb x&&(!(x==i)&& !(x==k))
theorem pf_none {l:List (Nat×Nat)}{n:Nat}{inb:Nat→Bool}(h:∀j,j<n→inb j=false):KZ l n inb:=
 ⟨fun _=>none,⟨fun a b hab=>(by cases hab),fun i hi hb=>by rw[h i hi]at hb;cases hb⟩⟩
theorem pf_add {l:List (Nat×Nat)}{n:Nat}{inb:Nat→Bool}{i k:Nat}(hi:i<n)(hk:k<n)(hik:i≠k)(bi:inb i=true)(bk:inb k=true)(ha:Dy l i k=true)(h:KZ l n (minus inb i k)):KZ l n inb:=by
 obtain⟨m,h1,h2⟩:=h;have ni:m i=none:=by
  cases hm:m i with
  |none=>rfl
  |some y=>have:=(h1 i y hm).2.2.1;unfold minus at this;simp at this
 have nk:m k=none:=by
  cases hm:m k with
  |none=>rfl
  |some y=>have:=(h1 k y hm).2.2.1;unfold minus at this;simp at this
 refine⟨fun x=>if x=i then some k else if x=k then some i else m x,?_,?_⟩
 ·intro a b hab;simp only at hab ⊢;split at hab
  ·rename_i e;cases hab;subst e;exact⟨ha,by rw[if_neg (Ne.symm hik),if_pos rfl],bi,hi,hik⟩
  ·rename_i e1;split at hab
   ·rename_i e;cases hab;subst e;exact⟨by rw[adjL_sym];exact ha,by rw[if_pos rfl],bk,hk,Ne.symm hik⟩
   ·rename_i e2;obtain⟨k1,k2,k3,k4,k5⟩:=h1 a b hab;have b1:b≠i:=by rintro rfl;rw[ni]at k2;cases k2
    have b2:b≠k:=by rintro rfl;rw[nk]at k2;cases k2
    refine⟨k1,by rw[if_neg b1,if_neg b2];exact k2,?_,k4,k5⟩;unfold minus at k3;simp only[Bool.and_eq_true]at k3;exact k3.1
 ·intro x hx hb;simp only;split
  ·rfl
  ·rename_i e1;split
   ·rfl
   ·rename_i e2;exact h2 x hx (by unfold minus;simp[hb,e1,e2])
theorem pf_take {l:List (Nat×Nat)}{n:Nat}{inb:Nat→Bool}{i:Nat}(hi:i<n)(bi:inb i=true)(hfirst:∀j,j<i→inb j=false)(h:KZ l n inb):∃k,i<k∧k<n∧inb k=true∧Dy l i k=true∧KZ l n (minus inb i k):=by
 obtain⟨m,h1,h2⟩:=h;obtain⟨k,hk⟩:=Option.isSome_iff_exists.1 (h2 i hi bi);obtain⟨k1,k2,k3,k4,k5⟩:=h1 i k hk;obtain⟨j1,_,j3,j4,_⟩:=h1 k i k2;have hik:i<k:=by
  rcases Nat.lt_trichotomy i k with h|h|h
  ·exact h
  ·exact absurd h k5
  ·rw[hfirst k h]at j3;cases j3
 refine⟨k,hik,j4,j3,k1,fun x=>if x=i∨x=k then none else m x,?_,?_⟩
 ·intro a b hab;simp only at hab ⊢;split at hab
  ·cases hab
  ·rename_i e;obtain⟨g1,g2,g3,g4,g5⟩:=h1 a b hab;have be:¬(b=i∨b=k):=by
    rintro(rfl|rfl)
    ·rw[hk]at g2;exact e (.inr (Option.some.inj g2).symm)
    ·rw[k2]at g2;exact e (.inl (Option.some.inj g2).symm)
   refine⟨g1,by rw[if_neg be];exact g2,?_,g4,g5⟩;unfold minus;have e1:a≠i:=fun h=>e (.inl h);have e2:a≠k:=fun h=>e (.inr h);simp[g3,e1,e2]
 ·intro x hx hb;unfold minus at hb;simp only[Bool.and_eq_true,Bool.not_eq_true',beq_eq_false_iff_ne,ne_eq]at hb;simp only;rw[if_neg (by rintro(h|h);exact hb.2.1 h;exact hb.2.2 h)];exact h2 x hx hb.1
theorem cnt_minus {n:Nat}{inb:Nat→Bool}{i k:Nat}(hi:i<n)(hk:k<n)(hik:i≠k)(bi:inb i=true)(bk:inb k=true):cnt n (minus inb i k)+2=cnt n inb:=by have h:=cnt_two hi hk hik (p:=inb) (q:=minus inb i k) bi bk (by unfold minus;simp) (by unfold minus;simp) (fun x h1 h2=>by unfold minus;simp[h1,h2]);omega
theorem perf_pf {q:St}{pos:Nat}(en:En q.atoms.length q.bonds pos):Jg q↔KZ (AU q q.bonds) q.atoms.length (Bj q):=by
 have E:=Fq en;constructor
 ·rintro⟨m,M,hall⟩;refine⟨m,⟨fun a b hab=>?_,hall⟩⟩;have hadj:Dy (AU q q.bonds) a b=true:=M.adj a b hab;have hlt:a<q.atoms.length∧a≠b:=by
   rcases EK.1 hadj with h|h
   ·have:=E _ h;exact⟨this.1,this.2.2⟩
   ·have:=E _ h;exact⟨this.2.1,Ne.symm this.2.2⟩
  exact⟨hadj,M.back a b hab,(JY a b hadj).1,hlt.1,hlt.2⟩
 ·rintro⟨m,h1,h2⟩;exact⟨m,⟨fun a b hab=>(h1 a b hab).1,fun a b hab=>(h1 a b hab).2.1⟩,h2⟩
end Go.Proofs.YtcabaecbmkgclaaGreatDoor.Kd
namespace Go.Proofs.YtcabaecbmkgclaaGreatDoor.Kd
open Go.RowKit Bz Mt Mg Rf
def Ja (n:Nat)(u:Nat→Bool):List Value:=(List.range n).map fun x=>Value.bool (u x)
theorem blCells_get {n:Nat}{u:Nat→Bool}{j:Nat}{v:Value}(h:(Ja n u)[j]? =some v):j<n∧v=.bool (u j):=by
 unfold Ja at h;rw[List.getElem?_map]at h;by_cases hj:j<n
 ·rw[List.getElem?_range hj]at h;exact⟨hj,(Option.some.inj h).symm⟩
 ·rw[List.getElem?_eq_none (by simpa using hj)]at h;cases h
theorem Bls.of {w:World}{base n:Nat}{a:Option Addr}{c:Nat}{u:Nat→Bool}(hn:0<n)(h:w.ownsRow base 4 1 (.slice a n c) n (Ja n u)):∃g,a=some ⟨g,0,none⟩∧base≤g∧g<w.heap.size∧Bls w g n u:=by obtain⟨g,cap,e,h1,h2,hc,hf⟩:=Ap h hn;simp only[Value.slice.injEq,true_and]at e;obtain⟨rfl,rfl⟩:=e;refine⟨g,rfl,h1,h2,fun x hx=>?_,fun i=>h.frozenAt i⟩;rw[hc x (by omega)];unfold Ja;rw[List.getElem?_map,List.getElem?_range hx];rfl
theorem minus_set (inb:Nat→Bool)(i k:Nat):setAt (setAt inb i false) k false=minus inb i k:=by
 funext x;unfold setAt minus;by_cases h1:x=k
 ·simp[h1]
 ·by_cases h2:x=i<;>simp[h1,h2]
def PfPost (l:List (Nat×Nat))(n:Nat)(inb:Nat→Bool)(w:World)(e:Ending)(w':World):Prop:=∃b:Bool,e=.returned (.bool b)∧(b=true↔KZ l n inb)∧Below w.heap.size w w'
theorem perfect_any {l:List (Nat×Nat)}(hl:l.length≤1000000000000000)(c:Nat):∀(w:World)(U n cap:Nat)(inb:Nat→Bool)(v:Value),Bls w U n inb→0<n→n≤24→NPr w v l→cnt n inb≤c→
  Calls Tryz.prog 78 #[.slice (some ⟨U,0,none⟩) n cap,v] w (PfPost l n inb w):=by
 induction c with
 |zero=>
  intro w U n cap inb v hB hn hn24 hN hc;have hz:∀j,j<n→inb j=false:=fun j hj=>cnt_zero (by omega) j hj;have HZ:Hid (∀j,j<n→inb j=false):=hz;have HBL:Hid (Bls w U n inb):=hB;clear hB hN hz;go_enter Tryz.func78,Tryz.ntmps78
  go_wp2_with fail;go_loopg [5] (n+1) (fun g v5 wr=>∃i:Nat,i≤n∧n-i<g∧v5=.int .i64 (i:Int)∧w=wr)
  case atStart=>exact⟨0,by omega,by omega,rfl,rfl⟩
  case round=>
   obtain⟨i,hi,hg,rfl,rfl⟩:=hrel;by_cases hlt:i<n
   ·have hlt':(i:Int)<(n:Int):=by omega
    have ci:=HBL.out.cell i hlt;rw[HZ.out i hlt]at ci;go_wp2_with fail;go_roundg (n-i)
    case measure=>omega
    case rel=>exact⟨i+1,by omega,by omega,by go_num,rfl⟩
   ·have hlt':¬(i:Int)<(n:Int):=by omega
    go_wp2_with fail;go_ret
    exact⟨true,rfl,⟨fun _=>pf_none HZ.out,fun _=>rfl⟩,Below.refl _ _⟩
 |succ c ih=>
  intro w U n cap inb v hB hn hn24 hN hc;obtain⟨b0,hb0,hbz0,hbz1,hbz2⟩:=info_parts Rf.Tryz.FC;have HBL:Hid (Bls w U n inb):=hB;have HN:Hid (NPr w v l):=hN;have HIH:Hid (∀(w:World)(U n cap:Nat)(inb:Nat→Bool)(v:Value),Bls w U n inb→0<n→n≤24→NPr w v l→cnt n inb≤c→
   Calls Tryz.prog 78 #[.slice (some ⟨U,0,none⟩) n cap,v] w (PfPost l n inb w)):=ih
  have HC:Hid (cnt n inb≤c+1):=hc;clear hB hN ih hc;go_enter Tryz.func78,Tryz.ntmps78
  go_wp2_with fail;go_loopg [5] (n+1) (fun g v5 wr=>∃i:Nat,i≤n∧n-i<g∧v5=.int .i64 (i:Int)∧w=wr∧∀j,j<i→inb j=false)
  case atStart=>exact⟨0,by omega,by omega,rfl,rfl,fun j hj=>by omega⟩
  case round=>
   obtain⟨i,hi,hg,rfl,rfl,hno⟩:=hrel;have HNO:Hid (∀j,j<i→inb j=false):=hno;clear hno;by_cases hlt:i<n
   ·have hlt':(i:Int)<(n:Int):=by omega
    have ci:=HBL.out.cell i hlt;cases hbi:inb i with
    |false=>
     rw[hbi]at ci;have HBI:Hid (inb i=false):=hbi;clear hbi;go_wp2_with fail;go_roundg (n-i)
     case measure=>omega
     case rel=>
      refine⟨i+1,by omega,by omega,by go_num,rfl,fun j hj=>?_⟩;by_cases e:j=i
      ·rw[e];exact HBI.out
      ·exact HNO.out j (by omega)
    |true=>
     rw[hbi]at ci;have HBI:Hid (inb i=true):=hbi;clear hbi;go_wp2_with fail;go_loopg [6] (n+1) (fun g v6 wr=>∃k:Nat,i<k∧k≤n∧n-k<g∧v6=.int .i64 (k:Int)∧Below w.heap.size w wr∧∀k',i<k'→k'<k→inb k'=true→Dy l i k'=true→¬KZ l n (minus inb i k'))
     case atStart=>exact⟨i+1,by omega,by omega,by omega,by go_num,Below.refl _ _,fun k' h1 h2=>by omega⟩
     case round=>
      obtain⟨k,hik,hk,hg2,rfl,hb,htr⟩:=hrel;have HB:Hid (Below w.heap.size w wr):=hb;have HTR:Hid (∀k',i<k'→k'<k→inb k'=true→Dy l i k'=true→¬KZ l n (minus inb i k')):=htr;have HBW:Hid (Bls wr U n inb):=HBL.out.below hn hb;have HNW:Hid (NPr wr v l):=HN.out.below hb;clear hb htr ci;by_cases hkt:k<n
      ·have hkt':(k:Int)<(n:Int):=by omega
       have ck:=HBW.out.cell k hkt;have next:Hid ((inb k=true→Dy l i k=true→¬KZ l n (minus inb i k))→∀k',i<k'→k'<k+1→inb k'=true→Dy l i k'=true→¬KZ l n (minus inb i k')):=fun h k' h1 h2 h3 h4=>by
        by_cases e:k'=k
        ·subst e;exact h h3 h4
        ·exact HTR.out k' h1 (by omega) h3 h4
       cases hbk:inb k with
       |false=>
        rw[hbk]at ck;have HBK:Hid (inb k=false):=hbk;clear hbk;go_wp2_with fail;go_roundg (n-k)
        case measure=>omega
        case rel=>exact⟨k+1,by omega,by omega,by omega,by go_num,HB.out,next.out fun h=>by rw[HBK.out]at h;cases h⟩
       |true=>
        rw[hbk]at ck;have HBK:Hid (inb k=true):=hbk;have RE:=L8 wr HNW.out i k hl;clear hbk;go_wp2_with fail;refine RE.mono ?_;rintro e w5 ⟨rfl,rfl⟩;clear RE;cases hadj:Dy l i k with
        |false=>
         have HAD:Hid (Dy l i k=false):=hadj;clear hadj;go_wp2_with fail;go_roundg (n-k)
         case measure=>omega
         case rel=>exact⟨k+1,by omega,by omega,by omega,by go_num,HB.out,next.out fun _ h=>by rw[HAD.out]at h;cases h⟩
        |true=>
         have HAD:Hid (Dy l i k=true):=hadj;clear hadj;go_wp2_with (at_builtin;go_must (refine Ad rfl (.tmp 41) (.tmp 42) 129 rfl w5.heap.size 4 b0 (.bool false) 1 1 Tryz.underlying129 hb0 hbz0 hbz1 hbz2 rfl (by decide) (.slice none 0 0) 0 [] rfl (World.ownsRow_nil w5 _ _ _) ⟨U,0,none⟩ n cap (Ja n inb) rfl ?d1 ?d2 ?d6 ?d3 ?d4 ?d5 ?_))
         case d1=>simp[Ja]
         case d2=>intro j u hj;obtain⟨h1,rfl⟩:=blCells_get hj;rw[Addr.add_lit,Nat.zero_add];exact HBW.out.cell j h1
         case d6=>intro u hu;unfold Ja at hu;obtain⟨x,_,rfl⟩:=List.mem_map.1 hu;rfl
         case d3=>unfold maxLen;omega
         case d4=>omega
         case d5=>exact Nat.le_refl _
         intro v1 w6 ho6 hg6 hk6;obtain⟨a6,c6,hv6⟩:=ownsRow_shape ho6;subst hv6;have hb6:Below w5.heap.size w5 w6:=(Below.refl _ _).grown hg6 (Nat.le_refl _) (by intro k hk;simp[Value.ownBlock]at hk);obtain⟨g,eg,hg5,hg6',B6⟩:=Bls.of hn (by simpa using ho6);subst eg;have B7:=(B6.set hlt false).set hkt false;rw[minus_set]at B7;have hb7:Below w5.heap.size w5 ((w6.setCell ⟨g,i,none⟩ (.bool false)).setCell ⟨g,k,none⟩ (.bool false)):=(hb6.setCell (p:=⟨g,i,none⟩) hg5 _).setCell (p:=⟨g,k,none⟩) hg5 _;have CA:=HIH.out _ g n c6 (minus inb i k) v B7 hn hn24 (HNW.out.below hb7) (by have:=cnt_minus hlt hkt (by omega) HBI.out HBK.out;have:=HC.out;omega);have q0:=B6.cell i hlt;have q1:=B6.free i;have q2:=(B6.set hlt false).cell k hkt;have q3:=(B6.set hlt false).free k;have HB7:Hid (_):=HB.out.trans (hb7.mono HB.out.size);clear ho6 hg6 hk6 hb6 hb7 B6 B7;go_wp2_with fail;refine CA.mono ?_;clear CA;rintro e w8 ⟨b,rfl,hbb,hb8⟩;have HB8:Hid (Below w.heap.size w w8):=HB7.out.trans (hb8.mono HB7.out.size);have HBB:Hid (b=true↔KZ l n (minus inb i k)):=hbb;clear hb8 hbb q0 q1 q2 q3;cases b with
         |true=>
          have HY:Hid (KZ l n inb):=pf_add hlt hkt (by omega) HBI.out HBK.out HAD.out (HBB.out.1 rfl);go_wp2_with fail;go_ret
          exact⟨true,rfl,⟨fun _=>HY.out,fun _=>rfl⟩,HB8.out⟩
         |false=>
          have HN':Hid (¬KZ l n (minus inb i k)):=fun h=>by have:=HBB.out.2 h;cases this
          go_wp2_with fail;go_roundg (n-k)
          case measure=>omega
          case rel=>exact⟨k+1,by omega,by omega,by omega,by go_num,HB8.out,next.out fun _ _=>HN'.out⟩
      ·have hkt':¬(k:Int)<(n:Int):=by omega
       have HF:Hid (¬KZ l n inb):=fun h=>by obtain⟨k',h1,h2,h3,h4,h5⟩:=pf_take hlt HBI.out HNO.out h;exact HTR.out k' h1 (by omega) h3 h4 h5
       go_wp2_with fail;go_ret
       exact⟨false,rfl,⟨fun h=>(by cases h),fun h=>absurd h HF.out⟩,HB.out⟩
   ·have hlt':¬(i:Int)<(n:Int):=by omega
    have HZ:Hid (KZ l n inb):=pf_none fun j hj=>HNO.out j (by omega);go_wp2_with fail;go_ret
    exact⟨true,rfl,⟨fun _=>HZ.out,fun _=>rfl⟩,Below.refl _ _⟩
end Go.Proofs.YtcabaecbmkgclaaGreatDoor.Kd
namespace Go.Proofs.YtcabaecbmkgclaaGreatDoor.Kd
open Go.RowKit Bz Mt Mg Rf Bu Cp
def rgB (n:Nat):ByteArray:=if n<10 then⟨#[(48+n).toUInt8]⟩else⟨#[37,(48+n / 10).toUInt8,(48+n%10).toUInt8]⟩
def Nu (ats:List Atm)(l:List Bnd):St:=⟨0,ats,l,fun _=>none⟩
end Go.Proofs.YtcabaecbmkgclaaGreatDoor.Kd
namespace Go.Proofs.YtcabaecbmkgclaaGreatDoor.Kd
open Go.RowKit Bz Mt Mg Rf
theorem Nv (n:Nat)(hn:n<10):(⟨#[48,49,50,51,52,53,54,55,56,57]⟩:ByteArray).extract n (n+1)=⟨#[(48+n).toUInt8]⟩:=by
 match n,hn with
 |0,_=>rfl
 |1,_=>rfl
 |2,_=>rfl
 |3,_=>rfl
 |4,_=>rfl
 |5,_=>rfl
 |6,_=>rfl
 |7,_=>rfl
 |8,_=>rfl
 |9,_=>rfl
theorem ring_any (w:World)(n:Nat)(hn:n<100):Calls Tryz.prog 13 #[.int .i64 (n:Int)] w fun e w'=>e=.returned (.string (rgB n))∧Below w.heap.size w w':=by
 by_cases h:n<10
 ·have h':(n:Int)<10:=by omega
  have HR:Hid (rgB n=(⟨#[48,49,50,51,52,53,54,55,56,57]⟩:ByteArray).extract n (n+1)):=by show _=_;unfold rgB;rw[if_pos h,Nv n h]
  go_enter Tryz.func13,Tryz.ntmps13
  go_wp2_with fail;go_ret
  exact⟨by rw[HR.out];rfl,Below.refl _ _⟩
 ·have h':¬(n:Int)<10:=by omega
  obtain⟨a,ha⟩:∃a,n / 10=a:=⟨_,rfl⟩
  obtain⟨b,hb⟩:∃b,n%10=b:=⟨_,rfl⟩
  have ha1:a<10:=by omega
  have hb1:b<10:=by omega
  have q1:Int.tdiv (n:Int) 10=(a:Int):=by rw[←ha];rfl
  have q2:Int.tmod (n:Int) 10=(b:Int):=by rw[←hb];rfl
  have HR:Hid (rgB n=⟨#[37]⟩++(⟨#[48,49,50,51,52,53,54,55,56,57]⟩:ByteArray).extract a (a+1)++(⟨#[48,49,50,51,52,53,54,55,56,57]⟩:ByteArray).extract b (b+1)):=by show _=_;unfold rgB;rw[if_neg h,Nv a ha1,Nv b hb1,ha,hb];rfl
  clear ha hb;go_enter Tryz.func13,Tryz.ntmps13
  go_wp2_with fail;go_quiet (fail)
  go_wp2_with fail;go_ret
  exact⟨by rw[HR.out];rfl,below_drewNm _ _⟩
structure KkOut (q:St)(w:World)(e:Ending)(w':World)(vd:Nat)(oo:Option Addr)(on oc:Nat)(tx:ByteArray)(co:Option Addr)(cn cc:Nat)(po:Option Addr)(pn pc:Nat)(uo:Option Addr)(un uc:Nat):Prop where
 he:e=.returned (.tuple #[.agg #[.int .i64 (vd:Int),.slice oo on oc,.string tx,.slice co cn cc,.slice po pn pc,.slice uo un uc],.int .i64 0,.int .i64 0])
 ver:(vd=1∧Jg q∧on=q.bonds.length)∨(vd=2∧¬Jg q)
 hb:Below w.heap.size w w'
theorem KkGood.out {s:ByteArray}{w:World}{e:Ending}{w':World}{q:St}{mate:Nat→Option Nat}{f:Fo}{gh:Gh}(h:KkGood s w e w' q mate f gh):∃vd oo on oc tx co cn cc po pn pc uo un uc,KkOut q w e w' vd oo on oc tx co cn cc po pn pc uo un uc:=by
 have hn:q.atoms.length≤24:=h.ho.atoms;have hpf:=perf_iff h.en hn h.best;rcases h.case with⟨hlow,pv,uv,hK⟩|⟨hlow,ov,cv,hK⟩
 ·obtain⟨he,hp,hu,hb4⟩:=hK;obtain⟨po,pc,rfl⟩:=ownsRow_shape hp;obtain⟨uo,uc,rfl⟩:=hu.shape;exact⟨2,none,0,0,⟨#[]⟩,none,0,0,po,_,pc,uo,_,uc,he,.inr ⟨rfl,fun k=>absurd hlow (hpf.2 k)⟩,hb4⟩
 ·obtain⟨he,ho,hcv,_,hb4⟩:=hK;obtain⟨oo,oc,rfl⟩:=ho.shape;obtain⟨co,cc,rfl⟩:=hcv.shape;exact⟨1,oo,_,oc,_,co,_,cc,none,0,0,none,0,0,he,.inl ⟨rfl,hpf.1 hlow,List.length_map ..⟩,hb4⟩
structure RBx (Y:Nat)(vd ov:Value)(W:World):Prop where
 r0:W.cell? ⟨Y,0,none⟩=some vd
 r1:W.cell? ⟨Y,1,none⟩=some ov
 lt:Y<W.heap.size
theorem RBx.new (w:World)(a b c d e f:Value):RBx w.heap.size a b (w.alloc (.cells #[a,b,c,d,e,f] 31)):=⟨by simp,by simp,by simp⟩
theorem RBx.on {Y:Nat}{vd ov:Value}{W W':World}(h:RBx Y vd ov W)(hb:Below W.heap.size W W'):RBx Y vd ov W':=
 ⟨(hb.cell h.lt).trans h.r0,(hb.cell h.lt).trans h.r1,Nat.lt_of_lt_of_le h.lt hb.size⟩
theorem RBx.grow {Y:Nat}{vd ov:Value}{W:World}(h:RBx Y vd ov W)(o:Obj):RBx Y vd ov (W.alloc o):=h.on ((Below.refl _ W).alloc (Nat.le_refl _) o)
end Go.Proofs.YtcabaecbmkgclaaGreatDoor.Kd
