import Derived.Test.YtcabaecbmkgclaaGreatDoorP34
import Derived.Test.YtcabaecbmkgclaaGreatDoorP47
set_option maxHeartbeats 8000000
set_option maxRecDepth 100000
namespace Go.Proofs.YtcabaecbmkgclaaGreatDoor.Kd
open Go.RowKit Bz Mt Mg Rf
theorem F5 {w w':World}{base:Nat}{t:TypeId}{sz:Nat}{v:Value}{n:Nat}{xs:List Value}(h:w.ownsRow base t sz v n xs)(hb:Below w.heap.size w w'):w'.ownsRow base t sz v n xs:=AL h fun k hk=>hb.block k (h.lt k hk).2
theorem mol_ok {s:ByteArray}{ats:List Atm}{l:List Bnd}(hp:Bz.parse s=.ok (ats,l)):Lc (Nu ats l):=by
 have hp0:=hp;obtain⟨hs,en⟩:=QQ hp;obtain⟨p,c⟩:=came hp;obtain⟨_,g1⟩:=F4 _ _ _ _ c.run (lx0 s).lx;obtain⟨na,ha1,ha2⟩:=g1.ats;have ha0:p.atoms=na:=by rw[ha1];rfl
 have hch:∀a∈ats,a.ch=0∨a.ch=1∨a.ch= -1:=by
  intro a ha;rw[c.atoms]at ha;obtain⟨i,hi,e⟩:=List.getElem_of_mem ha;rw[List.getElem_mapIdx]at e;have h3:=(ha2 (p.atoms[i]'(by simpa using hi)) (by rw[←ha0];exact List.getElem_mem _)).c3;rw[←e];unfold AO;split
  ·exact h3
  ·exact h3
 rw[O4 s hs]at hp;cases hq:FU s with
 |error e=>rw[hq]at hp;cases hp
 |ok q=>rw[hq]at hp;simp only[Except.map,Except.ok.injEq,Prod.mk.injEq]at hp;obtain⟨o,h0⟩:=PM hs hq;have hpos:=o.pos;have hbn:=o.bonds;obtain⟨e1,e2⟩:=hp;subst e1 e2;exact⟨h0,o.atoms,(by show q.bonds.length≤160;omega),en.ends,o.ords,hch,o.hys,o.aros⟩
theorem wrR_len (d:Nat→Bool):∀(t:List UInt8)(x:Nat),(wrR d t x).length≤2*t.length
 |[],x=>by rw[wrR];exact Nat.le_refl _
 |c::t,x=>by
  rw[wrR,List.length_append,List.length_append,List.length_cons];have h1:=wrR_len d t (x+1);have h2:(if d x then [(61:UInt8)]else []).length≤1:=by split<;>simp
  have h3:(capU c).length≤1:=by unfold capU;split;exact Nat.zero_le _;split<;>exact Nat.le_refl _
  omega
theorem wrL_len {s:ByteArray}{q:St}{mate:Nat→Option Nat}{f:Fo}{gh:Gh}(S:Set4 s q mate f gh):(wrL s.data.toList q.bonds (Nw q mate)).length≤2*s.size:=by unfold wrL;rw[zip_map,Om _ _ q.bonds 0 S.en.rise fun b hb=>⟨Nat.zero_le _,by have:=S.en.plt b hb;simpa using this⟩];have:=wrR_len (dOf q.bonds (inP (AQ q.atoms.length mate))) (s.data.toList.drop 0) 0;simpa using this
structure KS (N:Nat)(w:World)(B:Nat)(l l':List Sl)(d:Nat)(Y:Nat)(cs:List Value)(L:List (Value×TypeId×Nat))(W:World):Prop where
 bk:BO N W B l'
 len:l'.length≤l.length+d
 fr:BFr w W B
 y:C4 Y cs W
 yb:Y≠B
 yr:∀bv,W.cell? ⟨B,0,none⟩=some bv→bv.ownBlock≠some Y
 rows:∀r∈L,∃n xs,n≤900∧W.ownsRow w.heap.size r.2.1 r.2.2 r.1 n xs
 far:∀r∈L,∀k,r.1.ownBlock=some k→(∀x∈l',¬x.has k)∧k≠B∧(∀bv,W.cell? ⟨B,0,none⟩=some bv→bv.ownBlock≠some k)∧k≠Y
 apart:L.Pairwise fun r r'=>∀k,r.1.ownBlock=some k→r'.1.ownBlock≠some k
theorem KS.start {N:Nat}{w W:World}{B:Nat}{l:List Sl}(h:BO N w B l)(hb:Below w.heap.size w W){Y:Nat}{cs:List Value}(hy:C4 Y cs W)(hY:w.heap.size≤Y){L:List (Value×TypeId×Nat)}(rows:∀r∈L,∃n xs,n≤900∧W.ownsRow w.heap.size r.2.1 r.2.2 r.1 n xs)(hlt:∀r∈L,∀k,r.1.ownBlock=some k→k≠Y)(ap:L.Pairwise fun r r'=>∀k,r.1.ownBlock=some k→r'.1.ownBlock≠some k):KS N w B l l 0 Y cs L W:=by
 have hB:B<w.heap.size:=by obtain⟨_,_,_,_,hlt,_,_⟩:=h.at;exact hlt
 have hrow:∀bv,W.cell? ⟨B,0,none⟩=some bv→∀k,bv.ownBlock=some k→k<w.heap.size:=by intro bv hbv k hk;rw[hb.cell (p:=⟨B,0,none⟩) hB]at hbv;exact((h.row hbv).2.lt k hk).2
 refine⟨h.below hb,by omega,BFr.of_below hb hB,hy,by omega,fun bv hbv e=>by have:=hrow bv hbv Y e;omega,rows,fun r hr k hk=>?_,ap⟩;obtain⟨n,xs,_,ho⟩:=rows r hr;have h1:=(ho.lt k hk).1;exact⟨fun x hx hh=>by have:=(h.ok x hx).lt hh;omega,by omega,(fun bv hbv e=>by have:=hrow bv hbv k e;omega),hlt r hr k hk⟩
theorem KS.step {N:Nat}{w:World}{B:Nat}{l l':List Sl}{d:Nat}{Y:Nat}{cs:List Value}{v:Value}{t:TypeId}{sz:Nat}{L:List (Value×TypeId×Nat)}{W W':World}{e:Ending}(h:KS N w B l l' d Y cs ((v,t,sz)::L) W)(hk:KeepPost N W B l' v e W'):e=.returned (.tuple #[])∧∃l2,KS N w B l l2 (d+1) Y cs L W':=by
 obtain⟨he,⟨x,hbk,hx⟩,hf⟩:=hk;obtain⟨n,xs,_,hv⟩:=h.rows (v,t,sz) (by simp);have hap:=List.pairwise_cons.1 h.apart;have hYl:=h.y.lt;have hYv:v.ownBlock≠some Y:=fun e=>(h.far (v,t,sz) (by simp) Y e).2.2.2 rfl;have hYb:W'.heap[Y]? =W.heap[Y]? :=hf.block Y hYl h.yb h.yr hYv;refine⟨he,l'++[x],hbk,by have:=h.len;simp;omega,h.fr.keep hf fun i hi=>(hv.lt i hi).1,⟨fun j u hj=>(World.cell?_of_block (a:=⟨Y,j,none⟩) hYb).trans (h.y.c j u hj),Nat.lt_of_lt_of_le hYl hf.size⟩,h.yb,?_,?_,?_,hap.2⟩
 ·intro bv hbv e;obtain⟨bv0,h0,e0⟩:=hf.row bv hbv Y e hYl;exact h.yr bv0 h0 e0
 ·intro r hr;obtain⟨n',xs',hn',ho⟩:=h.rows r (by simp[hr]);refine⟨n',xs',hn',AL ho fun k hk=>?_⟩;obtain⟨_,f2,f3,_⟩:=h.far r (by simp[hr]) k hk;exact hf.block k (ho.lt k hk).2 f2 f3 fun e=>hap.1 r hr k e hk
 ·intro r hr k hk;obtain⟨n',xs',_,ho⟩:=h.rows r (by simp[hr]);obtain⟨f1,f2,f3,f4⟩:=h.far r (by simp[hr]) k hk;have hlt:=(ho.lt k hk).2;refine⟨fun y hy hh=>?_,f2,fun bv hbv e=>?_,f4⟩
  ·rcases List.mem_append.1 hy with hy|hy
   ·exact f1 y hy hh
   ·rw[List.mem_singleton]at hy;subst hy;rcases hx k hh with e|e
    ·exact hap.1 r hr k e hk
    ·omega
  ·obtain⟨bv0,h0,e0⟩:=hf.row bv hbv k e hlt;exact f3 bv0 h0 e0
theorem KS.ints {N:Nat}{w:World}{B:Nat}{l l':List Sl}{d:Nat}{Y:Nat}{cs:List Value}{v:Value}{L:List (Value×TypeId×Nat)}{W:World}(h:KS N w B l l' d Y cs ((v,3,1)::L) W)(hl:l'.length≤9000000):Calls Tryz.prog 50 #[.pointer (some ⟨B,0,none⟩),v] W fun e W'=>e=.returned (.tuple #[])∧∃l2,KS N w B l l2 (d+1) Y cs L W':=by obtain⟨n,xs,hn,hv⟩:=h.rows (v,3,1) (by simp);exact(keepN_any h.bk hl hv hn h.fr.size fun k hk=>(h.far (v,3,1) (by simp) k hk).1).mono fun e W' hk=>h.step hk
theorem KS.pairs {N:Nat}{w:World}{B:Nat}{l l':List Sl}{d:Nat}{Y:Nat}{cs:List Value}{v:Value}{L:List (Value×TypeId×Nat)}{W:World}(h:KS N w B l l' d Y cs ((v,48,2)::L) W)(hl:l'.length≤9000000):Calls Tryz.prog 49 #[.pointer (some ⟨B,0,none⟩),v] W fun e W'=>e=.returned (.tuple #[])∧∃l2,KS N w B l l2 (d+1) Y cs L W':=by obtain⟨n,xs,hn,hv⟩:=h.rows (v,48,2) (by simp);exact(keepP_any h.bk hl hv hn h.fr.size fun k hk=>(h.far (v,48,2) (by simp) k hk).1).mono fun e W' hk=>h.step hk
structure KkBar2 (q:St)(w:World)(e:Ending)(w':World)(mate:Nat→Option Nat)(f:Fo)(gh:Gh)(po:Option Addr)(pc:Nat)(uo:Option Addr)(uc:Nat):Prop where
 best:Ie (grL q.atoms.length (AU q q.bonds)) mate f gh
 he:e=.returned (.tuple #[.agg #[.int .i64 2,.slice none 0 0,.string ⟨#[]⟩,.slice none 0 0,.slice po (AQ q.atoms.length mate).length pc,.slice uo (Dj q.atoms.length f).length uc],.int .i64 0,.int .i64 0])
 hp:Prs w' w.heap.size (.slice po (AQ q.atoms.length mate).length pc) (AQ q.atoms.length mate)
 hu:Ints w' w.heap.size (.slice uo (Dj q.atoms.length f).length uc) (Dj q.atoms.length f)
 hb:Below w.heap.size w w'
structure KkSet2 (s:ByteArray)(q:St)(w:World)(e:Ending)(w':World)(mate:Nat→Option Nat)(f:Fo)(gh:Gh)(oo:Option Addr)(oc:Nat)(co:Option Addr)(cc:Nat):Prop where
 k:KkSet s q w e w' mate f gh oo oc co cc
 ne:∀k,(Value.slice oo q.bonds.length oc).ownBlock=some k→(Value.slice co q.atoms.length cc).ownBlock≠some k
theorem kk_which2 {s:ByteArray}{ats:List Atm}{l:List Bnd}(hs:s.size≤maxLen)(hp:Bz.parse s=.ok (ats,l)):
  (¬Jg (Nu ats l)∧∀W,Calls Tryz.prog 14 #[.string s] W fun e w'=>∃mate f gh po pc uo uc,KkBar2 (Nu ats l) W e w' mate f gh po pc uo uc)∨
  (Jg (Nu ats l)∧∀W,Calls Tryz.prog 14 #[.string s] W fun e w'=>∃mate f gh oo oc co cc,KkSet2 s (Nu ats l) W e w' mate f gh oo oc co cc):=by
 have key:∀(W:World)(e:Ending)(w':World),QV s W e w'→(¬Jg (Nu ats l)∧∃mate f gh po pc uo uc,KkBar2 (Nu ats l) W e w' mate f gh po pc uo uc)∨(Jg (Nu ats l)∧∃mate f gh oo oc co cc,KkSet2 s (Nu ats l) W e w' mate f gh oo oc co cc):=by
  intro W e w' h;rcases h with⟨er,h,_⟩|⟨q,mate,f,gh,h⟩
  ·rw[hp]at h;cases h
  have hpq:=h.h;rw[hp]at hpq;simp only[Except.ok.injEq,Prod.mk.injEq]at hpq;have hpf:=perf_iff h.en h.ho.atoms h.best;obtain⟨pos,atoms,bonds,rings⟩:=q;simp only at hpq;obtain⟨rfl,rfl⟩:=hpq;have epf:Jg ⟨pos,ats,l,rings⟩↔Jg (Nu ats l):=Iff.rfl;rcases h.case with⟨hlow,pv,uv,hK⟩|⟨hlow,ov,cv,hK⟩
  ·obtain⟨he,hpp,hu,hb4⟩:=hK;obtain⟨po,pc,rfl⟩:=ownsRow_shape hpp;obtain⟨uo,uc,rfl⟩:=hu.shape;exact .inl ⟨fun k=>absurd hlow (hpf.2 (epf.2 k)),mate,f,gh,po,pc,uo,uc,h.best,he,hpp,hu,hb4⟩
  ·obtain⟨he,ho,hcv,hne,hb4⟩:=hK;obtain⟨oo,oc,rfl⟩:=ho.shape;obtain⟨co,cc,rfl⟩:=hcv.shape;have e1:(l.map (D4 (AQ ats.length mate))).length=l.length:=List.length_map ..;have e2:(List.range ats.length).length=ats.length:=List.length_range;simp only at ho he hcv hne;rw[e1]at ho he hne;rw[e2]at hcv he hne;exact .inr ⟨epf.1 (hpf.1 hlow),mate,f,gh,oo,oc,co,cc,⟨⟨h.h,h.en,h.ho.atoms,h.ho.ords,h.best,hlow⟩,he,ho,hcv,hb4⟩,hne⟩
 by_cases hP:Jg (Nu ats l)
 ·refine .inr ⟨hP,fun W=>(JZ s W hs).mono fun e w' h=>?_⟩;rcases key W e w' h with⟨h1,_⟩|⟨_,h2⟩
  ·exact absurd hP h1
  ·exact h2
 ·refine .inl ⟨hP,fun W=>(JZ s W hs).mono fun e w' h=>?_⟩;rcases key W e w' h with⟨_,h2⟩|⟨h1,_⟩
  ·exact h2
  ·exact absurd h1 hP
theorem QV.err2 {s:ByteArray}{w:World}{e:Ending}{w':World}{er:Int×Int}(h:QV s w e w')(hp:Bz.parse s=.error er):e=.returned (.tuple #[.agg #[.int .i64 0,.slice none 0 0,.string ⟨#[]⟩,.slice none 0 0,.slice none 0 0,.slice none 0 0],.int .i64 er.1,.int .i64 er.2])∧er.1≠0∧Below w.heap.size w w':=by
 rcases h with⟨er',h,he,hn,hb⟩|⟨q,mate,f,gh,h⟩
 ·rw[hp]at h;cases h;exact⟨he,hn,hb⟩
 ·have:=h.h;rw[hp]at this;cases this
theorem book_lt {N:Nat}{w:World}{B:Nat}{l:List Sl}(h:BO N w B l):B<w.heap.size:=by obtain⟨_,_,_,_,hlt,_,_⟩:=h.at;exact hlt
theorem bset_bad {N:Nat}{w:World}{B:Nat}{l:List Sl}(h:BO N w B l)(s:ByteArray)(hs:s.size≤maxLen){er:Int×Int}(hp:Bz.parse s=.error er):
  Calls Tryz.prog 29 #[.pointer (some ⟨B,0,none⟩),.string s] w (EG N w B l 4):=by
 have HBK:Hid (BO N w B l):=h;have K:=(JZ s w hs).mono fun e w' k=>QV.err2 k hp;have P:=fun W=>(Hz s W).mono fun e w' k=>Di.err k hp;clear h hp;obtain⟨y1,y2⟩:=er;simp only at K P;go_enter Tryz.func29,Tryz.ntmps29
 go_wp2_with fail;refine K.mono ?_;clear K;rintro e w1 ⟨rfl,hne,hb1⟩;have Y1:=C4.new w1 [.int .i64 0,.slice none 0 0,.string ⟨#[]⟩,.slice none 0 0,.slice none 0 0,.slice none 0 0] 31;have HY1:Hid (_):=Y1;have HB1:Hid (_):=hb1.alloc hb1.size (.cells #[.int .i64 0,.slice none 0 0,.string ⟨#[]⟩,.slice none 0 0,.slice none 0 0,.slice none 0 0] 31);have hne':(y1 != 0)=true:=by simp[hne]
 clear Y1 hb1 hne;go_wp2_with fail;refine(P _).mono ?_;clear P;rintro e w2 ⟨rfl,hb2⟩;have Y2:=(HY1.out.on hb2).grow (.cells #[.slice none 0 0,.slice none 0 0] 39);have B2:=HB1.out.trans (hb2.mono HB1.out.size);have HB2:Hid (Below w.heap.size w (w2.alloc (.cells #[.slice none 0 0,.slice none 0 0] 39))):=B2.alloc B2.size _;have r0:=Y2.c 0 _ rfl;have r1:=Y2.c 1 _ rfl;have r2:=Y2.c 2 _ rfl;have r3:=Y2.c 3 _ rfl;have r4:=Y2.c 4 _ rfl;have r5:=Y2.c 5 _ rfl;clear hb2 Y2 B2 HY1 HB1;go_wp2_with fail;go_ret
 exact⟨rfl,⟨l,HBK.out.below HB2.out,by omega⟩,BFr.of_below HB2.out (book_lt HBK.out)⟩
theorem bset_bar {N:Nat}{w:World}{B:Nat}{l:List Sl}(h:BO N w B l)(hl:l.length≤8999990)(s:ByteArray){q:St}(hp:Bz.parse s=.ok (q.atoms,q.bonds))(ok:Lc q)(en:En q.atoms.length q.bonds s.size)(hP:¬Jg q)
  (K:∀W,Calls Tryz.prog 14 #[.string s] W fun e w'=>∃mate f gh po pc uo uc,KkBar2 q W e w' mate f gh po pc uo uc):
  Calls Tryz.prog 29 #[.pointer (some ⟨B,0,none⟩),.string s] w (EG N w B l 4):=by
 have HBK:Hid (BO N w B l):=h;have HOK:Hid (Lc q):=ok;have HEN:Hid (En q.atoms.length q.bonds s.size):=en;have HNP:Hid (¬Jg q):=hP;have P:=fun W=>(Hz s W).mono fun e w' k=>Di.fine k hp;clear h hp ok en hP;go_enter Tryz.func29,Tryz.ntmps29
 go_wp2_with fail;refine(K _).mono ?_;clear K;rintro e w1 ⟨mate,f,gh,po,pc,uo,uc,best,rfl,hpr,hu,hb1⟩;have HBE:Hid (_):=best;have HPR:Hid (_):=hpr;have HU:Hid (_):=hu;have HB1:Hid (_):=hb1;have hpl:(AQ q.atoms.length mate).length≤24:=Nat.le_trans (KL mate _) HOK.out.n24;have hul:(Dj q.atoms.length f).length≤24:=Nat.le_trans (G9 _ _) HOK.out.n24;clear best hpr hu hb1;obtain⟨PL,hPL⟩:∃PL,AQ q.atoms.length mate=PL:=⟨_,rfl⟩
 obtain⟨UL,hUL⟩:∃UL,Dj q.atoms.length f=UL:=⟨_,rfl⟩
 rw[hPL]at hpl HPR ⊢;rw[hUL]at hul HU ⊢;have HPL:Hid (_):=hPL;have HUL:Hid (_):=hUL;clear hPL hUL;have Y1:=C4.new w1 [.int .i64 2,.slice none 0 0,.string ⟨#[]⟩,.slice none 0 0,.slice po PL.length pc,.slice uo UL.length uc] 31;have HY1:Hid (_):=Y1;clear Y1;go_wp2_with fail;refine(P _).mono ?_;clear P;rintro e w2 ⟨ao,ac,bo,bc,rfl,hr1,hr2,hb2,_,_⟩;have Bp:=(Below.refl _ w2).alloc (Nat.le_refl _) (.cells #[.slice ao q.atoms.length ac,.slice bo q.bonds.length bc] 39);have Bt:=((Below.refl _ w1).alloc (Nat.le_refl _) (.cells #[.int .i64 2,.slice none 0 0,.string ⟨#[]⟩,.slice none 0 0,.slice po PL.length pc,.slice uo UL.length uc] 31)).trans (hb2.mono (by simp));have HY2:Hid (_):=(HY1.out.on hb2).grow (.cells #[.slice ao q.atoms.length ac,.slice bo q.bonds.length bc] 39);have HX2:Hid (_):=C4.new w2 [.slice ao q.atoms.length ac,.slice bo q.bonds.length bc] 39;have HRA:Hid (_):=F5 hr1 Bp;have HRB:Hid (_):=F5 hr2 Bp;have HPR2:Hid (_):=F5 HPR.out (Bt.trans (Bp.mono Bt.size));have HU2:Hid (_):=F5 HU.out (Bt.trans (Bp.mono Bt.size));have HB2:Hid (_):=HB1.out.trans ((Bt.trans (Bp.mono Bt.size)).mono HB1.out.size);have HYP:Hid (∀k,(Value.slice po PL.length pc).ownBlock=some k→k≠w1.heap.size):=fun k hk=>by have:=(HPR.out.lt k hk).2;omega
 have HYU:Hid (∀k,(Value.slice uo UL.length uc).ownBlock=some k→k≠w1.heap.size):=fun k hk=>by have:=(HU.out.lt k hk).2;omega
 have HYw:Hid (w.heap.size≤w1.heap.size):=HB1.out.size;clear HY1 HPR HU HB1 hr1 hr2 hb2 Bp Bt;go_upto_region 5 with fail
 generalize (w1.alloc (.cells #[.int .i64 2,.slice none 0 0,.string ⟨#[]⟩,.slice none 0 0,.slice po PL.length pc,.slice uo UL.length uc] 31)).heap.size=base at*;generalize w2.alloc (.cells #[.slice ao q.atoms.length ac,.slice bo q.bonds.length bc] 39)=W at*;generalize w1.heap.size=Y at*;generalize w2.heap.size=X at*;have r0:=HY2.out.c 0 _ rfl;have r1:=HY2.out.c 1 _ rfl;have r2:=HY2.out.c 2 _ rfl;have r3:=HY2.out.c 3 _ rfl;have r4:=HY2.out.c 4 _ rfl;have r5:=HY2.out.c 5 _ rfl;have x0:=HX2.out.c 0 _ rfl;have x1:=HX2.out.c 1 _ rfl;go_cut [11]from 38 to 47 (fun v11 wc=>∃b:Bool,v11=.bool b∧W=wc)
 case first=>
  by_cases hp0:PL.length=0
  ·have hp1:((PL.length:Int)==0)=true:=by rw[show(PL.length:Int)=0 by omega];rfl
   clear hp0;go_wp2_with fail;go_meet
   exact⟨_,rfl,rfl⟩
  ·have hp1:((PL.length:Int)==0)=false:=beq_false_of_ne (by omega);clear hp0;go_wp2_with fail;go_meet
   exact⟨_,rfl,rfl⟩
 case rest=>
  obtain⟨bq,rfl,hw⟩:=hcut;subst hw;have RK:=OW W HRA.out HRB.out HOK.out HEN.out;go_wp2_with fail;refine RK.mono ?_;clear RK;rintro e w3 ⟨b,rfl,hbb,hb3⟩;obtain rfl:b=false:=by
   cases b with
   |false=>rfl
   |true=>exact absurd (hbb.1 rfl) HNP.out
  have x0:=(HX2.out.on hb3).c 0 _ rfl;have x1:=(HX2.out.on hb3).c 1 _ rfl;have HB3:Hid (Below W.heap.size W w3):=hb3;have RC:=MB w3 (F5 HRA.out hb3) (F5 HRB.out hb3) HOK.out;clear hbb hb3 r0 r1 r2 r3 r4 r5;go_wp2_with fail;refine RC.mono ?_;clear RC;rintro e w4 ⟨U,eo,ec,rfl,hbl,hnp,hb4,_⟩;have HB4:Hid (Below W.heap.size W w4):=HB3.out.trans (hb4.mono HB3.out.size);have hUl:U<w4.heap.size:=World.block_lt_of_cell? w4 ⟨U,0,none⟩ (hbl.cell 0 HOK.out.n0);have hel:(AU q q.bonds).length≤1000000000000000:=by have:=HOK.out.l160;unfold AU;rw[List.length_map];exact Nat.le_trans (List.length_filter_le _ _) (by omega)
  have GR:=LZ w4 (ic:=q.atoms.length) hnp hbl hUl HOK.out.n24 (Fq HEN.out) hel (fun x y h=>JY x y h) HBE.out (by rw[HPL.out];exact(NPr.of HPR2.out).below HB4.out) (by rw[HUL.out];exact F5 HU2.out HB4.out);have r0:=(HY2.out.on HB4.out).c 0 _ rfl;have r4:=(HY2.out.on HB4.out).c 4 _ rfl;have r5:=(HY2.out.on HB4.out).c 5 _ rfl;have x0:=(HX2.out.on HB4.out).c 0 _ rfl;clear hbl hnp hb4 hUl hel HB3;go_wp2_with fail;refine GR.mono ?_;clear GR;rintro e w5 ⟨rfl,hb5⟩;have HB5:Hid (Below W.heap.size W w5):=HB4.out.trans (hb5.mono HB4.out.size);have KS0:KS N w B l l 0 Y [.int .i64 2,.slice none 0 0,.string ⟨#[]⟩,.slice none 0 0,.slice po PL.length pc,.slice uo UL.length uc] [(.slice none 0 0,3,1),(.slice none 0 0,3,1),(.slice po PL.length pc,48,2),(.slice uo UL.length uc,3,1)] w5:=by
   have OP:=F5 HPR2.out HB5.out;have OU:=F5 HU2.out HB5.out;refine KS.start HBK.out (HB2.out.trans (HB5.out.mono HB2.out.size)) (HY2.out.on HB5.out) HYw.out ?_ ?_ ?_
   ·intro r hr;simp only[List.mem_cons,List.mem_nil_iff,or_false]at hr;rcases hr with rfl|rfl|rfl|rfl
    ·exact⟨0,_,by omega,Ints.nil _ _⟩
    ·exact⟨0,_,by omega,Ints.nil _ _⟩
    ·exact⟨_,_,by omega,OP⟩
    ·exact⟨_,_,by omega,OU⟩
   ·intro r hr;simp only[List.mem_cons,List.mem_nil_iff,or_false]at hr;rcases hr with rfl|rfl|rfl|rfl
    ·intro k hk;cases hk
    ·intro k hk;cases hk
    ·exact HYP.out
    ·exact HYU.out
   ·refine .cons (fun r hr k hk=>by cases hk) (.cons (fun r hr k hk=>by cases hk) (.cons (fun r hr k hk e=>?_) (.cons (by simp) .nil)));rw[List.mem_singleton]at hr;subst hr;exact ownBlock_ne OP OU (by decide) k hk e
  have K1:=KS0.ints (by omega);have z1:=KS0.y.c 1 _ rfl;clear hb5 HB5 HB4 KS0 r0 r4 r5 x0 x1;go_wp2_with fail;refine K1.mono ?_;clear K1 z1;rintro e w6 ⟨rfl,l1,S1⟩;have K2:=S1.ints (by have:=S1.len;omega);have z3:=S1.y.c 3 _ rfl;clear S1;go_wp2_with fail;refine K2.mono ?_;clear K2 z3;rintro e w7 ⟨rfl,l2,S2⟩;have K3:=S2.pairs (by have:=S2.len;omega);have z4:=S2.y.c 4 _ rfl;clear S2;go_wp2_with fail;refine K3.mono ?_;clear K3 z4;rintro e w8 ⟨rfl,l3,S3⟩;have K4:=S3.ints (by have:=S3.len;omega);have z5:=S3.y.c 5 _ rfl;clear S3;go_wp2_with fail;refine K4.mono ?_;clear K4 z5;rintro e w9 ⟨rfl,l4,S4⟩;have HS4:Hid (_):=S4;clear S4;go_wp2_with fail;go_ret
  exact⟨rfl,⟨l4,HS4.out.bk,HS4.out.len⟩,HS4.out.fr⟩
theorem bset_done {N:Nat}{w:World}{B:Nat}{l:List Sl}(h:BO N w B l)(hl:l.length≤8999990)(s:ByteArray)(hs:s.size≤160){q:St}(hp:Bz.parse s=.ok (q.atoms,q.bonds))(ok:Lc q)(en:En q.atoms.length q.bonds s.size)(hP:Jg q)
  (K:∀W,Calls Tryz.prog 14 #[.string s] W fun e w'=>∃mate f gh oo oc co cc,KkSet2 s q W e w' mate f gh oo oc co cc):
  Calls Tryz.prog 29 #[.pointer (some ⟨B,0,none⟩),.string s] w (EG N w B l 4):=by
 have HBK:Hid (BO N w B l):=h;have HOK:Hid (Lc q):=ok;have HEN:Hid (En q.atoms.length q.bonds s.size):=en;have HPE:Hid (Jg q):=hP;have P:=fun W=>(Hz s W).mono fun e w' k=>Di.fine k hp;have hn0:=ok.n0;have hn24:=ok.n24;have hl160:=ok.l160;clear h hp ok en hP;go_enter Tryz.func29,Tryz.ntmps29
 go_wp2_with fail;refine(K _).mono ?_;clear K;rintro e w1 ⟨mate,f,gh,oo,oc,co,cc,⟨S,rfl,ho,hc,hb1⟩,hne⟩;have HSE:Hid (Set4 s q mate f gh):=S;obtain⟨TX,hTX⟩:∃TX:ByteArray,(⟨(wrL s.data.toList q.bonds (Nw q mate)).toArray⟩:ByteArray)=TX:=⟨_,rfl⟩
 have htx:TX.size≤640:=by
  have h1:=wrL_len S;have h2:TX.size=(wrL s.data.toList q.bonds (Nw q mate)).length:=by rw[←hTX];simp[ByteArray.size]
  omega
 have HAG:Hid (TX.size≤160→∃ats' l',Bz.parse TX=.ok (ats',l')∧Again q (Nw q mate) ats' l'):=fun h=>again_is S (by rw[←hTX]) h;rw[hTX];have HO:Hid (_):=ho;have HC:Hid (_):=hc;have HB1:Hid (_):=hb1;have HNE:Hid (_):=hne;clear S hTX ho hc hb1 hne;have Y1:=C4.new w1 [.int .i64 1,.slice oo q.bonds.length oc,.string TX,.slice co q.atoms.length cc,.slice none 0 0,.slice none 0 0] 31;have HY1:Hid (_):=Y1;clear Y1;go_wp2_with fail;refine(P _).mono ?_;clear P;rintro e w2 ⟨ao,ac,bo,bc,rfl,hr1,hr2,hb2,_,_⟩;have Bp:=(Below.refl _ w2).alloc (Nat.le_refl _) (.cells #[.slice ao q.atoms.length ac,.slice bo q.bonds.length bc] 39);have Bt:=((Below.refl _ w1).alloc (Nat.le_refl _) (.cells #[.int .i64 1,.slice oo q.bonds.length oc,.string TX,.slice co q.atoms.length cc,.slice none 0 0,.slice none 0 0] 31)).trans (hb2.mono (by simp));have HY2:Hid (_):=(HY1.out.on hb2).grow (.cells #[.slice ao q.atoms.length ac,.slice bo q.bonds.length bc] 39);have HX2:Hid (_):=C4.new w2 [.slice ao q.atoms.length ac,.slice bo q.bonds.length bc] 39;have HRA:Hid (_):=F5 hr1 Bp;have HRB:Hid (_):=F5 hr2 Bp;have HO2:Hid (_):=F5 HO.out (Bt.trans (Bp.mono Bt.size));have HC2:Hid (_):=F5 HC.out (Bt.trans (Bp.mono Bt.size));have HB2:Hid (_):=HB1.out.trans ((Bt.trans (Bp.mono Bt.size)).mono HB1.out.size);have HYO:Hid (∀k,(Value.slice oo q.bonds.length oc).ownBlock=some k→k≠w1.heap.size):=fun k hk=>by have:=(HO.out.lt k hk).2;omega
 have HYC:Hid (∀k,(Value.slice co q.atoms.length cc).ownBlock=some k→k≠w1.heap.size):=fun k hk=>by have:=(HC.out.lt k hk).2;omega
 have HYw:Hid (w.heap.size≤w1.heap.size):=HB1.out.size;clear HY1 HO HC HB1 hr1 hr2 hb2 Bp Bt;go_upto_region 5 with fail
 generalize (w1.alloc (.cells #[.int .i64 1,.slice oo q.bonds.length oc,.string TX,.slice co q.atoms.length cc,.slice none 0 0,.slice none 0 0] 31)).heap.size=base at*;generalize w2.alloc (.cells #[.slice ao q.atoms.length ac,.slice bo q.bonds.length bc] 39)=W at*;generalize w1.heap.size=Y at*;generalize w2.heap.size=X at*;have r0:=HY2.out.c 0 _ rfl;have r1:=HY2.out.c 1 _ rfl;have r2:=HY2.out.c 2 _ rfl;have r3:=HY2.out.c 3 _ rfl;have r4:=HY2.out.c 4 _ rfl;have r5:=HY2.out.c 5 _ rfl;have x0:=HX2.out.c 0 _ rfl;have x1:=HX2.out.c 1 _ rfl;go_upto_region 6 with fail
 go_cut [12]from 48 to 62 (fun v12 wc=>v12=.bool false∧W=wc)
 case first=>
  have ha1:((q.atoms.length:Int)==0)=false:=beq_false_of_ne (by omega);by_cases hp0:q.bonds.length=0
  ·have hp1:((q.bonds.length:Int)==0)=true:=by rw[show(q.bonds.length:Int)=0 by omega];rfl
   clear hp0;go_wp2_with fail;go_meet
   exact⟨rfl,rfl⟩
  ·have hp1:((q.bonds.length:Int)==0)=false:=beq_false_of_ne (by omega);clear hp0;go_wp2_with fail;go_meet
   exact⟨rfl,rfl⟩
 case rest=>
  obtain⟨rfl,hw⟩:=hcut;subst hw;have RK:=OW W HRA.out HRB.out HOK.out HEN.out;go_wp2_with fail;refine RK.mono ?_;clear RK;rintro e w3 ⟨b,rfl,hbb,hb3⟩;obtain rfl:b=true:=hbb.2 HPE.out;have x0:=(HX2.out.on hb3).c 0 _ rfl;have x1:=(HX2.out.on hb3).c 1 _ rfl;have r1:=(HY2.out.on hb3).c 1 _ rfl;have HB3:Hid (Below W.heap.size W w3):=hb3;have RS:=rsets_any w3 HSE.out (F5 HRA.out hb3) (F5 HRB.out hb3) HOK.out (Ec.on ⟨_,HO2.out⟩ hb3);clear hbb hb3;go_wp2_with fail;refine RS.mono ?_;clear RS;rintro e w4 ⟨rfl,hb4⟩;have HB4:Hid (Below W.heap.size W w4):=HB3.out.trans (hb4.mono HB3.out.size);have RM:FK (.slice ao q.atoms.length ac) (.slice bo q.bonds.length bc) q.atoms q.bonds W:=⟨⟨_,HRA.out⟩,⟨_,HRB.out⟩⟩
  have RW:=rwritten_any w4 (RM.on HB4.out) (Ec.on ⟨_,HO2.out⟩ HB4.out) (Ec.on ⟨_,HC2.out⟩ HB4.out) (by simp) hn0 hn24 hl160 HOK.out.ends htx HAG.out;have r0:=(HY2.out.on HB4.out).c 0 _ rfl;have r1:=(HY2.out.on HB4.out).c 1 _ rfl;have r2:=(HY2.out.on HB4.out).c 2 _ rfl;have r3:=(HY2.out.on HB4.out).c 3 _ rfl;have x0:=(HX2.out.on HB4.out).c 0 _ rfl;have x1:=(HX2.out.on HB4.out).c 1 _ rfl;clear hb4 RM HB3;go_wp2_with fail;refine RW.mono ?_;clear RW;rintro e w5 ⟨rfl,hb5⟩;have HB5:Hid (Below W.heap.size W w5):=HB4.out.trans (hb5.mono HB4.out.size);have KS0:KS N w B l l 0 Y [.int .i64 1,.slice oo q.bonds.length oc,.string TX,.slice co q.atoms.length cc,.slice none 0 0,.slice none 0 0] [(.slice oo q.bonds.length oc,3,1),(.slice co q.atoms.length cc,3,1),(.slice none 0 0,48,2),(.slice none 0 0,3,1)] w5:=by
   have OP:=F5 HO2.out HB5.out;have OU:=F5 HC2.out HB5.out;refine KS.start HBK.out (HB2.out.trans (HB5.out.mono HB2.out.size)) (HY2.out.on HB5.out) HYw.out ?_ ?_ ?_
   ·intro r hr;simp only[List.mem_cons,List.mem_nil_iff,or_false]at hr;rcases hr with rfl|rfl|rfl|rfl
    ·exact⟨_,_,by simp;omega,OP⟩
    ·exact⟨_,_,by simp;omega,OU⟩
    ·exact⟨0,_,by omega,Prs.nil _ _⟩
    ·exact⟨0,_,by omega,Ints.nil _ _⟩
   ·intro r hr;simp only[List.mem_cons,List.mem_nil_iff,or_false]at hr;rcases hr with rfl|rfl|rfl|rfl
    ·exact HYO.out
    ·exact HYC.out
    ·intro k hk;cases hk
    ·intro k hk;cases hk
   ·refine .cons (fun r hr k hk e=>?_) (.cons (fun r hr k hk e=>?_) (.cons (fun r hr k hk=>by cases hk) (.cons (by simp) .nil)))
    ·simp only[List.mem_cons,List.mem_nil_iff,or_false]at hr;rcases hr with rfl|rfl|rfl
     ·exact HNE.out k hk e
     ·cases e
     ·cases e
    ·simp only[List.mem_cons,List.mem_nil_iff,or_false]at hr;rcases hr with rfl|rfl
     ·cases e
     ·cases e
  have K1:=KS0.ints (by omega);have z1:=KS0.y.c 1 _ rfl;clear hb5 HB5 HB4 KS0 r0 r1 r2 r3 r4 r5 x0 x1;go_wp2_with fail;refine K1.mono ?_;clear K1 z1;rintro e w6 ⟨rfl,l1,S1⟩;have K2:=S1.ints (by have:=S1.len;omega);have z3:=S1.y.c 3 _ rfl;clear S1;go_wp2_with fail;refine K2.mono ?_;clear K2 z3;rintro e w7 ⟨rfl,l2,S2⟩;have K3:=S2.pairs (by have:=S2.len;omega);have z4:=S2.y.c 4 _ rfl;clear S2;go_wp2_with fail;refine K3.mono ?_;clear K3 z4;rintro e w8 ⟨rfl,l3,S3⟩;have K4:=S3.ints (by have:=S3.len;omega);have z5:=S3.y.c 5 _ rfl;clear S3;go_wp2_with fail;refine K4.mono ?_;clear K4 z5;rintro e w9 ⟨rfl,l4,S4⟩;have HS4:Hid (_):=S4;clear S4;go_wp2_with fail;go_ret
  exact⟨rfl,⟨l4,HS4.out.bk,HS4.out.len⟩,HS4.out.fr⟩
theorem bset_any {N:Nat}{w:World}{B:Nat}{l:List Sl}(h:BO N w B l)(hl:l.length≤8999990)(s:ByteArray)(hs:s.size≤maxLen):Calls Tryz.prog 29 #[.pointer (some ⟨B,0,none⟩),.string s] w (EG N w B l 4):=by
 cases hp:Bz.parse s with
 |error er=>exact bset_bad h s hs hp
 |ok x=>
  obtain⟨ats,l0⟩:=x;obtain⟨h160,en⟩:=QQ hp;rcases kk_which2 hs hp with⟨hP,K⟩|⟨hP,K⟩
  ·exact bset_bar (q:=Nu ats l0) h hl s hp (mol_ok hp) en hP K
  ·exact bset_done (q:=Nu ats l0) h hl s h160 hp (mol_ok hp) en hP K
end Go.Proofs.YtcabaecbmkgclaaGreatDoor.Kd
namespace Go.Proofs.YtcabaecbmkgclaaGreatDoor
open Go.ChangeShapes Go.WideShapes Go.ChangeAt Go.RowKit Bz
section
theorem Ny {w wr:World}{l:List Sl}(o:OpD)(hk:o.kind=3)(hm:o.s.size≤maxLen)(hst:F7 w wr l)(hl:l.length≤8999990):
  Calls Tryz.prog 20 #[.pointer (some ⟨w.heap.size,0,none⟩),opV o] wr (EG w.heap.size wr w.heap.size l 4):=by
 obtain⟨kind,n,s,lo,ll,lc⟩:=o;simp only at hk hm;subst hk;unfold opV;simp only;have HB:Hid (∀ob,BFr wr (wr.alloc ob) w.heap.size):=fun ob=>BFr.of_below ((Below.refl _ wr).alloc (Nat.le_refl _) _) (by have:=hst.lt;omega);have HP:Hid (∀ob,Calls Tryz.prog 29 #[.pointer (some ⟨w.heap.size,0,none⟩),.string s] (wr.alloc ob) (EG w.heap.size (wr.alloc ob) w.heap.size l 4)):=fun ob=>Kd.bset_any (hst.J3 ((Below.refl _ wr).alloc (Nat.le_refl _) _)).bk hl s hm;clear hst;go_enter Tryz.func20,Tryz.ntmps20
 go_wp2_with fail;refine(HP.out _).mono ?_;rintro e w2 ⟨rfl,⟨l',hbk,hl'⟩,hf⟩;have HF:Hid (BFr wr w2 w.heap.size):=(HB.out _).trans hf;clear hf;go_wp2_with fail;go_ret
 exact⟨rfl,⟨l',hbk,hl'⟩,HF.out⟩
end
end Go.Proofs.YtcabaecbmkgclaaGreatDoor
