import Derived.Test.YtcabaecbmkgclaaGreatDoorP46
set_option maxHeartbeats 8000000
set_option maxRecDepth 100000
namespace Go.Proofs.YtcabaecbmkgclaaGreatDoor.Kd
open Go.RowKit Bz Mt Mg Rf
structure Mor (w:World)(N n:Nat)(name:Nat→Nat):Prop where
 cell:∀x,x<n→w.cell? ⟨N,x,none⟩=some (.int .i64 (name x:Int))
 free:∀i,w.frozen? ⟨N,i,none⟩=false
theorem Mor.set {w:World}{N n:Nat}{name:Nat→Nat}(h:Mor w N n name){a:Nat}(ha:a<n)(b:Nat):Mor (w.setCell ⟨N,a,none⟩ (.int .i64 (b:Int))) N n (setAt name a b):=by
 refine⟨fun k hk=>?_,fun i=>by rw[World.frozen?_setCell];exact h.free i⟩;by_cases e:k=a
 ·subst e;rw[World.cell?_setCell_same w _ _ (h.cell k hk)];simp[setAt]
 ·rw[AA (fun e'=>e e'.symm)];simp only[setAt,if_neg e];exact h.cell k hk
theorem Mor.same {w w':World}{N n:Nat}{name:Nat→Nat}(h:Mor w N n name)(hs:w'.heap[N]? =w.heap[N]?):Mor w' N n name:=
 ⟨fun k hk=>(World.cell?_of_block (a:=⟨N,k,none⟩) hs).trans (h.cell k hk),fun i=>(World.frozen?_of_block (a:=⟨N,i,none⟩) hs).trans (h.free i)⟩
theorem Mor.congr {w:World}{N n:Nat}{name name':Nat→Nat}(h:Mor w N n name)(e:∀k,k<n→name' k=name k):Mor w N n name':=
 ⟨fun k hk=>by rw[e k hk];exact h.cell k hk,h.free⟩
theorem Mor.made {w:World}{base N n:Nat}(h:w.ownsRow base 3 1 (.slice (some ⟨N,0,none⟩) n n) n (madeCells #[.int .i64 0] n).toList)(hn:0<n):Mor w N n fun _=>0:=by obtain⟨g,cap,e,_,_,hc,hf⟩:=Ap h hn;simp only[Value.slice.injEq,Option.some.injEq,Addr.mk.injEq,and_true,true_and]at e;obtain⟨rfl,-⟩:=e;refine⟨fun x hx=>?_,hf⟩;rw[hc x (by omega),toList_madeCells_one];simp[hx]
def moI (q:St)(P:List (Nat×Nat))(i x:Nat):Nat:=((q.bonds.take i).filter fun b=>decide ((b.a=x∨b.b=x)∧b.o=4∧(b.a,b.b)∈P)).length
theorem moI_no {q:St}{P:List (Nat×Nat)}{i:Nat}{b:Bnd}(hb:q.bonds[i]? =some b)(h:¬(b.o=4∧(b.a,b.b)∈P)):moI q P (i+1)=moI q P i:=by funext x;unfold moI;rw[take_snoc hb,List.filter_append,List.length_append];have:decide ((b.a=x∨b.b=x)∧b.o=4∧(b.a,b.b)∈P)=false:=decide_eq_false fun k=>h k.2;rw[List.filter_cons,this];rfl
theorem moI_yes {q:St}{P:List (Nat×Nat)}{i:Nat}{b:Bnd}(hb:q.bonds[i]? =some b)(h4:b.o=4)(hp:(b.a,b.b)∈P)(_hab:b.a≠b.b):moI q P (i+1)=setAt (setAt (moI q P i) b.a (moI q P i b.a+1)) b.b (moI q P i b.b+1):=by
 funext x;have e:moI q P (i+1) x=moI q P i x+if b.a=x∨b.b=x then 1 else 0:=by
  unfold moI;rw[take_snoc hb,List.filter_append,List.length_append];by_cases hx:b.a=x∨b.b=x
  ·simp[hx,h4,hp]
  ·simp[hx]
 rw[e];unfold setAt;by_cases h1:x=b.b
 ·subst h1;simp
 ·by_cases h2:x=b.a
  ·subst h2;simp[h1]
  ·simp[h1,h2,Ne.symm h1,Ne.symm h2]
theorem moI_le (q:St)(P:List (Nat×Nat))(i x:Nat):moI q P i x≤q.bonds.length:=Nat.le_trans (List.length_filter_le _ _) (by rw[List.length_take];omega)
theorem moI_all {s:ByteArray}{q:St}{mate:Nat→Option Nat}{f:Fo}{gh:Gh}(S:Set4 s q mate f gh){x:Nat}(hx:x<q.atoms.length):moI q (AQ q.atoms.length mate) q.bonds.length x=if Bj q x=true then 1 else 0:=by
 have h1:=dAt_len (mate:=mate) S.en x;have h2:=dAt_is S.en S.n24 S.best S.all hx;unfold moI;rw[List.take_of_length_le (Nat.le_refl _)];rw[h1]at h2;split at h2
 ·rename_i h;rw[if_pos h];omega
 ·rename_i h;rw[if_neg h];omega
structure SeS (w:World)(U D:Nat)(av bv:Value)(n:Nat)(u:Nat→Bool)(mo:Nat→Nat)(W:World):Prop where
 ca:CaS w U av bv n u W
 mor:Mor W D n mo
 ud:U<D
theorem SeS.on {w:World}{U D:Nat}{av bv:Value}{n:Nat}{u:Nat→Bool}{mo:Nat→Nat}{W W':World}(h:SeS w U D av bv n u mo W)(hn:0<n)(hb:Below W.heap.size W W'):SeS w U D av bv n u mo W':=
 ⟨h.ca.on hn hb,h.mor.same (hb.block D (World.block_lt_of_cell? W ⟨D,0,none⟩ (h.mor.cell 0 hn))),h.ud⟩
theorem SeS.set {w:World}{U D:Nat}{av bv:Value}{n:Nat}{u:Nat→Bool}{mo:Nat→Nat}{W:World}(h:SeS w U D av bv n u mo W)(hU:w.heap.size<U){k:Nat}(hk:k<n)(y:Nat):SeS w U D av bv n u (setAt mo k y) (W.setCell ⟨D,k,none⟩ (.int .i64 (y:Int))):=by
 have hud:=h.ud;refine⟨⟨?_,?_,⟨fun x hx=>?_,fun i=>by rw[World.frozen?_setCell];exact h.ca.bls.free i⟩,h.ca.below.setCell (p:=⟨D,k,none⟩) (by simp only;omega) _⟩,h.mor.set hk y,h.ud⟩
 ·rw[World.cell?_setCell_other _ _ _ _ (fun e=>by have:=congrArg Addr.block e;simp at this;omega)];exact h.ca.c0
 ·rw[World.cell?_setCell_other _ _ _ _ (fun e=>by have:=congrArg Addr.block e;simp at this;omega)];exact h.ca.c1
 ·rw[World.cell?_setCell_other _ _ _ _ (fun e=>by have:=congrArg Addr.block e;simp at this;omega)];exact h.ca.bls.cell x hx
theorem rsets_any (w:World){s:ByteArray}{q:St}{mate:Nat→Option Nat}{f:Fo}{gh:Gh}{ao:Option Addr}{ac:Nat}{bo:Option Addr}{bc:Nat}{base:Nat}{oo:Option Addr}{oc:Nat}(S:Set4 s q mate f gh)(hA:w.ownsRow base 50 4 (.slice ao q.atoms.length ac) q.atoms.length (q.atoms.flatMap AV))(hB:w.ownsRow base 46 3 (.slice bo q.bonds.length bc) q.bonds.length (q.bonds.flatMap AZ))(ok:Lc q)(ho:Ec (.slice oo q.bonds.length oc) (Nw q mate) w):
  Calls Tryz.prog 52 #[.agg #[(.slice ao q.atoms.length ac),(.slice bo q.bonds.length bc)],.slice oo q.bonds.length oc] w fun e w'=>e=.returned (.bool true)∧Below w.heap.size w w':=by
 obtain⟨i0,hi0,hz0,hz1,hz2⟩:=info_parts Mg.Tryz.FM;have hn0:=ok.n0;have hn24:=ok.n24;have hl:=ok.l160;have HOK:Hid (Lc q):=ok;have HSET:Hid (Set4 s q mate f gh):=S;have hb0:Below w.heap.size w (w.alloc (.cells #[(.slice ao q.atoms.length ac),(.slice bo q.bonds.length bc)] 39)):=(Below.refl _ w).alloc (Nat.le_refl _) _;have CC:=MB (w.alloc (.cells #[(.slice ao q.atoms.length ac),(.slice bo q.bonds.length bc)] 39)) (AL hA fun k hk=>hb0.block k (hA.lt k hk).2) (AL hB fun k hk=>hb0.block k (hB.lt k hk).2) ok;have C0:=C4.new w [(.slice ao q.atoms.length ac),(.slice bo q.bonds.length bc)] 39;have HRB:Hid (∀W,Below w.heap.size w W→W.ownsRow base 46 3 (.slice bo q.bonds.length bc) q.bonds.length (q.bonds.flatMap AZ)):=fun W hb=>AL hB fun k hk=>hb.block k (hB.lt k hk).2;have HOO:Hid (∀W,Below w.heap.size w W→Ec (.slice oo q.bonds.length oc) (Nw q mate) W):=fun W hb=>Ec.on ho hb;have HC0:Hid (_):=C0;have HB0:Hid (_):=hb0;have x0:=C0.c 0 _ rfl;have x1:=C0.c 1 _ rfl;clear hA hB ok ho S C0 hb0;go_enter Tryz.func52,Tryz.ntmps52
 go_wp2_with fail;refine CC.mono ?_;clear CC;rintro e w1 ⟨U,eo,ec,rfl,hbl,_,hb1,hlo⟩;have CS1:CaS w U (.slice ao q.atoms.length ac) (.slice bo q.bonds.length bc) q.atoms.length (Bj q) w1:=⟨(HC0.out.on hb1).c 0 _ rfl,(HC0.out.on hb1).c 1 _ rfl,hbl,HB0.out.trans (hb1.mono HB0.out.size)⟩
 have hUw:w.heap.size<U:=by simp at hlo;omega
 have hU1:U<w1.heap.size:=World.block_lt_of_cell? w1 ⟨U,0,none⟩ (hbl.cell 0 hn0);have HCS1:Hid (_):=CS1;have y0:=CS1.c0;clear hbl hb1 hlo CS1 HC0 HB0 x0 x1;go_wp2_with (at_make;go_must (refine wpList_make_full _ rfl _ _ 25 rfl w1.heap.size 3 i0 (.int .i64 0) 1 Tryz.underlying25 hi0 hz0 hz1 .i64 .i64 _ _ q.atoms.length rfl rfl rfl rfl ?c1 ?c2 ?c3 ?_))
 case c1=>rw[hz2];omega
 case c2=>unfold maxLen;omega
 case c3=>exact Nat.le_refl _
 intro w2 hown hgrow;have hb2:Below w1.heap.size w1 w2:=(Below.refl _ _).grown hgrow (Nat.le_refl _) (by intro k hk;cases hk);obtain⟨D,hD⟩:∃D,w1.heap.size=D:=⟨_,rfl⟩
 have S2:SeS w U D (.slice ao q.atoms.length ac) (.slice bo q.bonds.length bc) q.atoms.length (Bj q) (moI q (AQ q.atoms.length mate) 0) w2:=by
  refine⟨HCS1.out.on hn0 hb2,?_,by omega⟩;have e:moI q (AQ q.atoms.length mate) 0=fun _=>0:=by funext x;unfold moI;simp
  rw[e,←hD];exact Mor.made hown hn0
 rw[hD];have HS2:Hid (_):=S2;clear hown hgrow hb2 S2 HCS1 y0 hD hU1;go_wp2_with fail;go_loopg [8] (q.bonds.length+1) (fun g v8 wr=>∃i:Nat,i≤q.bonds.length∧q.bonds.length-i<g∧v8=.int .i64 (i:Int)∧SeS w U D (.slice ao q.atoms.length ac) (.slice bo q.bonds.length bc) q.atoms.length (Bj q) (moI q (AQ q.atoms.length mate) i) wr)
 case atStart=>exact⟨0,by omega,by omega,rfl,HS2.out⟩
 case round=>
  obtain⟨i,hi,hg,rfl,hS⟩:=hrel;clear HS2;have HS:Hid (SeS w U D (.slice ao q.atoms.length ac) (.slice bo q.bonds.length bc) q.atoms.length (Bj q) (moI q (AQ q.atoms.length mate) i) wr):=hS;have y1:=hS.ca.c1;by_cases hlt:i<q.bonds.length
  ·have hlt':(i:Int)<(q.bonds.length:Int):=by omega
   obtain⟨b,hb⟩:∃b,q.bonds[i]? =some b:=⟨_,List.getElem?_eq_getElem hlt⟩
   obtain⟨x,hx⟩:∃x,(Nw q mate)[i]? =some x:=⟨_,List.getElem?_eq_getElem (by rw[List.length_map];exact hlt)⟩
   obtain⟨o1,o2,o3⟩:=ord_is HSET.out hb hx;have hxe:x=D4 (AQ q.atoms.length mate) b:=by rw[List.getElem?_map,hb]at hx;exact(Option.some.inj hx).symm
   have hends:=HOK.out.ends b (List.mem_of_getElem? hb);obtain⟨go,eo',oc0⟩:=Ec.cell (HOO.out wr hS.ca.below) hx;obtain⟨gb,kb',eb,hgb,e0,e1,e2⟩:=NH (HRB.out wr hS.ca.below) hb;simp only[Value.slice.injEq,true_and]at eb;obtain⟨rfl,rfl⟩:=eb;subst eo';have HXE:Hid (x=D4 (AQ q.atoms.length mate) b):=hxe;have HBI:Hid (q.bonds[i]? =some b):=hb;clear hS hb hx hxe;go_upto_region 9 with fail
   obtain⟨wz,hwz⟩:∃wz,wr.alloc (.cells #[.int .i64 (b.a:Int),.int .i64 (b.b:Int),.int .i64 b.o] 46)=wz:=⟨_,rfl⟩
   have b0:wz.cell? ⟨wr.heap.size,0,none⟩=some (.int .i64 (b.a:Int)):=by rw[←hwz];simp
   have b1:wz.cell? ⟨wr.heap.size,1,none⟩=some (.int .i64 (b.b:Int)):=by rw[←hwz];simp
   have b2:wz.cell? ⟨wr.heap.size,2,none⟩=some (.int .i64 b.o):=by rw[←hwz];simp
   have oz:=Cm oc0 (.cells #[.int .i64 (b.a:Int),.int .i64 (b.b:Int),.int .i64 b.o] 46);have S5:=HS.out.on hn0 ((Below.refl _ wr).alloc (Nat.le_refl _) (.cells #[.int .i64 (b.a:Int),.int .i64 (b.b:Int),.int .i64 b.o] 46));have hne:D<wr.heap.size:=World.block_lt_of_cell? wr ⟨D,0,none⟩ (HS.out.mor.cell 0 hn0);rw[hwz]at oz S5 ⊢;have S6:=S5.on hn0 ((Below.refl _ wz).drew);have HS6:Hid (_):=S6;have ga:=S6.mor.cell b.a (by omega);have gb':=S6.mor.cell b.b (by omega);have fa:=S6.mor.free b.a;have fb:=S6.mor.free b.b;have la:=moI_le q (AQ q.atoms.length mate) i b.a;have lb:=moI_le q (AQ q.atoms.length mate) i b.b;clear hwz S5 S6 HS oc0 y1 e0 e1 e2;generalize wr.heap.size=PB at*;have hab1:(b.a:Int)<(q.atoms.length:Int):=by omega
   have hab2:(b.b:Int)<(q.atoms.length:Int):=by omega
   by_cases h4:b.o=4
   ·rw[h4]at b2;rcases o3 h4 with hx1|hx2
    ·subst hx1;have HMO:Hid (moI q (AQ q.atoms.length mate) (i+1)=moI q (AQ q.atoms.length mate) i):=moI_no HBI.out (fun k=>by have:=HXE.out;unfold D4 at this;rw[if_pos h4,if_pos k.2]at this;omega);clear o2 o3 h4 ga gb' fa fb;go_region
     go_wp2_with fail;go_roundg (q.bonds.length-i)
     case measure=>omega
     case rel=>exact⟨i+1,by omega,by omega,by go_num,by rw[HMO.out];exact HS6.out⟩
    ·subst hx2;have hin:(b.a,b.b)∈AQ q.atoms.length mate:=by
      have:=HXE.out;unfold D4 at this;rw[if_pos h4]at this;split at this
      ·assumption
      ·omega
     have HMO:Hid (moI q (AQ q.atoms.length mate) (i+1)=_):=moI_yes HBI.out h4 hin (by omega);have T1:=(HS6.out.set hUw (k:=b.a) (by omega) (moI q (AQ q.atoms.length mate) i b.a+1))
     have T2:=T1.set hUw (k:=b.b) (by omega) (moI q (AQ q.atoms.length mate) i b.b+1);have gb2:=T1.mor.cell b.b (by omega);have fb2:=T1.mor.free b.b;have pb2:=T1;rw[←HMO.out]at T2;have e5:setAt (moI q (AQ q.atoms.length mate) i) b.a (moI q (AQ q.atoms.length mate) i b.a+1) b.b=moI q (AQ q.atoms.length mate) i b.b:=by unfold setAt;rw[if_neg (by omega)]
     rw[e5]at gb2;have HT2:Hid (_):=T2;have bb1:(wz.drew.setCell ⟨D,b.a,none⟩ (.int .i64 ((moI q (AQ q.atoms.length mate) i b.a+1:Nat):Int))).cell? ⟨PB,1,none⟩=some (.int .i64 (b.b:Int)):=by rw[World.cell?_setCell_other _ _ _ _ (fun e=>by have:=congrArg Addr.block e;simp at this;omega)];exact b1
     clear o2 o3 h4 T1 T2 pb2 e5 hin gb' fb HMO HS6;generalize moI q (AQ q.atoms.length mate) i b.a=ma at*;generalize moI q (AQ q.atoms.length mate) i b.b=mb at*;have ca1:((ma+1:Nat):Int)=(ma:Int)+1:=rfl;have cb1:((mb+1:Nat):Int)=(mb:Int)+1:=rfl;rw[ca1,cb1]at HT2;rw[ca1]at gb2 fb2 bb1;clear ca1 cb1;go_region
     go_upto_region 15 with fail
     have gb3:((wz.setCell ⟨D,b.a,none⟩ (.int .i64 ((ma:Int)+1))).drew).cell? ⟨D,b.b,none⟩=some (.int .i64 (mb:Int)):=gb2;have fb3:((wz.setCell ⟨D,b.a,none⟩ (.int .i64 ((ma:Int)+1))).drew).frozen? ⟨D,b.b,none⟩=false:=fb2;have bb3:((wz.setCell ⟨D,b.a,none⟩ (.int .i64 ((ma:Int)+1))).drew).cell? ⟨PB,1,none⟩=some (.int .i64 (b.b:Int)):=bb1;have HT3:Hid (SeS w U D _ _ q.atoms.length (Bj q) (moI q (AQ q.atoms.length mate) (i+1)) (((wz.setCell ⟨D,b.a,none⟩ (.int .i64 ((ma:Int)+1))).drew).setCell ⟨D,b.b,none⟩ (.int .i64 ((mb:Int)+1)))):=HT2.out;clear ga fa b0 b1 b2 oz gb2 fb2 bb1 HT2;generalize (wz.setCell ⟨D,b.a,none⟩ (.int .i64 ((ma:Int)+1))).drew=wy at gb3 fb3 bb3 HT3 ⊢;go_wp2_with fail;go_roundg (q.bonds.length-i)
     case measure=>omega
     case rel=>exact⟨i+1,by omega,by omega,by go_num,HT3.out⟩
   ·have h4':(b.o==4)=false:=by simp[h4]
    have h4n:(b.o != 4)=true:=by simp[h4]
    have hx1:((x:Int)==b.o)=true:=by simp[o2 h4]
    have hx3:((x:Int) != b.o)=false:=by simp[o2 h4]
    have hxo:(x:Int)=b.o:=o2 h4;have HMO:Hid (moI q (AQ q.atoms.length mate) (i+1)=moI q (AQ q.atoms.length mate) i):=moI_no HBI.out (fun k=>h4 k.1);clear o3 ga gb' fa fb;go_region
    go_wp2_with fail;go_roundg (q.bonds.length-i)
    case measure=>omega
    case rel=>exact⟨i+1,by omega,by omega,by go_num,by rw[HMO.out];exact HS6.out⟩
  ·have hlt':¬(i:Int)<(q.bonds.length:Int):=by omega
   have HMA:Hid (∀x,x<q.atoms.length→moI q (AQ q.atoms.length mate) i x=if Bj q x=true then 1 else 0):=fun x hx=>by rw[show i=q.bonds.length by omega];exact moI_all HSET.out hx
   clear hS;go_wp2_with fail;go_loopg [10] (q.atoms.length+1) (fun g v10 wr=>∃k:Nat,k≤q.atoms.length∧q.atoms.length-k<g∧v10=.int .i64 (k:Int)∧SeS w U D (.slice ao q.atoms.length ac) (.slice bo q.bonds.length bc) q.atoms.length (Bj q) (moI q (AQ q.atoms.length mate) i) wr)
   case atStart=>exact⟨0,by omega,by omega,rfl,HS.out⟩
   case round=>
    obtain⟨k,hk,hg2,rfl,hS⟩:=hrel;clear HS y1;have HS:Hid (SeS w U D (.slice ao q.atoms.length ac) (.slice bo q.bonds.length bc) q.atoms.length (Bj q) (moI q (AQ q.atoms.length mate) i) wr):=hS;by_cases hkt:k<q.atoms.length
    ·have hkt':(k:Int)<(q.atoms.length:Int):=by omega
     have u1:=hS.ca.bls.cell k hkt;have u2:=hS.mor.cell k hkt;rw[HMA.out k hkt]at u2;have HSN:Hid (∀n,SeS w U D (.slice ao q.atoms.length ac) (.slice bo q.bonds.length bc) q.atoms.length (Bj q) (moI q (AQ q.atoms.length mate) i) (wr.drewN n)):=fun n=>HS.out.on hn0 (below_drewN (Below.refl _ wr) n);clear hS;cases hc:Bj q k with
     |true=>
      rw[hc]at u1 u2;simp only[if_true]at u2;clear hc;go_wp2_with fail;go_quiet (fail)
      go_wp2_with fail;go_roundg (q.atoms.length-k)
      case measure=>omega
      case rel=>exact⟨k+1,by omega,by omega,by go_num,HSN.out _⟩
     |false=>
      rw[hc]at u1 u2;simp only[Bool.false_eq_true,if_false]at u2;clear hc;go_wp2_with fail;go_quiet (fail)
      go_wp2_with fail;go_roundg (q.atoms.length-k)
      case measure=>omega
      case rel=>exact⟨k+1,by omega,by omega,by go_num,HSN.out _⟩
    ·have hkt':¬(k:Int)<(q.atoms.length:Int):=by omega
     clear hS;go_wp2_with fail;go_ret
     exact⟨rfl,HS.out.ca.below⟩
theorem below_set (i:Nat):setAt (fun x=>decide (x<i)) i true=fun x=>decide (x<i+1):=by
 funext x;unfold setAt;by_cases h:x=i
 ·subst h;simp
 ·simp only[if_neg h,decide_eq_decide];omega
structure WrS (w:World)(X2:Nat)(av bv ov dv xv zv:Value)(q:St)(ats':List Atm)(l':List Bnd)(os:List Nat)(W:World):Prop where
 m:C4 w.heap.size [av,bv] W
 x:C4 X2 [xv,zv] W
 rm:FK av bv q.atoms q.bonds W
 rx:FK xv zv ats' l' W
 o:Ec ov os W
 d:Ec dv (List.range q.atoms.length) W
 below:Below w.heap.size w W
theorem WrS.on {w:World}{X2:Nat}{av bv ov dv xv zv:Value}{q:St}{ats':List Atm}{l':List Bnd}{os:List Nat}{W W':World}(h:WrS w X2 av bv ov dv xv zv q ats' l' os W)(hb:Below W.heap.size W W'):WrS w X2 av bv ov dv xv zv q ats' l' os W':=
 ⟨h.m.on hb,h.x.on hb,h.rm.on hb,h.rx.on hb,h.o.on hb,h.d.on hb,h.below.trans (hb.mono h.below.size)⟩
theorem WrS.grow {w:World}{X2:Nat}{av bv ov dv xv zv:Value}{q:St}{ats':List Atm}{l':List Bnd}{os:List Nat}{W:World}(h:WrS w X2 av bv ov dv xv zv q ats' l' os W)(o:Obj):WrS w X2 av bv ov dv xv zv q ats' l' os (W.alloc o):=h.on ((Below.refl _ W).alloc (Nat.le_refl _) o)
theorem rwritten_any (w:World){q:St}{os:List Nat}{tx:ByteArray}{ao:Option Addr}{ac:Nat}{bo:Option Addr}{bc:Nat}{oo:Option Addr}{oc:Nat}{co:Option Addr}{cu:Nat}(hR:FK (.slice ao q.atoms.length ac) (.slice bo q.bonds.length bc) q.atoms q.bonds w)(ho:Ec (.slice oo q.bonds.length oc) os w)(hd:Ec (.slice co q.atoms.length cu) (List.range q.atoms.length) w)(hos:os.length=q.bonds.length)(hn0:0<q.atoms.length)(hn24:q.atoms.length≤24)
  (hl:q.bonds.length≤160)(hen:∀b∈q.bonds,b.a<b.b∧b.b<q.atoms.length)(htx:tx.size≤640)(hA:tx.size≤160→∃ats' l',Bz.parse tx=.ok (ats',l')∧Again q os ats' l'):
  Calls Tryz.prog 53 #[.agg #[.slice ao q.atoms.length ac,.slice bo q.bonds.length bc],.slice oo q.bonds.length oc,.string tx,.slice co q.atoms.length cu] w fun e w'=>e=.returned (.bool true)∧Below w.heap.size w w':=by
 obtain⟨b0,hb0,hbz0,hbz1,hbz2⟩:=info_parts Rf.Tryz.FC;have HRW:Hid (FK (.slice ao q.atoms.length ac) (.slice bo q.bonds.length bc) q.atoms q.bonds w):=hR;have HOW:Hid (Ec (.slice oo q.bonds.length oc) os w):=ho;have HDW:Hid (∀W,Below w.heap.size w W→Ec (.slice co q.atoms.length cu) (List.range q.atoms.length) W):=fun W hb=>Ec.on hd hb;have HA:Hid (tx.size≤160→∃ats' l',Bz.parse tx=.ok (ats',l')∧Again q os ats' l'):=hA;have HEN:Hid (∀b∈q.bonds,b.a<b.b∧b.b<q.atoms.length):=hen;have HOS:Hid (os.length=q.bonds.length):=hos;have C0:=C4.new w [.slice ao q.atoms.length ac,.slice bo q.bonds.length bc] 39;have HC0:Hid (_):=C0;have x0:=C0.c 0 _ rfl;have htx':¬((tx.size:Int)>640):=by omega
 clear hR ho hd hA hen hos C0;go_enter Tryz.func53,Tryz.ntmps53
 go_wp2_with (at_make;go_must (refine wpList_make_full _ rfl _ _ 129 rfl (w.heap.size+1) 4 b0 (.bool false) 1 Tryz.underlying129 hb0 hbz0 hbz1 .i64 .i64 _ _ q.atoms.length rfl rfl rfl rfl ?c1 ?c2 ?c3 ?_))
 case c1=>omega
 case c2=>unfold maxLen;omega
 intro w1 hown hgrow;have hb1:Below (w.heap.size+1) (w.alloc (.cells #[(.slice ao q.atoms.length ac),(.slice bo q.bonds.length bc)] 39)) w1:=(Below.refl _ _).grown hgrow (by simp) (by intro k hk;cases hk);have hb0':Below w.heap.size w w1:=((Below.refl _ w).alloc (Nat.le_refl _) _).trans (hb1.mono (by omega));have S0:Hid (CaS w (w.heap.size+1) (.slice ao q.atoms.length ac) (.slice bo q.bonds.length bc) q.atoms.length (fun x=>decide (x<0)) w1):=by
  refine⟨(hb1.cell (by simp)).trans (HC0.out.c 0 _ rfl),(hb1.cell (by simp)).trans (HC0.out.c 1 _ rfl),?_,hb0'⟩;have e:(fun x:Nat=>decide (x<0))=fun _=>false:=by funext x;simp
  rw[e];exact Bls.made hown
 clear hown hgrow hb1 hb0' HC0 x0;obtain⟨U,hU⟩:∃U,w.heap.size+1=U:=⟨_,rfl⟩
 rw[hU]at S0 ⊢;have hUw:w.heap.size<U:=by omega
 clear hU;go_wp2_with fail;go_loopg [10] (q.atoms.length+1) (fun g v10 wr=>∃i:Nat,i≤q.atoms.length∧q.atoms.length-i<g∧v10=.int .i64 (i:Int)∧CaS w U (.slice ao q.atoms.length ac) (.slice bo q.bonds.length bc) q.atoms.length (fun x=>decide (x<i)) wr)
 case atStart=>exact⟨0,by omega,by omega,rfl,S0.out⟩
 case round=>
  obtain⟨i,hi,hg,rfl,hS⟩:=hrel;clear S0;have HS:Hid (CaS w U (.slice ao q.atoms.length ac) (.slice bo q.bonds.length bc) q.atoms.length (fun x=>decide (x<i)) wr):=hS;by_cases hlt:i<q.atoms.length
  ·have hlt':(i:Int)<(q.atoms.length:Int):=by omega
   obtain⟨gd,ed,dc⟩:=(HDW.out wr hS.below).cell (show(List.range q.atoms.length)[i]? =some i by rw[List.getElem?_range hlt]);subst ed;have s1:=hS.bls.cell i hlt;rw[show decide (i<i)=false by simp]at s1;have s2:=hS.bls.free i;have S3:=hS.set hUw hlt true;rw[below_set]at S3;have HS3:Hid (_):=S3;have dn1:¬((i:Int)<0):=by omega
   have dn2:¬((q.atoms.length:Int)≤(i:Int)):=by omega
   clear hS S3 HS;go_wp2_with fail;go_roundg (q.atoms.length-i)
   case measure=>omega
   case rel=>exact⟨i+1,by omega,by omega,by go_num,HS3.out⟩
  ·have hlt':¬(i:Int)<(q.atoms.length:Int):=by omega
   have c0:=hS.c0;have c1:=hS.c1;clear hS;by_cases hlong:160<tx.size
   ·have hlong':(tx.size:Int)>160:=by omega
    go_wp2_with fail;go_ret
    exact⟨rfl,HS.out.below⟩
   ·have hlong':¬((tx.size:Int)>160):=by omega
    obtain⟨ats',l',hp,A⟩:=HA.out (by omega);have P1:=fun W=>(Hz tx W).mono fun e w' h=>Di.fine h hp;have HAG:Hid (Again q os ats' l'):=A;have HLA:Hid (_):=A.la;have HLB:Hid (_):=A.lb;have hlb160:l'.length≤160:=by rw[A.lb];exact hl
    clear hp A HA;go_wp2_with fail;refine(P1 _).mono ?_;clear P1;rintro e w2 ⟨xo,xc,zo,zc,rfl,hr1,hr2,hb2,_,_⟩;have S2:=HS.out.on hn0 hb2;have RX:FK (.slice xo ats'.length xc) (.slice zo l'.length zc) ats' l' w2:=⟨⟨_,hr1⟩,⟨_,hr2⟩⟩
    have M2:C4 w.heap.size [.slice ao q.atoms.length ac,.slice bo q.bonds.length bc] w2:=⟨fun j v hj=>by
     match j,hj with
     |0,hj=>cases hj;exact S2.c0
     |1,hj=>cases hj;exact S2.c1,World.block_lt_of_cell? w2 _ S2.c0⟩
    have S3:Hid (WrS w w2.heap.size (.slice ao q.atoms.length ac) (.slice bo q.bonds.length bc) (.slice oo q.bonds.length oc) (.slice co q.atoms.length cu) (.slice xo ats'.length xc) (.slice zo l'.length zc) q ats' l' os (w2.alloc (.cells #[.slice xo ats'.length xc,.slice zo l'.length zc] 39))):=by refine⟨M2.grow _,C4.new w2 [.slice xo ats'.length xc,.slice zo l'.length zc] 39,(HRW.out.on S2.below).grow _,RX.grow _,(HOW.out.on S2.below).on ?_,HDW.out _ (S2.below.alloc S2.below.size _),S2.below.alloc S2.below.size _⟩;exact(Below.refl _ w2).alloc (Nat.le_refl _) _
    clear hb2 hr1 hr2 S2 RX M2 HS c0 c1 HRW HOW HDW;have m0:=S3.out.m.c 0 _ rfl;have m1:=S3.out.m.c 1 _ rfl;have x0:=S3.out.x.c 0 _ rfl;have x1:=S3.out.x.c 1 _ rfl;have hla':(ats'.length:Int)=(q.atoms.length:Int):=by have:=HLA.out;omega
    have hlb':(l'.length:Int)=(q.bonds.length:Int):=by have:=HLB.out;omega
    go_wp2_with fail;generalize w2.heap.size=X2 at*;go_loopg [14] (q.atoms.length+1) (fun g v14 wr=>∃i:Nat,i≤q.atoms.length∧q.atoms.length-i<g∧v14=.int .i64 (i:Int)∧WrS w X2 (.slice ao q.atoms.length ac) (.slice bo q.bonds.length bc) (.slice oo q.bonds.length oc) (.slice co q.atoms.length cu) (.slice xo ats'.length xc) (.slice zo l'.length zc) q ats' l' os wr)
    case atStart=>exact⟨0,by omega,by omega,rfl,S3.out⟩
    case round=>
     obtain⟨i,hi,hg,rfl,hS⟩:=hrel;clear S3 m0 m1 x0 x1;have HS:Hid (WrS w X2 (.slice ao q.atoms.length ac) (.slice bo q.bonds.length bc) (.slice oo q.bonds.length oc) (.slice co q.atoms.length cu) (.slice xo ats'.length xc) (.slice zo l'.length zc) q ats' l' os wr):=hS;have m0:=hS.m.c 0 _ rfl;have m1:=hS.m.c 1 _ rfl;have x0:=hS.x.c 0 _ rfl;have x1:=hS.x.c 1 _ rfl;by_cases hlt:i<q.atoms.length
     ·have hlt':(i:Int)<(q.atoms.length:Int):=by omega
      obtain⟨a,ha⟩:∃a,q.atoms[i]? =some a:=⟨_,List.getElem?_eq_getElem hlt⟩
      obtain⟨a',ha',k1,k2,k3,k4⟩:=HAG.out.at_ i a ha;obtain⟨gd,ed,dc⟩:=hS.d.cell (show(List.range q.atoms.length)[i]? =some i by rw[List.getElem?_range hlt]);obtain⟨_,hrow⟩:=hS.rm.a;obtain⟨ga,ka,ea,hga,z0,z1,z2,z3⟩:=atom_at hrow ha;simp only[Value.slice.injEq,true_and]at ea;obtain⟨rfl,rfl⟩:=ea;obtain⟨_,hrow'⟩:=hS.rx.a;obtain⟨ga',ka',ea',hga',u0,u1,u2,u3⟩:=atom_at hrow' ha';simp only[Value.slice.injEq,true_and]at ea';obtain⟨rfl,rfl⟩:=ea';subst ed;rw[k1]at u1;rw[k2]at u0;rw[k3]at u2;rw[k4]at u3;have hlt2:(i:Int)<(ats'.length:Int):=by omega
      clear hS hrow hrow' ha ha' k1 k2 k3 k4 m1 x1;go_upto_region 19 with fail
      obtain⟨wz,hwz⟩:∃wz,wr.alloc (.cells #[.string a.el,.bool false,.int .i64 a.ch,.int .i64 a.hy] 50)=wz:=⟨_,rfl⟩
      have HS2:=HS.out.grow (.cells #[.string a.el,.bool false,.int .i64 a.ch,.int .i64 a.hy] 50);rw[hwz]at HS2;have HSZ:Hid (_):=HS2;clear HS2;have p0:wz.cell? ⟨wr.heap.size,0,none⟩=some (.string a.el):=by rw[←hwz];simp
      have p1:wz.cell? ⟨wr.heap.size,1,none⟩=some (.bool false):=by rw[←hwz];simp
      have p2:wz.cell? ⟨wr.heap.size,2,none⟩=some (.int .i64 a.ch):=by rw[←hwz];simp
      have p3:wz.cell? ⟨wr.heap.size,3,none⟩=some (.int .i64 a.hy):=by rw[←hwz];simp
      have m0':=Cm m0 (.cells #[.string a.el,.bool false,.int .i64 a.ch,.int .i64 a.hy] 50);have dc':=Cm dc (.cells #[.string a.el,.bool false,.int .i64 a.ch,.int .i64 a.hy] 50);have z0':=Cm z0 (.cells #[.string a.el,.bool false,.int .i64 a.ch,.int .i64 a.hy] 50);have z1':=Cm z1 (.cells #[.string a.el,.bool false,.int .i64 a.ch,.int .i64 a.hy] 50);have z2':=Cm z2 (.cells #[.string a.el,.bool false,.int .i64 a.ch,.int .i64 a.hy] 50);have z3':=Cm z3 (.cells #[.string a.el,.bool false,.int .i64 a.ch,.int .i64 a.hy] 50);rw[hwz]at m0' dc' z0' z1' z2' z3';rw[hwz];have hPq:wr.heap.size<wz.heap.size:=World.block_lt_of_cell? wz _ p0;clear hwz HS m0 dc z0 z1 z2 z3 u0 u1 u2 u3 x0 hga hga';generalize wr.heap.size=PA at*;have m0z:=Cm m0' (.cells #[.string ⟨#[]⟩,.bool false,.int .i64 0,.int .i64 0] 50);have dcz:=Cm dc' (.cells #[.string ⟨#[]⟩,.bool false,.int .i64 0,.int .i64 0] 50);have z0z:=Cm z0' (.cells #[.string ⟨#[]⟩,.bool false,.int .i64 0,.int .i64 0] 50);have z1z:=Cm z1' (.cells #[.string ⟨#[]⟩,.bool false,.int .i64 0,.int .i64 0] 50);have z2z:=Cm z2' (.cells #[.string ⟨#[]⟩,.bool false,.int .i64 0,.int .i64 0] 50);have z3z:=Cm z3' (.cells #[.string ⟨#[]⟩,.bool false,.int .i64 0,.int .i64 0] 50);go_region
      have HS5:=HSZ.out.on (((Below.refl _ wz).alloc (Nat.le_refl _) (.cells #[.string a.el,.bool a.aro,.int .i64 a.ch,.int .i64 a.hy] 50)).drew);have q0:=Cm p0 (.cells #[.string a.el,.bool a.aro,.int .i64 a.ch,.int .i64 a.hy] 50);have q1:=Cm p1 (.cells #[.string a.el,.bool a.aro,.int .i64 a.ch,.int .i64 a.hy] 50);have q2:=Cm p2 (.cells #[.string a.el,.bool a.aro,.int .i64 a.ch,.int .i64 a.hy] 50);have q3:=Cm p3 (.cells #[.string a.el,.bool a.aro,.int .i64 a.ch,.int .i64 a.hy] 50);clear p0 p1 p2 p3 m0' dc' z0' z1' z2' z3' m0z dcz z0z z1z z2z z3z;have p0:(wz.alloc (.cells #[.string a.el,.bool a.aro,.int .i64 a.ch,.int .i64 a.hy] 50)).drew.cell? ⟨PA,0,none⟩=some (.string a.el):=q0;have p1:(wz.alloc (.cells #[.string a.el,.bool a.aro,.int .i64 a.ch,.int .i64 a.hy] 50)).drew.cell? ⟨PA,1,none⟩=some (.bool false):=q1;have p2:(wz.alloc (.cells #[.string a.el,.bool a.aro,.int .i64 a.ch,.int .i64 a.hy] 50)).drew.cell? ⟨PA,2,none⟩=some (.int .i64 a.ch):=q2;have p3:(wz.alloc (.cells #[.string a.el,.bool a.aro,.int .i64 a.ch,.int .i64 a.hy] 50)).drew.cell? ⟨PA,3,none⟩=some (.int .i64 a.hy):=q3;have s0:(wz.alloc (.cells #[.string a.el,.bool a.aro,.int .i64 a.ch,.int .i64 a.hy] 50)).drew.cell? ⟨wz.heap.size,0,none⟩=some (.string a.el):=by simp
      have s2:(wz.alloc (.cells #[.string a.el,.bool a.aro,.int .i64 a.ch,.int .i64 a.hy] 50)).drew.cell? ⟨wz.heap.size,2,none⟩=some (.int .i64 a.ch):=by simp
      have s3:(wz.alloc (.cells #[.string a.el,.bool a.aro,.int .i64 a.ch,.int .i64 a.hy] 50)).drew.cell? ⟨wz.heap.size,3,none⟩=some (.int .i64 a.hy):=by simp
      have HSF:Hid (_):=HS5;clear HS5 HSZ q0 q1 q2 q3;generalize (wz.alloc (.cells #[.string a.el,.bool a.aro,.int .i64 a.ch,.int .i64 a.hy] 50)).drew=w9 at*;generalize wz.heap.size=PB at*;go_wp2_with fail;go_roundg (q.atoms.length-i)
      case measure=>omega
      case rel=>exact⟨i+1,by omega,by omega,by go_num,HSF.out⟩
     ·have hlt':¬(i:Int)<(q.atoms.length:Int):=by omega
      clear hS;go_wp2_with fail;go_loopg [17] (l'.length+1) (fun g v17 wr=>∃j:Nat,j≤l'.length∧l'.length-j<g∧v17=.int .i64 (j:Int)∧WrS w X2 (.slice ao q.atoms.length ac) (.slice bo q.bonds.length bc) (.slice oo q.bonds.length oc) (.slice co q.atoms.length cu) (.slice xo ats'.length xc) (.slice zo l'.length zc) q ats' l' os wr)
      case atStart=>exact⟨0,by omega,by omega,rfl,HS.out⟩
      case round=>
       obtain⟨j,hj,hg2,rfl,hS⟩:=hrel;clear HS m0 m1 x0 x1;have HS:Hid (WrS w X2 (.slice ao q.atoms.length ac) (.slice bo q.bonds.length bc) (.slice oo q.bonds.length oc) (.slice co q.atoms.length cu) (.slice xo ats'.length xc) (.slice zo l'.length zc) q ats' l' os wr):=hS;have m1:=hS.m.c 1 _ rfl;have x1:=hS.x.c 1 _ rfl;by_cases hjt:j<l'.length
       ·have hjt':(j:Int)<(l'.length:Int):=by omega
        have hjq:j<q.bonds.length:=by have:=HLB.out;omega
        obtain⟨b,hb⟩:∃b,q.bonds[j]? =some b:=⟨_,List.getElem?_eq_getElem (by have:=HLB.out;omega)⟩
        obtain⟨x,hx⟩:∃x,os[j]? =some x:=⟨_,List.getElem?_eq_getElem (by have:=HLB.out;have:=HOS.out;omega)⟩
        have HJ:Hid (q.bonds[j]? =some b∧os[j]? =some x):=⟨hb,hx⟩
        clear hS hb hx;go_wp2_with fail;try rw[decide_eq_true hjq]
        go_loopg [18,19] (q.bonds.length+1) (fun g v18 v19 wr=>∃(k:Nat)(isb:Bool),k≤q.bonds.length∧q.bonds.length-k<g∧v19=.int .i64 (k:Int)∧v18=.bool isb∧(j<k→isb=true)∧WrS w X2 (.slice ao q.atoms.length ac) (.slice bo q.bonds.length bc) (.slice oo q.bonds.length oc) (.slice co q.atoms.length cu) (.slice xo ats'.length xc) (.slice zo l'.length zc) q ats' l' os wr)
        case atStart=>exact⟨0,false,by omega,by omega,rfl,rfl,fun h=>by omega,HS.out⟩
        case round=>
         obtain⟨k,isb,hk,hg3,rfl,rfl,hisb,hS⟩:=hrel;clear HS m1 x1;have HS:Hid (WrS w X2 (.slice ao q.atoms.length ac) (.slice bo q.bonds.length bc) (.slice oo q.bonds.length oc) (.slice co q.atoms.length cu) (.slice xo ats'.length xc) (.slice zo l'.length zc) q ats' l' os wr):=hS;have m1:=hS.m.c 1 _ rfl;have x1:=hS.x.c 1 _ rfl;by_cases hkt:k<q.bonds.length
         ·have hkt':(k:Int)<(q.bonds.length:Int):=by omega
          obtain⟨bk,hbk⟩:∃bk,q.bonds[k]? =some bk:=⟨_,List.getElem?_eq_getElem hkt⟩
          obtain⟨xk,hxk⟩:∃xk,os[k]? =some xk:=⟨_,List.getElem?_eq_getElem (by have:=HOS.out;omega)⟩
          obtain⟨b',hb',k1,k2,k3⟩:=HAG.out.bd j b x HJ.out.1 HJ.out.2;have hends:=HEN.out b (List.mem_of_getElem? HJ.out.1);obtain⟨gd,ed,da⟩:=hS.d.cell (show(List.range q.atoms.length)[b.a]? =some b.a by rw[List.getElem?_range (by omega)]);obtain⟨gd2,ed2,db⟩:=hS.d.cell (show(List.range q.atoms.length)[b.b]? =some b.b by rw[List.getElem?_range (by omega)]);obtain⟨go,eo,oc0⟩:=hS.o.cell hxk;obtain⟨_,hrow⟩:=hS.rm.b;obtain⟨gb,kb,eb,hgb,c0,c1,c2⟩:=NH hrow hbk;simp only[Value.slice.injEq,true_and]at eb;obtain⟨rfl,rfl⟩:=eb;obtain⟨_,hrow'⟩:=hS.rx.b;obtain⟨gz',kz',ez',hgz',z0,z1,z2⟩:=NH hrow' hb';simp only[Value.slice.injEq,true_and]at ez';obtain⟨rfl,rfl⟩:=ez';subst eo ed;cases ed2;rw[k1]at z0;rw[k2]at z1;rw[k3]at z2;have hab1:(b.a:Int)<(q.atoms.length:Int):=by omega
          have hab2:(b.b:Int)<(q.atoms.length:Int):=by omega
          have hmin:min (b.a:Int) (b.b:Int)=(b.a:Int):=by omega
          have hmax:max (b.a:Int) (b.b:Int)=(b.b:Int):=by omega
          have HNX:Hid (j<k+1→bk.a=b.a∧bk.b=b.b∧xk=x∨isb=true):=fun h=>by
           rcases Nat.lt_or_ge j k with h1|h1
           ·exact .inr (hisb h1)
           ·have e:j=k:=by omega
            subst e;have h2:=HJ.out;rw[hbk,hxk]at h2;have e1:=Option.some.inj h2.1;have e2:=Option.some.inj h2.2;exact .inl ⟨by rw[e1],by rw[e1],e2⟩
          clear hS hrow hrow' hb' k1 k2 k3 hbk hxk;cases isb with
          |true=>
           go_wp2_with fail;go_region
           go_wp2_with fail;go_roundg (q.bonds.length-k)
           case measure=>omega
           case rel=>exact⟨k+1,true,by omega,by omega,by go_num,rfl,fun _=>rfl,HS.out.on ((Below.refl _ wr).drew)⟩
          |false=>
           by_cases t1:bk.a=b.a
           ·have t1':((bk.a:Int)==(b.a:Int))=true:=by simp[t1]
            by_cases t2:bk.b=b.b
            ·have t2':((bk.b:Int)==(b.b:Int))=true:=by simp[t2]
             by_cases t3:xk=x
             ·have t3':((xk:Int)==(x:Int))=true:=by simp[t3]
              go_wp2_with fail;go_region
              go_wp2_with fail;go_roundg (q.bonds.length-k)
              case measure=>omega
              case rel=>exact⟨k+1,true,by omega,by omega,by go_num,rfl,fun _=>rfl,HS.out.on ((Below.refl _ wr).drew)⟩
             ·have t3':((xk:Int)==(x:Int))=false:=by simp;omega
              go_wp2_with fail;go_region
              go_wp2_with fail;go_roundg (q.bonds.length-k)
              case measure=>omega
              case rel=>exact⟨k+1,false,by omega,by omega,by go_num,rfl,fun h=>by rcases HNX.out h with h|h;exact absurd h.2.2 t3;exact h,HS.out.on ((Below.refl _ wr).drew)⟩
            ·have t2':((bk.b:Int)==(b.b:Int))=false:=by simp;omega
             go_wp2_with fail;go_region
             go_wp2_with fail;go_roundg (q.bonds.length-k)
             case measure=>omega
             case rel=>exact⟨k+1,false,by omega,by omega,by go_num,rfl,fun h=>by rcases HNX.out h with h|h;exact absurd h.2.1 t2;exact h,HS.out.on ((Below.refl _ wr).drew)⟩
           ·have t1':((bk.a:Int)==(b.a:Int))=false:=by simp;omega
            go_wp2_with fail;go_region
            go_wp2_with fail;go_roundg (q.bonds.length-k)
            case measure=>omega
            case rel=>exact⟨k+1,false,by omega,by omega,by go_num,rfl,fun h=>by rcases HNX.out h with h|h;exact absurd h.1 t1;exact h,HS.out.on ((Below.refl _ wr).drew)⟩
         ·have hkt':¬(k:Int)<(q.bonds.length:Int):=by omega
          obtain rfl:isb=true:=hisb (by have:=HLB.out;omega);clear hS;go_wp2_with fail;go_roundg (l'.length-j)
          case measure=>omega
          case rel=>exact⟨j+1,by omega,by omega,by go_num,HS.out⟩
       ·have hjt':¬(j:Int)<(l'.length:Int):=by omega
        clear hS;go_wp2_with fail;go_ret
        exact⟨rfl,HS.out.below⟩
end Go.Proofs.YtcabaecbmkgclaaGreatDoor.Kd
