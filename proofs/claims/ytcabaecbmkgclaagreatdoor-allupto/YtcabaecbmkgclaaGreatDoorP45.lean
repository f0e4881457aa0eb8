import Derived.Test.YtcabaecbmkgclaaGreatDoorP42
import Derived.Test.YtcabaecbmkgclaaGreatDoorP44
namespace Go.Proofs.YtcabaecbmkgclaaGreatDoor.Kd
open Bz Mt
def dAt (l:List Bnd)(d:Nat→Bool)(x:Nat):Int:=(l.map fun b=>if (b.a=x∨b.b=x)∧b.o=4∧d b.pl=true then(1:Int)else 0).sum
theorem sum_tri {l l':List Bnd}{d:Nat→Bool}(h:l'.map tri=l.map (newT d))(x:Nat):sum l' x=sum l x+dAt l d x:=by
 have e1:sum l' x=((l'.map tri).map fun t=>if t.1=x∨t.2.1=x then(if t.2.2=4 then 1 else t.2.2)else 0).sum:=by unfold sum;rw[List.map_map];rfl
 rw[e1,h,List.map_map];clear h e1;induction l with
 |nil=>rfl
 |cons b l ih=>
  unfold sum dAt at*;rw[List.map_cons,List.map_cons,List.map_cons,List.sum_cons,List.sum_cons,List.sum_cons,ih];have key:(if b.a=x∨b.b=x then(if Qb d b.o b.pl=4 then 1 else Qb d b.o b.pl)else 0)=(if b.a=x∨b.b=x then(if b.o=4 then 1 else b.o)else 0)+(if (b.a=x∨b.b=x)∧b.o=4∧d b.pl=true then(1:Int)else 0):=by
   unfold Qb;by_cases h1:b.a=x∨b.b=x
   ·by_cases h2:b.o=4
    ·cases h3:d b.pl<;>simp[h1,h2]
    ·simp[h1,h2]
   ·simp[h1]
  show(if b.a=x∨b.b=x then(if Qb d b.o b.pl=4 then 1 else Qb d b.o b.pl)else 0)+_=_;rw[key];omega
theorem atom_again {l l':List Bnd}{x:Nat}{a0 A0:Atm}{D:Int}(hok:AtOk a0)(hA:pl0 A0=un a0)(hs:sum l' x=sum l x+D)
  (hw:wrong l x (AO l x a0)=false)
  (hD:D=if ((AO l x a0).aro&&(match Aa (AO l x a0).el (AO l x a0).ch with|v::_=>sum l x+(AO l x a0).hy==v-1|[]=>false))=true then 1 else 0):
  pl0 (AO l' x A0)=un (AO l x a0)∧wrong l' x (AO l' x A0)=false:=by
 obtain⟨el,ar,ch,hy,pl,br⟩:=a0;obtain⟨EL,AR,CH,HY,PL,BR⟩:=A0;unfold pl0 un at hA;simp only[Atm.mk.injEq]at hA;obtain⟨rfl,rfl,rfl,rfl,_,rfl⟩:=hA;have hch:=hok.ch;have hel:=hok.el;simp only at hch hel;cases ar with
 |false=>
  have hD0:D=0:=by rw[hD];unfold AO;cases BR<;>rfl
  rw[hD0,Int.add_zero]at hs;unfold AO at hw ⊢;cases BR with
  |true=>simp only[if_true]at hw ⊢;refine⟨rfl,Eq.trans ?_ hw⟩;unfold wrong;simp only[hs]
  |false=>
   simp only[Bool.false_eq_true,if_false]at hw ⊢;refine⟨?_,?_⟩
   ·unfold Ce;rw[hs];rfl
   ·refine Eq.trans ?_ hw;unfold wrong Ce;simp only[hs]
 |true=>
  cases BR with
  |true=>
   have e1:AO l x ⟨EL,true,CH,HY,pl,true⟩=⟨EL,true,CH,HY,pl,true⟩:=rfl;have e2:AO l' x ⟨EL,false,CH,HY,PL,true⟩=⟨EL,false,CH,HY,PL,true⟩:=rfl;rw[e1]at hw hD;rw[e1,e2];refine⟨rfl,?_⟩;unfold wrong at hw ⊢;simp only[if_true,Bool.true_and,Bool.false_eq_true,if_false]at hw hD ⊢;cases hv:Aa EL CH with
   |nil=>rw[hv]at hw;cases hw
   |cons v r=>
    rw[hv]at hw hD;simp only[List.head?_cons]at hw hD;have hc:sum l' x+HY=v:=by
     rw[hs];by_cases h1:sum l x+HY=v-1
     ·have hD1:D=1:=hD.trans (if_pos (by simpa using h1));omega
     ·have h2:(sum l x+HY==v-1)=false:=by simpa using h1
      have hD0:D=0:=hD.trans (if_neg (by rw[h2];decide));rw[h2]at hw;simp at hw;omega
    rw[hc];simp
  |false=>
   have hc0:CH=0:=hch rfl;subst hc0;have e1:AO l x ⟨EL,true,0,HY,pl,false⟩=⟨EL,true,0,Ce ⟨EL,true,0,HY,pl,false⟩ (sum l x),pl,false⟩:=rfl;have e2:AO l' x ⟨EL,false,0,HY,PL,false⟩=⟨EL,false,0,missing (Aa EL 0) (sum l' x),PL,false⟩:=rfl;have ei:Ce ⟨EL,true,0,HY,pl,false⟩ (sum l x)=if EL=⟨#[67]⟩then max (3-sum l x) 0 else 0:=rfl;rw[e1,ei]at hw hD;rw[e1,e2,ei];unfold wrong at hw ⊢;simp only[if_true,Bool.true_and,Bool.false_eq_true,if_false]at hw hD ⊢;have fin:∀(v:Int)(r:List Int)(h:Int),Aa EL 0=v::r→(if EL=⟨#[67]⟩then max (3-sum l x) 0 else 0)=h→(sum l x+h=v-1→missing (v::r) (sum l x+1)=h)→(sum l x+h=v→missing (v::r) (sum l x)=h)→
     pl0 ⟨EL,false,0,missing (Aa EL 0) (sum l' x),PL,false⟩=un ⟨EL,true,0,if EL=⟨#[67]⟩then max (3-sum l x) 0 else 0,pl,false⟩∧(!(Aa EL 0).contains (sum l' x+missing (Aa EL 0) (sum l' x)))=false:=by
    intro v r h hv hh k1 k2;rw[hv]at hw hD ⊢;rw[hh]at hw hD ⊢;simp only[List.head?_cons]at hw hD;have hc:sum l' x+h=v∧missing (v::r) (sum l' x)=h:=by
     rw[hs];by_cases h1:sum l x+h=v-1
     ·have hD1:D=1:=hD.trans (if_pos (by simpa using h1));rw[hD1];exact⟨by omega,k1 h1⟩
     ·have h2:(sum l x+h==v-1)=false:=by simpa using h1
      have hD0:D=0:=hD.trans (if_neg (by rw[h2];decide));rw[h2]at hw;simp at hw;rw[hD0,Int.add_zero];exact⟨hw,k2 hw⟩
    rw[hc.2,hc.1];exact⟨rfl,by simp⟩
   rcases hel rfl with rfl|rfl|rfl|rfl|rfl
   ·refine fin 4 [] (max (3-sum l x) 0) rfl rfl (fun h=>?_) (fun h=>?_)
    ·unfold missing;simp only[List.find?_cons];rw[decide_eq_true (by omega)];simp only;omega
    ·unfold missing;simp only[List.find?_cons];rw[decide_eq_true (by omega)];simp only;omega
   ·refine fin 3 [5] 0 rfl rfl (fun h=>?_) (fun h=>?_)
    ·rw[show sum l x+1=3 by omega];rfl
    ·rw[show sum l x=3 by omega];rfl
   ·refine fin 2 [] 0 rfl rfl (fun h=>?_) (fun h=>?_)
    ·rw[show sum l x+1=2 by omega];rfl
    ·rw[show sum l x=2 by omega];rfl
   ·refine fin 3 [5] 0 rfl rfl (fun h=>?_) (fun h=>?_)
    ·rw[show sum l x+1=3 by omega];rfl
    ·rw[show sum l x=3 by omega];rfl
   ·refine fin 2 [4,6] 0 rfl rfl (fun h=>?_) (fun h=>?_)
    ·rw[show sum l x+1=2 by omega];rfl
    ·rw[show sum l x=2 by omega];rfl
theorem wr_parse {s W:ByteArray}{q0:St}{e:Bnd→Bool}(h:parse s=.ok (q0.atoms,q0.bonds))(hW:Bz.Rest W 0 (wr0 (dOf q0.bonds e) s 0))(hs:W.size≤160)
  (hD:∀x,x<q0.atoms.length→dAt q0.bonds (dOf q0.bonds e) x=if Bj q0 x=true then 1 else 0):
  ∃ats' l',parse W=.ok (ats',l')∧ats'.map pl0=q0.atoms.map un∧l'.map tri=q0.bonds.map (newT (dOf q0.bonds e)):=by
 obtain⟨q,c⟩:=came h;obtain⟨e1,g1⟩:=F4 _ _ _ _ c.run (lx0 s).lx;have hok:=Cb s (s.size+1) _ _ _ (ok0 s) (.inl rfl) c.run;have hqp:q.pos=s.size:=Nat.le_antisymm hok.1.pos c.pos;obtain⟨nb,hb1,hb2⟩:=g1.ext;obtain⟨na,ha1,ha2⟩:=g1.ats;have hb0:q.bonds=nb:=by rw[hb1];rfl
 have ha0:q.atoms=na:=by rw[ha1];rfl
 have C:Wc (dOf q0.bonds e) s:=by refine⟨by rw[←hqp];exact e1,fun y hy=>?_⟩;obtain⟨b,hb,k1,_⟩:=NF.1 hy;rw[c.bonds,hb0]at hb;have:=hb2 b hb;rw[←k1];exact⟨by omega,this.2.2⟩
 have hrem:Rem q0.bonds q:=⟨[],by rw[c.bonds];simp,by simp⟩
 have hpre:Pre Bz.start:=fun b hb=>by simp[Bz.start]at hb
 have hst:dOf q0.bonds e 0=false:=(chain_a (e:=e) _ _ _ _ c.run hpre (lx0 s).lx hrem).2.1 rfl;obtain⟨Q,w1,w2,w3,w4,w5⟩:=chain_w (W:=W) C (s.size+1) (W.size+1) ⟨0,0,-1⟩ ⟨0,0,-1⟩ Bz.start Bz.start q c.run (by simp[Bz.start]) ⟨rfl,by show(0:Int)=if dOf q0.bonds e 0 then 61 else m58 0;rw[hst];rfl,.inl rfl⟩ ⟨rfl,rfl,fun k=>.inl ⟨rfl,rfl⟩⟩ (by show Bz.Rest W 0 (wr1 (dOf q0.bonds e) s 0);rw[←Gt hst];exact hW) (Nat.zero_le _) hpre (lx0 s).lx hrem;have hend:W.size≤Q.pos:=by rw[(wr_ge (by omega)).1]at w3;exact w3.end
 have hQr:∀k,Q.rings k=none:=fun k=>by
  rcases w2.rings k with⟨_,h⟩|⟨o,O,h,_⟩
  ·exact h
  ·rw[c.rings k]at h;cases h
 have hbd:Q.bonds.map tri=q0.bonds.map (newT (dOf q0.bonds e)):=by rw[w2.bonds,c.bonds]
 have each:∀x A0 a0,Q.atoms[x]? =some A0→q.atoms[x]? =some a0→pl0 (AO Q.bonds x A0)=un (AO q.bonds x a0)∧wrong Q.bonds x (AO Q.bonds x A0)=false:=by
  intro x A0 a0 hA ha;have hax:q0.atoms[x]? =some (AO q.bonds x a0):=by rw[c.atoms,List.getElem?_mapIdx,ha];rfl
  have hlt:x<q0.atoms.length:=(List.getElem?_eq_some_iff.1 hax).1;refine atom_again (D:=dAt q0.bonds (dOf q0.bonds e) x) (ha2 a0 ?_) ?_ ?_ ?_ ?_
  ·rw[←ha0];exact List.mem_of_getElem? ha
  ·have h1:(Q.atoms.map pl0)[x]? =some (pl0 A0):=by rw[List.getElem?_map,hA];rfl
   rw[w2.atoms,List.getElem?_map,ha]at h1;simp only[Option.map_some,Option.some.injEq]at h1;exact h1.symm
  ·rw[sum_tri hbd,c.bonds]
  ·have:=c.right x _ hax;rw[c.bonds]at this;exact this
  ·rw[hD x hlt];unfold Bj fill;rw[hax,c.bonds];rfl
 have hlen:Q.atoms.length=q.atoms.length:=w2.len;refine⟨Q.atoms.mapIdx (AO Q.bonds),Q.bonds,?_,?_,hbd⟩
 ·unfold parse;rw[if_neg (by omega),w1];simp only;rw[if_neg (by omega),left_none hQr,if_neg (by omega),QW (i:=0) fun j a hj=>?_];rw[List.getElem?_mapIdx]at hj;cases hA:Q.atoms[j]? with
  |none=>rw[hA]at hj;cases hj
  |some A0=>
   rw[hA]at hj;cases hj;have hlt:j<q.atoms.length:=by rw[←hlen];exact(List.getElem?_eq_some_iff.1 hA).1
   rw[Nat.zero_add];exact(each j A0 _ hA (List.getElem?_eq_getElem hlt)).2
 ·rw[c.atoms];apply List.ext_getElem?;intro x;rw[List.getElem?_map,List.getElem?_map,List.getElem?_mapIdx,List.getElem?_mapIdx];cases hA:Q.atoms[x]? with
  |none=>have:q.atoms[x]? =none:=List.getElem?_eq_none (by rw[←hlen];exact List.getElem?_eq_none_iff.1 hA);rw[this];rfl
  |some A0=>
   have hlt:x<q.atoms.length:=by rw[←hlen];exact(List.getElem?_eq_some_iff.1 hA).1
   rw[List.getElem?_eq_getElem hlt];simp only[Option.map_some,Option.some.injEq];exact(each x A0 _ hA (List.getElem?_eq_getElem hlt)).1
end Go.Proofs.YtcabaecbmkgclaaGreatDoor.Kd
namespace Go.Proofs.YtcabaecbmkgclaaGreatDoor.Kd
open Bz Mt Cp
def inP (P:List (Nat×Nat))(b:Bnd):Bool:=decide ((b.a,b.b)∈P)
theorem Ns {d d':Nat→Bool}:∀(t:List UInt8)(x:Nat),(∀y,x≤y→d y=d' y)→wrR d t x=wrR d' t x
 |[],_,_=>rfl
 |c::t,x,h=>by rw[wrR,wrR,h x (Nat.le_refl _),Ns t (x+1) fun y hy=>h y (by omega)]
theorem wrR_none {d:Nat→Bool}:∀(t:List UInt8)(x:Nat),(∀y,x≤y→d y=false)→wrR d t x=Dv t
 |[],_,_=>rfl
 |c::t,x,h=>by rw[wrR,h x (Nat.le_refl _),wrR_none t (x+1) fun y hy=>h y (by omega),GK];rfl
theorem wrR_upto {d:Nat→Bool}:∀(k:Nat)(t:List UInt8)(x:Nat),k≤t.length→(∀y,x≤y→y<x+k→d y=false)→wrR d t x=Dv (t.take k)++wrR d (t.drop k) (x+k)
 |0,t,x,_,_=>by simp[Dv]
 |k+1,[],x,h,_=>by simp at h
 |k+1,c::t,x,h,hd=>by have ih:=wrR_upto k t (x+1) (by simpa using h) fun y h1 h2=>hd y (by omega) (by omega);rw[wrR,hd x (Nat.le_refl _) (by omega),ih,List.take_succ_cons,GK,List.drop_succ_cons,show x+1+k=x+(k+1) by omega];simp only[Bool.false_eq_true,if_false,List.nil_append,List.append_assoc];rfl
theorem NG (b:Bnd)(l:List Bnd)(e:Bnd→Bool)(x:Nat):dOf (b::l) e x=((b.pl==x&&(b.o==4&&e b))||dOf l e x):=rfl
theorem ord_two (P:List (Nat×Nat))(b:Bnd):(b.o=4∧D4 P b=2)↔(b.o==4&&inP P b)=true:=by
 unfold D4 inP;by_cases h:b.o=4
 ·by_cases hp:(b.a,b.b)∈P<;>simp[h,hp]
 ·simp[h]
theorem Om (P:List (Nat×Nat))(t:List UInt8):∀(l:List Bnd)(f:Nat),l.Pairwise (fun x y=>x.pl<y.pl)→(∀b∈l,f≤b.pl∧b.pl<t.length)→wrGo t (l.map fun b=>(b,D4 P b)) f=wrR (dOf l (inP P)) (t.drop f) f
 |[],f,_,_=>by rw[List.map_nil,wrGo,wrR_none];intro y _;rfl
 |b::l,f,hr,hb=>by
  obtain⟨h1,h2⟩:=List.pairwise_cons.1 hr;have hbb:=hb b (by simp);rw[List.map_cons,wrGo];by_cases hc:b.o=4∧D4 P b=2
  ·have hcb:=(ord_two P b).1 hc;rw[if_pos hc,Om P t l b.pl h2 fun c hm=>⟨Nat.le_of_lt (h1 c hm),(hb c (by simp[hm])).2⟩];have hno:∀y,f≤y→y<f+(b.pl-f)→dOf (b::l) (inP P) y=false:=fun y y1 y2=>by
    rw[NG];have:(b.pl==y)=false:=by simp;omega
    rw[this,Bool.false_and,Bool.false_or];cases hd:dOf l (inP P) y
    ·rfl
    ·obtain⟨c,hm,hpl,_⟩:=NF.1 hd;have:=h1 c hm;omega
   rw[wrR_upto (d:=dOf (b::l) (inP P)) (b.pl-f) (t.drop f) f (by rw[List.length_drop];omega) hno,List.drop_drop,show f+(b.pl-f)=b.pl by omega,List.append_assoc];congr 1;have hdr:t.drop b.pl=t[b.pl]'hbb.2::t.drop (b.pl+1):=List.drop_eq_getElem_cons hbb.2;rw[hdr,wrR,wrR];have d1:dOf (b::l) (inP P) b.pl=true:=by rw[NG,hcb];simp
   have d2:dOf l (inP P) b.pl=false:=by
    cases hd:dOf l (inP P) b.pl
    ·rfl
    ·obtain⟨c,hm,hpl,_⟩:=NF.1 hd;have:=h1 c hm;omega
   have d3:wrR (dOf l (inP P)) (t.drop (b.pl+1)) (b.pl+1)=wrR (dOf (b::l) (inP P)) (t.drop (b.pl+1)) (b.pl+1):=Ns _ _ fun y hy=>by
    rw[NG];have:(b.pl==y)=false:=by simp;omega
    rw[this,Bool.false_and,Bool.false_or]
   rw[d1,d2,d3];rfl
  ·rw[if_neg hc,Om P t l f h2 fun c hm=>hb c (by simp[hm])];refine Ns _ _ fun y _=>?_;rw[NG];have:(b.o==4&&inP P b)=false:=by
    cases hx:(b.o==4&&inP P b)
    ·rfl
    ·exact absurd ((ord_two P b).2 hx) hc
   rw[this,Bool.and_false,Bool.false_or]
theorem zip_map (l:List Bnd)(g:Bnd→Nat):l.zip (l.map g)=l.map fun b=>(b,g b):=by
 induction l with
 |nil=>rfl
 |cons b l ih=>rw[List.map_cons,List.zip_cons_cons,ih];rfl
section
variable {q:St}{n pos:Nat}{mate:Nat→Option Nat}{f:Fo}{gh:Gh}
theorem pairs_iff {a b:Nat}:(a,b)∈AQ n mate↔mate a=some b∧a<b∧a<n:=by
 constructor
 ·exact IB
 ·rintro⟨h1,h2,h3⟩;unfold AQ;rw[List.mem_map];have hm:BP mate a=b:=by unfold BP;rw[h1];rfl
  refine⟨a,List.mem_filter.2 ⟨List.mem_range.2 h3,?_⟩,by rw[hm]⟩;rw[h1,hm];simp[h2]
theorem d_place (en:En n q.bonds pos)(P:List (Nat×Nat)){b:Bnd}(hb:b∈q.bonds)(h4:b.o=4):dOf q.bonds (inP P) b.pl=inP P b:=by
 have uniq:∀c∈q.bonds,c.pl=b.pl→c=b:=by
  intro c hc he;obtain⟨i,hi,ei⟩:=List.getElem_of_mem hc;obtain⟨j,hj,ej⟩:=List.getElem_of_mem hb;have hp:=List.pairwise_iff_getElem.1 en.rise;rcases Nat.lt_trichotomy i j with h|h|h
  ·have:=hp i j hi hj h;rw[ei,ej]at this;omega
  ·subst h;rw[←ei,←ej]
  ·have:=hp j i hj hi h;rw[ei,ej]at this;omega
 rw[Bool.eq_iff_iff,NF];constructor
 ·rintro⟨c,hc,h1,_,h3⟩;rw[←uniq c hc h1];exact h3
 ·intro h;exact⟨b,hb,rfl,h4,h⟩
theorem new_ord (en:En n q.bonds pos)(P:List (Nat×Nat))(hpos:∀b∈q.bonds,1≤b.o∧b.o≤4){b:Bnd}(hb:b∈q.bonds):Qb (dOf q.bonds (inP P)) b.o b.pl=(D4 P b:Int):=by
 unfold Qb D4;by_cases h4:b.o=4
 ·rw[if_pos h4,if_pos h4,d_place en P hb h4];unfold inP;by_cases hp:(b.a,b.b)∈P<;>simp[hp]
 ·rw[if_neg h4,if_neg h4];have:=hpos b hb;omega
theorem dAt_len (en:En q.atoms.length q.bonds pos)(x:Nat):dAt q.bonds (dOf q.bonds (inP (AQ q.atoms.length mate))) x=((q.bonds.filter fun b=>decide ((b.a=x∨b.b=x)∧b.o=4∧(b.a,b.b)∈AQ q.atoms.length mate)).length:Int):=by
 unfold dAt;have key:∀l:List Bnd,(∀b∈l,b∈q.bonds)→(l.map fun b=>if (b.a=x∨b.b=x)∧b.o=4∧dOf q.bonds (inP (AQ q.atoms.length mate)) b.pl=true then(1:Int)else 0).sum=((l.filter fun b=>decide ((b.a=x∨b.b=x)∧b.o=4∧(b.a,b.b)∈AQ q.atoms.length mate)).length:Int):=by
  intro l;induction l with
  |nil=>intro _;rfl
  |cons b l ih=>
   intro hl;rw[List.map_cons,List.sum_cons,ih fun c hc=>hl c (by simp[hc]),List.filter_cons];have hbm:=hl b (by simp);have ec:((b.a=x∨b.b=x)∧b.o=4∧dOf q.bonds (inP (AQ q.atoms.length mate)) b.pl=true)↔((b.a=x∨b.b=x)∧b.o=4∧(b.a,b.b)∈AQ q.atoms.length mate):=by
    constructor
    ·rintro⟨h1,h2,h3⟩;rw[d_place en _ hbm h2]at h3;exact⟨h1,h2,of_decide_eq_true h3⟩
    ·rintro⟨h1,h2,h3⟩;exact⟨h1,h2,by rw[d_place en _ hbm h2];exact decide_eq_true h3⟩
   by_cases hc:(b.a=x∨b.b=x)∧b.o=4∧(b.a,b.b)∈AQ q.atoms.length mate
   ·rw[if_pos (ec.2 hc),if_pos (decide_eq_true hc),List.length_cons];omega
   ·rw[if_neg (fun h=>hc (ec.1 h)),if_neg (by simpa using hc)];omega
 exact key q.bonds fun _ h=>h
theorem dAt_is (en:En q.atoms.length q.bonds pos)(hn:q.atoms.length≤24)(hB:Ie (grL q.atoms.length (AU q q.bonds)) mate f gh)(hd:¬2*(AQ q.atoms.length mate).length<cnt q.atoms.length (Bj q)){x:Nat}(hx:x<q.atoms.length):
  dAt q.bonds (dOf q.bonds (inP (AQ q.atoms.length mate))) x=if Bj q x=true then 1 else 0:=by
 have E:=Fq en;have all:∀i,i<q.atoms.length→Bj q i=true→(mate i).isSome=true:=by
  intro i hi hc;have h1:2*(AQ q.atoms.length mate).length+cnt q.atoms.length (fun x=>(mate x).isNone)=q.atoms.length:=Nq (E.gr hn) hB.m;have h2:=cnt_not q.atoms.length (fun x=>(mate x).isNone);have h3:cnt q.atoms.length (fun k=> !(mate k).isNone)=cnt q.atoms.length (fun k=>(mate k).isSome):=E4 fun k _=>by cases mate k<;>rfl
  exact cnt_full (p:=fun k=>(mate k).isSome) (q:=Bj q) (fun k _ hk=>LD hB.m hk) (by omega) i hi hc
 have e1:=dAt_len (mate:=mate) en x;rw[e1];obtain⟨F,hF⟩:∃F,q.bonds.filter (fun b=>decide ((b.a=x∨b.b=x)∧b.o=4∧(b.a,b.b)∈AQ q.atoms.length mate))=F:=⟨_,rfl⟩
 have mem:∀b∈F,b∈q.bonds∧(b.a=x∨b.b=x)∧mate b.a=some b.b∧b.a<b.b:=by intro b hb;rw[←hF,List.mem_filter]at hb;obtain⟨k1,k2,k3⟩:=of_decide_eq_true hb.2;obtain⟨m1,m2,_⟩:=pairs_iff.1 k3;exact⟨hb.1,k1,m1,m2⟩
 have dist:F.Pairwise fun x y=>¬(x.a=y.a∧x.b=y.b):=by rw[←hF];exact List.Pairwise.filter _ en.dist
 rw[hF];by_cases hc:Bj q x=true
 ·rw[if_pos hc];obtain⟨y,hy⟩:=Option.isSome_iff_exists.1 (all x hx hc);have hyx:=hB.m.back x y hy;have hadj:Dy (AU q q.bonds) x y=true:=hB.m.adj x y hy;have hne:F≠[]:=by
   have:∃b∈q.bonds,DC q b=true∧((b.a=x∧b.b=y)∨(b.a=y∧b.b=x)):=by
    rcases EK.1 hadj with k|k
    ·obtain⟨b,h1,h2,h3,h4⟩:=D6.1 k;exact⟨b,h1,h2,.inl ⟨h3,h4⟩⟩
    ·obtain⟨b,h1,h2,h3,h4⟩:=D6.1 k;exact⟨b,h1,h2,.inr ⟨h3,h4⟩⟩
   obtain⟨b,h1,h2,h3⟩:=this;have hlt:=en.ends b h1;have h4:b.o=4:=by unfold DC at h2;simp only[Bool.and_eq_true,beq_iff_eq]at h2;exact h2.1
   have hin:b∈F:=by
    rw[←hF,List.mem_filter];refine⟨h1,decide_eq_true ⟨?_,h4,?_⟩⟩
    ·rcases h3 with h|h
     ·exact .inl h.1
     ·exact .inr h.2
    ·refine pairs_iff.2 ⟨?_,hlt.1,by omega⟩;rcases h3 with⟨h5,h6⟩|⟨h5,h6⟩
     ·rw[h5,h6];exact hy
     ·rw[h5,h6];exact hyx
   intro h0;rw[h0]at hin;simp at hin
  have same:∀b∈F,∀c∈F,b.a=c.a∧b.b=c.b:=by
   intro b hb c hc;obtain⟨_,b1,b2,b3⟩:=mem b hb;obtain⟨_,c1,c2,c3⟩:=mem c hc;have hb':=hB.m.back _ _ b2;have hc':=hB.m.back _ _ c2;rcases b1 with b1|b1<;>rcases c1 with c1|c1
   ·rw[b1]at b2 ⊢;rw[c1]at c2 ⊢;rw[b2]at c2;exact⟨rfl,Option.some.inj c2⟩
   ·rw[b1]at b2;rw[c1]at hc';rw[b2]at hc';have:=Option.some.inj hc';omega
   ·rw[b1]at hb';rw[c1]at c2;rw[hb']at c2;have:=Option.some.inj c2;omega
   ·rw[b1]at hb' ⊢;rw[c1]at hc' ⊢;rw[hb']at hc';exact⟨Option.some.inj hc',rfl⟩
  match F,hne,same,dist with
  |[],h,_,_=>exact absurd rfl h
  |[b],_,_,_=>rfl
  |b::c::r,_,same,dist=>exact absurd (same b (by simp) c (by simp)) ((List.pairwise_cons.1 dist).1 c (by simp))
 ·rw[if_neg hc];match F,mem with
  |[],_=>rfl
  |b::r,mem=>
   exfalso;obtain⟨_,b1,b2,_⟩:=mem b (by simp);have hb':=hB.m.back _ _ b2;rcases b1 with b1|b1
   ·rw[b1]at b2;exact hc (LD hB.m (x:=x) (by rw[b2];rfl))
   ·rw[b1]at hb';exact hc (LD hB.m (x:=x) (by rw[hb'];rfl))
end
theorem again_parse {s:ByteArray}{q:St}{mate:Nat→Option Nat}{f:Fo}{gh:Gh}(h:Bz.parse s=.ok (q.atoms,q.bonds))(en:En q.atoms.length q.bonds s.size)(hn:q.atoms.length≤24)(hpos:∀b∈q.bonds,1≤b.o∧b.o≤4)(hB:Ie (grL q.atoms.length (AU q q.bonds)) mate f gh)(hd:¬2*(AQ q.atoms.length mate).length<cnt q.atoms.length (Bj q))
  {W:ByteArray}(hW:W.data.toList=wrL s.data.toList q.bonds (q.bonds.map (D4 (AQ q.atoms.length mate))))(hs:W.size≤160):
  ∃ats' l',Bz.parse W=.ok (ats',l')∧ats'.map pl0=q.atoms.map un∧l'.map tri=q.bonds.map fun b=>(b.a,b.b,(D4 (AQ q.atoms.length mate) b:Int)):=by
 have hrest:Bz.Rest W 0 (wr0 (dOf q.bonds (inP (AQ q.atoms.length mate))) s 0):=by unfold Bz.Rest;rw[List.drop_zero,hW];unfold wrL wr0;rw[zip_map];exact Om _ _ q.bonds 0 en.rise fun b hb=>⟨Nat.zero_le _,by have:=en.plt b hb;simpa using this⟩
 obtain⟨ats',l',h1,h2,h3⟩:=wr_parse h hrest hs fun x hx=>dAt_is en hn hB hd hx;refine⟨ats',l',h1,h2,h3.trans (List.map_congr_left fun b hb=>?_)⟩;unfold newT;rw[new_ord en _ hpos hb]
end Go.Proofs.YtcabaecbmkgclaaGreatDoor.Kd
