import Derived.Test.YtcabaecbmkgclaaGreatDoorP06
import Derived.Test.YtcabaecbmkgclaaGreatDoorP32
namespace Go.Proofs.YtcabaecbmkgclaaGreatDoor.Bz
open Mt
theorem u8 (n:Nat)(h:n<256):n.toUInt8.toNat=n:=by rw[Nat.toUInt8_eq,UInt8.toNat_ofNat'];omega
theorem Ip {c:Int}(h:48≤c∧c≤57):isDigit c=true:=by unfold isDigit;simp[h.1,h.2]
def cA (pl:Nat):Atm:=⟨⟨#[67]⟩,true,0,0,pl,false⟩
theorem NW {p:St}{x:Nat}:aro p x=true↔∃a,p.atoms[x]? =some a∧a.aro=true:=by
 unfold aro;simp only[Int.toNat_natCast];cases h:p.atoms[x]? with
 |none=>simp
 |some a=>simp
theorem JD (l:List Bnd)(b:Bnd)(x:Nat):sum (l++[b]) x=sum l x+if b.a=x∨b.b=x then(if b.o=4 then 1 else b.o)else 0:=by unfold sum;rw[List.map_append,List.sum_append];simp
theorem sum_out {l:List Bnd}{x:Nat}(h:∀b∈l,b.a<x∧b.b<x):sum l x=0:=by
 induction l with
 |nil=>rfl
 |cons b l ih=>have h1:=h b (by simp);have h2:=ih fun y hy=>h y (by simp[hy]);unfold sum at h2 ⊢;rw[List.map_cons,List.sum_cons,h2,if_neg (by omega)];rfl
structure Way (p:St)(m:Nat→Option Nat)(last i:Nat):Prop where
 sym:∀x y,m x=some y→m y=some x
 bond:∀x y,m x=some y→∃b∈p.bonds,b.o=4∧((b.a=x∧b.b=y)∨(b.a=y∧b.b=x))
 ar:∀x y:Nat,m x=some y→aro p x=true
 all:∀x:Nat,aro p x=true→(m x=none↔(i%2=1∧x=last))
structure An (p:St)(e:Nat→Int)(last i:Nat):Prop where
 pos:last<p.atoms.length
 ends:∀b∈p.bonds,b.a<p.atoms.length∧b.b<p.atoms.length∧(b.o=1∨b.o=4)
 ring:∀x a,p.atoms[x]? =some a→a.aro=true→a.el=⟨#[67]⟩∧a.ch=0∧a.br=false∧(sum p.bonds x+e x=2∨sum p.bonds x+e x=3)
 on:∀x a,p.atoms[x]? =some a→a.aro=false→decE a.el∧a.ch=0∧a.br=false∧sum p.bonds x=1
 zero:aro p (0:Nat)=true
 la:aro p last=true
 count:cnt p.atoms.length (fun x=>aro p x)=i
 way:∃m,Way p m last i
theorem aro_snoc {p q:St}{a:Atm}(h:q.atoms=p.atoms++[a])(x:Nat):aro q x=if x=p.atoms.length then a.aro else aro p x:=by
 unfold aro;simp only[Int.toNat_natCast];rw[h];by_cases hx:x=p.atoms.length
 ·subst hx;simp
 ·rw[if_neg hx];by_cases hlt:x<p.atoms.length
  ·rw[List.getElem?_append_left hlt]
  ·rw[List.getElem?_eq_none (by simp;omega),List.getElem?_eq_none (by omega)]
theorem Oh {p q:St}{a b:Atm}(h:q.atoms=p.atoms++[a]){x:Nat}(hx:q.atoms[x]? =some b):(x=p.atoms.length∧b=a)∨(x<p.atoms.length∧p.atoms[x]? =some b):=by
 rw[h]at hx;by_cases hlt:x<p.atoms.length
 ·rw[List.getElem?_append_left hlt]at hx;exact .inr ⟨hlt,hx⟩
 ·have:x=p.atoms.length:=by have:=(List.getElem?_eq_some_iff.1 hx).1;simp at this;omega
  subst this;simp at hx;exact .inl ⟨rfl,hx.symm⟩
theorem An.hang {p q:St}{e:Nat→Int}{last i:Nat}(h:An p e last i)(h2:sum p.bonds last+e last=2)(H:Hung' p q last):An q e last i:=by
 rcases H with⟨ha,hb⟩|⟨el,pl,hE,ha,hb⟩
 ·obtain⟨k1,k2,k3,k4,k5,k6,k7,m,k8⟩:=h;have har:∀x:Int,aro q x=aro p x:=fun x=>by unfold aro;rw[ha]
  refine⟨by rw[ha];exact k1,by rw[ha,hb];exact k2,by rw[ha,hb];exact k3,by rw[ha,hb];exact k4,by rw[har];exact k5,by rw[har];exact k6,by rw[ha];simp only[har];exact k7,m,k8.sym,by rw[hb];exact k8.bond,fun x y h=>by rw[har];exact k8.ar x y h,fun x hx=>k8.all x (by rw[←har];exact hx)⟩
 ·obtain⟨k1,k2,k3,k4,k5,k6,k7,m,k8⟩:=h;have har:=aro_snoc ha;simp only at har;have hlen:q.atoms.length=p.atoms.length+1:=by rw[ha];simp
  have h0:0<p.atoms.length:=by omega
  have hs0:sum p.bonds p.atoms.length=0:=sum_out fun b hb=>⟨(k2 b hb).1,(k2 b hb).2.1⟩
  have hlo:∀x:Nat,aro p x=true→x<p.atoms.length:=fun x hx=>by obtain⟨a,h1,_⟩:=NW.1 hx;exact(List.getElem?_eq_some_iff.1 h1).1
  refine⟨by omega,?_,?_,?_,?_,?_,?_,m,k8.sym,?_,fun x y h=>?_,?_⟩
  ·intro b hbm;rw[hb,List.mem_append,List.mem_singleton]at hbm;rcases hbm with hbm|rfl
   ·have:=k2 b hbm;omega
   ·exact⟨by show last<_;omega,by show p.atoms.length<_;omega,.inl rfl⟩
  ·intro x a hx haa;rcases Oh ha hx with⟨rfl,rfl⟩|⟨hlt,hx'⟩
   ·cases haa
   ·have:=k3 x a hx' haa;refine⟨this.1,this.2.1,this.2.2.1,?_⟩;rw[hb,JD];simp only;by_cases hxl:last=x
    ·subst hxl;simp;omega
    ·rw[if_neg (by omega)];have:=this.2.2.2;omega
  ·intro x a hx haa;rcases Oh ha hx with⟨rfl,rfl⟩|⟨hlt,hx'⟩
   ·refine⟨hE,rfl,rfl,?_⟩;rw[hb,JD,hs0];simp
   ·have:=k4 x a hx' haa;refine⟨this.1,this.2.1,this.2.2.1,?_⟩;have hne:last≠x:=by rintro rfl;obtain⟨a',h1,h2⟩:=NW.1 k6;rw[hx']at h1;cases h1;rw[haa]at h2;cases h2
    rw[hb,JD];simp only;rw[if_neg (by omega),this.2.2.2];rfl
  ·rw[har,if_neg (by omega)];exact k5
  ·rw[har,if_neg (by omega)];exact k6
  ·rw[hlen,cnt,har];simp only[if_true,Bool.false_eq_true,if_false,Nat.add_zero];rw[←k7];exact E4 fun k hk=>by rw[har,if_neg (by omega)]
  ·intro x y hxy;obtain⟨b,h1,h2⟩:=k8.bond x y hxy;exact⟨b,by rw[hb];simp[h1],h2⟩
  ·have:=hlo x (k8.ar x y h);rw[har,if_neg (by omega)];exact k8.ar x y h
  ·intro x hx;rw[har]at hx;split at hx
   ·cases hx
   ·exact k8.all x hx
theorem An.atom {p q:St}{e:Nat→Int}{last i pl pl':Nat}(h:An p e last i)(hel:1≤e last)(ha:q.atoms=p.atoms++[cA pl])(hb:q.bonds=p.bonds++[⟨last,p.atoms.length,4,pl'⟩]):
  An q (fun x=>if x=p.atoms.length then 1 else if x=last then e x-1 else e x) p.atoms.length (i+1)∧sum q.bonds p.atoms.length=1:=by
 obtain⟨k1,k2,k3,k4,k5,k6,k7,m,k8⟩:=h;have har:=aro_snoc ha;have hlen:q.atoms.length=p.atoms.length+1:=by rw[ha];simp
 have h0:0<p.atoms.length:=by omega
 have hs0:sum p.bonds p.atoms.length=0:=sum_out fun b hb=>⟨(k2 b hb).1,(k2 b hb).2.1⟩
 have hs1:sum q.bonds p.atoms.length=1:=by rw[hb,JD,hs0];simp
 have hin:∀x y,m x=some y→x<p.atoms.length∧y<p.atoms.length:=fun x y hxy=>by obtain⟨b,h1,h2,h3⟩:=k8.bond x y hxy;have:=k2 b h1;omega
 refine⟨⟨by omega,?_,?_,?_,?_,?_,?_,?_⟩,hs1⟩
 ·intro b hbm;rw[hb,List.mem_append,List.mem_singleton]at hbm;rcases hbm with hbm|rfl
  ·have:=k2 b hbm;omega
  ·exact⟨by show last<_;omega,by show p.atoms.length<_;omega,.inr rfl⟩
 ·intro x a hx haa;rcases Oh ha hx with⟨rfl,rfl⟩|⟨hlt,hx'⟩
  ·refine⟨rfl,rfl,rfl,?_⟩;rw[hs1];simp
  ·have:=k3 x a hx' haa;refine⟨this.1,this.2.1,this.2.2.1,?_⟩;rw[hb,JD];simp only;rw[if_neg (show ¬x=p.atoms.length by omega)];have:=this.2.2.2;by_cases hxl:last=x
   ·subst hxl;simp;omega
   ·rw[if_neg (by omega),if_neg (by omega)];omega
 ·intro x a hx haa;rcases Oh ha hx with⟨rfl,rfl⟩|⟨hlt,hx'⟩
  ·cases haa
  ·have:=k4 x a hx' haa;refine⟨this.1,this.2.1,this.2.2.1,?_⟩;have hne:last≠x:=by rintro rfl;obtain⟨a',h1,h2⟩:=NW.1 k6;rw[hx']at h1;cases h1;rw[haa]at h2;cases h2
   rw[hb,JD];simp only;rw[if_neg (by omega),this.2.2.2];rfl
 ·rw[har,if_neg (by omega)];exact k5
 ·rw[har,if_pos rfl];rfl
 ·rw[hlen,cnt,har,if_pos rfl];simp only[cA,if_true];rw[←k7];congr 1;exact E4 fun k hk=>by rw[har,if_neg (by omega)]
 ·have hold:∀x:Nat,aro q x=true→x≠p.atoms.length→aro p x=true:=fun x hx hne=>by rwa[har,if_neg hne]at hx
  have hnew:m p.atoms.length=none:=by
   cases hm:m p.atoms.length with
   |none=>rfl
   |some y=>have:=(hin _ _ hm).1;omega
  have hbm:∀b∈p.bonds,b∈q.bonds:=fun b h=>by rw[hb];simp[h]
  have hnq:∀x:Nat,aro p x=true→aro q x=true:=fun x hx=>by obtain⟨a,h1,_⟩:=NW.1 hx;have:=(List.getElem?_eq_some_iff.1 h1).1;rw[har,if_neg (by omega)];exact hx
  have hqn:aro q (p.atoms.length:Nat)=true:=by rw[har,if_pos rfl];rfl
  by_cases hi:i%2=1
  ·have hln:m last=none:=(k8.all last k6).2 ⟨hi,rfl⟩;refine⟨fun x=>if x=last then some p.atoms.length else if x=p.atoms.length then some last else m x,?_,?_,?_,?_⟩
   ·intro x y hxy;split at hxy
    ·rename_i hx;cases hxy;rw[if_neg (by omega),if_pos rfl,hx]
    ·rename_i hx;split at hxy
     ·rename_i hx2;cases hxy;rw[if_pos rfl,hx2]
     ·rename_i hx2;have hy:=k8.sym x y hxy;have h1:y≠last:=by rintro rfl;rw[hln]at hy;cases hy
      have h2:y≠p.atoms.length:=by rintro rfl;rw[hnew]at hy;cases hy
      rw[if_neg h1,if_neg h2,hy]
   ·intro x y hxy;split at hxy
    ·rename_i hx;cases hxy;exact⟨⟨last,p.atoms.length,4,pl'⟩,by rw[hb];simp,rfl,.inl ⟨hx.symm,rfl⟩⟩
    ·split at hxy
     ·rename_i hx2;cases hxy;exact⟨⟨last,p.atoms.length,4,pl'⟩,by rw[hb];simp,rfl,.inr ⟨rfl,hx2.symm⟩⟩
     ·obtain⟨b,h1,h2⟩:=k8.bond x y hxy;exact⟨b,hbm b h1,h2⟩
   ·intro x y hxy;split at hxy
    ·rename_i hx;rw[hx];exact hnq _ k6
    ·split at hxy
     ·rename_i hx2;rw[hx2];exact hqn
     ·exact hnq _ (k8.ar x y hxy)
   ·intro x hx;refine⟨fun hn=>?_,fun hn=>by omega⟩;split at hn
    ·cases hn
    ·split at hn
     ·cases hn
     ·rename_i h1 h2;have:=((k8.all x (hold x hx h2)).1 hn).2;exact absurd this h1
  ·refine⟨m,k8.sym,fun x y hxy=>?_,fun x y h=>hnq _ (k8.ar x y h),fun x hx=>?_⟩
   ·obtain⟨b,h1,h2⟩:=k8.bond x y hxy;exact⟨b,hbm b h1,h2⟩
   ·by_cases hxl:x=p.atoms.length
    ·subst hxl;rw[hnew];simp;omega
    ·have:=k8.all x (hold x hx hxl);rw[this];constructor
     ·intro h;omega
     ·intro h;omega
theorem left_none {f:Nat→Option Opn}(h:∀k,f k=none)(d:Nat):∀n,leftmost f d n=d
 |0=>rfl
 |n+1=>by rw[leftmost,h n];exact left_none h d n
theorem QW {b:List Bnd}:∀{l:List Atm}{i:Nat},(∀j a,l[j]? =some a→wrong b (i+j) a=false)→firstWrong b i l=none
 |[],_,_=>rfl
 |a::l,i,h=>by have h0:=h 0 a rfl;rw[Nat.add_zero]at h0;rw[firstWrong,h0];simp only[Bool.false_eq_true,if_false];exact QW fun j x hx=>by have:=h (j+1) x (by simpa using hx);rwa[show i+(j+1)=i+1+j by omega]at this
end Go.Proofs.YtcabaecbmkgclaaGreatDoor.Bz
namespace Go.Proofs.YtcabaecbmkgclaaGreatDoor
open Bz
def RI (t:ByteArray)(p:St):Prop:=∀k o,p.rings k=some o→k<100∧o.place<t.size
section
variable {t:ByteArray}{p q:St}
theorem number_lt {i k j:Nat}(h:AY t i=.ok (k,j)):k<100∧i<t.size:=by
 unfold AY at h;have dig:∀{c:Int},isDigit c=true→48≤c∧c≤57:=fun{c}h=>by unfold isDigit at h;simpa using h
 split at h
 ·rename_i h37;have hlt:i<t.size:=Af (by omega);split at h
  ·rename_i hd;split at h
   ·rename_i hd2;have:=dig hd;have:=dig hd2;cases h;exact⟨by omega,hlt⟩
   ·cases h
  ·cases h
 ·split at h
  ·rename_i hd;have:=dig hd;cases h;exact⟨by omega,Af (by omega)⟩
  ·cases h
theorem QX {a:Nat}{g:Ak}(h:Am t a p=.ok (g,q))(r:RI t p):RI t q:=by
 unfold Am at h;simp only at h;split at h
 ·split at h
  ·cases h
  ·cases h;exact r
 ·cases h;exact r
theorem link_ri {a:Nat}{g:Ak}(h:link t a p=.ok (g,q))(r:RI t p):RI t q:=by
 unfold link at h;split at h
 ·cases h;exact r
 ·exact QX h r
theorem atom_ri {a:Nat}{g:Ak}(h:atom t g p=.ok (a,q))(r:RI t p):RI t q:=by
 unfold atom at h;simp only at h;split at h
 ·split at h<;>cases h
 split at h
 ·cases h
 split at h
 ·cases h
 split at h
 ·cases h
 simp only[Except.ok.injEq,Prod.mk.injEq]at h;rw[←h.2];split
 ·exact r
 ·exact r
theorem close_ri {f l:Ak}{pl:Nat}(h:BZ f l pl p=.ok q)(r:RI t p):RI t q:=by
 unfold BZ at h;simp only at h;split at h
 ·cases h
 split at h
 ·cases h
 split at h
 ·cases h
 cases h;exact r
theorem ring_ri {a:Nat}(h:ring t a p=.ok q)(r:RI t p):RI t q:=by
 unfold ring at h;split at h
 ·cases h
 rename_i g p1 he;have r1:=QX he r;split at h
 ·cases h
 rename_i k j hn;obtain⟨k1,k2⟩:=number_lt hn;split at h
 ·cases h;intro x o hx;simp only[CG]at hx;split at hx
  ·rename_i e;cases hx;exact⟨by omega,k2⟩
  ·exact r1 x o hx
 ·refine close_ri h ?_;intro x o hx;simp only[CG]at hx;split at hx
  ·cases hx
  ·exact r1 x o hx
theorem rings_ri {a:Nat}:∀(n:Nat){p q:St},BM t a n p=.ok q→RI t p→RI t q
 |0,p,q,h,r=>by simp only[BM,Except.ok.injEq]at h;subst h;exact r
 |n+1,p,q,h,r=>by
  rw[BM]at h;split at h
  ·split at h
   ·cases h
   ·rename_i hk;exact rings_ri n h (ring_ri hk r)
  ·cases h;exact r
def CRI (t:ByteArray)(c:Ak→St→R St):Prop:=∀h p q,c h p=.ok q→RI t p→RI t q
theorem branch_ri {c:Ak→St→R St}(hc:CRI t c){a:Nat}(h:branch t c a p=.ok q)(r:RI t p):RI t q:=by
 unfold branch at h;split at h
 ·cases h
 rename_i hl;split at h
 ·cases h
 rename_i hk;split at h
 ·cases h;have:=hc _ _ _ hk (link_ri hl r);exact this
 ·cases h
theorem OV {c:Ak→St→R St}(hc:CRI t c){a:Nat}:∀(n:Nat){p q:St},Au t c a n p=.ok q→RI t p→RI t q
 |0,p,q,h,r=>by simp only[Au,Except.ok.injEq]at h;subst h;exact r
 |n+1,p,q,h,r=>by
  rw[Au]at h;split at h
  ·split at h
   ·cases h
   ·rename_i hk;exact OV hc n h (branch_ri hc hk r)
  ·cases h;exact r
theorem knot_ri {c:Ak→St→R St}(hc:CRI t c){g:Ak}{a:Nat}(h:Dx t c g p=.ok (a,q))(r:RI t p):RI t q:=by
 unfold Dx at h;split at h
 ·cases h
 rename_i h1;split at h
 ·cases h
 rename_i h2;split at h
 ·cases h
 rename_i h3;cases h;exact OV hc _ h3 (rings_ri _ h2 (atom_ri h1 r))
theorem linked_ri {c:Ak→St→R St}(hc:CRI t c):∀(n:Nat){a:Nat}{p q:St},Bz.linked t c n a p=.ok q→RI t p→RI t q
 |0,a,p,q,h,r=>by simp only[Bz.linked,Except.ok.injEq]at h;subst h;exact r
 |n+1,a,p,q,h,r=>by
  rw[Bz.linked]at h;split at h
  ·split at h
   ·cases h
   ·rename_i hk;refine linked_ri hc n h ?_;unfold BN at hk;split at hk
    ·cases hk
    ·rename_i hl;exact knot_ri hc hk (link_ri hl r)
  ·cases h;exact r
theorem QY:∀n,CRI t (chain t n)
 |0=>by intro h p q hr;simp[chain]at hr
 |n+1=>by
  intro h p q hr r;rw[chain]at hr;split at hr
  ·cases hr
  ·rename_i hk;exact linked_ri (QY n) _ hr (knot_ri (QY n) hk r)
end
theorem left_le {f:Nat→Option Opn}{d:Nat}:∀{n k:Nat}{o:Opn},k<n→f k=some o→leftmost f d n≤o.place
 |0,k,o,hk,_=>by omega
 |n+1,k,o,hk,h=>by
  by_cases hkn:k=n
  ·subst hkn;rw[leftmost,h];exact Nat.min_le_right _ _
  ·have:=left_le (d:=d) (n:=n) (by omega) h;rw[leftmost];split
   ·exact Nat.le_trans (Nat.min_le_left _ _) this
   ·exact this
theorem QZ {b:List Bnd}:∀{l:List Atm}{i:Nat},firstWrong b i l=none→∀j a,l[j]? =some a→wrong b (i+j) a=false
 |[],_,_,j,a,h=>by simp at h
 |x::l,i,h,j,a,hj=>by
  rw[firstWrong]at h;split at h
  ·cases h
  ·rename_i hw;match j,hj with
   |0,hj=>simp at hj;subst hj;simpa using hw
   |j+1,hj=>have:=QZ h j a (by simpa using hj);rwa[show i+(j+1)=i+1+j by omega]
structure Came (t:ByteArray)(ats:List Atm)(l:List Bnd)(q:St):Prop where
 size:t.size≤160
 run:chain t (t.size+1) ⟨0,0,-1⟩ Bz.start=.ok q
 pos:t.size≤q.pos
 rings:∀k,q.rings k=none
 atoms:ats=q.atoms.mapIdx (AO q.bonds)
 bonds:l=q.bonds
 right:∀j a,ats[j]? =some a→wrong l j a=false
theorem came {t:ByteArray}{ats:List Atm}{l:List Bnd}(h:parse t=.ok (ats,l)):∃q,Came t ats l q:=by
 unfold parse at h;split at h
 ·cases h
 rename_i hs;split at h
 ·cases h
 rename_i q hq;split at h
 ·cases h
 rename_i hp;split at h
 ·cases h
 rename_i hl;simp only at h;split at h
 ·cases h
 rename_i hw;simp only[Except.ok.injEq,Prod.mk.injEq]at h;obtain⟨h1,h2⟩:=h;refine⟨q,by omega,hq,by omega,fun k=>?_,h1.symm,h2.symm,?_⟩
 ·cases hk:q.rings k with
  |none=>rfl
  |some o=>have:=QY (t:=t) _ _ _ _ hq (fun _ _ h=>by cases h) k o hk;have:=left_le (d:=t.size) this.1 hk;omega
 ·intro j a hj;rw[←h1]at hj;rw[←h2];have:=QZ hw j a hj;rwa[Nat.zero_add]at this
theorem sum_app (l m:List Bnd)(x:Nat):sum (l++m) x=sum l x+sum m x:=by unfold sum;rw[List.map_append,List.sum_append]
theorem sum_shift (l:List Bnd)(n D x:Nat):sum (l.map (shB n D)) (x+n)=sum l x:=by
 unfold sum;rw[List.map_map];congr 1;apply List.map_congr_left;intro b _;show(if b.a+n=x+n∨b.b+n=x+n then(if b.o=4 then 1 else b.o)else 0)=_;by_cases h:b.a=x∨b.b=x
 ·rw[if_pos h,if_pos (by omega)]
 ·rw[if_neg h,if_neg (by omega)]
theorem sum_low (l:List Bnd)(n D x:Nat)(h:x<n):sum (l.map (shB n D)) x=0:=by
 induction l with
 |nil=>rfl
 |cons b l ih=>unfold sum at ih ⊢;rw[List.map_cons,List.map_cons,List.sum_cons,ih];show(if b.a+n=x∨b.b+n=x then(if b.o=4 then 1 else b.o)else 0)+0=0;rw[if_neg (by omega)];rfl
theorem ok0 (t:ByteArray):Ok t Bz.start:=⟨Nat.zero_le _,by simp[Bz.start],by simp[Bz.start],(fun n o h=>by simp[Bz.start]at h),by simp[Bz.start],by simp[Bz.start],by simp[Bz.start]⟩
def Bp (c:Int):Prop:=c=91∨c=37∨(48≤c∧c≤57)∨c=67∨c=66∨c=78∨c=79∨c=80∨c=83∨c=70∨c=73∨c=99∨c=110∨c=111∨c=112∨c=115
theorem Bp.sign {c:Int}(h:Bp c):BH c=false:=by unfold BH;unfold Bp at h;simp only[Bool.or_eq_false_iff,beq_eq_false_iff_ne,ne_eq];omega
structure Lx (s:ByteArray)(k:Nat):Prop where
 el:∀y,y<k→byteAt s y=108→1≤y∧byteAt s (y-1)=67
 sg:∀y,y+1<k→(byteAt s y=58→Bp (byteAt s (y+1)))∧(byteAt s (y+1)=58→BH (byteAt s y)=false)
structure LxE (s:ByteArray)(k:Nat):Prop where
 lx:Lx s k
 no:k=0∨BH (byteAt s (k-1))=false
theorem sign58 {c:Int}(h:BH c=false):c≠58:=by rintro rfl;cases h
theorem Lx.plain {s:ByteArray}{k:Nat}(h:Lx s k)(h1:BH (byteAt s k)=false)(h2:byteAt s k≠108)(h3:k=0∨byteAt s (k-1)≠58∨Bp (byteAt s k)):LxE s (k+1):=by
 refine⟨⟨fun y hy he=>?_,fun y hy=>?_⟩,.inr h1⟩
 ·rcases Nat.lt_or_ge y k with hl|hl
  ·exact h.el y hl he
  ·have:y=k:=by omega
   subst this;exact absurd he h2
 ·rcases Nat.lt_or_ge (y+1) k with hl|hl
  ·exact h.sg y hl
  ·have:y+1=k:=by omega
   subst this;rw[Nat.add_sub_cancel]at h3;exact⟨fun h=>by
    rcases h3 with k|k|k
    ·omega
    ·exact absurd h k
    ·exact k,fun h=>absurd h (sign58 h1)⟩
theorem LxE.plain {s:ByteArray}{k:Nat}(h:LxE s k)(h1:BH (byteAt s k)=false)(h2:byteAt s k≠108):LxE s (k+1):=
 h.lx.plain h1 h2 (by
  rcases h.no with k|k
  ·exact .inl k
  ·exact .inr (.inl (sign58 k)))
theorem Lx.ell {s:ByteArray}{k:Nat}(h:Lx s k)(h1:byteAt s k=108)(hk:1≤k)(h2:byteAt s (k-1)=67):LxE s (k+1):=by
 refine⟨⟨fun y hy he=>?_,fun y hy=>?_⟩,.inr (by rw[Nat.add_sub_cancel,h1];rfl)⟩
 ·rcases Nat.lt_or_ge y k with hl|hl
  ·exact h.el y hl he
  ·have:y=k:=by omega
   subst this;exact⟨hk,h2⟩
 ·rcases Nat.lt_or_ge (y+1) k with hl|hl
  ·exact h.sg y hl
  ·have:y+1=k:=by omega
   subst this;rw[Nat.add_sub_cancel]at h2;rw[h1];exact⟨fun h=>by omega,fun h=>by omega⟩
theorem LxE.sign {s:ByteArray}{k:Nat}(h:LxE s k)(h1:BH (byteAt s k)=true):Lx s (k+1):=by
 refine⟨fun y hy he=>?_,fun y hy=>?_⟩
 ·rcases Nat.lt_or_ge y k with hl|hl
  ·exact h.lx.el y hl he
  ·have:y=k:=by omega
   subst this;rw[he]at h1;cases h1
 ·rcases Nat.lt_or_ge (y+1) k with hl|hl
  ·exact h.lx.sg y hl
  ·have:y+1=k:=by omega
   subst this;have h0:BH (byteAt s y)=false:=by
    rcases h.no with h|h
    ·omega
    ·exact h
   exact⟨fun h=>absurd h (sign58 h0),fun _=>h0⟩
structure AtOk (a:Atm):Prop where
 ch:a.br=false→a.ch=0
 el:a.aro=true→a.el=⟨#[67]⟩∨a.el=⟨#[78]⟩∨a.el=⟨#[79]⟩∨a.el=⟨#[80]⟩∨a.el=⟨#[83]⟩
 c3:a.ch=0∨a.ch=1∨a.ch= -1
structure Gon (s:ByteArray)(p q:St):Prop where
 pos:p.pos≤q.pos
 ext:∃new,q.bonds=p.bonds++new∧∀b∈new,p.pos≤b.pl∧b.pl<q.pos∧Bp (byteAt s b.pl)
 ats:∃new,q.atoms=p.atoms++new∧∀a∈new,AtOk a
section
variable {s:ByteArray}{p q r:St}
theorem Gon.refl (s:ByteArray)(p:St):Gon s p p:=⟨Nat.le_refl _,⟨[],by simp,by simp⟩,⟨[],by simp,by simp⟩⟩
theorem Gon.trans (h:Gon s p q)(k:Gon s q r):Gon s p r:=by
 obtain⟨h1,⟨n,h2,h3⟩,⟨u,h4,h5⟩⟩:=h;obtain⟨k1,⟨m,k2,k3⟩,⟨v,k4,k5⟩⟩:=k;refine⟨by omega,⟨n++m,by rw[k2,h2,List.append_assoc],fun b hb=>?_⟩,⟨u++v,by rw[k4,h4,List.append_assoc],fun a ha=>?_⟩⟩
 ·rw[List.mem_append]at hb;rcases hb with hb|hb
  ·have:=h3 b hb;exact⟨this.1,by omega,this.2.2⟩
  ·have:=k3 b hb;exact⟨by omega,this.2.1,this.2.2⟩
 ·rw[List.mem_append]at ha;rcases ha with ha|ha
  ·exact h5 a ha
  ·exact k5 a ha
theorem Gon.move {j:Nat}(h:p.pos≤j):Gon s p {p with pos:=j}:=⟨h,⟨[],by simp,by simp⟩,⟨[],by simp,by simp⟩⟩
theorem N9 {i n:Nat}{el:ByteArray}{ar:Bool}(h:element s i=some (el,ar,n))(e:Lx s i):LxE s (i+n)∧Bp (byteAt s i)∧0<n:=by
 unfold element at h;simp only at h;unfold Bp;split at h
 ·rename_i hc;cases h;exact⟨(e.plain (by rw[hc.1];rfl) (by omega) (.inr (.inr (by unfold Bp;omega)))).lx.ell hc.2 (by omega) (by rw[Nat.add_sub_cancel];exact hc.1),by omega,by omega⟩
 split at h
 ·rename_i hc;cases h;exact⟨(e.plain (by rw[hc.1];rfl) (by omega) (.inr (.inr (by unfold Bp;omega)))).plain (by rw[hc.2];rfl) (by omega),by omega,by omega⟩
 split at h
 ·rename_i hc;cases h;refine⟨e.plain ?_ (by omega) (.inr (.inr (by unfold Bp;omega))),by omega,by omega⟩;rcases hc with h|h|h|h|h|h|h|h<;>rw[h]<;>rfl
 split at h
 ·rename_i hc;cases h;refine⟨e.plain ?_ (by omega) (.inr (.inr (by unfold Bp;omega))),by omega,by omega⟩;rcases hc with h|h|h|h|h<;>rw[h]<;>rfl
 ·cases h
theorem NC {c:Int}(h:48≤c∧c≤57):BH c=false:=by unfold BH;simp only[Bool.or_eq_false_iff,beq_eq_false_iff_ne,ne_eq];omega
theorem hydro_lx {i:Nat}(e:LxE s i):LxE s (BX s i).2∧i≤(BX s i).2:=by
 unfold BX;split
 ·rename_i h;have e1:=e.plain (by rw[h];rfl) (by omega);split
  ·rename_i hd;exact⟨e1.plain (NC (by omega)) (by omega),by simp only;omega⟩
  ·exact⟨e1,by simp only;omega⟩
 ·exact⟨e,Nat.le_refl _⟩
theorem charge_lx {i:Nat}(e:LxE s i):Lx s (BI s i).2∧i≤(BI s i).2∧((BI s i).2=0∨byteAt s ((BI s i).2-1)≠58):=by
 unfold BI;split
 ·rename_i h;exact⟨(e.plain (by rw[h];rfl) (by omega)).lx,by simp only;omega,.inr (by simp only;rw[Nat.add_sub_cancel,h];decide)⟩
 ·split
  ·rename_i h;exact⟨e.sign (by rw[h];rfl),by simp only;omega,.inr (by simp only;rw[Nat.add_sub_cancel,h];decide)⟩
  ·exact⟨e.lx,Nat.le_refl _,e.no.imp (fun h=>h) sign58⟩
theorem bracket_lx {i:Nat}{x:Int×Int×Nat}(h:bracket s i=.ok x)(e:LxE s i):LxE s x.2.2∧i≤x.2.2:=by
 unfold bracket at h;simp only at h;obtain⟨h1,h2⟩:=hydro_lx e;obtain⟨h3,h4,h5⟩:=charge_lx h1;split at h
 ·rename_i hc;cases h;exact⟨h3.plain (by rw[hc];rfl) (by omega) (h5.imp (fun h=>h) .inl),by simp only;omega⟩
 ·cases h
theorem Jb {a:Nat}{g:Ak}(h:Am s a p=.ok (g,q))(e:LxE s p.pos):Lx s q.pos∧Gon s p q:=by
 unfold Am at h;simp only at h;split at h
 ·rename_i hs;split at h
  ·cases h
  ·cases h;exact⟨e.sign hs,Gon.move (by omega)⟩
 ·cases h;exact⟨e.lx,Gon.refl s p⟩
theorem Oi {a:Nat}{g:Ak}(h:link s a p=.ok (g,q))(e:LxE s p.pos):Lx s q.pos∧Gon s p q:=by
 unfold link at h;split at h
 ·rename_i h46;cases h;exact⟨(e.plain (by rw[h46];rfl) (by omega)).lx,Gon.move (by omega)⟩
 ·exact Jb h e
theorem elem_low {i n:Nat}{el:ByteArray}(h:element s i=some (el,true,n)):el=⟨#[67]⟩∨el=⟨#[78]⟩∨el=⟨#[79]⟩∨el=⟨#[80]⟩∨el=⟨#[83]⟩:=by
 unfold element at h;simp only at h;split at h
 ·cases h
 split at h
 ·cases h
 split at h
 ·cases h
 split at h
 ·rename_i hc;simp only[Option.some.injEq,Prod.mk.injEq]at h;rw[←h.1];rcases hc with h|h|h|h|h<;>rw[h]
  ·exact .inl rfl
  ·exact .inr (.inl rfl)
  ·exact .inr (.inr (.inl rfl))
  ·exact .inr (.inr (.inr (.inl rfl)))
  ·exact .inr (.inr (.inr (.inr rfl)))
 ·cases h
theorem NV (i:Nat):(BI s i).1=0∨(BI s i).1=1∨(BI s i).1= -1:=by
 unfold BI;split
 ·exact .inr (.inl rfl)
 ·split
  ·exact .inr (.inr rfl)
  ·exact .inl rfl
theorem bracket_ch {i j:Nat}{ch hy:Int}(h:bracket s i=.ok (ch,hy,j)):ch=0∨ch=1∨ch= -1:=by
 unfold bracket at h;simp only at h;split at h
 ·simp only[Except.ok.injEq,Prod.mk.injEq]at h;rw[←h.1];exact NV _
 ·cases h
theorem Oj {a:Nat}{g:Ak}(h:atom s g p=.ok (a,q))(e:Lx s p.pos):LxE s q.pos∧Gon s p q:=by
 unfold atom at h;simp only at h;split at h
 ·split at h<;>cases h
 rename_i el ar n hel;split at h
 ·cases h
 split at h
 ·cases h
 split at h
 ·cases h
 rename_i ch hy j hb;simp only[Except.ok.injEq,Prod.mk.injEq]at h;have key:LxE s j∧p.pos<j∧Bp (byteAt s p.pos)∧((byteAt s p.pos==91)=false→ch=0)∧(ch=0∨ch=1∨ch= -1):=by
  cases h91:(byteAt s p.pos==91)
  ·rw[h91]at hel hb;simp only[Bool.false_eq_true,if_false,Except.ok.injEq,Prod.mk.injEq]at hel hb;obtain⟨k1,k2,k3⟩:=N9 hel e;rw[←hb.2.2];exact⟨k1,by omega,k2,fun _=>hb.1.symm,.inl hb.1.symm⟩
  ·rw[h91]at hel hb;simp only[if_true]at hel hb;have h91':byteAt s p.pos=91:=by simpa using h91
   have e1:=e.plain (by rw[h91'];rfl) (by omega) (.inr (.inr (.inl h91')));obtain⟨k1,k2,k3⟩:=N9 hel e1.lx;obtain⟨k4,k5⟩:=bracket_lx hb k1;exact⟨k4,by simp only at k5;omega,.inl h91',(fun h=>by cases h),bracket_ch hb⟩
 obtain⟨k1,k2,k3,k4,k6⟩:=key;have kA:∀a∈[(⟨el,ar,ch,hy,p.pos,byteAt s p.pos==91⟩:Atm)],AtOk a:=fun a ha=>by rw[List.mem_singleton]at ha;subst ha;refine⟨k4,fun har=>?_,k6⟩;simp only at har;subst har;exact elem_low hel
 rw[←h.2];split
 ·exact⟨k1,by simp only;omega,⟨[],by simp,by simp⟩,⟨_,rfl,kA⟩⟩
 ·refine⟨k1,by simp only[Bz.bind];omega,⟨[_],rfl,fun b hb=>?_⟩,⟨_,rfl,kA⟩⟩;rw[List.mem_singleton]at hb;subst hb;exact⟨Nat.le_refl _,k2,k3⟩
theorem LF {i k j:Nat}(h:AY s i=.ok (k,j))(e:Lx s i):LxE s j∧i<j∧Bp (byteAt s i):=by
 have dig:∀{c:Int},isDigit c=true→48≤c∧c≤57:=fun{c}h=>by unfold isDigit at h;simpa using h
 unfold AY at h;unfold Bp;split at h
 ·rename_i h37;have e1:=e.plain (by rw[h37];rfl) (by omega) (.inr (.inr (.inr (.inl h37))));split at h
  ·rename_i hd;have d1:=dig hd;have e2:=e1.plain (NC d1) (by omega);split at h
   ·rename_i hd2;have d2:=dig hd2;have e3:=e2.plain (NC d2) (show byteAt s (i+2)≠108 by omega);cases h;exact⟨e3,by omega,.inr (.inl h37)⟩
   ·cases h
  ·cases h
 ·split at h
  ·rename_i hd;have d1:=dig hd;cases h;exact⟨e.plain (NC d1) (by omega) (.inr (.inr (by unfold Bp;omega))),by omega,by omega⟩
  ·cases h
theorem ring_lx {a:Nat}(h:ring s a p=.ok q)(e:LxE s p.pos):LxE s q.pos∧Gon s p q:=by
 unfold ring at h;split at h
 ·cases h
 rename_i g p1 he;obtain⟨e1,g1⟩:=Jb he e;split at h
 ·cases h
 rename_i k j hn;obtain⟨e2,l2,b2⟩:=LF hn e1;split at h
 ·cases h;exact⟨e2,g1.trans ⟨by simp only;omega,⟨[],by simp,by simp⟩,⟨[],by simp,by simp⟩⟩⟩
 ·unfold BZ at h;simp only at h;split at h
  ·cases h
  split at h
  ·cases h
  split at h
  ·cases h
  cases h;refine⟨e2,g1.trans ⟨by simp only[Bz.bind];omega,⟨[_],rfl,fun b hb=>?_⟩,⟨[],by simp[Bz.bind],by simp⟩⟩⟩;rw[List.mem_singleton]at hb;subst hb;exact⟨Nat.le_refl _,l2,b2⟩
theorem Ko {a:Nat}:∀(n:Nat){p q:St},BM s a n p=.ok q→LxE s p.pos→LxE s q.pos∧Gon s p q
 |0,p,q,h,e=>by simp only[BM,Except.ok.injEq]at h;subst h;exact⟨e,Gon.refl s p⟩
 |n+1,p,q,h,e=>by
  rw[BM]at h;split at h
  ·split at h
   ·cases h
   ·rename_i hk;obtain⟨e1,g1⟩:=ring_lx hk e;obtain⟨e2,g2⟩:=Ko n h e1;exact⟨e2,g1.trans g2⟩
  ·cases h;exact⟨e,Gon.refl s p⟩
def CLx (s:ByteArray)(c:Ak→St→R St):Prop:=∀h p q,c h p=.ok q→Lx s p.pos→LxE s q.pos∧Gon s p q
theorem branch_lx {c:Ak→St→R St}(hc:CLx s c){a:Nat}(h:branch s c a p=.ok q)(e:LxE s p.pos):LxE s q.pos∧Gon s p q:=by
 unfold branch at h;split at h
 ·cases h
 rename_i hl;obtain⟨e1,g1⟩:=Oi hl e;split at h
 ·cases h
 rename_i hk;obtain⟨e2,g2⟩:=hc _ _ _ hk e1;split at h
 ·rename_i h41;cases h;exact⟨e2.plain (by rw[h41];rfl) (by omega),(g1.trans g2).trans (Gon.move (by omega))⟩
 ·cases h
theorem Gp {c:Ak→St→R St}(hc:CLx s c){a:Nat}:∀(n:Nat){p q:St},Au s c a n p=.ok q→LxE s p.pos→LxE s q.pos∧Gon s p q
 |0,p,q,h,e=>by simp only[Au,Except.ok.injEq]at h;subst h;exact⟨e,Gon.refl s p⟩
 |n+1,p,q,h,e=>by
  rw[Au]at h;split at h
  ·rename_i h40;split at h
   ·cases h
   ·rename_i hk;obtain⟨e1,g1⟩:=branch_lx hc hk (e.plain (by rw[h40];rfl) (by omega));obtain⟨e2,g2⟩:=Gp hc n h e1;exact⟨e2,(Gon.move (by omega)).trans (g1.trans g2)⟩
  ·cases h;exact⟨e,Gon.refl s p⟩
theorem Ol {c:Ak→St→R St}(hc:CLx s c){g:Ak}{a:Nat}(h:Dx s c g p=.ok (a,q))(e:Lx s p.pos):LxE s q.pos∧Gon s p q:=by
 unfold Dx at h;split at h
 ·cases h
 rename_i h1;split at h
 ·cases h
 rename_i h2;split at h
 ·cases h
 rename_i h3;cases h;obtain⟨e1,g1⟩:=Oj h1 e;obtain⟨e2,g2⟩:=Ko _ h2 e1;obtain⟨e3,g3⟩:=Gp hc _ h3 e2;exact⟨e3,(g1.trans g2).trans g3⟩
theorem lknot_lx {c:Ak→St→R St}(hc:CLx s c){a k:Nat}(h:BN s c a p=.ok (k,q))(e:LxE s p.pos):LxE s q.pos∧Gon s p q:=by
 unfold BN at h;split at h
 ·cases h
 ·rename_i hl;obtain⟨e1,g1⟩:=Oi hl e;obtain⟨e2,g2⟩:=Ol hc h e1;exact⟨e2,g1.trans g2⟩
theorem JE {c:Ak→St→R St}(hc:CLx s c):∀(n:Nat){a:Nat}{p q:St},Bz.linked s c n a p=.ok q→LxE s p.pos→LxE s q.pos∧Gon s p q
 |0,a,p,q,h,e=>by simp only[Bz.linked,Except.ok.injEq]at h;subst h;exact⟨e,Gon.refl s p⟩
 |n+1,a,p,q,h,e=>by
  rw[Bz.linked]at h;split at h
  ·split at h
   ·cases h
   ·rename_i hk;obtain⟨e1,g1⟩:=lknot_lx hc hk e;obtain⟨e2,g2⟩:=JE hc n h e1;exact⟨e2,g1.trans g2⟩
  ·cases h;exact⟨e,Gon.refl s p⟩
theorem F4:∀n,CLx s (chain s n)
 |0=>by intro h p q hr;simp[chain]at hr
 |n+1=>by
  intro h p q hr e;rw[chain]at hr;split at hr
  ·cases hr
  ·rename_i hk;obtain⟨e1,g1⟩:=Ol (F4 n) hk e;obtain⟨e2,g2⟩:=JE (F4 n) _ hr e1;exact⟨e2,g1.trans g2⟩
end
theorem lx0 (s:ByteArray):LxE s 0:=⟨⟨fun y h=>by omega,fun y h=>by omega⟩,.inl rfl⟩
end Go.Proofs.YtcabaecbmkgclaaGreatDoor
