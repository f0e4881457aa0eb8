import Derived.Test.YtcabaecbmkgclaaGreatDoorP41
namespace Go.Proofs.YtcabaecbmkgclaaGreatDoor
open Bz
def capU (b:UInt8):List UInt8:=if b.toNat=58 then []else if b.toNat=99∨b.toNat=110∨b.toNat=111∨b.toNat=112∨b.toNat=115 then [b-32]else [b]
def IG (c:Int):Int:=if c=99∨c=110∨c=111∨c=112∨c=115 then c-32 else c
def wrR (d:Nat→Bool):List UInt8→Nat→List UInt8
 |[],_=>[]
 |c::t,x=>(if d x then [61]else [])++(capU c++wrR d t (x+1))
def wr0 (d:Nat→Bool)(s:ByteArray)(x:Nat):List UInt8:=wrR d (s.data.toList.drop x) x
def wr1 (d:Nat→Bool)(s:ByteArray)(x:Nat):List UInt8:=match s.data.toList.drop x with
 |[]=>[]
 |c::t=>capU c++wrR d t (x+1)
section
variable {d:Nat→Bool}{s W:ByteArray}{x P:Nat}
theorem drop_lt (hx:x<s.size):s.data.toList.drop x=s[x]::s.data.toList.drop (x+1):=by
 have hl:x<s.data.toList.length:=by simpa using hx
 rw[List.drop_eq_getElem_cons hl];rfl
theorem wr1_lt (hx:x<s.size):wr1 d s x=capU s[x]++wr0 d s (x+1):=by unfold wr1 wr0;rw[drop_lt hx]
theorem wr0_yes (hx:x<s.size)(hd:d x=true):wr0 d s x=61::wr1 d s x:=by rw[wr1_lt hx];unfold wr0;rw[drop_lt hx,wrR,hd];rfl
theorem wr_ge (hx:¬x<s.size):wr0 d s x=[]∧wr1 d s x=[]:=by have:s.data.toList.drop x=[]:=List.drop_eq_nil_of_le (by simpa using hx);unfold wr0 wr1;rw[this];exact⟨rfl,rfl⟩
theorem Gt (hd:d x=false):wr0 d s x=wr1 d s x:=by
 by_cases hx:x<s.size
 ·rw[wr1_lt hx];unfold wr0;rw[drop_lt hx,wrR,hd];rfl
 ·rw[(wr_ge hx).1,(wr_ge hx).2]
theorem capU_58 (hx:x<s.size)(h:byteAt s x=58):capU s[x]=[]:=by rw[DV s x hx]at h;unfold capU;rw[if_pos (by omega)]
theorem capU_no (hx:x<s.size)(h:byteAt s x≠58):∃u:UInt8,capU s[x]=[u]∧(u.toNat:Int)=IG (byteAt s x):=by
 rw[DV s x hx]at h ⊢;unfold capU IG;rw[if_neg (by omega)];by_cases hc:s[x].toNat=99∨s[x].toNat=110∨s[x].toNat=111∨s[x].toNat=112∨s[x].toNat=115
 ·rw[if_pos hc,if_pos (by omega)];refine⟨_,rfl,?_⟩;rw[UInt8.toNat_sub_of_le _ _ (by rw[UInt8.le_iff_toNat_le];show(32:UInt8).toNat≤_;have:(32:UInt8).toNat=32:=rfl;omega)];have:(32:UInt8).toNat=32:=rfl;omega
 ·rw[if_neg hc,if_neg (by omega)];exact⟨_,rfl,rfl⟩
theorem a_yes (h:Bz.Rest W P (wr0 d s x))(hx:x<s.size)(hd:d x=true):byteAt W P=61∧P<W.size∧Bz.Rest W (P+1) (wr1 d s x):=by rw[wr0_yes hx hd]at h;exact⟨h.at,h.lt,h.next⟩
theorem Gu (h:Bz.Rest W P (wr1 d s x))(hx:x<s.size)(hc:byteAt s x≠58):byteAt W P=IG (byteAt s x)∧P<W.size∧Bz.Rest W (P+1) (wr0 d s (x+1)):=by obtain⟨u,h1,h2⟩:=capU_no hx hc;rw[wr1_lt hx,h1]at h;have h':Bz.Rest W P (u::wr0 d s (x+1)):=h;exact⟨by rw[h'.at,h2],h'.lt,h'.next⟩
theorem a_colon (hx:x<s.size)(hc:byteAt s x=58):wr1 d s x=wr0 d s (x+1):=by rw[wr1_lt hx,capU_58 hx hc];rfl
end
structure Wc (d:Nat→Bool)(s:ByteArray):Prop where
 lx:LxE s s.size
 bp:∀y,d y=true→y<s.size∧Bp (byteAt s y)
section
variable {d:Nat→Bool}{s W:ByteArray}{x P:Nat}
theorem Wc.no (C:Wc d s)(h:¬Bp (byteAt s x)):d x=false:=by
 cases hd:d x
 ·rfl
 ·exact absurd (C.bp x hd).2 h
theorem bp58:¬Bp 58:=by unfold Bp;omega
theorem bp0:¬Bp 0:=by unfold Bp;omega
theorem Wc.colon (C:Wc d s)(hc:byteAt s x=58):x+1<s.size∧Bp (byteAt s (x+1)):=by
 have hx:x<s.size:=Af (by omega);have hlt:x+1<s.size:=by
  rcases Nat.lt_or_ge (x+1) s.size with h|h
  ·exact h
  ·have e:x=s.size-1:=by omega
   rcases C.lx.no with h0|h0
   ·omega
   ·rw[←e,hc]at h0;cases h0
 exact⟨hlt,(C.lx.lx.sg x hlt).1 hc⟩
theorem Wc.cases (C:Wc d s)(h:Bz.Rest W P (wr0 d s x)):
  (s.size≤x∧byteAt W P=0∧byteAt s x=0∧W.size≤P)∨
  (x<s.size∧d x=true∧byteAt W P=61∧Bp (byteAt s x)∧P<W.size∧Bz.Rest W (P+1) (wr1 d s x))∨
  (x<s.size∧d x=false∧byteAt s x≠58∧byteAt W P=IG (byteAt s x)∧P<W.size∧Bz.Rest W (P+1) (wr0 d s (x+1)))∨
  (byteAt s x=58∧d x=false∧x+1<s.size∧Bp (byteAt s (x+1))∧d (x+1)=true∧byteAt W P=61∧P<W.size∧Bz.Rest W (P+1) (wr1 d s (x+1)))∨
  (byteAt s x=58∧d x=false∧x+1<s.size∧Bp (byteAt s (x+1))∧d (x+1)=false∧byteAt W P=IG (byteAt s (x+1))∧P<W.size∧Bz.Rest W P (wr1 d s (x+1))):=by
 by_cases hx:x<s.size
 ·cases hd:d x
  ·by_cases hc:byteAt s x=58
   ·obtain⟨h1,h2⟩:=C.colon hc;have h':=h;rw[Gt hd,a_colon hx hc]at h';cases hd1:d (x+1)
    ·rw[Gt hd1]at h';obtain⟨k1,k2,_⟩:=Gu h' h1 (fun e=>by rw[e]at h2;exact bp58 h2);exact .inr (.inr (.inr (.inr ⟨hc,rfl,h1,h2,rfl,k1,k2,h'⟩)))
    ·obtain⟨k1,k2,k3⟩:=a_yes h' h1 hd1;exact .inr (.inr (.inr (.inl ⟨hc,rfl,h1,h2,rfl,k1,k2,k3⟩)))
   ·rw[Gt hd]at h;obtain⟨k1,k2,k3⟩:=Gu h hx hc;exact .inr (.inr (.inl ⟨hx,rfl,hc,k1,k2,k3⟩))
  ·obtain⟨k1,k2,k3⟩:=a_yes h hx hd;exact .inr (.inl ⟨hx,rfl,k1,(C.bp x hd).2,k2,k3⟩)
 ·rw[(wr_ge hx).1]at h;exact .inl ⟨by omega,h.zero,Dz s x hx,h.end⟩
theorem cap_is {c k:Int}(hk:k≠67∧k≠78∧k≠79∧k≠80∧k≠83∧k≠99∧k≠110∧k≠111∧k≠112∧k≠115):IG c=k↔c=k:=by unfold IG;split<;>omega
theorem Wc.test (C:Wc d s)(h:Bz.Rest W P (wr0 d s x)){k:Int}(hk:k=40∨k=41∨k=46):byteAt W P=k↔byteAt s x=k:=by
 have ci:∀c,IG c=k↔c=k:=fun c=>cap_is (by omega);rcases C.cases h with⟨_,h1,h2,_⟩|⟨_,_,h1,h2,_⟩|⟨_,_,_,h1,_⟩|⟨h0,_,_,_,_,h1,_⟩|⟨h0,_,_,h2,_,h1,_⟩
 ·rw[h1,h2]
 ·unfold Bp at h2;omega
 ·rw[h1];exact ci _
 ·omega
 ·rw[h1,ci];unfold Bp at h2;omega
theorem Wc.letter (C:Wc d s)(h:Bz.Rest W P (wr0 d s x)){k:Int}(hk:k=108∨k=114)(hb:byteAt W P=k):byteAt s x=k:=by
 have ci:∀c,IG c=k↔c=k:=fun c=>cap_is (by omega);rcases C.cases h with⟨_,h1,h2,_⟩|⟨_,_,h1,h2,_⟩|⟨_,_,_,h1,_⟩|⟨h0,_,_,_,_,h1,_⟩|⟨h0,_,_,h2,_,h1,_⟩
 ·omega
 ·omega
 ·exact(ci _).1 (by omega)
 ·omega
 ·have:=(ci _).1 (h1.symm.trans hb);unfold Bp at h2;omega
theorem ND (c:Int):BH (IG c)=BH c:=by
 unfold IG;split
 ·rename_i h;rcases h with h|h|h|h|h<;>rw[h]<;>rfl
 ·rfl
theorem Kq (c:Int):Bo (IG c)=Bo c:=by
 unfold IG;split
 ·rename_i h;rcases h with h|h|h|h|h<;>rw[h]<;>rfl
 ·rfl
theorem elem_w (C:Wc d s){el:ByteArray}{ar:Bool}{n:Nat}(h:Bz.Rest W P (wr1 d s x))(hel:element s x=some (el,ar,n))(hg:∀y,x<y→y<x+n→d y=false):element W P=some (el,false,n)∧Bz.Rest W (P+n) (wr0 d s (x+n))∧P+n≤W.size:=by
 have hne:byteAt s x≠0:=by intro h0;unfold element at hel;rw[h0]at hel;simp at hel
 have hx:=Af hne;have h58:byteAt s x≠58:=by intro h0;unfold element at hel;rw[h0]at hel;simp at hel
 obtain⟨b1,b2,b3⟩:=Gu h hx h58;have l1:byteAt W (P+1)=108→byteAt s (x+1)=108:=fun h=>C.letter b3 (.inl rfl) h;have l2:byteAt W (P+1)=114→byteAt s (x+1)=114:=fun h=>C.letter b3 (.inr rfl) h;unfold element at hel;simp only at hel;split at hel
 ·rename_i hc;cases hel;have hx1:x+1<s.size:=Af (by omega);rw[Gt (hg (x+1) (by omega) (by omega))]at b3;obtain⟨c1,c2,c3⟩:=Gu b3 hx1 (by omega);rw[hc.1]at b1;rw[hc.2]at c1;refine⟨?_,c3,c2⟩;unfold element;rw[b1,c1];rfl
 rename_i n1;split at hel
 ·rename_i hc;cases hel;have hx1:x+1<s.size:=Af (by omega);rw[Gt (hg (x+1) (by omega) (by omega))]at b3;obtain⟨c1,c2,c3⟩:=Gu b3 hx1 (by omega);rw[hc.1]at b1;rw[hc.2]at c1;refine⟨?_,c3,c2⟩;unfold element;rw[b1,c1];rfl
 rename_i n2;split at hel
 ·rename_i hc;cases hel;have hcap:IG (byteAt s x)=byteAt s x:=by unfold IG;rw[if_neg (by omega)]
  rw[hcap]at b1;refine⟨?_,b3,b2⟩;unfold element;simp only[b1];rw[if_neg (fun h=>n1 ⟨h.1,l1 h.2⟩),if_neg (fun h=>n2 ⟨h.1,l2 h.2⟩),if_pos hc]
 rename_i n3;split at hel
 ·rename_i hc;cases hel;have hcap:IG (byteAt s x)=byteAt s x-32:=by unfold IG;rw[if_pos hc]
  rw[hcap]at b1;refine⟨?_,b3,b2⟩;unfold element;simp only[b1];rw[if_neg ?_,if_neg (by omega),if_pos (by omega)];rintro⟨_,h2⟩;have h3:=l1 h2;have hx1:x+1<s.size:=Af (by omega);have:=(C.lx.lx.el (x+1) hx1 h3).2;rw[Nat.add_sub_cancel]at this;omega
 ·cases hel
theorem GL {c:Int}(h:Bz.Rest W P (wr0 d s x))(hd:d x=false)(hc:byteAt s x=c)(h0:c≠0∧c≠58∧c≠99∧c≠110∧c≠111∧c≠112∧c≠115):byteAt W P=c∧P+1≤W.size∧Bz.Rest W (P+1) (wr0 d s (x+1)):=by rw[Gt hd]at h;obtain⟨b1,b2,b3⟩:=Gu h (Af (by omega)) (by omega);refine⟨?_,b2,b3⟩;rw[b1,hc];unfold IG;rw[if_neg (by omega)]
theorem Qa {i:Nat}{P:Nat}(h:Bz.Rest W P (wr0 d s i))(h93:byteAt s (BI s i).2=93)(hg:∀y,i≤y→y≤(BI s i).2→d y=false):
  ∃J,BI W P=((BI s i).1,J)∧byteAt W J=93∧J+1≤W.size∧Bz.Rest W (J+1) (wr0 d s ((BI s i).2+1))∧byteAt W P=byteAt s i:=by
 unfold BI at h93 hg ⊢;by_cases h1:byteAt s i=43
 ·simp only[h1,if_true]at h93 hg ⊢;obtain⟨b1,b2,b3⟩:=GL h (hg i (by omega) (by omega)) h1 (by omega);obtain⟨c1,c2,c3⟩:=GL b3 (hg (i+1) (by omega) (by omega)) h93 (by omega);rw[b1];exact⟨P+1,rfl,c1,c2,c3,rfl⟩
 ·by_cases h2:byteAt s i=45
  ·simp only[h2]at h93 hg ⊢;have e:¬((45:Int)=43):=by omega
   simp only[e,if_false,if_true]at h93 hg ⊢;obtain⟨b1,b2,b3⟩:=GL h (hg i (by omega) (by omega)) h2 (by omega);obtain⟨c1,c2,c3⟩:=GL b3 (hg (i+1) (by omega) (by omega)) h93 (by omega);rw[b1];exact⟨P+1,rfl,c1,c2,c3,rfl⟩
  ·rw[if_neg h1,if_neg h2]at h93 hg ⊢;simp only at h93 hg ⊢;obtain⟨c1,c2,c3⟩:=GL h (hg i (by omega) (by omega)) h93 (by omega);rw[c1,h93];exact⟨P,rfl,c1,c2,c3,rfl⟩
theorem bracket_w {i j:Nat}{P:Nat}{c y:Int}(h:Bz.Rest W P (wr0 d s i))(hb:bracket s i=.ok (c,y,j))(hg:∀z,i≤z→z<j→d z=false):
  ∃J,bracket W P=.ok (c,y,J)∧Bz.Rest W J (wr0 d s j)∧J≤W.size∧P≤J:=by
 unfold bracket at hb;simp only at hb;split at hb
 ·rename_i h93;simp only[Except.ok.injEq,Prod.mk.injEq]at hb;obtain⟨e1,e2,e3⟩:=hb;have hcl:∀k,k≤(BI s k).2∧(BI s k).2≤k+1:=fun k=>by
   unfold BI;split
   ·simp only;omega
   ·split<;>simp only<;>omega
  have chJ:∀(B:Nat)x J,BI W B=(x,J)→B≤J:=fun B x J h=>by
   unfold BI at h;split at h
   ·cases h;omega
   ·split at h<;>cases h<;>omega
  by_cases h72:byteAt s i=72
  ·by_cases hd:49≤byteAt s (i+1)∧byteAt s (i+1)≤52
   ·have eh:BX s i=(byteAt s (i+1)-48,i+2):=by unfold BX;rw[if_pos h72,if_pos hd]
    rw[eh]at h93 e1 e2 e3;simp only at h93 e1 e2 e3;have:=hcl (i+2);obtain⟨b1,b2,b3⟩:=GL h (hg i (by omega) (by omega)) h72 (by omega);obtain⟨c1,c2,c3⟩:=GL (c:=byteAt s (i+1)) b3 (hg (i+1) (by omega) (by omega)) rfl (by omega);have c3':Bz.Rest W (P+2) (wr0 d s (i+2)):=c3;obtain⟨J,k1,k2,k3,k4,_⟩:=Qa c3' h93 fun z h1 h2=>hg z (by omega) (by omega);have eW:BX W P=(byteAt s (i+1)-48,P+2):=by unfold BX;rw[if_pos b1,c1,if_pos hd]
    refine⟨J+1,?_,by rw[←e3];exact k4,k3,by have:=chJ _ _ _ k1;omega⟩;unfold bracket;simp only[eW];rw[k1];simp only;rw[if_pos k2,e1,e2]
   ·have eh:BX s i=(1,i+1):=by unfold BX;rw[if_pos h72,if_neg hd]
    rw[eh]at h93 e1 e2 e3;simp only at h93 e1 e2 e3;have:=hcl (i+1);obtain⟨b1,b2,b3⟩:=GL h (hg i (by omega) (by omega)) h72 (by omega);obtain⟨J,k1,k2,k3,k4,k5⟩:=Qa b3 h93 fun z h1 h2=>hg z (by omega) (by omega);have eW:BX W P=(1,P+1):=by unfold BX;rw[if_pos b1,k5,if_neg hd]
    refine⟨J+1,?_,by rw[←e3];exact k4,k3,by have:=chJ _ _ _ k1;omega⟩;unfold bracket;simp only[eW];rw[k1];simp only;rw[if_pos k2,e1,e2]
  ·have eh:BX s i=(0,i):=by unfold BX;rw[if_neg h72]
   rw[eh]at h93 e1 e2 e3;simp only at h93 e1 e2 e3;have:=hcl i;obtain⟨J,k1,k2,k3,k4,k5⟩:=Qa h h93 fun z h1 h2=>hg z (by omega) (by omega);have eW:BX W P=(0,P):=by unfold BX;rw[k5,if_neg h72]
   refine⟨J+1,?_,by rw[←e3];exact k4,k3,by have:=chJ _ _ _ k1;omega⟩;unfold bracket;simp only[eW];rw[k1];simp only;rw[if_pos k2,e1,e2]
 ·cases hb
theorem number_w {k j:Nat}(h:Bz.Rest W P (wr1 d s x))(hr:AY s x=.ok (k,j))(hg:∀y,x<y→y<j→d y=false):
  ∃J,AY W P=.ok (k,J)∧Bz.Rest W J (wr0 d s j)∧J≤W.size∧P<J:=by
 have dig:∀{c:Int},isDigit c=true→48≤c∧c≤57:=fun{c}h=>by unfold isDigit at h;simpa using h
 have cd:∀{c:Int},48≤c∧c≤57→IG c=c:=fun{c}h=>by unfold IG;rw[if_neg (by omega)]
 unfold AY at hr;split at hr
 ·rename_i h37;obtain⟨b1,b2,b3⟩:=Gu h (Af (by omega)) (by omega);rw[h37]at b1;split at hr
  ·rename_i hd1;split at hr
   ·rename_i hd2;cases hr;have g1:=dig hd1;have g2:=dig hd2;obtain⟨c1,c2,c3⟩:=GL (c:=byteAt s (x+1)) b3 (hg (x+1) (by omega) (by omega)) rfl (by omega);obtain⟨e1,e2,e3⟩:=GL (c:=byteAt s (x+2)) c3 (hg (x+2) (by omega) (by omega)) rfl (by omega);have e1':byteAt W (P+2)=byteAt s (x+2):=e1;refine⟨P+3,?_,e3,e2,by omega⟩;unfold AY;rw[b1,c1,e1',hd1,hd2];rfl
   ·cases hr
  ·cases hr
 ·rename_i h37;split at hr
  ·rename_i hd1;cases hr;have g1:=dig hd1;obtain⟨b1,b2,b3⟩:=Gu h (Af (by omega)) (by omega);rw[cd g1]at b1;refine⟨P+1,?_,b3,b2,by omega⟩;unfold AY;rw[b1,if_neg h37,hd1];rfl
  ·cases hr
end
def pl0 (a:Atm):Atm:={a with pl:=0}
def un (a:Atm):Atm:={a with pl:=0,aro:=false}
def tri (b:Bnd):Nat×Nat×Int:=(b.a,b.b,b.o)
def Qb (d:Nat→Bool)(o:Int)(pl:Nat):Int:=if o=4 then(if d pl then 2 else 1)else o
def newT (d:Nat→Bool)(b:Bnd):Nat×Nat×Int:=(b.a,b.b,Qb d b.o b.pl)
def m58 (m:Int):Int:=if m=58 then 0 else m
def II (m:Int):Prop:=m=0∨m=45∨m=61∨m=35∨m=58
theorem II.of {c:Int}(h:BH c=true):II c:=by unfold BH at h;simp only[Bool.or_eq_true,beq_iff_eq]at h;unfold II;omega
structure Wl (d:Nat→Bool)(p P:St):Prop where
 atoms:P.atoms.map pl0=p.atoms.map un
 bonds:P.bonds.map tri=p.bonds.map (newT d)
 rings:∀k,(p.rings k=none∧P.rings k=none)∨∃o O,p.rings k=some o∧P.rings k=some O∧O.hung.atom=o.hung.atom∧O.hung.mark=m58 o.hung.mark∧II o.hung.mark
structure HW (d:Nat→Bool)(x:Nat)(g G:Ak):Prop where
 atom:G.atom=g.atom
 mark:G.mark=if d x then 61 else m58 g.mark
 ok:II g.mark
section
variable {d:Nat→Bool}{s W:ByteArray}{p P q:St}
theorem Wl.len (R:Wl d p P):P.atoms.length=p.atoms.length:=by have:=congrArg List.length R.atoms;simpa using this
theorem aro_no (h:P.atoms.map pl0=p.atoms.map un)(a:Int):aro P a=false:=by
 unfold aro;cases hP:P.atoms[a.toNat]? with
 |none=>rfl
 |some x=>
  have h1:(P.atoms.map pl0)[a.toNat]? =some (pl0 x):=by rw[List.getElem?_map,hP];rfl
  rw[h,List.getElem?_map]at h1;cases hp:p.atoms[a.toNat]? with
  |none=>rw[hp]at h1;cases h1
  |some y=>rw[hp]at h1;simp only[Option.map_some,Option.some.injEq]at h1;have:=congrArg Atm.aro h1;exact this.symm
theorem Wl.C9 (R:Wl d p P)(a b:Nat):C9 P.bonds a b=C9 p.bonds a b:=by
 have key:∀(l:List Bnd)(f:Bnd→Nat×Nat×Int),(∀x∈l,(f x).1=x.a∧(f x).2.1=x.b)→Bz.C9 l a b=(l.map f).any (fun x=>(x.1==a&&x.2.1==b)||(x.1==b&&x.2.1==a)):=by
  intro l f hf;unfold Bz.C9;induction l with
  |nil=>rfl
  |cons x l ih=>rw[List.map_cons,List.any_cons,List.any_cons,ih fun y hy=>hf y (by simp[hy]),(hf x (by simp)).1,(hf x (by simp)).2]
 rw[key P.bonds tri (fun _ _=>⟨rfl,rfl⟩),key p.bonds (newT d) (fun _ _=>⟨rfl,rfl⟩),R.bonds]
theorem order_w {x:Nat}{o m M a b:Int}(hP:∀a,aro P a=false)(ho:order p m a b=o)(hm:II m)(hM:M=if d x then 61 else m58 m)(hd:d x=true→o=4):order P M a b=Qb d o x:=by
 have eP:order P M a b=if M=45 then 1 else if M=61 then 2 else if M=35 then 3 else if M=58 then 4 else 1:=by unfold order;rw[hP,hP];rfl
 rw[eP];unfold Qb;cases hx:d x
 ·rw[hx]at hM;simp only[Bool.false_eq_true,if_false]at hM ⊢;unfold m58 at hM;unfold order at ho;rcases hm with h|h|h|h|h
  ·subst h;simp at hM ho;subst hM;simp;split at ho<;>omega
  ·subst h;simp at hM ho;subst hM;subst ho;rfl
  ·subst h;simp at hM ho;subst hM;subst ho;rfl
  ·subst h;simp at hM ho;subst hM;subst ho;rfl
  ·subst h;simp at hM ho;subst hM;subst ho;rfl
 ·rw[hx]at hM;simp only[if_true]at hM;rw[hM,hd hx];rfl
theorem Wl.bind (R:Wl d p P){a b pl pl':Nat}{o O:Int}(h:O=Qb d o pl):Wl d (bind p a b o pl) (bind P a b O pl'):=by refine⟨R.atoms,?_,R.rings⟩;unfold Bz.bind;simp only[List.map_append,List.map_cons,List.map_nil];rw[R.bonds,h];rfl
theorem Wl.move (R:Wl d p P)(j J:Nat):Wl d {p with pos:=j} {P with pos:=J}:=⟨R.atoms,R.bonds,R.rings⟩
theorem Wl.setR (R:Wl d p P)(k:Nat){o O:Option Opn}(ho:(o=none∧O=none)∨∃x X,o=some x∧O=some X∧X.hung.atom=x.hung.atom∧X.hung.mark=m58 x.hung.mark∧II x.hung.mark):Wl d {p with rings:=CG p.rings k o} {P with rings:=CG P.rings k O}:=by
 refine⟨R.atoms,R.bonds,fun j=>?_⟩;unfold CG;simp only;by_cases hj:j=k
 ·rw[if_pos hj,if_pos hj];exact ho
 ·rw[if_neg hj,if_neg hj];exact R.rings j
theorem bondEnd_w (C:Wc d s)(R:Wl d p P)(h:Bz.Rest W P.pos (wr0 d s p.pos))(hf:P.pos≤W.size){a:Nat}{g:Ak}(hr:Am s a p=.ok (g,q))(hd:g.mark≠0→g.mark≠58→d q.pos=false):
  ∃G Q,Am W a P=.ok (G,Q)∧HW d q.pos g G∧Wl d q Q∧Bz.Rest W Q.pos (wr1 d s q.pos)∧P.pos≤Q.pos∧Q.pos≤W.size:=by
 have two:∀{x:Nat},byteAt W P.pos=61→Am W a P=.ok (⟨61,P.pos,a⟩,{P with pos:=P.pos+1}):=fun{x}h=>by unfold Am;simp only[h];rfl
 have none:BH (byteAt W P.pos)=false→Am W a P=.ok (⟨0,0,a⟩,P):=fun h=>by unfold Am;simp only[h];rfl
 unfold Am at hr;simp only at hr;rcases C.cases h with⟨h0,h1,h2,h3⟩|⟨h0,hdx,h1,h2,h3,h4⟩|⟨h0,hdx,h2,h1,h3,h4⟩|⟨h0,hdx,h2,h5,h6,h1,h3,h4⟩|⟨h0,hdx,h2,h5,h6,h1,h3,h4⟩
 ·rw[h2]at hr;have e0:BH 0=false:=rfl;rw[e0]at hr;simp only[Bool.false_eq_true,if_false,Except.ok.injEq,Prod.mk.injEq]at hr;obtain⟨rfl,rfl⟩:=hr;have hdx:d p.pos=false:=C.no (by rw[h2];exact bp0);refine⟨_,_,none (by rw[h1];rfl),⟨rfl,by rw[hdx];rfl,.inl rfl⟩,R,by rw[←Gt hdx];exact h,Nat.le_refl _,hf⟩
 ·rw[h2.sign]at hr;simp only[Bool.false_eq_true,if_false,Except.ok.injEq,Prod.mk.injEq]at hr;obtain⟨rfl,rfl⟩:=hr;exact⟨_,_,two (x:=0) h1,⟨rfl,by rw[hdx];rfl,.inl rfl⟩,R.move p.pos _,h4,by simp only;omega,h3⟩
 ·cases hs:BH (byteAt s p.pos)
  ·rw[hs]at hr;simp only[Bool.false_eq_true,if_false,Except.ok.injEq,Prod.mk.injEq]at hr;obtain⟨rfl,rfl⟩:=hr;exact⟨_,_,none (by rw[h1,ND];exact hs),⟨rfl,by rw[hdx];rfl,.inl rfl⟩,R,by rw[←Gt hdx];exact h,Nat.le_refl _,hf⟩
  ·rw[hs]at hr;simp only[if_true]at hr;rw[if_neg (fun h=>h2 h.1)]at hr;simp only[Except.ok.injEq,Prod.mk.injEq]at hr;obtain⟨rfl,rfl⟩:=hr;simp only at hd;have hm:=II.of hs;have hn0:byteAt s p.pos≠0:=fun e=>by rw[e]at hs;cases hs
   have hd1:=hd hn0 h2;have hc:IG (byteAt s p.pos)=byteAt s p.pos:=by unfold IG;unfold II at hm;rw[if_neg (by omega)]
   refine⟨⟨byteAt s p.pos,P.pos,a⟩,{P with pos:=P.pos+1},?_,⟨rfl,?_,hm⟩,R.move _ _,?_,by simp only;omega,h3⟩
   ·unfold Am;rw[h1,hc];simp only[hs,if_true];rw[if_neg (fun h=>h2 h.1)]
   ·simp only;rw[hd1];unfold m58;simp only[Bool.false_eq_true,if_false];rw[if_neg h2]
   ·simp only;rw[←Gt hd1];exact h4
 ·rw[h0]at hr;have e0:BH 58=true:=rfl;rw[e0]at hr;simp only[if_true]at hr;split at hr
  ·cases hr
  ·simp only[Except.ok.injEq,Prod.mk.injEq]at hr;obtain⟨rfl,rfl⟩:=hr;refine⟨_,_,two (x:=0) h1,⟨rfl,by simp only;rw[h6];rfl,.inr (.inr (.inr (.inr rfl)))⟩,R.move _ _,h4,by simp only;omega,h3⟩
 ·rw[h0]at hr;have e0:BH 58=true:=rfl;rw[e0]at hr;simp only[if_true]at hr;split at hr
  ·cases hr
  ·simp only[Except.ok.injEq,Prod.mk.injEq]at hr;obtain⟨rfl,rfl⟩:=hr;refine⟨_,_,none (by rw[h1,ND];exact h5.sign),⟨rfl,by simp only;rw[h6];rfl,.inr (.inr (.inr (.inr rfl)))⟩,R.move _ P.pos,h4,Nat.le_refl _,hf⟩
theorem ahead_w (C:Wc d s)(h:Bz.Rest W P.pos (wr0 d s p.pos))(hd:BH (byteAt s p.pos)=true→byteAt s p.pos≠58→Bo (byteAt s (p.pos+1))=true→d (p.pos+1)=false):Bh W P=Bh s p:=by
 unfold Bh;rcases C.cases h with⟨h0,h1,h2,h3⟩|⟨h0,hdx,h1,h2,h3,h4⟩|⟨h0,hdx,h2,h1,h3,h4⟩|⟨h0,hdx,h2,h5,h6,h1,h3,h4⟩|⟨h0,hdx,h2,h5,h6,h1,h3,h4⟩
 ·rw[h1,h2];rfl
 ·obtain⟨b1,_,_⟩:=Gu h4 h0 (fun e=>by rw[e]at h2;exact bp58 h2);rw[h1,h2.sign,b1,Kq];rfl
 ·rw[h1,ND];cases hs:BH (byteAt s p.pos)
  ·simp only[Bool.false_eq_true,if_false];rw[Kq]
  ·simp only[if_true];rcases C.cases h4 with⟨k0,k1,k2,_⟩|⟨k0,kd,k1,k2,_⟩|⟨_,_,k2,k1,_⟩|⟨k0,_⟩|⟨k0,_⟩
   ·rw[k1,k2]
   ·cases hr:Bo (byteAt s (p.pos+1))
    ·rw[k1];rfl
    ·have:=hd hs h2 hr;rw[kd]at this;cases this
   ·rw[k1,Kq]
   ·have hx1:p.pos+1<s.size:=Af (by omega);have:=(C.lx.lx.sg p.pos hx1).2 k0;rw[hs]at this;cases this
   ·have hx1:p.pos+1<s.size:=Af (by omega);have:=(C.lx.lx.sg p.pos hx1).2 k0;rw[hs]at this;cases this
 ·obtain⟨b1,_,_⟩:=Gu h4 h2 (fun e=>by rw[e]at h5;exact bp58 h5);rw[h1,h0,b1,Kq];rfl
 ·rw[h1,ND,h0,h5.sign];simp only[Bool.false_eq_true,if_false];rw[Kq];rfl
theorem link_w (C:Wc d s)(R:Wl d p P)(h:Bz.Rest W P.pos (wr0 d s p.pos))(hf:P.pos≤W.size){a:Nat}{g:Ak}(hr:link s a p=.ok (g,q))(hd:g.mark≠0→g.mark≠58→d q.pos=false)(hdot:g.atom= -1→d q.pos=false):
  ∃G Q,link W a P=.ok (G,Q)∧HW d q.pos g G∧Wl d q Q∧Bz.Rest W Q.pos (wr1 d s q.pos)∧P.pos≤Q.pos∧Q.pos≤W.size:=by
 have ht:=C.test h (k:=46) (by omega);unfold link at hr ⊢;split at hr
 ·rename_i h46;simp only[Except.ok.injEq,Prod.mk.injEq]at hr;obtain⟨rfl,rfl⟩:=hr;rw[if_pos (ht.2 h46)];obtain⟨b1,b2,b3⟩:=GL h (C.no (by rw[h46];unfold Bp;omega)) h46 (by omega);have:=hdot rfl;refine⟨_,_,rfl,⟨rfl,?_,.inl rfl⟩,R.move _ _,?_,by simp only;omega,b2⟩
  ·simp only;rw[this];rfl
  ·simp only;rw[←Gt this];exact b3
 ·rename_i h46;rw[if_neg (fun h=>h46 (ht.1 h))];exact bondEnd_w C R h hf hr hd
theorem atom_w (C:Wc d s)(R:Wl d p P)(h:Bz.Rest W P.pos (wr1 d s p.pos)){g G:Ak}(hg:HW d p.pos g G){a:Nat}(hr:atom s g p=.ok (a,q))(hgap:∀y,p.pos<y→y<q.pos→d y=false)(hd:d p.pos=true→∃b,q.bonds=p.bonds++[b]∧b.o=4):
  ∃Q,atom W G P=.ok (a,Q)∧Wl d q Q∧Bz.Rest W Q.pos (wr0 d s q.pos)∧P.pos<Q.pos∧Q.pos≤W.size:=by
 have hM58:G.mark≠58:=by
  rw[hg.mark];unfold m58;split
  ·omega
  ·split<;>omega
 unfold atom at hr;simp only at hr;split at hr
 ·split at hr<;>cases hr
 rename_i el ar n hel;split at hr
 ·cases hr
 split at hr
 ·cases hr
 rename_i hfu;split at hr
 ·cases hr
 rename_i ch hy j hb;simp only[Except.ok.injEq,Prod.mk.injEq]at hr;obtain⟨hra,hrq⟩:=hr;have hqp:q.pos=j:=by rw[←hrq];split<;>rfl
 have hfW:full P=false:=by unfold full at hfu ⊢;rw[R.len];simpa using hfu
 have hbr:(byteAt W P.pos==91)=(byteAt s p.pos==91):=by
  by_cases hx:p.pos<s.size
  ·by_cases h58:byteAt s p.pos=58
   ·exfalso;rw[h58]at hel;simp only[show((58:Int)==91)=false from rfl,Bool.false_eq_true,if_false]at hel;unfold element at hel;rw[h58]at hel;simp at hel
   ·obtain⟨b1,_,_⟩:=Gu h hx h58;rw[b1,Bool.eq_iff_iff,beq_iff_eq,beq_iff_eq];exact cap_is (by omega)
  ·rw[(wr_ge hx).2]at h;rw[h.zero,Dz s _ hx]
 have body:∃J,(∀i,i=(if (byteAt W P.pos==91)=true then P.pos+1 else P.pos)→element W i=some (el,false,n)∧(if (byteAt W P.pos==91)=true then bracket W (i+n)else .ok (0,0,i+n))=.ok (ch,hy,J))∧Bz.Rest W J (wr0 d s j)∧P.pos<J∧J≤W.size:=by
  rw[hbr];cases h91:(byteAt s p.pos==91)
  ·rw[h91]at hel hb;simp only[Bool.false_eq_true,if_false,Except.ok.injEq,Prod.mk.injEq]at hel hb ⊢;obtain⟨e1,e2,e3⟩:=hb;obtain⟨k1,k2,k3⟩:=elem_w C h hel fun y h1 h2=>hgap y h1 (by omega);have hn:0<n:=(N9 (s:=s) hel ⟨fun y hy=>C.lx.lx.el y (by
    have:p.pos<s.size:=by refine Af fun h0=>?_;unfold element at hel;rw[h0]at hel;simp at hel
    omega),fun y hy=>C.lx.lx.sg y (by
    have:p.pos<s.size:=by refine Af fun h0=>?_;unfold element at hel;rw[h0]at hel;simp at hel
    omega)⟩).2.2
   exact⟨P.pos+n,fun i hi=>by subst hi;exact⟨k1,e1,e2,rfl⟩,by rw[←e3];exact k2,by omega,k3⟩
  ·rw[h91]at hel hb;simp only[if_true]at hel hb ⊢;have h91':byteAt s p.pos=91:=by simpa using h91
   obtain⟨b1,b2,b3⟩:=Gu h (Af (by omega)) (by omega);have hbp:=IM hb;simp only at hbp;rw[Gt (hgap (p.pos+1) (by omega) (by omega))]at b3;obtain⟨k1,k2,k3⟩:=elem_w C b3 hel fun y h1 h2=>hgap y (by omega) (by omega);obtain⟨J,m1,m2,m3,m4⟩:=bracket_w k2 hb fun z h1 h2=>hgap z (by omega) (by omega);exact⟨J,fun i hi=>by subst hi;exact⟨k1,m1⟩,m2,by omega,m3⟩
 obtain⟨J,hbody,hrest,hlt,hle⟩:=body;obtain⟨w1,w2⟩:=hbody _ rfl;have R0:Wl d {p with pos:=j,atoms:=p.atoms++[⟨el,ar,ch,hy,p.pos,byteAt s p.pos==91⟩]} {P with pos:=J,atoms:=P.atoms++[⟨el,false,ch,hy,P.pos,byteAt W P.pos==91⟩]}:=by refine⟨?_,R.bonds,R.rings⟩;simp only[List.map_append,List.map_cons,List.map_nil];rw[R.atoms,hbr];rfl
 refine⟨if G.atom= -1 then {P with pos:=J,atoms:=P.atoms++[⟨el,false,ch,hy,P.pos,byteAt W P.pos==91⟩]}else Bz.bind {P with pos:=J,atoms:=P.atoms++[⟨el,false,ch,hy,P.pos,byteAt W P.pos==91⟩]} G.atom.toNat P.atoms.length (order {P with pos:=J,atoms:=P.atoms++[⟨el,false,ch,hy,P.pos,byteAt W P.pos==91⟩]} G.mark G.atom P.atoms.length) P.pos,?_,?_,?_,?_,?_⟩
 ·unfold atom;simp only[w1];rw[if_neg (fun h=>hM58 h.1),hfW];simp only[Bool.false_eq_true,if_false];rw[w2];simp only;rw[←hra,R.len]
 ·rw[←hrq,hg.atom];split
  ·exact R0
  ·rename_i hne;rw[R.len];refine R0.bind ?_;refine order_w (p:={p with pos:=j,atoms:=p.atoms++[⟨el,ar,ch,hy,p.pos,byteAt s p.pos==91⟩]}) (m:=g.mark) (aro_no R0.atoms) rfl hg.ok hg.mark fun hdd=>?_;obtain⟨b,hb1,hb2⟩:=hd hdd;rw[←hrq,if_neg hne]at hb1;simp only[Bz.bind]at hb1;have:=List.append_cancel_left hb1;simp only[List.cons.injEq,and_true]at this;rw[←this]at hb2;exact hb2
 ·rw[hqp];split<;>exact hrest
 ·split<;>exact hlt
 ·split<;>exact hle
end
end Go.Proofs.YtcabaecbmkgclaaGreatDoor
