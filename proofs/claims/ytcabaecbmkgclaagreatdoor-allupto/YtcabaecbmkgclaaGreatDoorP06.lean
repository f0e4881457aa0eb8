import Derived.Test.YtcabaecbmkgclaaGreatDoorP05
import Derived.Deep.LoopGhost
set_option maxHeartbeats 2000000
set_option maxRecDepth 100000
namespace Go.Proofs.YtcabaecbmkgclaaGreatDoor
open Go.RowKit Bz
def BC (s:ByteArray)(h:Ak)(p:St):R (Atm×Nat):=
 match element s (if byteAt s p.pos==91 then p.pos+1 else p.pos)with
 |none=>if (byteAt s p.pos==91)&&full p then .error (5,(p.pos:Int))else .error (2,((if byteAt s p.pos==91 then p.pos+1 else p.pos:Nat):Int))
 |some (el,ar,n)=>
  if h.mark=58∧ar=false then .error (3,h.spot)
  else if full p then .error (5,(p.pos:Int))
  else
   match (if byteAt s p.pos==91 then bracket s ((if byteAt s p.pos==91 then p.pos+1 else p.pos)+n)else .ok (0,0,(if byteAt s p.pos==91 then p.pos+1 else p.pos)+n))with
   | .error e=>.error e
   | .ok (ch,hy,j)=>.ok (⟨el,ar,ch,hy,p.pos,byteAt s p.pos==91⟩,j)
def Ej (h:Ak)(p:St)(a:Atm)(j:Nat):Nat×St:=
 let q:St:={p with pos:=j,atoms:=p.atoms++[a]}
 (p.atoms.length,if h.atom= -1 then q else bind q h.atom.toNat p.atoms.length (order q h.mark h.atom p.atoms.length) a.pl)
theorem IK (s:ByteArray)(h:Ak)(p:St):atom s h p=match BC s h p with
  | .error e=>.error e
  | .ok (a,j)=>.ok (Ej h p a j):=by
 unfold atom BC;simp only;split
 ·rename_i he;rw[he];split<;>rfl
 ·rename_i el ar n he;rw[he];simp only;split
  ·rfl
  ·split
   ·rfl
   ·split
    ·rename_i e hb;rw[hb]
    ·rename_i ch hy j hb;rw[hb];rfl
section
variable {w:World}{B:Nat}{s:ByteArray}{p:St}
structure AtA (w wc:World)(B:Nat)(s:ByteArray)(p:St)(g:Ak)(a:Atm):Prop where
 rd:Rd wc B s p
 hb:B3 wc w.heap.size (.int .u8 g.mark) (.int .i64 g.spot) (.int .i64 g.atom)
 nh:¬Mine wc B w.heap.size
 bx:Bx wc (w.heap.size+1) a
 nm:¬Mine wc B (w.heap.size+1)
 fr:Fr B w wc
theorem AtA.step {wc w1:World}{g:Ak}{a:Atm}{q:St}(h:AtA w wc B s p g a)(hr:Rd w1 B s q)(hf:Fr B wc w1):AtA w w1 B s q g a:=
 ⟨hr,h.hb.fr hf h.nh,hf.Df h.hb.lt h.nh,h.bx.fr hf h.nm,hf.Df h.bx.lt h.nm,h.fr.trans hf⟩
theorem AtA.stepX {wc w1:World}{g:Ak}{a a':Atm}{q:St}(h:AtA w wc B s p g a)(hr:Rd w1 B s q)(hb:Bx w1 (w.heap.size+1) a')(hf:FrX B (w.heap.size+1) wc w1):AtA w w1 B s q g a':=
 ⟨hr,h.hb.same (hf.block _ h.hb.lt h.nh (by omega)),hf.Df h.hb.lt h.nh,hb,hf.Df h.bx.lt h.nm,h.fr.transX (by omega) hf⟩
theorem AtA.NL {wc:World}{g:Ak}{a a':Atm}(h:AtA w wc B s p g a)(i:Nat)(u:Value)(hb:Bx (wc.setCell ⟨w.heap.size+1,i,none⟩ u) (w.heap.size+1) a'):AtA w (wc.setCell ⟨w.heap.size+1,i,none⟩ u) B s p g a':=
 h.stepX (h.rd.setOther h.nm u) hb (((Fr.refl B wc).x _).set (Rd.GN h.nm) i u)
theorem ata_mk (h:Rd w B s p)(g:Ak)(t t':TypeId):AtA w ((w.alloc (.cells #[.int .u8 g.mark,.int .i64 g.spot,.int .i64 g.atom] t)).alloc (.cells #[.string ⟨#[]⟩,.bool false,.int .i64 0,.int .i64 0,.int .i64 p.pos,.bool false] t')) B s p g ⟨⟨#[]⟩,false,0,0,p.pos,false⟩:=by
 have hB:=h.lt;refine⟨(h.alloc _).alloc _,⟨?_,?_,?_,?_⟩,?_,⟨?_,?_,?_,?_,?_,?_,?_⟩,?_,(by repeat (first|with_reducible exact Fr.refl _ _|with_reducible refine Fr.drewN ?_ _|with_reducible refine Fr.drew ?_|with_reducible refine Fr.setPos ?_ _|with_reducible refine Fr.EO ?_ (by simp) hB _ _|with_reducible refine Fr.Dp ?_ hB _))⟩
 ·simp[go_sem]
 ·simp[go_sem]
 ·simp[go_sem]
 ·intro i;simp[go_sem]
 ·intro e;have:=((h.n.Dp (Nat.le_refl _) _).Dp (by simp) _).mine _ e;omega
 ·simp[go_sem]
 ·simp[go_sem]
 ·simp[go_sem]
 ·simp[go_sem]
 ·simp[go_sem]
 ·simp[go_sem]
 ·intro i;simp[go_sem]
 ·intro e;have:=((h.n.Dp (Nat.le_refl _) _).Dp (by simp) _).mine _ e;omega
def Ee (w:World)(B:Nat)(s:ByteArray)(r:R (Nat×St))(e:Ending)(w':World):Prop:=
 (match r with
 | .ok x=>e=.returned (.tuple #[.int .i64 x.1,.bool true])∧Rd w' B s x.2
 | .error er=>(∃v:Int,e=.returned (.tuple #[.int .i64 v,.bool false]))∧Wrong w' B er)∧Fr B w w'
theorem Ee.ok {w w':World}{r:R (Nat×St)}{e:Ending}{k:Nat}{q:St}(hr:r=.ok (k,q))(he:e=.returned (.tuple #[.int .i64 k,.bool true]))(h1:Rd w' B s q)(h2:Fr B w w'):Ee w B s r e w':=by subst hr;exact⟨⟨he,h1⟩,h2⟩
theorem Ee.error {w w':World}{r:R (Nat×St)}{e:Ending}{er:Int×Int}(v:Int)(hr:r=.error er)(he:e=.returned (.tuple #[.int .i64 v,.bool false]))(h1:Wrong w' B er)(h2:Fr B w w'):Ee w B s r e w':=by subst hr;exact⟨⟨⟨v,he⟩,h1⟩,h2⟩
theorem Iq {g:Ak}{br:Bool}{i:Nat}(hbr:(byteAt s p.pos==91)=br)(hi:(if br=true then p.pos+1 else p.pos)=i)(he:element s i=none):
  BC s g p=.error (if br&&full p then(5,(p.pos:Int))else(2,(i:Int))):=by
 unfold BC;rw[hbr,hi,he];simp only;split<;>rfl
theorem head_bond {g:Ak}{br:Bool}{i n:Nat}{el:ByteArray}{ar:Bool}(hbr:(byteAt s p.pos==91)=br)(hi:(if br=true then p.pos+1 else p.pos)=i)(he:element s i=some (el,ar,n))(h1:g.mark=58∧ar=false):
  BC s g p=.error (3,g.spot):=by
 unfold BC;rw[hbr,hi,he];simp only;rw[if_pos h1]
theorem head_full {g:Ak}{br:Bool}{i n:Nat}{el:ByteArray}{ar:Bool}(hbr:(byteAt s p.pos==91)=br)(hi:(if br=true then p.pos+1 else p.pos)=i)(he:element s i=some (el,ar,n))(h1:¬(g.mark=58∧ar=false))(hf:full p=true):
  BC s g p=.error (5,(p.pos:Int)):=by
 unfold BC;rw[hbr,hi,he];simp only;rw[if_neg h1,if_pos hf]
theorem Ox {g:Ak}{i n:Nat}{el:ByteArray}{ar:Bool}(hbr:(byteAt s p.pos==91)=false)(hi:p.pos=i)(he:element s i=some (el,ar,n))(h1:¬(g.mark=58∧ar=false))(hf:full p=false):
  BC s g p=.ok (⟨el,ar,0,0,p.pos,false⟩,i+n):=by
 subst hi;unfold BC;rw[hbr];simp only[Bool.false_eq_true,if_false];rw[he];simp only;rw[if_neg h1,hf];rfl
theorem MI {g:Ak}{i n:Nat}{el:ByteArray}{ar:Bool}(hbr:(byteAt s p.pos==91)=true)(hi:p.pos+1=i)(he:element s i=some (el,ar,n))(h1:¬(g.mark=58∧ar=false))(hf:full p=false):
  BC s g p=match bracket s (i+n)with
   | .error e=>.error e
   | .ok (ch,hy,j)=>.ok (⟨el,ar,ch,hy,p.pos,true⟩,j):=by
 subst hi;unfold BC;rw[hbr];simp only[if_true];rw[he];simp only;rw[if_neg h1,hf];rfl
theorem Em {s:ByteArray}{i n:Nat}{el:ByteArray}{ar:Bool}(he:element s i=some (el,ar,n)):i+n≤s.size∧0<n:=by
 unfold element at he;simp only at he;split at he
 ·rename_i h;simp only[Option.some.injEq,Prod.mk.injEq]at he;obtain⟨_,_,rfl⟩:=he;have:=Bc h.2 (by decide);omega
 ·split at he
  ·rename_i h;simp only[Option.some.injEq,Prod.mk.injEq]at he;obtain⟨_,_,rfl⟩:=he;have:=Bc h.2 (by decide);omega
  ·split at he
   ·rename_i h;simp only[Option.some.injEq,Prod.mk.injEq]at he;obtain⟨_,_,rfl⟩:=he;have:=Af (s:=s) (i:=i) (by omega);omega
   ·split at he
    ·rename_i h;simp only[Option.some.injEq,Prod.mk.injEq]at he;obtain⟨_,_,rfl⟩:=he;have:=Af (s:=s) (i:=i) (by omega);omega
    ·cases he
theorem head_room {g:Ak}{x:Atm×Nat}(hh:BC s g p=.ok x)(hn:p.atoms.length≤24):p.atoms.length<24:=by
 have:full p=false:=by
  cases hf:full p
  ·rfl
  ·unfold BC at hh;split at hh
   ·split at hh<;>cases hh
   ·split at hh
    ·cases hh
    ·cases hh
 unfold full at this;simp at this;omega
def HeadAt (w:World)(B:Nat)(s:ByteArray)(p:St)(g:Ak)(v:Value)(wc:World):Prop:=
 match BC s g p with
 | .ok x=>v=.bool false∧AtA w wc B s {p with pos:=x.2} g x.1
 | .error er=>v=.bool true∧Wrong wc B er∧Fr B w wc
theorem atom_any (h:Rd w B s p)(hs:s.size≤160)(hp:p.pos≤s.size)(g:Ak)(hn:p.atoms.length≤24)(hbo:p.bonds.length≤1000)(hga:g.atom= -1∨∃fa:Nat,g.atom=fa∧fa<p.atoms.length):
  Calls Tryz.prog 102 #[.pointer (some ⟨B,0,none⟩),DU g] w (Ee w B s (atom s g p)):=by
 have hB:=h.lt;have q0:=h.pos;have A0:=ata_mk h g 92 124;have hT:=take1 A0.rd hs hp 91 91 rfl (by decide);unfold DU;go_enter Tryz.func102,Tryz.ntmps102
 go_wp2_with fail;refine hT.mono ?_;rintro e w1 ⟨rfl,hr1,hf1⟩;have A1:=A0.step hr1 hf1;clear hT A0 hr1 hf1;generalize hbr:(byteAt s p.pos==91)=br at*;obtain⟨i,hi⟩:∃i,(if br=true then p.pos+1 else p.pos)=i:=⟨_,rfl⟩
 have hpi:(if byteAt s p.pos=91 then {p with pos:=p.pos+1}else p)={p with pos:=i}:=by subst hi hbr;by_cases e:byteAt s p.pos=91<;>simp[e]
 have hisz:i≤s.size:=by
  subst hi hbr;split
  ·rename_i e;have:=Bc (s:=s) (i:=p.pos) (c:=91) (by simpa using e) (by decide);omega
  ·exact hp
 rw[hpi]at A1;have A2:=A1.NL 5 (.bool br) (A1.bx.setBr _);simp only at A2;have c5:=A1.bx.c5;have f5:=A1.bx.fz 5;have HI:Hid ((if br=true then p.pos+1 else p.pos)=i):=hi;have HBR:Hid ((byteAt s p.pos==91)=br):=hbr;clear hpi hi hbr A1;go_upto_region 3 with fail
 go_cut [38] (fun v wc=>HeadAt w B s p g v wc)
 case first=>
  cases hel:element s i with
  |none=>
   have hNN:=name_no A2.rd hs hisz hn _ _ A2.bx A2.nm hel;have HH:Hid _:=Iq (g:=g) HBR.out HI.out hel;clear hel;go_wp2_with fail;refine hNN.mono ?_;rintro e w2 ⟨rfl,hw2,hf2⟩;go_wp2_with fail;go_meet
   case rel=>unfold HeadAt;rw[HH.out];exact⟨rfl,hw2,A2.fr.transX (by omega) hf2⟩
  |some x=>
   obtain⟨el,ar,n⟩:=x;have hNO:=name_ok A2.rd hs hisz _ _ A2.bx A2.nm _ hel;have hin:=Em hel;simp only at hNO;go_wp2_with fail;refine hNO.mono ?_;rintro e w2 ⟨rfl,hr2,hb2,hm2,hf2⟩;have A3:=A2.stepX hr2 hb2 hf2;clear hNO A2 hr2 hb2 hm2 hf2;have g0:=A3.hb.c0;have g1:=A3.hb.c1;have g2:=A3.hb.c2;have a0:=A3.bx.c0;have a1:=A3.bx.c1;have a2:=A3.bx.c2;have a3:=A3.bx.c3;have a4:=A3.bx.c4;have a5:=A3.bx.c5;simp only at a0 a1 a2 a3 a4 a5;by_cases hbo1:g.mark=58∧ar=false
   ·have HH:Hid _:=head_bond (g:=g) HBR.out HI.out hel hbo1;have hF:=fits_bond A3.rd g ⟨el,ar,0,0,p.pos,br⟩ hbo1.1 hbo1.2;unfold DU OX at hF;simp only at hF;clear hbo1 hel;go_wp2_with fail;refine hF.mono ?_;rintro e w3 ⟨rfl,hw3,hf3⟩;go_wp2_with fail;go_meet
    case rel=>unfold HeadAt;rw[HH.out];exact⟨rfl,hw3,A3.fr.trans hf3⟩
   ·cases hfu:full p
    ·have hF:=fits_ok A3.rd hn g ⟨el,ar,0,0,p.pos,br⟩ hbo1 hfu;unfold DU OX at hF;simp only at hF;cases br
     ·have HH:Hid _:=Ox (g:=g) HBR.out HI.out hel hbo1 hfu;clear hbo1 hel hfu;go_wp2_with fail;refine hF.mono ?_;rintro e w3 ⟨rfl,hr3,hf3⟩;have A4:=A3.step hr3 hf3;have a5':=A4.bx.c5;simp only at a5';go_wp2_with fail;go_meet
      case rel=>unfold HeadAt;rw[HH.out];exact⟨rfl,A4⟩
     ·have HH:Hid _:=MI (g:=g) HBR.out HI.out hel hbo1 hfu;clear hbo1 hel hfu;go_wp2_with fail;refine hF.mono ?_;rintro e w3 ⟨rfl,hr3,hf3⟩;have A4:=A3.step hr3 hf3;have a5':=A4.bx.c5;simp only at a5';have hBk:=bracket_any A4.rd hs hin.1 _ _ A4.bx A4.nm rfl rfl;unfold Jo at hBk;simp only at hBk;go_wp2_with fail;refine hBk.mono ?_;intro e w4 hm;cases hbk:bracket s (i+n)with
      |ok y=>
       obtain⟨ch,hy,j⟩:=y;rw[hbk]at hm HH;obtain⟨rfl,hr4,hb4,hm4,hf4⟩:=hm;simp only at hr4 hb4 HH;have A5:=A4.stepX hr4 hb4 hf4;clear hbk;go_wp2_with fail;go_meet
       case rel=>unfold HeadAt;rw[HH.out];exact⟨rfl,A5⟩
      |error er=>
       rw[hbk]at hm HH;obtain⟨rfl,hw4,hf4⟩:=hm;simp only at HH;clear hbk;go_wp2_with fail;go_meet
       case rel=>unfold HeadAt;rw[HH.out];exact⟨rfl,hw4,A4.fr.transX (by omega) hf4⟩
    ·have HH:Hid _:=head_full (g:=g) HBR.out HI.out hel hbo1 hfu;have hF:=fits_full A3.rd hn g ⟨el,ar,0,0,p.pos,br⟩ hbo1 hfu;unfold DU OX at hF;simp only at hF;clear hbo1 hel hfu;go_wp2_with fail;refine hF.mono ?_;rintro e w3 ⟨rfl,hw3,hf3⟩;go_wp2_with fail;go_meet
     case rel=>unfold HeadAt;rw[HH.out];exact⟨rfl,hw3,A3.fr.trans hf3⟩
 case rest=>
  clear A2 c5 f5 HI HBR;unfold HeadAt at hcut;have HE:Hid _:=IK s g p;cases hh:BC s g p with
  |error er=>
   rw[hh]at hcut HE;obtain⟨rfl,hw,hf⟩:=hcut;simp only at HE;clear hh;go_wp2_with fail;go_ret2
   exact Ee.error 0 HE.out rfl hw hf
  |ok x=>
   obtain⟨at_,j⟩:=x;rw[hh]at hcut HE;obtain⟨rfl,A5⟩:=hcut;simp only at HE A5;have hlen:p.atoms.length<24:=head_room hh hn;clear hh;have hAd:=add_any A5.rd.drew at_ hlen;unfold OX at hAd;simp only at hAd;have a0:=A5.bx.c0;have a1:=A5.bx.c1;have a2:=A5.bx.c2;have a3:=A5.bx.c3;have a4:=A5.bx.c4;have a5:=A5.bx.c5;go_wp2_with fail;go_region_with (go_at_call 128;refine hAd.mono ?_;rintro e w5 ⟨rfl,hr5,hf5⟩)
   have A6:=A5.step hr5 ((Fr.refl B _).drew.trans hf5);have g2:=A6.hb.c2;have g0:=A6.hb.c0;have g4:=A6.bx.c4;clear hAd A5 a0 a1 a2 a3 a4 a5;rcases hga with hga|⟨fa,hga,hfa⟩
   ·have HT:Hid (Ej g p at_ j=(p.atoms.length,{p with pos:=j,atoms:=p.atoms++[at_]})):=by unfold Hid Ej;simp only;rw[if_pos hga]
    rw[hga]at g2;clear hga;go_wp2_with fail;go_ret2
    exact Ee.ok (HE.out.trans (congrArg _ HT.out)) rfl A6.rd A6.fr
   ·have HT:Hid (Ej g p at_ j=(p.atoms.length,bind {p with pos:=j,atoms:=p.atoms++[at_]} fa p.atoms.length (order {p with pos:=j,atoms:=p.atoms++[at_]} g.mark fa p.atoms.length) at_.pl)):=by unfold Hid Ej;simp only;rw[if_neg (by rw[hga];omega),hga,Int.toNat_natCast]
    rw[hga]at g2;have tne:((fa:Int) != -1)=true:=by simp
    have HO:Hid (∀w,Rd w B s {p with pos:=j,atoms:=p.atoms++[at_]}→Calls Tryz.prog 130 #[.pointer (some ⟨B,0,none⟩),.int .u8 g.mark,.int .i64 fa,.int .i64 p.atoms.length] w fun e w'=>e=.returned (.int .i64 (order {p with pos:=j,atoms:=p.atoms++[at_]} g.mark fa p.atoms.length))∧w'=w):=
     fun w h=>order_any h g.mark fa p.atoms.length (by simp;omega) (by simp) (by simp;omega)
    have HBi:Hid (∀o,Calls Tryz.prog 129 #[.pointer (some ⟨B,2,none⟩),.int .i64 fa,.int .i64 p.atoms.length,.int .i64 o,.int .i64 at_.pl] w5.drew fun e w'=>e=.returned (.tuple #[])∧Rd w' B s (bind {p with pos:=j,atoms:=p.atoms++[at_]} fa p.atoms.length o at_.pl)∧Fr B w5.drew w'∧
      w'.cell? ⟨w.heap.size,0,none⟩=some (.int .u8 g.mark)∧w'.cell? ⟨w.heap.size,2,none⟩=some (.int .i64 fa)∧w'.cell? ⟨w.heap.size+1,4,none⟩=some (.int .i64 at_.pl)):=by
     intro o;refine(bind_any A6.rd.drew fa p.atoms.length o at_.pl (by omega) (by omega) (by omega) hbo).mono ?_;rintro e w' ⟨he,hr,hf⟩;have x0:=A6.hb.drew.fr hf A6.nh;exact⟨he,hr,hf,x0.c0,by have:=x0.c2;rw[hga]at this;exact this,(A6.bx.same (w':=w5.drew) rfl|>.fr hf A6.nm).c4⟩
    generalize hod:order {p with pos:=j,atoms:=p.atoms++[at_]} g.mark fa p.atoms.length=od at HO HT;clear hod;clear hga;go_wp2_with fail;go_region_held3 (fun w'=>w'.cell? ⟨w.heap.size,0,none⟩=some (.int .u8 g.mark)∧w'.cell? ⟨w.heap.size,2,none⟩=some (.int .i64 fa)∧w'.cell? ⟨w.heap.size+1,4,none⟩=some (.int .i64 at_.pl)) (go_keep) (first|(go_at_call 130;refine(HO.out _ A6.rd.drew).mono ?_;rintro e w' ⟨rfl,rfl⟩)|(go_at_call 129;refine(HBi.out _).mono ?_;rintro e w' ⟨rfl,hr,hf,i0,i1,i2⟩))
    all_goals
     go_wp2_with fail;go_ret2
     exact Ee.ok (HE.out.trans (congrArg _ HT.out)) rfl hr (A6.fr.drew.trans hf)
end
structure Ok (s:ByteArray)(p:St):Prop where
 pos:p.pos≤s.size
 atoms:p.atoms.length≤24
 bonds:p.bonds.length≤p.pos
 rings:∀n o,p.rings n=some o→∃fa:Nat,o.hung.atom=fa∧fa<p.atoms.length
 ords:∀b∈p.bonds,1≤b.o∧b.o≤4
 hys:∀a∈p.atoms,0≤a.hy∧a.hy≤9
 aros:∀a∈p.atoms,a.aro=true→Aa a.el a.ch≠[]
def FP (g:Ak)(p:St):Prop:=g.atom= -1∨∃fa:Nat,g.atom=fa∧fa<p.atoms.length
theorem Fv {s:ByteArray}{a:Nat}{p q:St}{g:Ak}(h:Am s a p=.ok (g,q))(o:Ok s p)(ha:a<p.atoms.length):Ok s q∧FP g q∧q.atoms=p.atoms∧p.pos≤q.pos:=by obtain⟨h1,h2,h3,h4,h5,h6⟩:=Hl h o.pos;refine⟨⟨h5,by rw[h1];exact o.atoms,by rw[h2];have:=o.bonds;omega,by rw[h3,h1];exact o.rings,by rw[h2];exact o.ords,by rw[h1];exact o.hys,by rw[h1];exact o.aros⟩,.inr ⟨a,h6,by rw[h1];exact ha⟩,h1,h4⟩
theorem IL {s:ByteArray}{a:Nat}{p q:St}{g:Ak}(h:link s a p=.ok (g,q))(o:Ok s p)(ha:a<p.atoms.length):Ok s q∧FP g q∧q.atoms=p.atoms∧p.pos≤q.pos:=by
 unfold link at h;split at h
 ·rename_i e;simp only[Except.ok.injEq,Prod.mk.injEq]at h;obtain⟨rfl,rfl⟩:=h;have:=Bc e (by decide);exact⟨⟨by simp;omega,o.atoms,by have:=o.bonds;simp;omega,o.rings,o.ords,o.hys,o.aros⟩,.inl rfl,rfl,by simp⟩
 ·exact Fv h o ha
theorem IM {s:ByteArray}{i:Nat}{x:Int×Int×Nat}(h:bracket s i=.ok x):i<x.2.2∧x.2.2≤s.size:=by
 unfold bracket at h;simp only at h;split at h
 ·rename_i e;simp only[Except.ok.injEq]at h;subst h;have h1:=Bc e (by decide);have h2:i≤(BX s i).2:=by
   unfold BX;split
   ·split<;>simp
   ·simp
  have h3:(BX s i).2≤(BI s (BX s i).2).2:=by
   unfold BI;split
   ·simp
   ·split<;>simp
  simp only;omega
 ·cases h
theorem Oy {s:ByteArray}{p:St}{g:Ak}{a:Atm}{j:Nat}(h:BC s g p=.ok (a,j)):p.pos<j∧j≤s.size:=by
 unfold BC at h;split at h
 ·split at h<;>cases h
 ·rename_i el ar n he;have hp:=Em he;have hi:p.pos≤(if (byteAt s p.pos==91)=true then p.pos+1 else p.pos):=by split<;>omega
  split at h
  ·cases h
  ·split at h
   ·cases h
   ·split at h
    ·cases h
    ·rename_i ch hy j' hb;simp only[Except.ok.injEq,Prod.mk.injEq]at h;obtain⟨_,rfl⟩:=h;split at hb
     ·have:=IM hb;simp only at this;omega
     ·simp only[Except.ok.injEq,Prod.mk.injEq]at hb;omega
theorem bracket_hy {s:ByteArray}{i:Nat}{x:Int×Int×Nat}(h:bracket s i=.ok x):0≤x.2.1∧x.2.1≤9:=by
 unfold bracket at h;simp only at h;split at h
 ·simp only[Except.ok.injEq]at h;subst h;simp only;unfold BX;split
  ·split
   ·rename_i e;simp only;omega
   ·simp
  ·simp
 ·cases h
theorem valences_ne (el:ByteArray)(ch:Int)(h:el≠⟨#[66]⟩):Aa el ch≠[]:=by
 unfold Aa;simp only;rw[if_neg h];repeat' split
 all_goals simp
theorem element_aro {s:ByteArray}{i n:Nat}{el:ByteArray}(ch:Int)(h:element s i=some (el,true,n)):Aa el ch≠[]:=by
 unfold element at h;simp only at h;split at h
 ·simp at h
 ·split at h
  ·simp at h
  ·split at h
   ·simp at h
   ·split at h
    ·rename_i e;simp only[Option.some.injEq,Prod.mk.injEq,true_and]at h;obtain⟨rfl,_⟩:=h;rcases e with e|e|e|e|e;all_goals
      rw[e];exact valences_ne _ _ (by decide)
    ·cases h
theorem head_info {s:ByteArray}{p:St}{g:Ak}{a:Atm}{j:Nat}(h:BC s g p=.ok (a,j)):(0≤a.hy∧a.hy≤9)∧(a.aro=true→Aa a.el a.ch≠[]):=by
 unfold BC at h;split at h
 ·split at h<;>cases h
 ·rename_i el ar n he;split at h
  ·cases h
  ·split at h
   ·cases h
   ·split at h
    ·cases h
    ·rename_i ch hy j' hb;simp only[Except.ok.injEq,Prod.mk.injEq]at h;obtain⟨rfl,rfl⟩:=h;refine⟨?_,fun e=>?_⟩
     ·split at hb
      ·exact bracket_hy hb
      ·simp only[Except.ok.injEq,Prod.mk.injEq]at hb;simp only;omega
     ·simp only at e ⊢;subst e;exact element_aro ch he
theorem order_bd (p:St)(m a b:Int):1≤order p m a b∧order p m a b≤4:=by
 unfold order;split
 ·omega
 ·split
  ·omega
  ·split
   ·omega
   ·split
    ·omega
    ·split<;>omega
theorem MJ {s:ByteArray}{p q:St}{g:Ak}{k:Nat}(h:atom s g p=.ok (k,q))(o:Ok s p):Ok s q∧k<q.atoms.length∧p.pos<q.pos∧p.atoms.length≤q.atoms.length:=by
 rw[IK]at h;cases hh:BC s g p with
 |error e=>rw[hh]at h;cases h
 |ok x=>
  obtain⟨a,j⟩:=x;rw[hh]at h;simp only[Except.ok.injEq]at h;have hr:=head_room hh o.atoms;have hj:=Oy hh;have hb:=o.bonds;obtain⟨i1,i2⟩:=head_info hh;unfold Ej at h;simp only[Prod.mk.injEq]at h;obtain⟨rfl,rfl⟩:=h;have hri:∀n o',p.rings n=some o'→∃fa:Nat,o'.hung.atom=fa∧fa<(p.atoms++[a]).length:=by intro n o' ho;obtain⟨fa,h1,h2⟩:=o.rings n o' ho;exact⟨fa,h1,by simp;omega⟩
  have hhy:∀x∈p.atoms++[a],0≤x.hy∧x.hy≤9:=by
   intro x hx;rcases List.mem_append.1 hx with hx|hx
   ·exact o.hys x hx
   ·simp at hx;subst hx;exact i1
  have har:∀x∈p.atoms++[a],x.aro=true→Aa x.el x.ch≠[]:=by
   intro x hx;rcases List.mem_append.1 hx with hx|hx
   ·exact o.aros x hx
   ·simp at hx;subst hx;exact i2
  split
  ·exact⟨⟨hj.2,by simp;omega,by simp;omega,hri,o.ords,hhy,har⟩,by simp,hj.1,by simp⟩
  ·refine⟨⟨hj.2,by simp[Bz.bind];omega,by simp[Bz.bind];omega,hri,?_,hhy,har⟩,by simp[Bz.bind],by simp[Bz.bind];omega,by simp[Bz.bind]⟩;intro b hb';simp only[Bz.bind]at hb';rcases List.mem_append.1 hb' with hb'|hb'
   ·exact o.ords b hb'
   ·simp only[List.mem_singleton]at hb';subst hb';exact order_bd _ _ _ _
theorem Oc {s:ByteArray}{a:Nat}{p q:St}(h:ring s a p=.ok q)(o:Ok s p)(ha:a<p.atoms.length):Ok s q∧p.pos<q.pos∧p.atoms.length≤q.atoms.length:=by
 unfold ring at h;split at h
 ·cases h
 ·rename_i g p1 hbe;obtain⟨o1,hg,ha1,hp1⟩:=Fv hbe o ha;split at h
  ·cases h
  ·rename_i n j hrn;obtain⟨h1,h2⟩:=Jq hrn;have hb:=o1.bonds;split at h
   ·simp only[Except.ok.injEq]at h;subst h;refine⟨⟨h2,o1.atoms,by simp;omega,?_,o1.ords,o1.hys,o1.aros⟩,by simp;omega,by simp[ha1]⟩;intro m o' ho;simp only[CG]at ho;split at ho
    ·simp only[Option.some.injEq]at ho;subst ho;rcases hg with hg|hg
     ·obtain⟨_,_,_,_,_,h6⟩:=Hl hbe o.pos;rw[h6]at hg;omega
     ·exact hg
    ·exact o1.rings m o' ho
   ·unfold BZ at h;simp only at h;split at h
    ·cases h
    ·split at h
     ·cases h
     ·split at h
      ·cases h
      ·simp only[Except.ok.injEq]at h;subst h;refine⟨⟨h2,o1.atoms,by simp[Bz.bind];omega,?_,?_,o1.hys,o1.aros⟩,by simp[Bz.bind];omega,by simp[Bz.bind,ha1]⟩
       ·intro m o' ho;simp only[Bz.bind,CG]at ho;split at ho
        ·cases ho
        ·exact o1.rings m o' ho
       ·intro b hb';simp only[Bz.bind]at hb';rcases List.mem_append.1 hb' with hb'|hb'
        ·exact o1.ords b hb'
        ·simp only[List.mem_singleton]at hb';subst hb';exact order_bd _ _ _ _
theorem JI {s:ByteArray}{a:Nat}:∀(n:Nat){p q:St},BM s a n p=.ok q→Ok s p→a<p.atoms.length→Ok s q∧p.pos≤q.pos∧p.atoms.length≤q.atoms.length
 |0,p,q,h,o,_=>by simp only[BM,Except.ok.injEq]at h;subst h;exact⟨o,Nat.le_refl _,Nat.le_refl _⟩
 |n+1,p,q,h,o,ha=>by
  unfold BM at h;split at h
  ·split at h
   ·cases h
   ·rename_i p1 hr;obtain⟨o1,h1,h2⟩:=Oc hr o ha;obtain⟨o2,h3,h4⟩:=JI n h o1 (by omega);exact⟨o2,by omega,by omega⟩
  ·simp only[Except.ok.injEq]at h;subst h;exact⟨o,Nat.le_refl _,Nat.le_refl _⟩
def Eh (s:ByteArray)(c:Ak→St→R St):Prop:=∀g q q',Ok s q→FP g q→c g q=.ok q'→Ok s q'∧q.pos<q'.pos∧q.atoms.length≤q'.atoms.length
theorem Ok.step {s:ByteArray}{p:St}(o:Ok s p)(h:p.pos<s.size):Ok s {p with pos:=p.pos+1}:=⟨by simp;omega,o.atoms,by have:=o.bonds;simp;omega,o.rings,o.ords,o.hys,o.aros⟩
theorem H7 {s:ByteArray}{c:Ak→St→R St}(hc:Eh s c){a:Nat}{p q:St}(h:branch s c a p=.ok q)(o:Ok s p)(ha:a<p.atoms.length):Ok s q∧p.pos<q.pos∧p.atoms.length≤q.atoms.length:=by
 unfold branch at h;split at h
 ·cases h
 ·rename_i g p1 hl;obtain⟨o1,hg,ha1,hp1⟩:=IL hl o ha;split at h
  ·cases h
  ·rename_i p2 hch;obtain⟨o2,h1,h2⟩:=hc g p1 p2 o1 hg hch;split at h
   ·rename_i e;simp only[Except.ok.injEq]at h;subst h;exact⟨o2.step (Bc e (by decide)),by simp;omega,by simp;rw[←ha1];exact h2⟩
   ·cases h
theorem O0 {s:ByteArray}{c:Ak→St→R St}(hc:Eh s c){a:Nat}:∀(n:Nat){p q:St},Au s c a n p=.ok q→Ok s p→a<p.atoms.length→Ok s q∧p.pos≤q.pos∧p.atoms.length≤q.atoms.length
 |0,p,q,h,o,_=>by simp only[Au,Except.ok.injEq]at h;subst h;exact⟨o,Nat.le_refl _,Nat.le_refl _⟩
 |n+1,p,q,h,o,ha=>by
  unfold Au at h;split at h
  ·rename_i e;split at h
   ·cases h
   ·rename_i p1 hr;obtain⟨o1,h1,h2⟩:=H7 hc hr (o.step (Bc e (by decide))) ha;simp only at h1 h2;obtain⟨o2,h3,h4⟩:=O0 hc n h o1 (by omega);exact⟨o2,by omega,by omega⟩
  ·simp only[Except.ok.injEq]at h;subst h;exact⟨o,Nat.le_refl _,Nat.le_refl _⟩
theorem Ku {s:ByteArray}{c:Ak→St→R St}(hc:Eh s c){g:Ak}{p q:St}{k:Nat}(h:Dx s c g p=.ok (k,q))(o:Ok s p):Ok s q∧k<q.atoms.length∧p.pos<q.pos∧p.atoms.length≤q.atoms.length:=by
 unfold Dx at h;split at h
 ·cases h
 ·rename_i k1 p1 ha;obtain⟨o1,h1,h2,h3⟩:=MJ ha o;split at h
  ·cases h
  ·rename_i p2 hr;obtain⟨o2,h4,h5⟩:=JI _ hr o1 h1;split at h
   ·cases h
   ·rename_i p3 hb;obtain⟨o3,h6,h7⟩:=O0 hc _ hb o2 (by omega);simp only[Except.ok.injEq,Prod.mk.injEq]at h;obtain⟨rfl,rfl⟩:=h;exact⟨o3,by omega,by omega,by omega⟩
theorem GU {s:ByteArray}{c:Ak→St→R St}(hc:Eh s c){a:Nat}{p q:St}{k:Nat}(h:BN s c a p=.ok (k,q))(o:Ok s p)(ha:a<p.atoms.length):Ok s q∧k<q.atoms.length∧p.pos<q.pos∧p.atoms.length≤q.atoms.length:=by
 unfold BN at h;split at h
 ·cases h
 ·rename_i g p1 hl;obtain⟨o1,hg,ha1,hp1⟩:=IL hl o ha;obtain⟨o2,h1,h2,h3⟩:=Ku hc h o1;exact⟨o2,h1,by omega,by rw[←ha1];exact h3⟩
theorem NM {s:ByteArray}{c:Ak→St→R St}(hc:Eh s c):∀(n:Nat){a:Nat}{p q:St},Bz.linked s c n a p=.ok q→Ok s p→a<p.atoms.length→Ok s q∧p.pos≤q.pos∧p.atoms.length≤q.atoms.length
 |0,a,p,q,h,o,_=>by simp only[Bz.linked,Except.ok.injEq]at h;subst h;exact⟨o,Nat.le_refl _,Nat.le_refl _⟩
 |n+1,a,p,q,h,o,ha=>by
  unfold Bz.linked at h;split at h
  ·split at h
   ·cases h
   ·rename_i k1 p1 hr;obtain⟨o1,h1,h2,h3⟩:=GU hc hr o ha;obtain⟨o2,h4,h5⟩:=NM hc n h o1 h1;exact⟨o2,by omega,by omega⟩
  ·simp only[Except.ok.injEq]at h;subst h;exact⟨o,Nat.le_refl _,Nat.le_refl _⟩
theorem Cb (s:ByteArray):∀n,Eh s (chain s n)
 |0=>by intro g q q' _ _ h;simp[chain]at h
 |n+1=>by
  intro g q q' o _ h;unfold chain at h;split at h
  ·cases h
  ·rename_i k p1 hk;obtain⟨o1,h1,h2,h3⟩:=Ku (Cb s n) hk o;obtain⟨o2,h4,h5⟩:=NM (Cb s n) _ h o1 h1;exact⟨o2,by omega,by omega⟩
def part (a:Nat)(b:Bnd):Int:=if b.a=a∨b.b=a then(if b.o=4 then 1 else b.o)else 0
theorem MK (l:List Bnd)(a k:Nat)(h:k<l.length):Bz.sum (l.take (k+1)) a=Bz.sum (l.take k) a+part a l[k]:=by unfold Bz.sum;rw[List.take_succ_eq_append_getElem h,List.map_append,List.sum_append];simp[part]
theorem part_bd (a:Nat)(b:Bnd)(h:1≤b.o∧b.o≤4):0≤part a b∧part a b≤4:=by
 unfold part;split
 ·split<;>omega
 ·omega
theorem Lh (l:List Bnd)(a:Nat)(h:∀b∈l,1≤b.o∧b.o≤4):∀k,k≤l.length→0≤Bz.sum (l.take k) a∧Bz.sum (l.take k) a≤4*k
 |0,_=>by simp[Bz.sum]
 |k+1,hk=>by rw[MK l a k (by omega)];have h1:=Lh l a h k (by omega);have h2:=part_bd a l[k] (h _ (List.getElem_mem _));omega
section
variable {w:World}{B:Nat}{s:ByteArray}{p:St}
theorem Rd.Oz (h:Rd w B s p):∃ao cap,w.cell? ⟨B,27,none⟩=some (.slice ao p.bonds.length cap):=by obtain⟨v,hv,ho⟩:=h.bonds;obtain⟨ao,cap,rfl⟩:=ownsRow_shape ho;exact⟨ao,cap,hv⟩
def SumAt (w:World)(l:List Bnd)(a:Nat)(k:Nat)(vs vi:Value)(wr:World):Prop:=
 ∃i:Nat,i≤l.length∧l.length-i≤k∧vi=.int .i64 i∧vs=.int .i64 (Bz.sum (l.take i) a)∧Below w.heap.size w wr
theorem sum_any (h:Rd w B s p)(a:Nat)(hb:p.bonds.length≤1000)(ho:∀b∈p.bonds,1≤b.o∧b.o≤4):
  Calls Tryz.prog 84 #[.pointer (some ⟨B,2,none⟩),.int .i64 a] w fun e w'=>e=.returned (.int .i64 (Bz.sum p.bonds a))∧Below w.heap.size w w':=by
 have hsb:=Lh p.bonds a ho;by_cases hl:p.bonds.length=0
 ·obtain⟨ao,cap,hc⟩:=h.Oz;rw[hl]at hc;have he:Hid (Bz.sum p.bonds a=0):=by unfold Hid;rw[List.eq_nil_of_length_eq_zero hl];rfl
  clear hsb hl ho;go_enter Tryz.func84,Tryz.ntmps84
  go_wp2_with fail;refine wp_loop_rounds 1 ?_;rw[rounds_succ];go_wp2_with fail;go_ret
  exact⟨DW he.out.symm,Below.refl _ _⟩
 ·obtain⟨g,cap,hv,hc,_,hBg,hgl⟩:=h.Ks (by omega);have HC:Hid _:=hc;have HO:Hid _:=ho;have HS:Hid _:=hsb;clear hc ho hsb;go_enter Tryz.func84,Tryz.ntmps84
  go_wp2_with fail;go_loopg [5,13] (p.bonds.length+1) (fun k vs vi wr=>SumAt w p.bonds a k vs vi wr)
  case atStart=>exact⟨0,by omega,by omega,rfl,by simp[Bz.sum],Below.refl _ _⟩
  case round=>
   obtain⟨i,hi,hk,rfl,rfl,hbel⟩:=hrel;by_cases hlt:i<p.bonds.length
   ·have hsi:=HS.out i hi;have hst:=MK p.bonds a i hlt;have hbo:=HO.out p.bonds[i] (List.getElem_mem _);have gi:=List.getElem?_eq_getElem hlt;have c0:=(hbel.cell (p:=⟨g,i*4,none⟩) hgl).trans (HC.out i _ 0 _ gi rfl);have c1:=(hbel.cell (p:=⟨g,i*4+1,none⟩) hgl).trans (HC.out i _ 1 _ gi rfl);have c2:=(hbel.cell (p:=⟨g,i*4+2,none⟩) hgl).trans (HC.out i _ 2 _ gi rfl);have c3:=(hbel.cell (p:=⟨g,i*4+3,none⟩) hgl).trans (HC.out i _ 3 _ gi rfl);have hsz:=hbel.size;have hlt':(i:Int)<(p.bonds.length:Int):=by omega
    generalize p.bonds[i]=b at*;obtain⟨ba,bb,bo,bpl⟩:=b;simp only at c0 c1 c2 c3 hbo;have HST:Hid _:=hst;clear hst gi;generalize Bz.sum (p.bonds.take i) a=sm at*;have t4:(bo==4)=true∨(bo==4)=false:=by cases (bo==4)<;>simp
    have fin:∀wx,Below w.heap.size w wx→∀u:Int,u=sm+part a ⟨ba,bb,bo,bpl⟩→SumAt w p.bonds a (p.bonds.length-(i+1)) (.int .i64 u) (.int .i64 ((i:Int)+1)) wx:=by intro wx hx u hu;exact⟨i+1,by omega,Nat.le_refl _,by go_num,by rw[HST.out,hu],hx⟩
    have FIN:Hid _:=fin;clear fin;by_cases hin:ba=a∨bb=a
    ·have tin:((ba:Int) != (a:Int))=false∨((ba:Int) != (a:Int))=true∧((bb:Int) != (a:Int))=false:=by
      by_cases e:ba=a
      ·left;simp[e]
      ·right;have e2:bb=a:=by omega
       exact⟨by simp;omega,by simp[e2]⟩
     have HP:Hid (part a ⟨ba,bb,bo,bpl⟩=if bo=4 then 1 else bo):=by unfold Hid part;rw[if_pos hin]
     clear hin;rcases t4 with t4|t4
     ·have hp:Hid (part a ⟨ba,bb,bo,bpl⟩=1):=by unfold Hid;rw[HP.out,if_pos (by simpa using t4)]
      rcases tin with tin|⟨tin,tin2⟩;all_goals
       go_wp2_with fail;go_roundg (p.bonds.length-(i+1))
       case measure=>omega
       case rel=>exact FIN.out _ (hbel.alloc hsz _) _ (by rw[hp.out])
     ·have hp:Hid (part a ⟨ba,bb,bo,bpl⟩=bo):=by unfold Hid;rw[HP.out,if_neg (by simpa using t4)]
      rcases tin with tin|⟨tin,tin2⟩;all_goals
       go_wp2_with fail;go_roundg (p.bonds.length-(i+1))
       case measure=>omega
       case rel=>exact FIN.out _ (hbel.alloc hsz _) _ (by rw[hp.out])
    ·have hp:Hid (part a ⟨ba,bb,bo,bpl⟩=0):=by unfold Hid part;rw[if_neg hin]
     have tin:((ba:Int) != (a:Int))=true:=by simp;omega
     have tin2:((bb:Int) != (a:Int))=true:=by simp;omega
     clear hin t4;go_wp2_with fail;go_roundg (p.bonds.length-(i+1))
     case measure=>omega
     case rel=>exact FIN.out _ (hbel.alloc hsz _) _ (by rw[hp.out];omega)
   ·have hi':i=p.bonds.length:=by omega
    have he:Hid (Bz.sum (p.bonds.take i) a=Bz.sum p.bonds a):=by unfold Hid;rw[hi',List.take_length]
    have hlt':¬(i:Int)<(p.bonds.length:Int):=by omega
    clear hi';go_wp2_with fail;go_ret
    exact⟨DW he.out,hbel⟩
end
def P6 (s:ByteArray)(n:Nat):Prop:=∀(w:World)(B:Nat)(g:Ak)(p:St),Rd w B s p→Ok s p→FP g p→s.size-p.pos<n→
 Calls Tryz.prog 55 #[.pointer (some ⟨B,0,none⟩),DU g] w (CB w B s (Bz.chain s n g p))
section
variable {w:World}{B:Nat}{s:ByteArray}{p:St}
theorem Wrong.alloc {w:World}{B:Nat}{e:Int×Int}(h:Wrong w B e)(o:Obj):Wrong (w.alloc o) B e:=
 ⟨by rw[World.cell?_alloc_lt _ _ _ (World.block_lt_of_cell? w _ h.err)];exact h.err,by rw[World.cell?_alloc_lt _ _ _ (World.block_lt_of_cell? w _ h.plc)];exact h.plc⟩
theorem branch_any {n:Nat}(hC:P6 s n)(hs:s.size≤160)(h:Rd w B s p)(o:Ok s p)(a:Nat)(ha:a<p.atoms.length)(hn:s.size-p.pos<n):
  Calls Tryz.prog 106 #[.pointer (some ⟨B,0,none⟩),.int .i64 a] w (CB w B s (Bz.branch s (Bz.chain s n) a p)):=by
 have hB:=h.lt;have hL:=link_any h hs o.pos a ha o.atoms;go_enter Tryz.func106,Tryz.ntmps106
 go_wp2_with fail;refine hL.mono ?_;rintro e w1 ⟨hm,hf1⟩;clear hL;cases hl:link s a p with
 |error er=>
  rw[hl]at hm;obtain⟨⟨g,rfl⟩,hw1⟩:=hm;have HR:Hid (Bz.branch s (Bz.chain s n) a p=.error er):=by unfold Hid Bz.branch;rw[hl]
  clear hl;unfold DU;go_wp2_with fail;go_ret
  exact CB.error HR.out rfl (hw1.alloc _) (hf1.Dp hB _)
 |ok x=>
  obtain⟨g,q⟩:=x;rw[hl]at hm;obtain⟨rfl,hr1⟩:=hm;simp only at hr1;obtain⟨oq,hg,qa,qp⟩:=IL hl o ha;have hCh:=hC _ B g q (hr1.alloc (.cells #[.int .u8 g.mark,.int .i64 g.spot,.int .i64 g.atom] 92)) oq hg (by omega);unfold DU at hCh;have f1:=hf1.Dp hB (.cells #[.int .u8 g.mark,.int .i64 g.spot,.int .i64 g.atom] 92);have HL:Hid _:=hl;clear hl;unfold DU;go_wp2_with fail;refine hCh.mono ?_;rintro e w2 ⟨hm,hf2⟩;clear hCh;cases hc:Bz.chain s n g q with
  |error er=>
   rw[hc]at hm;obtain⟨rfl,hw2⟩:=hm;have HR:Hid (Bz.branch s (Bz.chain s n) a p=.error er):=by unfold Hid Bz.branch;rw[HL.out];simp only;rw[hc]
   clear hc;go_wp2_with fail;go_ret
   exact CB.error HR.out rfl hw2 (f1.trans hf2)
  |ok r=>
   rw[hc]at hm;obtain⟨rfl,hr2⟩:=hm;obtain⟨o2,_,_⟩:=Cb s n g q r oq hg hc;have HR:Hid (Bz.branch s (Bz.chain s n) a p=if byteAt s r.pos=41 then .ok {r with pos:=r.pos+1}else .error (2,(r.pos:Int))):=by unfold Hid Bz.branch;rw[HL.out];simp only;rw[hc]
   have hT:=take1 hr2 hs o2.pos 41 41 rfl (by decide);clear hc;by_cases h41:byteAt s r.pos=41
   ·simp only[h41,if_true,BEq.rfl]at hT;rw[if_pos h41]at HR;clear h41;go_wp2_with fail;refine hT.mono ?_;rintro e w3 ⟨rfl,hr3,hf3⟩;go_wp2_with fail;go_ret
    exact CB.ok HR.out rfl hr3 ((f1.trans hf2).trans hf3)
   ·have t41:(byteAt s r.pos==41)=false:=by simpa using h41
    simp only[h41,t41,if_false]at hT;rw[if_neg h41]at HR;clear h41 t41;go_wp2_with fail;refine hT.mono ?_;rintro e w3 ⟨rfl,hr3,hf3⟩;have q3:=hr3.pos;go_wp2_with fail;go_region_with (go_at_call 57;refine(D7 hr3.drew _ _).mono ?_;rintro e w' ⟨rfl,hw,hf6⟩)
    all_goals
     go_wp2_with fail;go_ret
     exact CB.error HR.out rfl hw ((((f1.trans hf2).trans hf3).drew).trans hf6)
theorem P7 {n:Nat}(hs:s.size≤160)(h:Rd w B s p)(o:Ok s p)(a:Nat)(ha:a<p.atoms.length)
  (hK:∀(w:World)(g:Ak)(q:St),Rd w B s q→Ok s q→FP g q→p.pos≤q.pos→Calls Tryz.prog 79 #[.pointer (some ⟨B,0,none⟩),DU g] w (Ee w B s (Bz.Dx s (Bz.chain s n) g q))):
  Calls Tryz.prog 81 #[.pointer (some ⟨B,0,none⟩),.int .i64 a] w (Ee w B s (Bz.BN s (Bz.chain s n) a p)):=by
 have hB:=h.lt;have hL:=link_any h hs o.pos a ha o.atoms;have HK:Hid _:=hK;clear hK;go_enter Tryz.func81,Tryz.ntmps81
 go_wp2_with fail;refine hL.mono ?_;rintro e w1 ⟨hm,hf1⟩;clear hL;cases hl:link s a p with
 |error er=>
  rw[hl]at hm;obtain⟨⟨g,rfl⟩,hw1⟩:=hm;have HR:Hid (Bz.BN s (Bz.chain s n) a p=.error er):=by unfold Hid Bz.BN;rw[hl]
  clear hl;unfold DU;go_wp2_with fail;go_ret2
  exact Ee.error 0 HR.out rfl (hw1.alloc _) (hf1.Dp hB _)
 |ok x=>
  obtain⟨g,q⟩:=x;rw[hl]at hm;obtain⟨rfl,hr1⟩:=hm;simp only at hr1;obtain⟨oq,hg,qa,qp⟩:=IL hl o ha;have hCh:=HK.out _ g q (hr1.alloc (.cells #[.int .u8 g.mark,.int .i64 g.spot,.int .i64 g.atom] 92)) oq hg qp;unfold DU at hCh;have f1:=hf1.Dp hB (.cells #[.int .u8 g.mark,.int .i64 g.spot,.int .i64 g.atom] 92);have HR:Hid (Bz.BN s (Bz.chain s n) a p=Bz.Dx s (Bz.chain s n) g q):=by unfold Hid Bz.BN;rw[hl]
  clear hl;unfold DU;go_wp2_with fail;refine hCh.mono ?_;rintro e w2 ⟨hm,hf2⟩;clear hCh;cases hc:Bz.Dx s (Bz.chain s n) g q with
  |error er=>
   rw[hc]at hm HR;obtain⟨⟨v,rfl⟩,hw2⟩:=hm;clear hc;go_wp2_with fail;go_ret2
   exact Ee.error v HR.out rfl hw2 (f1.trans hf2)
  |ok r=>
   rw[hc]at hm HR;obtain⟨rfl,hr2⟩:=hm;clear hc;go_wp2_with fail;go_ret2
   exact Ee.ok (k:=r.1) (q:=r.2) HR.out rfl hr2 (f1.trans hf2)
end
end Go.Proofs.YtcabaecbmkgclaaGreatDoor
namespace Go.Proofs.YtcabaecbmkgclaaGreatDoor
open Bz
structure Emb (t s:ByteArray)(D:Nat):Prop where
 at':∀i,i<t.size→byteAt s (D+i)=byteAt t i
 stop:byteAt s (D+t.size)=46∨D+t.size=s.size
 fit:D+t.size≤s.size
theorem Emb.last {t s:ByteArray}{D:Nat}(h:Emb t s D):byteAt s (D+t.size)=46∨byteAt s (D+t.size)=0:=by
 rcases h.stop with k|k
 ·exact .inl k
 ·exact .inr (Dz s _ (by omega))
theorem Emb.same {t s:ByteArray}{D i:Nat}{α:Type}(h:Emb t s D)(hi:i≤t.size)(f:Int→α)(hf:f 46=f 0):f (byteAt s (D+i))=f (byteAt t i):=by
 by_cases hlt:i<t.size
 ·rw[h.at' i hlt]
 ·have hi':i=t.size:=by omega
  rw[hi',Dz t t.size (by omega)];rcases h.last with k|k<;>rw[k];exact hf
def shA (D:Nat)(a:Atm):Atm:={a with pl:=D+a.pl}
def shB (n D:Nat)(b:Bnd):Bnd:=⟨b.a+n,b.b+n,b.o,D+b.pl⟩
structure HR (n:Nat)(h H:Ak):Prop where
 mark:H.mark=h.mark
 atom:(h.atom= -1∧H.atom= -1)∨∃a:Nat,h.atom=a∧H.atom=((a+n:Nat):Int)
structure Rl (A:List Atm)(B:List Bnd)(D:Nat)(p P:St):Prop where
 pos:P.pos=D+p.pos
 atoms:P.atoms=A++p.atoms.map (shA D)
 bonds:P.bonds=B++p.bonds.map (shB A.length D)
 rings:∀k,(p.rings k=none∧P.rings k=none)∨∃o O,p.rings k=some o∧P.rings k=some O∧HR A.length o.hung O.hung
section
variable {A:List Atm}{B:List Bnd}{D:Nat}{p P q:St}{t s:ByteArray}
theorem Rl.len (h:Rl A B D p P):P.atoms.length=A.length+p.atoms.length:=by rw[h.atoms];simp
theorem Rl.aro (h:Rl A B D p P)(a:Nat):aro P ((a+A.length:Nat):Int)=aro p a:=by unfold Bz.aro;simp only[Int.toNat_natCast];rw[h.atoms,List.getElem?_append_right (by omega),List.getElem?_map,Nat.add_sub_cancel];cases p.atoms[a]? <;>rfl
theorem Rl.order (h:Rl A B D p P)(m:Int)(a b:Nat):order P m ((a+A.length:Nat):Int) ((b+A.length:Nat):Int)=order p m a b:=by unfold Bz.order;rw[h.aro,h.aro]
theorem Rl.C9 (h:Rl A B D p P)(hB:∀b∈B,b.a<A.length∧b.b<A.length)(a b:Nat):C9 P.bonds (a+A.length) (b+A.length)=C9 p.bonds a b:=by
 unfold Bz.C9;rw[h.bonds,List.any_append];have h1:B.any (fun x=>(x.a==a+A.length&&x.b==b+A.length)||(x.a==b+A.length&&x.b==a+A.length))=false:=by rw[List.any_eq_false];intro x hx;have:=hB x hx;simp only[Bool.or_eq_true,Bool.and_eq_true,beq_iff_eq];omega
 rw[h1,Bool.false_or,List.any_map];congr 1;funext x;have e:∀u v:Nat,(u+A.length==v+A.length)=(u==v):=fun u v=>by rw[Bool.eq_iff_iff,beq_iff_eq,beq_iff_eq];omega
 simp only[Function.comp,shB,e]
theorem Rl.bind (h:Rl A B D p P){a b pl:Nat}{o:Int}:Rl A B D (bind p a b o pl) (bind P (a+A.length) (b+A.length) o (D+pl)):=by refine⟨h.pos,h.atoms,?_,h.rings⟩;unfold Bz.bind;simp only;rw[h.bonds,List.map_append,List.append_assoc];congr 2;simp only[List.map_cons,List.map_nil,shB];congr 2<;>omega
theorem Rl.move (h:Rl A B D p P){j J:Nat}(hj:J=D+j):Rl A B D {p with pos:=j} {P with pos:=J}:=⟨hj,h.atoms,h.bonds,h.rings⟩
theorem Rl.setR (h:Rl A B D p P)(k:Nat){o O:Option Opn}(ho:(o=none∧O=none)∨∃x X,o=some x∧O=some X∧HR A.length x.hung X.hung):Rl A B D {p with rings:=CG p.rings k o} {P with rings:=CG P.rings k O}:=by
 refine⟨h.pos,h.atoms,h.bonds,fun j=>?_⟩;unfold CG;simp only;by_cases hj:j=k
 ·rw[if_pos hj,if_pos hj];exact ho
 ·rw[if_neg hj,if_neg hj];exact h.rings j
theorem HR.m1 {n:Nat}{h H:Ak}(x:HR n h H):(H.atom= -1)=(h.atom= -1):=by
 rcases x.atom with⟨a,b⟩|⟨a,b,c⟩
 ·rw[a,b]
 ·rw[b,c];apply propext;omega
end
section
variable {A:List Atm}{B:List Bnd}{D:Nat}{p P q:St}{t s:ByteArray}
theorem ahead_lt (h:Bh t p=true):p.pos<t.size:=by refine Af fun h0=>?_;unfold Bh at h;rw[h0]at h;cases h
end
end Go.Proofs.YtcabaecbmkgclaaGreatDoor
