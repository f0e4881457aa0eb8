import Derived.Test.YtcabaecbmkgclaaGreatDoorP04
import Derived.Deep.DeepCutAuto
import Derived.Deep.RegionHeld3
set_option maxHeartbeats 2000000
set_option maxRecDepth 100000
namespace Go.Proofs.YtcabaecbmkgclaaGreatDoor
open Go.RowKit Bz
theorem Bc {s:ByteArray}{i:Nat}{c:Int}(h:byteAt s i=c)(hc:c≠0):i<s.size:=Af (by omega)
theorem hydro_le (s:ByteArray)(i:Nat)(h:i≤s.size):(BX s i).2≤s.size:=by
 unfold BX;split
 ·split
  ·rename_i h1 h2;have:=Bc h1 (by omega);have:=Af (s:=s) (i:=i+1) (by omega);simp;omega
  ·rename_i h1 h2;have:=Bc h1 (by omega);simp;omega
 ·simpa using h
section
variable {w:World}{B:Nat}{s:ByteArray}{p:St}
def Jo (w:World)(B:Nat)(s:ByteArray)(p:St)(L:Nat)(a:Atm)(e:Ending)(w':World):Prop:=
 match bracket s p.pos with
 | .ok x=>e=.returned (.bool true)∧Rd w' B s {p with pos:=x.2.2}∧Bx w' L {a with ch:=x.1,hy:=x.2.1}∧¬Mine w' B L∧FrX B L w w'
 | .error er=>e=.returned (.bool false)∧Wrong w' B er∧FrX B L w w'
structure AtH (w0 w:World)(B:Nat)(s:ByteArray)(p:St)(L:Nat)(a:Atm):Prop where
 rd:Rd w B s p
 bx:Bx w L a
 nm:¬Mine w B L
 fr:FrX B L w0 w
theorem AtH.NL {w0 w:World}{L:Nat}{a a':Atm}(h:AtH w0 w B s p L a)(i:Nat)(u:Value)(hb:Bx (w.setCell ⟨L,i,none⟩ u) L a'):AtH w0 (w.setCell ⟨L,i,none⟩ u) B s p L a':=by have hLB:=Rd.GN h.nm;exact⟨h.rd.setOther h.nm u,hb,fun e=>h.nm ((Mine.same (Below.heap_setCell _ _ _ _ (by simpa using fun e=>hLB e.symm))).1 e),h.fr.set hLB i u⟩
theorem AtH.step {w0 w w1:World}{L:Nat}{a:Atm}{q:St}(h:AtH w0 w B s p L a)(hr:Rd w1 B s q)(hf:Fr B w w1):AtH w0 w1 B s q L a:=
 ⟨hr,h.bx.fr hf h.nm,hf.Df h.bx.lt h.nm,h.fr.trans (hf.x L)⟩
theorem bracket_any (h:Rd w B s p)(hs:s.size≤160)(hp:p.pos≤s.size)(L:Nat)(a:Atm)(hb:Bx w L a)(hm:¬Mine w B L)(hch:a.ch=0)(hhy:a.hy=0):
  Calls Tryz.prog 127 #[.pointer (some ⟨B,0,none⟩),.pointer (some ⟨L,0,none⟩)] w (Jo w B s p L a):=by
 have H0:AtH w w B s p L a:=⟨h,hb,hm,(Fr.refl B w).x L⟩
 go_enter Tryz.func127,Tryz.ntmps127
 go_wp2_with fail;refine(take1 h hs hp 72 72 rfl (by decide)).mono ?_;rintro e w1 ⟨rfl,hr1,hf1⟩;go_upto_if 10 with fail
 go_cut [] (fun wc=>AtH w wc B s {p with pos:=(BX s p.pos).2} L {a with hy:=(BX s p.pos).1})
 case first=>
  by_cases h72:byteAt s p.pos=72
  ·have hlt:=Bc h72 (by decide);rw[if_pos h72]at hr1;have H1:=H0.step hr1 hf1;have t72:(byteAt s p.pos==72)=true:=by simpa using h72
   have H2:=H1.NL 3 (.int .i64 1) (H1.bx.IJ 1);have c3:=H1.bx.c3;have f3:=H1.bx.fz 3;have HD:=NI H2.rd hs (by show p.pos+1≤s.size;omega) 49 52 (by decide);by_cases hd:49≤byteAt s (p.pos+1)∧byteAt s (p.pos+1)≤52
   ·rw[if_pos hd,if_pos hd]at HD;have hy:Hid (BX s p.pos=(byteAt s (p.pos+1)-48,p.pos+2)):=by unfold Hid BX;rw[if_pos h72,if_pos hd]
    clear h72 hd;go_wp2_with fail;refine HD.mono ?_;rintro e w2 ⟨rfl,hr2,hf2⟩;have H3:=H2.step hr2 hf2;have c3':=H3.bx.c3;have f3':=H3.bx.fz 3;have H4:=H3.NL 3 (.int .i64 (byteAt s (p.pos+1)-48)) (H3.bx.IJ _);go_wp2_with fail;go_meet
    case rel=>rw[hy.out];exact H4
   ·rw[if_neg hd,if_neg hd]at HD;have hy:Hid (BX s p.pos=(1,p.pos+1)):=by unfold Hid BX;rw[if_pos h72,if_neg hd]
    clear h72 hd;go_wp2_with fail;refine HD.mono ?_;rintro e w2 ⟨rfl,hr2,hf2⟩;have H3:=H2.step hr2 hf2;go_wp2_with fail;go_meet
    case rel=>rw[hy.out];exact H3
  ·rw[if_neg h72]at hr1;have H1:=H0.step hr1 hf1;have t72:(byteAt s p.pos==72)=false:=by simpa using h72
   have hy:Hid (BX s p.pos=(0,p.pos)):=by unfold Hid BX;rw[if_neg h72]
   have HA:Hid (a={a with hy:=0}):=by unfold Hid;rw[←hhy]
   clear h72;go_wp2_with fail;go_meet
   case rel=>rw[hy.out];rw[HA.out]at H1;exact H1
 case rest=>
  have hle:=hydro_le s p.pos hp;have HB:Hid (bracket s p.pos=(if byteAt s (BI s (BX s p.pos).2).2=93 then .ok ((BI s (BX s p.pos).2).1,(BX s p.pos).1,(BI s (BX s p.pos).2).2+1)else .error (2,((BI s (BX s p.pos).2).2:Int)))):=rfl;generalize (BX s p.pos).1=hy at*;generalize (BX s p.pos).2=i at*;clear hr1 hf1;have hpk:=Gf hcut.rd hs hle;by_cases hc:byteAt s i=45
  ·have hlt:=Bc hc (by decide);have hch1:BI s i=(-1,i+1):=by simp[BI,hc]
   rw[hch1]at HB;clear hch1;rw[hc]at hpk;have hpk2:Hid (∀k,Calls Tryz.prog 80 #[.pointer (some ⟨B,0,none⟩),.int .i64 0] (wc.drewN k) fun e w'=>e=.returned (.int .u8 45)∧∃m,w'=(wc.drewN k).drewN m):=by intro k;have:=Gf (hcut.rd.drewN k) hs hle;rw[hc]at this;exact this
   have hco:Hid (∀w,Calls Tryz.prog 153 #[.int .u8 45] w fun e w'=>e=.returned (.int .i64 (-1))∧w'=w):=fun w=>MC 45 w;clear hc;go_wp2_with fail;refine hpk.mono ?_;rintro e w2 ⟨rfl,k,rfl⟩;go_wp2_with fail;refine(hpk2.out k).mono ?_;rintro e w3 ⟨rfl,m,rfl⟩;rw[World.drewN_drewN];have H2:=hcut.step (hcut.rd.drewN (k+m)) ((Fr.refl B wc).drewN (k+m));have c2:=H2.bx.c2;have f2:=H2.bx.fz 2;have H3:=H2.NL 2 (.int .i64 (-1)) (H2.bx.LJ (-1));have q3:=H3.rd.pos;have z3:=H3.rd.free 1;have H4:AtH w _ B s _ L _:=H3.step (H3.rd.setPos (i+1) (.int .i64 ((i:Int)+1)) (by go_num)) ((Fr.refl B _).setPos _);simp only at H4;have hT:=take1 H4.rd hs (by show i+1≤s.size;omega) 93 93 rfl (by decide);go_wp2_with fail;refine(hco.out _).mono ?_;rintro e w4 ⟨rfl,rfl⟩;by_cases h93:byteAt s (i+1)=93
   ·simp only[h93,if_true,BEq.rfl]at hT;rw[if_pos h93]at HB;clear h93;go_wp2_with fail;refine hT.mono ?_;rintro e w5 ⟨rfl,hr5,hf5⟩;have H5:=H4.step hr5 hf5;go_wp2_with fail;go_ret
    unfold Jo;rw[HB.out];exact⟨rfl,H5.rd,H5.bx,H5.nm,H5.fr⟩
   ·have t93:(byteAt s (i+1)==93)=false:=by simpa using h93
    simp only[h93,t93,if_false]at hT;rw[if_neg h93]at HB;clear h93 t93;go_wp2_with fail;refine hT.mono ?_;rintro e w5 ⟨rfl,hr5,hf5⟩;have H5:=H4.step hr5 hf5;have q5:=H5.rd.pos;simp only at q5;go_wp2_with fail;go_region_with (go_at_call 57;refine(D7 H5.rd.drew _ _).mono ?_;rintro e w' ⟨rfl,hw,hf6⟩)
    go_wp2;go_ret
    unfold Jo;rw[HB.out];exact⟨rfl,hw,(H5.fr.trans ((Fr.refl B _).drew.x L)).trans (hf6.x L)⟩
  have hn45:=hc;clear hc;by_cases hc:byteAt s i=43
  ·have hlt:=Bc hc (by decide);have hch1:BI s i=(1,i+1):=by simp[BI,hc]
   rw[hch1]at HB;clear hch1;rw[hc]at hpk;have hpk2:Hid (∀k,Calls Tryz.prog 80 #[.pointer (some ⟨B,0,none⟩),.int .i64 0] (wc.drewN k) fun e w'=>e=.returned (.int .u8 43)∧∃m,w'=(wc.drewN k).drewN m):=by intro k;have:=Gf (hcut.rd.drewN k) hs hle;rw[hc]at this;exact this
   have hco:Hid (∀w,Calls Tryz.prog 153 #[.int .u8 43] w fun e w'=>e=.returned (.int .i64 (1))∧w'=w):=fun w=>MC 43 w;clear hc;go_wp2_with fail;refine hpk.mono ?_;rintro e w2 ⟨rfl,k,rfl⟩;go_wp2_with fail;refine(hpk2.out k).mono ?_;rintro e w3 ⟨rfl,m,rfl⟩;rw[World.drewN_drewN];have H2:=hcut.step (hcut.rd.drewN (k+m)) ((Fr.refl B wc).drewN (k+m));have c2:=H2.bx.c2;have f2:=H2.bx.fz 2;have H3:=H2.NL 2 (.int .i64 (1)) (H2.bx.LJ (1));have q3:=H3.rd.pos;have z3:=H3.rd.free 1;have H4:AtH w _ B s _ L _:=H3.step (H3.rd.setPos (i+1) (.int .i64 ((i:Int)+1)) (by go_num)) ((Fr.refl B _).setPos _);simp only at H4;have hT:=take1 H4.rd hs (by show i+1≤s.size;omega) 93 93 rfl (by decide);go_wp2_with fail;refine(hco.out _).mono ?_;rintro e w4 ⟨rfl,rfl⟩;by_cases h93:byteAt s (i+1)=93
   ·simp only[h93,if_true,BEq.rfl]at hT;rw[if_pos h93]at HB;clear h93;go_wp2_with fail;refine hT.mono ?_;rintro e w5 ⟨rfl,hr5,hf5⟩;have H5:=H4.step hr5 hf5;go_wp2_with fail;go_ret
    unfold Jo;rw[HB.out];exact⟨rfl,H5.rd,H5.bx,H5.nm,H5.fr⟩
   ·have t93:(byteAt s (i+1)==93)=false:=by simpa using h93
    simp only[h93,t93,if_false]at hT;rw[if_neg h93]at HB;clear h93 t93;go_wp2_with fail;refine hT.mono ?_;rintro e w5 ⟨rfl,hr5,hf5⟩;have H5:=H4.step hr5 hf5;have q5:=H5.rd.pos;simp only at q5;go_wp2_with fail;go_region_with (go_at_call 57;refine(D7 H5.rd.drew _ _).mono ?_;rintro e w' ⟨rfl,hw,hf6⟩)
    go_wp2;go_ret
    unfold Jo;rw[HB.out];exact⟨rfl,hw,(H5.fr.trans ((Fr.refl B _).drew.x L)).trans (hf6.x L)⟩
  have hch0:BI s i=(0,i):=by simp[BI,hc,hn45]
  rw[hch0]at HB;clear hch0;have HA:Hid ({a with hy:=hy}={a with hy:=hy,ch:=0}):=by unfold Hid;rw[←hch]
  have t43:(byteAt s i==43)=false:=by simpa using hc
  have t45:(byteAt s i==45)=false:=by simpa using hn45
  have hT:∀k,_:=fun k=>take1 (hcut.rd.drewN k) hs hle 93 93 rfl (by decide);by_cases h93:byteAt s i=93
  ·simp only[h93,if_true,BEq.rfl]at hT;have HT:=(show Hid _ from hT)
   rw[if_pos h93]at HB;rw[h93]at hpk;clear h93 hc hn45 t43 t45 hT;go_wp2_with fail;refine hpk.mono ?_;rintro e w2 ⟨rfl,k,rfl⟩;have H2:=hcut.step (hcut.rd.drewN k) ((Fr.refl B wc).drewN k);go_wp2_with fail;refine(HT.out k).mono ?_;rintro e w5 ⟨rfl,hr5,hf5⟩;have H5:=H2.step hr5 hf5;go_wp2_with fail;go_ret
   unfold Jo;rw[HB.out];refine⟨rfl,H5.rd,?_,H5.nm,H5.fr⟩;have:=H5.bx;rw[HA.out]at this;exact this
  ·have t93:(byteAt s i==93)=false:=by simpa using h93
   rw[if_neg h93]at HB;clear h93 hc hn45 hT;generalize byteAt s i=c at*;go_wp2_with fail;refine hpk.mono ?_;rintro e w2 ⟨rfl,k,rfl⟩;have q5:=hcut.rd.pos;simp only at q5;go_wp2_with fail;go_region_with (go_at_call 57;refine(D7 (hcut.rd.drewN (k+1)) _ _).mono ?_;rintro e w' ⟨rfl,hw,hf6⟩)
   go_wp2;go_ret
   unfold Jo;rw[HB.out];exact⟨rfl,hw,(hcut.fr.trans (((Fr.refl B _).drewN (k+1)).x L)).trans (hf6.x L)⟩
end
section
variable {w:World}{B:Nat}{s:ByteArray}{p:St}
def Gq (w:World)(B:Nat)(s:ByteArray)(p:St)(e:Ending)(w':World):Prop:=
 (match AY s p.pos with
 | .ok x=>e=.returned (.tuple #[.int .i64 x.1,.bool true])∧Rd w' B s {p with pos:=x.2}
 | .error er=>∃(v:Int)(j:Nat),e=.returned (.tuple #[.int .i64 v,.bool false])∧Rd w' B s {p with pos:=j}∧er=(2,(j:Int))∧j≤s.size)∧Fr B w w'
theorem Gq.ok {w w':World}{e:Ending}{n j:Nat}(hr:AY s p.pos=.ok (n,j))(he:e=.returned (.tuple #[.int .i64 n,.bool true]))(h1:Rd w' B s {p with pos:=j})(h2:Fr B w w'):Gq w B s p e w':=by unfold Gq;rw[hr];exact⟨⟨he,h1⟩,h2⟩
theorem Gq.error {w w':World}{e:Ending}{v:Int}{j:Nat}(hr:AY s p.pos=.error (2,(j:Int)))(he:e=.returned (.tuple #[.int .i64 v,.bool false]))(h1:Rd w' B s {p with pos:=j})(hj:j≤s.size)(h2:Fr B w w'):Gq w B s p e w':=by unfold Gq;rw[hr];exact⟨⟨v,j,he,h1,rfl,hj⟩,h2⟩
theorem Bg (c:Int):isDigit c=true↔48≤c∧c≤57:=by simp[isDigit]
theorem Ip {q:St}(h:Rd w B s q)(hs:s.size≤160)(hp:q.pos≤s.size)(hd:48≤byteAt s q.pos∧byteAt s q.pos≤57):
  Calls Tryz.prog 152 #[.pointer (some ⟨B,0,none⟩),.int .u8 48,.int .u8 57] w fun e w'=>e=.returned (.tuple #[.int .i64 (byteAt s q.pos-48),.bool true])∧Rd w' B s {q with pos:=q.pos+1}∧Fr B w w':=by
 have:=NI h hs hp 48 57 (by decide);rw[if_pos hd,if_pos hd]at this;exact this
theorem Oq {q:St}(h:Rd w B s q)(hs:s.size≤160)(hp:q.pos≤s.size)(hd:¬(48≤byteAt s q.pos∧byteAt s q.pos≤57)):
  Calls Tryz.prog 152 #[.pointer (some ⟨B,0,none⟩),.int .u8 48,.int .u8 57] w fun e w'=>e=.returned (.tuple #[.int .i64 0,.bool false])∧Rd w' B s q∧Fr B w w':=by
 have:=NI h hs hp 48 57 (by decide);rw[if_neg hd,if_neg hd]at this;exact this
theorem Ot {s:ByteArray}{i:Nat}(hd:48≤byteAt s i∧byteAt s i≤57):i<s.size:=Af (by omega)
theorem ret_pair {a b:Int}{c:Bool}(h:a=b):Ending.returned (.tuple #[.int .i64 a,.bool c])=.returned (.tuple #[.int .i64 b,.bool c]):=by rw[h]
theorem Ou (h:Rd w B s p)(hs:s.size≤160)(hp:p.pos≤s.size):
  Calls Tryz.prog 134 #[.pointer (some ⟨B,0,none⟩)] w (Gq w B s p):=by
 have hT:=take1 h hs hp 37 37 rfl (by decide);by_cases h37:byteAt s p.pos=37
 ·have hlt:=Bc h37 (by decide);simp only[h37,if_true,BEq.rfl]at hT;by_cases hd:48≤byteAt s (p.pos+1)∧byteAt s (p.pos+1)≤57
  ·have hlt1:=Ot hd;by_cases hd2:48≤byteAt s (p.pos+2)∧byteAt s (p.pos+2)≤57
   ·have HR:Hid (AY s p.pos=.ok ((10*(byteAt s (p.pos+1)-48)+(byteAt s (p.pos+2)-48)).toNat,p.pos+3)):=by unfold Hid AY;rw[if_pos h37,if_pos ((Bg _).2 hd),if_pos ((Bg _).2 hd2)]
    have k1:=hd.1;have k2:=hd.2;have k3:48≤byteAt s (p.pos+1+1):=hd2.1;have k4:byteAt s (p.pos+1+1)≤57:=hd2.2;clear h37;go_enter Tryz.func134,Tryz.ntmps134
    go_wp2_with fail;refine hT.mono ?_;rintro e w1 ⟨rfl,hr1,hf1⟩;go_wp2_with fail;refine(Ip hr1 hs (by show p.pos+1≤s.size;omega) hd).mono ?_;rintro e w2 ⟨rfl,hr2,hf2⟩;clear hd hT;simp only at hr2;go_wp2_with fail;refine(Ip hr2 hs (by show p.pos+1+1≤s.size;omega) hd2).mono ?_;rintro e w3 ⟨rfl,hr3,hf3⟩;clear hd2;simp only at hr3;go_wp2_with fail;go_ret2
    exact Gq.ok HR.out (ret_pair (by show 10*(byteAt s (p.pos+1)-48)+(byteAt s (p.pos+1+1)-48)=((10*(byteAt s (p.pos+1)-48)+(byteAt s (p.pos+1+1)-48)).toNat:Int);rw[Int.toNat_of_nonneg (by omega)])) hr3 ((hf1.trans hf2).trans hf3)
   ·have HR:Hid (AY s p.pos=.error (2,((p.pos+2:Nat):Int))):=by unfold Hid AY;rw[if_pos h37,if_pos ((Bg _).2 hd),if_neg (fun e=>hd2 ((Bg _).1 e))];rfl
    have k1:=hd.1;have k2:=hd.2;clear h37;go_enter Tryz.func134,Tryz.ntmps134
    go_wp2_with fail;refine hT.mono ?_;rintro e w1 ⟨rfl,hr1,hf1⟩;go_wp2_with fail;refine(Ip hr1 hs (by show p.pos+1≤s.size;omega) hd).mono ?_;rintro e w2 ⟨rfl,hr2,hf2⟩;clear hd hT;simp only at hr2;go_wp2_with fail;refine(Oq hr2 hs (by show p.pos+1+1≤s.size;omega) hd2).mono ?_;rintro e w3 ⟨rfl,hr3,hf3⟩;clear hd2;go_wp2_with fail;go_ret2
    exact Gq.error HR.out rfl hr3 (by omega) ((hf1.trans hf2).trans hf3)
  ·have HR:Hid (AY s p.pos=.error (2,((p.pos+1:Nat):Int))):=by unfold Hid AY;rw[if_pos h37,if_neg (fun e=>hd ((Bg _).1 e))];rfl
   clear h37;go_enter Tryz.func134,Tryz.ntmps134
   go_wp2_with fail;refine hT.mono ?_;rintro e w1 ⟨rfl,hr1,hf1⟩;go_wp2_with fail;refine(Oq hr1 hs (by show p.pos+1≤s.size;omega) hd).mono ?_;rintro e w2 ⟨rfl,hr2,hf2⟩;clear hd hT;go_wp2_with fail;go_ret2
   exact Gq.error HR.out rfl hr2 (by omega) (hf1.trans hf2)
 ·have t37:(byteAt s p.pos==37)=false:=by simpa using h37
  simp only[h37,t37,if_false]at hT;by_cases hd:48≤byteAt s p.pos∧byteAt s p.pos≤57
  ·have HR:Hid (AY s p.pos=.ok ((byteAt s p.pos-48).toNat,p.pos+1)):=by unfold Hid AY;rw[if_neg h37,if_pos ((Bg _).2 hd)]
   have k1:=hd.1;have k2:=hd.2;clear h37 t37;go_enter Tryz.func134,Tryz.ntmps134
   go_wp2_with fail;refine hT.mono ?_;rintro e w1 ⟨rfl,hr1,hf1⟩;go_wp2_with fail;refine(Ip hr1 hs hp hd).mono ?_;rintro e w2 ⟨rfl,hr2,hf2⟩;clear hd hT;go_wp2_with fail;go_ret2
   exact Gq.ok HR.out (ret_pair (by rw[Int.toNat_of_nonneg (by omega)])) hr2 (hf1.trans hf2)
  ·have HR:Hid (AY s p.pos=.error (2,(p.pos:Int))):=by unfold Hid AY;rw[if_neg h37,if_neg (fun e=>hd ((Bg _).1 e))]
   clear h37 t37;go_enter Tryz.func134,Tryz.ntmps134
   go_wp2_with fail;refine hT.mono ?_;rintro e w1 ⟨rfl,hr1,hf1⟩;go_wp2_with fail;refine(Oq hr1 hs hp hd).mono ?_;rintro e w2 ⟨rfl,hr2,hf2⟩;clear hd hT;go_wp2_with fail;go_ret2
   exact Gq.error HR.out rfl hr2 hp (hf1.trans hf2)
end
section
variable {w:World}{B:Nat}{s:ByteArray}{p:St}
def CB (w:World)(B:Nat)(s:ByteArray)(r:R St)(e:Ending)(w':World):Prop:=
 (match r with
 | .ok q=>e=.returned (.bool true)∧Rd w' B s q
 | .error er=>e=.returned (.bool false)∧Wrong w' B er)∧Fr B w w'
theorem CB.ok {w w':World}{r:R St}{e:Ending}{q:St}(hr:r=.ok q)(he:e=.returned (.bool true))(h1:Rd w' B s q)(h2:Fr B w w'):CB w B s r e w':=by subst hr;exact⟨⟨he,h1⟩,h2⟩
theorem CB.error {w w':World}{r:R St}{e:Ending}{er:Int×Int}(hr:r=.error er)(he:e=.returned (.bool false))(h1:Wrong w' B er)(h2:Fr B w w'):CB w B s r e w':=by subst hr;exact⟨⟨he,h1⟩,h2⟩
structure TwoBx (w wc:World)(B:Nat)(s:ByteArray)(p:St)(x y z x' y' z':Value):Prop where
 rd:RdN wc B s p w.heap.size
 b0:B3 wc w.heap.size x y z
 b1:B3 wc (w.heap.size+1) x' y' z'
 fr:Fr B w wc
theorem twoBx_mk (h:Rd w B s p)(x y z x' y' z':Value)(t t':TypeId)(k:Nat):TwoBx w (((w.alloc (.cells #[x,y,z] t)).alloc (.cells #[x',y',z'] t')).drewN k) B s p x y z x' y' z':=by
 have hB:=h.lt;refine⟨(by repeat (first|with_reducible exact Rd.n h|with_reducible refine RdN.drewN ?_ _|with_reducible refine RdN.drew ?_|with_reducible refine RdN.EO ?_ (by simp) _ _|with_reducible refine RdN.Dp ?_ (by simp;try omega) _|with_reducible refine RdN.setPos ?_ _ _ (by go_num))),⟨?_,?_,?_,?_⟩,⟨?_,?_,?_,?_⟩,(by repeat (first|with_reducible exact Fr.refl _ _|with_reducible refine Fr.drewN ?_ _|with_reducible refine Fr.drew ?_|with_reducible refine Fr.setPos ?_ _|with_reducible refine Fr.EO ?_ (by simp) hB _ _|with_reducible refine Fr.Dp ?_ hB _))⟩
 ·simp[go_sem]
 ·simp[go_sem]
 ·simp[go_sem]
 ·intro i;simp[go_sem]
 ·simp[go_sem]
 ·simp[go_sem]
 ·simp[go_sem]
 ·intro i;simp[go_sem]
theorem TwoBx.drewN {w wc:World}{x y z x' y' z':Value}(h:TwoBx w wc B s p x y z x' y' z')(k:Nat):TwoBx w (wc.drewN k) B s p x y z x' y' z':=
 ⟨h.rd.drewN k,⟨h.b0.c0,h.b0.c1,h.b0.c2,h.b0.fz⟩,⟨h.b1.c0,h.b1.c1,h.b1.c2,h.b1.fz⟩,h.fr.drewN k⟩
theorem closeRing_eq (fm fs lm ls:Int)(fa la place:Nat)(p:St)(m:Bool)(hm:m= !(aro p fa&&aro p la)):
  BZ ⟨fm,fs,fa⟩ ⟨lm,ls,la⟩ place p=if (lm==58&&m)=true then .error (3,ls)else if (fm==58&&lm==0&&m)=true then .error (3,(place:Int))
   else if (fa:Int)=la∨C9 p.bonds fa la=true∨clash fm lm=true then .error (4,(place:Int))else .ok (bind p fa la (order p (given fm lm) fa la) place):=by
 have e1:(lm=58∧m=true)↔((lm==58&&m)=true):=by simp
 have e2:(fm=58∧lm=0∧m=true)↔((fm==58&&lm==0&&m)=true):=by simp[and_assoc]
 unfold BZ;simp only[Int.toNat_natCast];rw[←hm];by_cases h1:lm=58∧m=true
 ·rw[if_pos h1,if_pos (e1.1 h1)]
 ·rw[if_neg h1,if_neg (fun e=>h1 (e1.2 e))];by_cases h2:fm=58∧lm=0∧m=true
  ·rw[if_pos h2,if_pos (e2.1 h2)]
  ·rw[if_neg h2,if_neg (fun e=>h2 (e2.2 e))]
theorem Qh (h:Rd w B s p)(fm fs lm ls:Int)(fa la place:Nat)(ha:fa<p.atoms.length)(hb:la<p.atoms.length)(hn:p.atoms.length≤24)(hbo:p.bonds.length≤1000):
  Calls Tryz.prog 135 #[.pointer (some ⟨B,0,none⟩),DU ⟨fm,fs,fa⟩,DU ⟨lm,ls,la⟩,.int .i64 place] w (CB w B s (BZ ⟨fm,fs,fa⟩ ⟨lm,ls,la⟩ place p)):=by
 have hB:=h.lt;have HB2:Hid (∀o o' k,Calls Tryz.prog 154 #[.pointer (some ⟨B,2,none⟩),.int .i64 fa,.int .i64 la] (((w.alloc o).alloc o').drewN k) fun e w'=>e=.returned (.bool (aro p fa&&aro p la))∧w'=((w.alloc o).alloc o').drewN k):=fun o o' k=>both_any (((h.alloc o).alloc o').drewN k) fa la ha hb hn;have HT:Hid (∀k,TwoBx w (((w.alloc (.cells #[.int .u8 fm,.int .i64 fs,.int .i64 (fa:Int)] 92)).alloc (.cells #[.int .u8 lm,.int .i64 ls,.int .i64 (la:Int)] 92)).drewN k) B s p (.int .u8 fm) (.int .i64 fs) (.int .i64 (fa:Int)) (.int .u8 lm) (.int .i64 ls) (.int .i64 (la:Int))):=fun k=>twoBx_mk h _ _ _ _ _ _ _ _ k;generalize hX:(aro p fa&&aro p la)=X at HB2;obtain⟨mixed,hmx⟩:∃m,m= !X:=⟨_,rfl⟩
 obtain⟨A,hA⟩:∃A,A=(lm==58&&mixed):=⟨_,rfl⟩
 obtain⟨A',hA'⟩:∃A',A'=(fm==58&&lm==0&&mixed):=⟨_,rfl⟩
 have HR:Hid (BZ ⟨fm,fs,fa⟩ ⟨lm,ls,la⟩ place p=if A=true then .error (3,ls)else if A'=true then .error (3,(place:Int))else if (fa:Int)=la∨C9 p.bonds fa la=true∨clash fm lm=true then .error (4,(place:Int))
   else .ok (bind p fa la (order p (given fm lm) fa la) place)):=by
  subst hA hA';exact closeRing_eq fm fs lm ls fa la place p mixed (by rw[hmx,hX])
 have HA:Hid (A=(lm==58&&mixed)):=hA;have HA':Hid (A'=(fm==58&&lm==0&&mixed)):=hA';have HM:Hid (mixed= !X):=hmx;clear hA hA' hX hmx;unfold DU;simp only;go_enter Tryz.func135,Tryz.ntmps135
 go_upto_region 1 with fail
 go_cut [9] (fun v wc=>v=.bool mixed∧TwoBx w wc B s p (.int .u8 fm) (.int .i64 fs) (.int .i64 (fa:Int)) (.int .u8 lm) (.int .i64 ls) (.int .i64 (la:Int)))
 case first=>
  go_quiet ((go_at_call 154;exact Calls.quiet_of_same (HB2.out _ _ _)))
  go_wp2_with fail;go_meet
  case rel=>exact⟨by rw[HM.out],HT.out _⟩
 case rest=>
  obtain⟨rfl,T0⟩:=hcut;clear HT HB2 HM;have c10:=T0.b0.c0;have c11:=T0.b0.c1;have c12:=T0.b0.c2;have c20:=T0.b1.c0;have c21:=T0.b1.c1;have c22:=T0.b1.c2;go_upto_region 2 with fail
  go_cut [19] (fun v w2=>v=.bool A∧w2=wc)
  case first=>
   by_cases hl:lm=58
   ·have tl:(lm==58)=true:=by simpa using hl
    clear hl;rw[tl]at HA;go_wp2_with fail;go_meet
    case rel=>exact⟨by rw[HA.out];rfl,rfl⟩
   ·have tl:(lm==58)=false:=by simpa using hl
    clear hl;rw[tl]at HA;go_wp2_with fail;go_meet
    case rel=>exact⟨by rw[HA.out];rfl,rfl⟩
  case rest=>
   obtain⟨rfl,rfl⟩:=hcut;cases A
   ·simp only[Bool.false_eq_true,if_false]at HR;clear HA;go_upto_region 4 with fail
    go_cut [34] (fun v w2=>v=.bool A'∧w2=wc)
    case first=>
     by_cases hf:fm=58
     ·have tf:(fm==58)=true:=by simpa using hf
      by_cases hl:lm=0
      ·have tl:(lm==0)=true:=by simpa using hl
       clear hf hl;rw[tf,tl]at HA';go_wp2_with fail;go_meet
       case rel=>exact⟨by rw[HA'.out];rfl,rfl⟩
      ·have tl:(lm==0)=false:=by simpa using hl
       clear hf hl;rw[tf,tl]at HA';go_wp2_with fail;go_meet
       case rel=>exact⟨by rw[HA'.out];rfl,rfl⟩
     ·have tf:(fm==58)=false:=by simpa using hf
      clear hf;rw[tf]at HA';go_wp2_with fail;go_meet
      case rel=>exact⟨by rw[HA'.out];rfl,rfl⟩
    case rest=>
     obtain⟨rfl,rfl⟩:=hcut;cases A'
     ·simp only[Bool.false_eq_true,if_false]at HR;clear HA';have hfa:=D7 T0.rd.rd 4 (place:Int);have HF:Hid (∀k,Calls Tryz.prog 57 #[.pointer (some ⟨B,28,none⟩),.int .i64 4,.int .i64 place] (wc.drewN k) fun r w'=>r=.returned (.bool false)∧Wrong w' B (4,place)∧Fr B (wc.drewN k) w'):=fun k=>D7 (T0.rd.rd.drewN k) 4 (place:Int);have HJ:Hid (∀k,Calls Tryz.prog 64 #[.pointer (some ⟨B,2,none⟩),.int .i64 fa,.int .i64 la] (wc.drewN k) fun e w'=>e=.returned (.bool (C9 p.bonds fa la))∧w'=wc.drewN k):=fun k=>Le (T0.rd.rd.drewN k) fa la (by omega) (by omega);by_cases hfl:fa=la
      ·have tfl:((fa:Int)==(la:Int))=true:=by simp;omega
       rw[if_pos (.inl (by omega))]at HR;have HFL:Hid (fa=la):=hfl;clear hfl HF HJ;go_wp2_with fail;refine hfa.mono ?_;rintro e w' ⟨rfl,hw,hf6⟩;go_wp2_with fail;go_ret
       exact CB.error HR.out rfl hw (T0.fr.trans hf6)
      ·have tfl:((fa:Int)==(la:Int))=false:=by simp;omega
       clear hfa;generalize hbd:C9 p.bonds fa la=bd at HJ HR;cases bd
       ·have HC:Hid (∀w,Calls Tryz.prog 155 #[.int .u8 fm,.int .u8 lm] w fun e w'=>e=.returned (.bool (clash fm lm))∧w'=w):=fun w=>clash_any fm lm w;generalize hcl:clash fm lm=cl at HC HR;cases cl
        ·rw[if_neg (by simp;omega)]at HR;have HBD:Hid (fa≠la):=hfl;clear hbd hcl hfl;go_wp2_with fail;go_quiet ((go_at_call 64;exact Calls.quiet_of_same (HJ.out _)))
         go_wp2_with fail;refine(HC.out _).mono ?_;rintro e w' ⟨rfl,rfl⟩;go_wp2_with fail;have n0:¬Mine wc B w.heap.size:=fun e=>Nat.lt_irrefl _ (T0.rd.mine _ e);have n1:¬Mine wc B (w.heap.size+1):=fun e=>by have:=T0.rd.mine _ e;omega
         have HO:Hid (∀k,Calls Tryz.prog 130 #[.pointer (some ⟨B,0,none⟩),.int .u8 (given fm lm),.int .i64 fa,.int .i64 la] (wc.drewN k) fun e w'=>e=.returned (.int .i64 (order p (given fm lm) fa la))∧w'=wc.drewN k):=fun k=>order_any (T0.rd.rd.drewN k) _ fa la ha hb hn;have HBi:Hid (∀k,Calls Tryz.prog 129 #[.pointer (some ⟨B,2,none⟩),.int .i64 fa,.int .i64 la,.int .i64 (order p (given fm lm) fa la),.int .i64 place] (wc.drewN k) fun e w'=>e=.returned (.tuple #[])∧Rd w' B s (bind p fa la (order p (given fm lm) fa la) place)∧Fr B (wc.drewN k) w'∧
           w'.cell? ⟨w.heap.size,0,none⟩=some (.int .u8 fm)∧w'.cell? ⟨w.heap.size,2,none⟩=some (.int .i64 fa)∧w'.cell? ⟨w.heap.size+1,0,none⟩=some (.int .u8 lm)∧w'.cell? ⟨w.heap.size+1,2,none⟩=some (.int .i64 la)):=by
          intro k;refine(bind_any (T0.rd.rd.drewN k) fa la (order p (given fm lm) fa la) place (by omega) (by omega) HBD.out hbo).mono ?_;rintro e w' ⟨he,hr,hf⟩;have x0:=(T0.drewN k).b0.fr hf n0;have x1:=(T0.drewN k).b1.fr hf n1;exact⟨he,hr,hf,x0.c0,x0.c2,x1.c0,x1.c2⟩
         generalize hord:order p (given fm lm) fa la=od at HO HBi HR;generalize hgv:given fm lm=gv at HO;have HG:Hid (∀w,Calls Tryz.prog 156 #[.int .u8 fm,.int .u8 lm] w fun e w'=>e=.returned (.int .u8 gv)∧w'=w):=by intro w;have:=given_any fm lm w;rw[hgv]at this;exact this
         clear hord hgv HF HJ HC HBD;go_region_held3 (fun w'=>w'.cell? ⟨w.heap.size,0,none⟩=some (.int .u8 fm)∧w'.cell? ⟨w.heap.size,2,none⟩=some (.int .i64 fa)∧w'.cell? ⟨w.heap.size+1,0,none⟩=some (.int .u8 lm)∧w'.cell? ⟨w.heap.size+1,2,none⟩=some (.int .i64 la)) (go_keep) (first|(go_at_call 156;refine(HG.out _).mono ?_;rintro e w' ⟨rfl,rfl⟩)|(go_at_call 130;refine(HO.out _).mono ?_;rintro e w' ⟨rfl,rfl⟩)|(go_at_call 129;refine(HBi.out _).mono ?_;rintro e w' ⟨rfl,hr,hf,i0,i1,i2,i3⟩))
         all_goals
          go_wp2_with fail;go_ret
          exact CB.ok HR.out rfl hr ((T0.fr.drewN _).trans hf)
        ·rw[if_pos (by simp)]at HR;clear hbd hcl hfl;go_wp2_with fail;go_quiet ((go_at_call 64;exact Calls.quiet_of_same (HJ.out _)))
         go_wp2_with fail;refine(HC.out _).mono ?_;rintro e w' ⟨rfl,rfl⟩;go_wp2_with fail;refine(HF.out _).mono ?_;rintro e w' ⟨rfl,hw,hf6⟩;go_wp2_with fail;go_ret
         exact CB.error HR.out rfl hw ((T0.fr.drewN _).trans hf6)
       ·rw[if_pos (by simp)]at HR;clear hbd hfl;go_wp2_with fail;go_quiet ((go_at_call 64;exact Calls.quiet_of_same (HJ.out _)))
        go_wp2_with fail;refine(HF.out _).mono ?_;rintro e w' ⟨rfl,hw,hf6⟩;go_wp2_with fail;go_ret
        exact CB.error HR.out rfl hw ((T0.fr.drewN _).trans hf6)
     ·simp only[if_true]at HR;have hfa:=D7 T0.rd.rd 3 (place:Int);go_wp2_with fail;refine hfa.mono ?_;rintro e w' ⟨rfl,hw,hf6⟩;go_wp2_with fail;go_ret
      exact CB.error HR.out rfl hw (T0.fr.trans hf6)
   ·simp only[if_true]at HR;clear HA HA';have hfa:=D7 T0.rd.rd.drew 3 ls;go_wp2_with fail;go_region_with (go_at_call 57;refine hfa.mono ?_;rintro e w' ⟨rfl,hw,hf6⟩)
    all_goals
     go_wp2_with fail;go_ret
     exact CB.error HR.out rfl hw (T0.fr.drew.trans hf6)
end
section
variable {w:World}{B:Nat}{s:ByteArray}{p:St}
def Jp (w:World)(B i:Nat)(v0 v1 v2 v3 v4:Value):World:=
 ((((w.setCell ⟨B,i,none⟩ v0).setCell ⟨B,i+1,none⟩ v1).setCell ⟨B,i+2,none⟩ v2).setCell ⟨B,i+3,none⟩ v3).setCell ⟨B,i+4,none⟩ v4
theorem Ov (w:World)(B i:Nat)(v0 v1 v2 v3 v4:Value)(k:Nat)(hk:k<i∨i+5≤k):(Jp w B i v0 v1 v2 v3 v4).cell? ⟨B,k,none⟩=w.cell? ⟨B,k,none⟩:=by unfold Jp;rw[AA (by omega),AA (by omega),AA (by omega),AA (by omega),AA (by omega)]
theorem set5_at (w:World)(B i:Nat)(v0 v1 v2 v3 v4:Value)(hc:∀j,j<5→∃u,w.cell? ⟨B,i+j,none⟩=some u)(j:Nat)(u:Value)(hj:[v0,v1,v2,v3,v4][j]? =some u):
  (Jp w B i v0 v1 v2 v3 v4).cell? ⟨B,i+j,none⟩=some u:=by
 unfold Jp;match j,hj with
 |0,hj=>simp at hj;subst hj;obtain⟨u,hu⟩:=hc 0 (by omega);rw[AA (by omega),AA (by omega),AA (by omega),AA (by omega)];exact World.cell?_setCell_same _ _ _ hu
 |1,hj=>simp at hj;subst hj;obtain⟨u,hu⟩:=hc 1 (by omega);rw[AA (by omega),AA (by omega),AA (by omega)];exact World.cell?_setCell_same _ _ _ (by rw[AA (by omega)];exact hu)
 |2,hj=>simp at hj;subst hj;obtain⟨u,hu⟩:=hc 2 (by omega);rw[AA (by omega),AA (by omega)];exact World.cell?_setCell_same _ _ _ (by rw[AA (by omega),AA (by omega)];exact hu)
 |3,hj=>simp at hj;subst hj;obtain⟨u,hu⟩:=hc 3 (by omega);rw[AA (by omega)];exact World.cell?_setCell_same _ _ _ (by rw[AA (by omega),AA (by omega),AA (by omega)];exact hu)
 |4,hj=>simp at hj;subst hj;obtain⟨u,hu⟩:=hc 4 (by omega);exact World.cell?_setCell_same _ _ _ (by rw[AA (by omega),AA (by omega),AA (by omega),AA (by omega)];exact hu)
 |j+5,hj=>simp at hj
theorem Rd.ringCell (h:Rd w B s p)(n:Nat)(hn:n<100)(j:Nat)(hj:j<5):∃u,w.cell? ⟨B,30+n*5+j,none⟩=some u:=by
 have:j<(Dn (p.rings n)).length:=by rw[EW];exact hj
 exact⟨_,h.rings n j _ hn (List.getElem?_eq_getElem this)⟩
theorem Rd.CG (h:Rd w B s p)(n:Nat)(hn:n<100)(o:Option Opn)(v0 v1 v2 v3 v4:Value)(hv:Dn o=[v0,v1,v2,v3,v4]):Rd (Jp w B (30+n*5) v0 v1 v2 v3 v4) B s {p with rings:=CG p.rings n o}:=by
 have hc:∀k,k<30→(Jp w B (30+n*5) v0 v1 v2 v3 v4).cell? ⟨B,k,none⟩=w.cell? ⟨B,k,none⟩:=fun k hk=>Ov _ _ _ _ _ _ _ _ _ (by omega);obtain⟨va,ha,oa⟩:=h.atoms;obtain⟨vb,hb,ob⟩:=h.bonds;refine⟨by rw[hc _ (by omega)];exact h.text,by rw[hc _ (by omega)];exact h.pos,fun k hk=>by rw[hc _ (by omega)];exact h.near k hk,
  ⟨va,by rw[hc _ (by omega)];exact ha,?_⟩,⟨vb,by rw[hc _ (by omega)];exact hb,?_⟩,
  by rw[hc _ (by omega)];exact h.err,by rw[hc _ (by omega)];exact h.plc,?_,fun i=>by unfold Jp;simp only[World.frozen?_setCell];exact h.free i⟩
 ·unfold Jp;exact Ai (Ai (Ai (Ai (Ai oa _ _) _ _) _ _) _ _) _ _
 ·unfold Jp;exact Ai (Ai (Ai (Ai (Ai ob _ _) _ _) _ _) _ _) _ _
 ·intro m j v hm hj;have hj5:j<5:=by have:=(List.getElem?_eq_some_iff.1 hj).1;rwa[EW]at this
  by_cases e:m=n
  ·subst e;simp only[Bz.CG,if_true,hv]at hj;exact set5_at w B (30+m*5) v0 v1 v2 v3 v4 (fun j hj=>h.ringCell m hn j hj) j v hj
  ·simp only[Bz.CG,e,if_false]at hj;rw[Ov _ _ _ _ _ _ _ _ _ (by omega)];exact h.rings m j v hm hj
theorem Fr.Jp {B:Nat}{a w:World}(h:Fr B a w)(i:Nat)(hi:30≤i)(v0 v1 v2 v3 v4:Value):Fr B a (Jp w B i v0 v1 v2 v3 v4):=by unfold Proofs.YtcabaecbmkgclaaGreatDoor.Jp;exact((((h.setCell (.inl rfl) (fun _=>⟨by simp;omega,by simp;omega⟩) _).setCell (.inl rfl) (fun _=>⟨by simp;omega,by simp;omega⟩) _).setCell (.inl rfl) (fun _=>⟨by simp;omega,by simp;omega⟩) _).setCell (.inl rfl) (fun _=>⟨by simp;omega,by simp;omega⟩) _).setCell (.inl rfl) (fun _=>⟨by simp;omega,by simp;omega⟩) _
theorem keep5 {w:World}{B L i:Nat}(hL:L≠B)(hl:L<w.heap.size)(v0 v1 v2 v3 v4:Value)(o:Obj)(k:Nat):
  ((((((w.setCell ⟨B,i,none⟩ v0).setCell ⟨B,i+1,none⟩ v1).setCell ⟨B,i+2,none⟩ v2).setCell ⟨B,i+3,none⟩ v3).setCell ⟨B,i+4,none⟩ v4).alloc o).drew.cell? ⟨L,k,none⟩=w.cell? ⟨L,k,none⟩:=by
 have hne:∀(w:World)(j:Nat)(u:Value),(w.setCell ⟨B,j,none⟩ u).cell? ⟨L,k,none⟩=w.cell? ⟨L,k,none⟩:=fun w j u=>World.cell?_setCell_other w _ _ u (fun e=>hL (by simpa using(congrArg Addr.block e).symm));rw[World.cell?_drew,World.cell?_alloc_lt _ _ _ (by simpa using hl),hne,hne,hne,hne,hne]
theorem Qi {s:ByteArray}{i n j:Nat}(h:AY s i=.ok (n,j)):n<100:=by
 unfold AY at h;split at h
 ·split at h
  ·split at h
   ·rename_i _ h1 h2;simp only[Except.ok.injEq,Prod.mk.injEq]at h;have:=(Bg _).1 h1;have:=(Bg _).1 h2;omega
   ·cases h
  ·cases h
 ·split at h
  ·rename_i _ h1;simp only[Except.ok.injEq,Prod.mk.injEq]at h;have:=(Bg _).1 h1;omega
  ·cases h
theorem Hl {s:ByteArray}{a:Nat}{p q:St}{g:Ak}(h:Am s a p=.ok (g,q))(hp:p.pos≤s.size):
  q.atoms=p.atoms∧q.bonds=p.bonds∧q.rings=p.rings∧p.pos≤q.pos∧q.pos≤s.size∧g.atom=(a:Int):=by
 unfold Am at h;simp only at h;split at h
 ·rename_i hs;split at h
  ·cases h
  ·simp only[Except.ok.injEq,Prod.mk.injEq]at h;obtain⟨rfl,rfl⟩:=h;have:p.pos<s.size:=Af (by intro e;rw[e]at hs;simp[BH]at hs);exact⟨rfl,rfl,rfl,by simp,by simp;omega,rfl⟩
 ·simp only[Except.ok.injEq,Prod.mk.injEq]at h;obtain⟨rfl,rfl⟩:=h;exact⟨rfl,rfl,rfl,Nat.le_refl _,hp,rfl⟩
theorem Jq {s:ByteArray}{i n j:Nat}(h:AY s i=.ok (n,j)):i<j∧j≤s.size:=by
 unfold AY at h;split at h
 ·split at h
  ·split at h
   ·rename_i _ h1 h2;simp only[Except.ok.injEq,Prod.mk.injEq]at h;have:=Ot ((Bg _).1 h2);omega
   ·cases h
  ·cases h
 ·split at h
  ·rename_i _ h1;simp only[Except.ok.injEq,Prod.mk.injEq]at h;have:=Ot ((Bg _).1 h1);omega
  ·cases h
theorem ring_any (h:Rd w B s p)(hs:s.size≤160)(hp:p.pos≤s.size)(a:Nat)(ha:a<p.atoms.length)(hn:p.atoms.length≤24)(hbo:p.bonds.length≤1000)
  (hri:∀n o,p.rings n=some o→∃fa:Nat,o.hung.atom=fa∧fa<p.atoms.length):
  Calls Tryz.prog 104 #[.pointer (some ⟨B,0,none⟩),.int .i64 a] w (CB w B s (ring s a p)):=by
 have hB:=h.lt;have hBE:=Nz h hs hp a ha hn;go_enter Tryz.func104,Tryz.ntmps104
 go_wp2_with fail;refine hBE.mono ?_;rintro e w1 ⟨hm,hf1⟩;cases hbe:Am s a p with
 |error er=>
  rw[hbe]at hm;obtain⟨⟨g,rfl⟩,hw1⟩:=hm;have HR:Hid (ring s a p=.error er):=by unfold Hid ring;rw[hbe]
  clear hbe hri hBE;unfold DU;go_wp2_with fail;go_ret
  refine CB.error HR.out rfl ⟨?_,?_⟩ (hf1.alloc (Nat.lt_of_lt_of_le hB hf1.size) _)
  ·rw[World.cell?_alloc_lt _ _ _ (Nat.lt_of_lt_of_le hB hf1.size)];exact hw1.err
  ·rw[World.cell?_alloc_lt _ _ _ (Nat.lt_of_lt_of_le hB hf1.size)];exact hw1.plc
 |ok x=>
  obtain⟨g,q⟩:=x;rw[hbe]at hm;obtain⟨rfl,hr1⟩:=hm;simp only at hr1;obtain⟨qa,qb,qr,qp,qs,ga⟩:=Hl hbe hp;have HBE:Hid (Am s a p=.ok (g,q)):=hbe;rw[←qa]at ha hn hri;rw[←qb]at hbo;rw[←qr]at hri;obtain⟨gm,gs,gat⟩:=g;simp only at ga;subst ga;have HQ:Hid (∀n o,q.rings n=some o→∃fa:Nat,o.hung.atom=fa∧fa<q.atoms.length):=hri;clear hbe hBE qa qb qr qp h hp hri;have hB1:=hr1.lt;have q1:=hr1.pos;have b0:=b3_new w1 (.int .u8 gm) (.int .i64 gs) (.int .i64 (a:Int)) 92;have n0:=hr1.Df (.cells #[.int .u8 gm,.int .i64 gs,.int .i64 (a:Int)] 92);have r2:=hr1.alloc (.cells #[.int .u8 gm,.int .i64 gs,.int .i64 (a:Int)] 92);have f2:=hf1.alloc hB1 (.cells #[.int .u8 gm,.int .i64 gs,.int .i64 (a:Int)] 92);have hRN:=Ou r2 hs qs;unfold DU;simp only;go_wp2_with fail;refine hRN.mono ?_;rintro e w2 ⟨hm,hf3⟩;have x0:=b0.fr hf3 n0;have m0:=hf3.Df (by simp) n0;have f3:=f2.trans hf3;clear hRN;cases hrn:AY s q.pos with
  |error er=>
   rw[hrn]at hm;obtain⟨v,j,rfl,hr3,rfl,hj⟩:=hm;have HR:Hid (ring s a p=.error (2,(j:Int))):=by unfold Hid ring;rw[HBE.out];simp only;rw[hrn]
   clear hrn HBE;have q3:=hr3.pos;simp only at q3;go_wp2_with fail;go_region_with (go_at_call 57;refine(D7 hr3.drew _ _).mono ?_;rintro e w' ⟨rfl,hw,hf6⟩)
   all_goals
    go_wp2_with fail;go_ret
    exact CB.error HR.out rfl hw (f3.drew.trans hf6)
  |ok y=>
   obtain⟨n,j⟩:=y;rw[hrn]at hm;obtain⟨rfl,hr3⟩:=hm;simp only at hr3;have hn100:=Qi hrn;have hn100':(n:Int)<100:=by omega
   have HRN:Hid (AY s q.pos=.ok (n,j)):=hrn;clear hrn;have B2:=hr3.lt;have z0:=hr3.free (30+n*5);have z1:=hr3.free (30+n*5+1);have z2:=hr3.free (30+n*5+2);have z3:=hr3.free (30+n*5+3);have z4:=hr3.free (30+n*5+4);have d0:=x0.c0;have d1:=x0.c1;have d2:=x0.c2;have hL2:w1.heap.size<w2.heap.size:=x0.lt;have hBL:B<w1.heap.size:=hB1;cases hrg:q.rings n with
   |none=>
    have HR:Hid (ring s a p=.ok {q with pos:=j,rings:=CG q.rings n (some ⟨⟨gm,gs,a⟩,q.pos⟩)}):=by unfold Hid ring;rw[HBE.out];simp only;rw[HRN.out];simp only;rw[hrg]
    have hrr:∀jj v,(Dn none)[jj]? =some v→w2.cell? ⟨B,30+n*5+jj,none⟩=some v:=by intro jj v hv;have:=hr3.rings n jj v hn100;simp only[hrg]at this;exact this hv
    have c0:w2.cell? ⟨B,30+n*5,none⟩=some (.int .u8 0):=hrr 0 _ rfl;have c1:=hrr 1 _ rfl;have c2:=hrr 2 _ rfl;have c3:=hrr 3 _ rfl;have c4:=hrr 4 _ rfl;have hfin:=((hr3.CG n hn100 (some ⟨⟨gm,gs,a⟩,q.pos⟩) _ _ _ _ _ rfl).alloc (.cells #[.int .u8 0,.int .i64 0,.int .i64 0,.int .i64 0,.bool false] 94)).drew;have hff:=(((f3.Jp (30+n*5) (by omega) (.int .u8 gm) (.int .i64 gs) (.int .i64 (a:Int)) (.int .i64 (q.pos:Int)) (.bool true))).Dp hB (.cells #[.int .u8 0,.int .i64 0,.int .i64 0,.int .i64 0,.bool false] 94)).drew;have hLB:w1.heap.size≠B:=by omega
    unfold Jp at hfin hff;have HF:Hid _:=hfin;have HFF:Hid _:=hff;clear hrr hrg HBE HRN hfin hff;go_wp2_with fail;go_region_held3 (fun w'=>w'.cell? ⟨w1.heap.size,0,none⟩=some (.int .u8 gm)∧w'.cell? ⟨w1.heap.size,1,none⟩=some (.int .i64 gs)∧w'.cell? ⟨w1.heap.size,2,none⟩=some (.int .i64 a)) (first|with_reducible exact⟨(keep5 hLB hL2 _ _ _ _ _ _ _).trans d0,(keep5 hLB hL2 _ _ _ _ _ _ _).trans d1,(keep5 hLB hL2 _ _ _ _ _ _ _).trans d2⟩|go_keep) (fail)
    all_goals
     go_wp2_with fail;go_ret
     exact CB.ok HR.out rfl HF.out HFF.out
   |some o=>
    obtain⟨fa,hfa,hfl⟩:=HQ.out n o hrg;obtain⟨⟨fm,fs,fat⟩,fpl⟩:=o;simp only at hfa;subst hfa;have HR:Hid (ring s a p=BZ ⟨fm,fs,fa⟩ ⟨gm,gs,a⟩ q.pos {q with pos:=j,rings:=CG q.rings n none}):=by unfold Hid ring;rw[HBE.out];simp only;rw[HRN.out];simp only;rw[hrg]
    have hrr:∀jj v,(Dn (some ⟨⟨fm,fs,fa⟩,fpl⟩))[jj]? =some v→w2.cell? ⟨B,30+n*5+jj,none⟩=some v:=by intro jj v hv;have:=hr3.rings n jj v hn100;simp only[hrg]at this;exact this hv
    have c0:w2.cell? ⟨B,30+n*5,none⟩=some (.int .u8 fm):=hrr 0 _ rfl;have c1:=hrr 1 _ rfl;have c2:=hrr 2 _ rfl;have c3:=hrr 3 _ rfl;have c4:=hrr 4 _ rfl;have hfin:=(hr3.CG n hn100 none _ _ _ _ _ rfl).alloc (.cells #[.int .u8 fm,.int .i64 fs,.int .i64 (fa:Int),.int .i64 (fpl:Int),.bool true] 94);have hff:=(f3.Jp (30+n*5) (by omega) (.int .u8 0) (.int .i64 0) (.int .i64 0) (.int .i64 0) (.bool false)).Dp hB (.cells #[.int .u8 fm,.int .i64 fs,.int .i64 (fa:Int),.int .i64 (fpl:Int),.bool true] 94);have hcr:=Qh hfin fm fs gm gs fa a q.pos hfl ha hn hbo;unfold DU Jp at hcr;unfold Jp at hff;have HFF:Hid _:=hff;clear hrr hrg HBE HRN hfin hff HQ;go_wp2_with fail;refine hcr.mono ?_;rintro e w4 ⟨hm,hf4⟩;cases hcl:BZ ⟨fm,fs,fa⟩ ⟨gm,gs,a⟩ q.pos {q with pos:=j,rings:=CG q.rings n none}with
    |ok r=>
     rw[hcl]at hm;obtain⟨rfl,hr4⟩:=hm;have HCL:Hid _:=HR.out.trans hcl;clear hcl;go_wp2_with fail;go_ret
     exact CB.ok HCL.out rfl hr4 (HFF.out.trans hf4)
    |error er=>
     rw[hcl]at hm;obtain⟨rfl,hw4⟩:=hm;have HCL:Hid _:=HR.out.trans hcl;clear hcl;go_wp2_with fail;go_ret
     exact CB.error HCL.out rfl hw4 (HFF.out.trans hf4)
end
end Go.Proofs.YtcabaecbmkgclaaGreatDoor
