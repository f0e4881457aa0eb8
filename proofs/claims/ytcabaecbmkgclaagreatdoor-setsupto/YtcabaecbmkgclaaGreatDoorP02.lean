import Derived.Test.YtcabaecbmkgclaaGreatDoorP01
import Derived.Deep.RegionLaw
import Derived.Deep.RegionWith
import Derived.Laws.DeepBits32
set_option maxHeartbeats 1000000
namespace Go.Proofs.YtcabaecbmkgclaaGreatDoor
open Go.RowKit Bz
section
variable {w:World}{B:Nat}{s:ByteArray}{p:St}
def CZ (w:World)(B:Nat)(s:ByteArray)(p:St)(e:Ending)(w':World):Prop:=
 (match element s p.pos with
 |some x=>e=.returned (.tuple #[.string x.1,.bool x.2.1,.bool true])∧Rd w' B s {p with pos:=p.pos+x.2.2}
 |none=>e=.returned (.tuple #[.string ⟨#[]⟩,.bool false,.bool false])∧Rd w' B s p)∧Fr B w w'
theorem CZ.some {w:World}{e:Ending}{w':World}{x:ByteArray×Bool×Nat}(hx:element s p.pos=.some x)(he:e=.returned (.tuple #[.string x.1,.bool x.2.1,.bool true]))
  (hr:Rd w' B s {p with pos:=p.pos+x.2.2})(hf:Fr B w w'):CZ w B s p e w':=by
 unfold CZ;rw[hx];exact⟨⟨he,hr⟩,hf⟩
theorem CZ.none {w:World}{e:Ending}{w':World}(hx:element s p.pos=.none)(he:e=.returned (.tuple #[.string ⟨#[]⟩,.bool false,.bool false]))
  (hr:Rd w' B s p)(hf:Fr B w w'):CZ w B s p e w':=by
 unfold CZ;rw[hx];exact⟨⟨he,hr⟩,hf⟩
theorem elem_big (h:Rd w B s p)(hs:s.size≤160)(hp:p.pos≤s.size)
  (hc:byteAt s p.pos=78∨byteAt s p.pos=79∨byteAt s p.pos=80∨byteAt s p.pos=83∨byteAt s p.pos=70∨byteAt s p.pos=73):
  Calls Tryz.prog 150 #[.pointer (some ⟨B,0,none⟩)] w (CZ w B s p):=by
 have h1:=h.pos;have hf:=h.free 1;rcases hc with hc|hc|hc|hc|hc|hc;all_goals
  have HX:Hid (element s p.pos=.some (one (byteAt s p.pos),false,1)):=by unfold Hid;simp[element,hc]
  have HP:=Gf h hs hp;rw[hc]at HP;rw[hc]at HX;clear hc;go_enter Tryz.func150,Tryz.ntmps150
  go_wp2_with (go_at_call 80;refine HP.mono ?_;rintro e w' ⟨rfl,k,rfl⟩);go_ret3
  exact CZ.some HX.out (by rfl) ((h.drewN _).setPos _ _ (by go_num)) (((Fr.refl B w).drewN _).setPos _)
theorem elem_small (h:Rd w B s p)(hs:s.size≤160)(hp:p.pos≤s.size)
  (hc:byteAt s p.pos=99∨byteAt s p.pos=110∨byteAt s p.pos=111∨byteAt s p.pos=112∨byteAt s p.pos=115):
  Calls Tryz.prog 150 #[.pointer (some ⟨B,0,none⟩)] w (CZ w B s p):=by
 have h1:=h.pos;have hf:=h.free 1;rcases hc with hc|hc|hc|hc|hc;all_goals
  have HX:Hid (element s p.pos=.some (one (byteAt s p.pos-32),true,1)):=by unfold Hid;simp[element,hc]
  have HP:=Gf h hs hp;rw[hc]at HP;rw[hc]at HX;clear hc;go_enter Tryz.func150,Tryz.ntmps150
  go_wp2_with (go_at_call 80;refine HP.mono ?_;rintro e w' ⟨rfl,k,rfl⟩);go_ret3
  exact CZ.some HX.out (by rfl) ((h.drewN _).setPos _ _ (by go_num)) (((Fr.refl B w).drewN _).setPos _)
theorem elem_none (h:Rd w B s p)(hs:s.size≤160)(hp:p.pos≤s.size)
  (hc:¬(byteAt s p.pos=78∨byteAt s p.pos=79∨byteAt s p.pos=80∨byteAt s p.pos=83∨byteAt s p.pos=70∨byteAt s p.pos=73))
  (hc':¬(byteAt s p.pos=99∨byteAt s p.pos=110∨byteAt s p.pos=111∨byteAt s p.pos=112∨byteAt s p.pos=115))
  (h67:byteAt s p.pos≠67)(h66:byteAt s p.pos≠66):
  Calls Tryz.prog 150 #[.pointer (some ⟨B,0,none⟩)] w (CZ w B s p):=by
 simp only[not_or]at hc hc';obtain⟨a1,a2,a3,a4,a5,a6⟩:=hc;obtain⟨b1,b2,b3,b4,b5⟩:=hc';have HX:Hid (element s p.pos=.none):=by unfold Hid;simp[element, *]
 have HP:=Gf h hs hp;generalize byteAt s p.pos=c at*;have t1:(c==67)=false:=by simpa using h67
 have t2:(c==66)=false:=by simpa using h66
 have t3:(c==78)=false:=by simpa using a1
 have t4:(c==79)=false:=by simpa using a2
 have t5:(c==80)=false:=by simpa using a3
 have t6:(c==83)=false:=by simpa using a4
 have t7:(c==70)=false:=by simpa using a5
 have t8:(c==73)=false:=by simpa using a6
 have t9:(c==99)=false:=by simpa using b1
 have t10:(c==110)=false:=by simpa using b2
 have t11:(c==111)=false:=by simpa using b3
 have t12:(c==112)=false:=by simpa using b4
 have t13:(c==115)=false:=by simpa using b5
 clear a1 a2 a3 a4 a5 a6 b1 b2 b3 b4 b5 h67 h66;go_enter Tryz.func150,Tryz.ntmps150
 go_wp2_with (go_at_call 80;refine HP.mono ?_;rintro e w' ⟨rfl,k,rfl⟩);go_ret3
 exact CZ.none HX.out (by rfl) (h.drewN _) ((Fr.refl B w).drewN _)
theorem elem_C (h:Rd w B s p)(hs:s.size≤160)(hp:p.pos≤s.size)(hc:byteAt s p.pos=67):
  Calls Tryz.prog 150 #[.pointer (some ⟨B,0,none⟩)] w (CZ w B s p):=by
 have HP:=Gf h hs hp;rw[hc]at HP;by_cases hn:byteAt s (p.pos+1)=108
 ·have HX:Hid (element s p.pos=.some (⟨#[67,108]⟩,false,2)):=by unfold Hid;simp[element,hc,hn]
  have HT:Hid (∀w,Rd w B s p→Calls Tryz.prog 105 #[.pointer (some ⟨B,0,none⟩),.string ⟨#[67,108]⟩] w fun e w'=>e=.returned (.bool true)∧Rd w' B s {p with pos:=p.pos+2}∧Fr B w w'):=by intro w h;have:=take2 h hs hp 67 108 67 108 rfl rfl (by decide) (by decide);simpa[hc,hn]using this
  clear hc hn;go_enter Tryz.func150,Tryz.ntmps150
  go_wp2_with fail;refine HP.mono ?_;rintro e w' ⟨rfl,k,rfl⟩;go_wp2_with fail;refine(HT.out _ (h.drewN k)).mono ?_;rintro e w' ⟨rfl,hr,hf⟩;go_wp2_with fail;go_ret3
  exact CZ.some HX.out rfl hr (((Fr.refl B w).drewN _).trans hf)
 ·have HX:Hid (element s p.pos=.some (one 67,false,1)):=by unfold Hid;simp[element,hc,hn]
  have HT:Hid (∀w,Rd w B s p→Calls Tryz.prog 105 #[.pointer (some ⟨B,0,none⟩),.string ⟨#[67,108]⟩] w fun e w'=>e=.returned (.bool false)∧Rd w' B s p∧Fr B w w'):=by
   intro w h;have:=take2 h hs hp 67 108 67 108 rfl rfl (by decide) (by decide);have hn':(byteAt s (p.pos+1)==108)=false:=by simpa using hn
   simpa[hc,hn,hn']using this
  have HU:Hid (∀w,Rd w B s p→Calls Tryz.prog 105 #[.pointer (some ⟨B,0,none⟩),.string ⟨#[66,114]⟩] w fun e w'=>e=.returned (.bool false)∧Rd w' B s p∧Fr B w w'):=by intro w h;have:=take2 h hs hp 66 114 66 114 rfl rfl (by decide) (by decide);simpa[hc]using this
  clear hc hn;go_enter Tryz.func150,Tryz.ntmps150
  go_wp2_with fail;refine HP.mono ?_;rintro e w' ⟨rfl,k,rfl⟩;go_wp2_with fail;refine(HT.out _ (h.drewN k)).mono ?_;rintro e w1 ⟨rfl,hr1,hf1⟩;go_wp2_with fail;refine(HU.out _ hr1).mono ?_;rintro e w2 ⟨rfl,hr2,hf2⟩;have hq:=hr2.pos;have hz:=hr2.free 1;go_wp2_with fail;go_ret3
  exact CZ.some HX.out (by rfl) (hr2.setPos _ _ (by go_num)) (((((Fr.refl B w).drewN _).trans hf1).trans hf2).setPos _)
theorem elem_B (h:Rd w B s p)(hs:s.size≤160)(hp:p.pos≤s.size)(hc:byteAt s p.pos=66):
  Calls Tryz.prog 150 #[.pointer (some ⟨B,0,none⟩)] w (CZ w B s p):=by
 have HP:=Gf h hs hp;rw[hc]at HP;by_cases hn:byteAt s (p.pos+1)=114
 ·have HX:Hid (element s p.pos=.some (⟨#[66,114]⟩,false,2)):=by unfold Hid;simp[element,hc,hn]
  have HT:Hid (∀w,Rd w B s p→Calls Tryz.prog 105 #[.pointer (some ⟨B,0,none⟩),.string ⟨#[66,114]⟩] w fun e w'=>e=.returned (.bool true)∧Rd w' B s {p with pos:=p.pos+2}∧Fr B w w'):=by intro w h;have:=take2 h hs hp 66 114 66 114 rfl rfl (by decide) (by decide);simpa[hc,hn]using this
  clear hc hn;go_enter Tryz.func150,Tryz.ntmps150
  go_wp2_with fail;refine HP.mono ?_;rintro e w' ⟨rfl,k,rfl⟩;go_wp2_with fail;refine(HT.out _ (h.drewN k)).mono ?_;rintro e w' ⟨rfl,hr,hf⟩;go_wp2_with fail;go_ret3
  exact CZ.some HX.out rfl hr (((Fr.refl B w).drewN _).trans hf)
 ·have HX:Hid (element s p.pos=.some (one 66,false,1)):=by unfold Hid;simp[element,hc,hn]
  have HU:Hid (∀w,Rd w B s p→Calls Tryz.prog 105 #[.pointer (some ⟨B,0,none⟩),.string ⟨#[66,114]⟩] w fun e w'=>e=.returned (.bool false)∧Rd w' B s p∧Fr B w w'):=by
   intro w h;have:=take2 h hs hp 66 114 66 114 rfl rfl (by decide) (by decide);have hn':(byteAt s (p.pos+1)==114)=false:=by simpa using hn
   simpa[hc,hn,hn']using this
  clear hc hn;go_enter Tryz.func150,Tryz.ntmps150
  go_wp2_with fail;refine HP.mono ?_;rintro e w' ⟨rfl,k,rfl⟩;go_wp2_with fail;refine(HU.out _ (h.drewN k)).mono ?_;rintro e w2 ⟨rfl,hr2,hf2⟩;have hq:=hr2.pos;have hz:=hr2.free 1;go_wp2_with fail;go_ret3
  exact CZ.some HX.out (by rfl) (hr2.setPos _ _ (by go_num)) ((((Fr.refl B w).drewN _).trans hf2).setPos _)
theorem elem_any (h:Rd w B s p)(hs:s.size≤160)(hp:p.pos≤s.size):
  Calls Tryz.prog 150 #[.pointer (some ⟨B,0,none⟩)] w (CZ w B s p):=by
 by_cases h67:byteAt s p.pos=67
 ·exact elem_C h hs hp h67
 by_cases h66:byteAt s p.pos=66
 ·exact elem_B h hs hp h66
 by_cases hb:byteAt s p.pos=78∨byteAt s p.pos=79∨byteAt s p.pos=80∨byteAt s p.pos=83∨byteAt s p.pos=70∨byteAt s p.pos=73
 ·exact elem_big h hs hp hb
 by_cases hb':byteAt s p.pos=99∨byteAt s p.pos=110∨byteAt s p.pos=111∨byteAt s p.pos=112∨byteAt s p.pos=115
 ·exact elem_small h hs hp hb'
 exact elem_none h hs hp hb hb' h67 h66
end
section
variable {w:World}{B:Nat}{s:ByteArray}{p:St}
theorem Jj (h:Rd w B s p)(_hn:p.atoms.length≤24):
  Calls Tryz.prog 151 #[.pointer (some ⟨B,0,none⟩)] w fun e w'=>e=.returned (.bool (full p))∧w'=w:=by
 obtain⟨ao,cap,hc⟩:=h.atomsLen;have he:((p.atoms.length:Int)==24)=full p:=by rw[Bool.eq_iff_iff];simp[full];omega
 go_enter Tryz.func151,Tryz.ntmps151
 go_wp2;go_ret
 exact⟨BU (by first|exact he|rfl),rfl⟩
def DU (h:Ak):Value:=.agg #[.int .u8 h.mark,.int .i64 h.spot,.int .i64 h.atom]
def OX (a:Atm):Value:=.agg #[.string a.el,.bool a.aro,.int .i64 a.ch,.int .i64 a.hy,.int .i64 a.pl,.bool a.br]
theorem Fr.two {B:Nat}{w:World}(hB:B<w.heap.size)(o o':Obj):Fr B w (((w.alloc o).alloc o').drew):=
 (((Fr.refl B w).alloc hB o).alloc (by simp;omega) o').drew
theorem fits_bond (h:Rd w B s p)(g:Ak)(a:Atm)(hm:g.mark=58)(ha:a.aro=false):
  Calls Tryz.prog 126 #[.pointer (some ⟨B,0,none⟩),DU g,OX a] w fun e w'=>e=.returned (.bool false)∧Wrong w' B (3,g.spot)∧Fr B w w':=by
 have hB:=h.lt;unfold DU OX;rw[hm,ha];go_enter Tryz.func126,Tryz.ntmps126
 go_wp2_with fail;go_region_with (go_at_call 57;refine(D7 ((h.alloc _).alloc _).drew _ _).mono ?_;rintro e w' ⟨rfl,hw,hf⟩)
 go_wp2;go_ret
 exact⟨rfl,hw,(Fr.two hB _ _).trans hf⟩
theorem fits_full (h:Rd w B s p)(hn:p.atoms.length≤24)(g:Ak)(a:Atm)(hm:¬(g.mark=58∧a.aro=false))(hu:full p=true):
  Calls Tryz.prog 126 #[.pointer (some ⟨B,0,none⟩),DU g,OX a] w fun e w'=>e=.returned (.bool false)∧Wrong w' B (5,a.pl)∧Fr B w w':=by
 have hB:=h.lt;have hc:(g.mark==58)=false∨(g.mark=58∧a.aro=true):=by
  by_cases e:g.mark=58
  ·exact .inr ⟨e,by cases ha:a.aro<;>simp_all⟩
  ·exact .inl (by simpa using e)
 clear hm;unfold DU OX;rcases hc with hc|⟨hc,ha⟩
 ·go_enter Tryz.func126,Tryz.ntmps126
  go_wp2_with (go_at_call 151;refine(Jj ((h.alloc _).alloc _) hn).mono ?_;rintro e w' ⟨rfl,rfl⟩);go_region_with (go_at_call 57;refine(D7 ((h.alloc _).alloc _).drew _ _).mono ?_;rintro e w' ⟨rfl,hw,hf⟩)
  go_wp2;go_ret
  exact⟨rfl,hw,(Fr.two hB _ _).trans hf⟩
 ·rw[hc,ha];clear hc ha;go_enter Tryz.func126,Tryz.ntmps126
  go_wp2_with (go_at_call 151;refine(Jj ((h.alloc _).alloc _) hn).mono ?_;rintro e w' ⟨rfl,rfl⟩);go_region_with (go_at_call 57;refine(D7 ((h.alloc _).alloc _).drew _ _).mono ?_;rintro e w' ⟨rfl,hw,hf⟩)
  go_wp2;go_ret
  exact⟨rfl,hw,(Fr.two hB _ _).trans hf⟩
theorem fits_ok (h:Rd w B s p)(hn:p.atoms.length≤24)(g:Ak)(a:Atm)(hm:¬(g.mark=58∧a.aro=false))(hu:full p=false):
  Calls Tryz.prog 126 #[.pointer (some ⟨B,0,none⟩),DU g,OX a] w fun e w'=>e=.returned (.bool true)∧Rd w' B s p∧Fr B w w':=by
 have hB:=h.lt;have hc:(g.mark==58)=false∨(g.mark=58∧a.aro=true):=by
  by_cases e:g.mark=58
  ·exact .inr ⟨e,by cases ha:a.aro<;>simp_all⟩
  ·exact .inl (by simpa using e)
 clear hm;unfold DU OX;rcases hc with hc|⟨hc,ha⟩
 ·go_enter Tryz.func126,Tryz.ntmps126
  go_wp2_with (go_at_call 151;refine(Jj ((h.alloc _).alloc _) hn).mono ?_;rintro e w' ⟨rfl,rfl⟩);go_ret
  exact⟨rfl,(h.alloc _).alloc _,((Fr.refl B w).alloc hB _).alloc (by simp;omega) _⟩
 ·rw[hc,ha];clear hc ha;go_enter Tryz.func126,Tryz.ntmps126
  go_wp2_with (go_at_call 151;refine(Jj ((h.alloc _).alloc _) hn).mono ?_;rintro e w' ⟨rfl,rfl⟩);go_ret
  exact⟨rfl,(h.alloc _).alloc _,((Fr.refl B w).alloc hB _).alloc (by simp;omega) _⟩
theorem name_ok (h:Rd w B s p)(hs:s.size≤160)(hp:p.pos≤s.size)(L:Nat)(a:Atm)(hb:Bx w L a)(hm:¬Mine w B L)(x:ByteArray×Bool×Nat)(hx:element s p.pos=some x):
  Calls Tryz.prog 125 #[.pointer (some ⟨B,0,none⟩),.pointer (some ⟨L,0,none⟩)] w fun e w'=>
   e=.returned (.bool true)∧Rd w' B s {p with pos:=p.pos+x.2.2}∧Bx w' L {a with el:=x.1,aro:=x.2.1}∧¬Mine w' B L∧FrX B L w w':=by
 have HE:=elem_any h hs hp;unfold CZ at HE;rw[hx]at HE;simp only at HE;have hLB:=Rd.GN hm;go_enter Tryz.func125,Tryz.ntmps125
 go_wp2_with fail;refine HE.mono ?_;rintro e w1 ⟨⟨rfl,hr⟩,hf⟩;have hb1:=hb.fr hf hm;have hm1:=hf.Df hb.lt hm;have c0:=hb1.c0;have c1:=hb1.c1;have f0:=hb1.fz 0;have f1:=hb1.fz 1;have hx1:=(hb1.Ji x.1).Hg x.2.1;go_wp2_with fail;go_ret
 refine⟨rfl,(hr.setOther hm1 _).setOther ?_ _,hx1,?_,((hf.x L).set hLB _ _).set hLB _ _⟩
 ·exact fun e=>hm1 ((Mine.same (Below.heap_setCell _ _ _ _ (by simpa using fun e=>hLB e.symm))).1 e)
 ·exact(((hf.x L).set hLB _ _).set hLB _ _).Df hb.lt hm
def Ld (a:Atm)(p:St):Int×Int:=if a.br&&full p then(5,a.pl)else(2,p.pos)
theorem name_no (h:Rd w B s p)(hs:s.size≤160)(hp:p.pos≤s.size)(hn:p.atoms.length≤24)(L:Nat)(a:Atm)(hb:Bx w L a)(hm:¬Mine w B L)(hx:element s p.pos=none):
  Calls Tryz.prog 125 #[.pointer (some ⟨B,0,none⟩),.pointer (some ⟨L,0,none⟩)] w fun e w'=>
   e=.returned (.bool false)∧Wrong w' B (Ld a p)∧FrX B L w w':=by
 have HE:=elem_any h hs hp;unfold CZ at HE;rw[hx]at HE;simp only at HE;have hLB:=Rd.GN hm;go_enter Tryz.func125,Tryz.ntmps125
 go_wp2_with fail;refine HE.mono ?_;rintro e w1 ⟨⟨rfl,hr⟩,hf⟩;have hb1:=hb.fr hf hm;have hm1:=hf.Df hb.lt hm;have hx1:=(hb1.Ji ⟨#[]⟩).Hg false;have hr1:=(hr.setOther hm1 (q:=⟨L,0,none⟩) (.string ⟨#[]⟩)).setOther (q:=⟨L,1,none⟩) (fun e=>hm1 ((Mine.same (Below.heap_setCell _ _ _ _ (by simpa using fun e=>hLB e.symm))).1 e)) (.bool false);have hfx:=((hf.x L).set hLB 0 (.string ⟨#[]⟩)).set hLB 1 (.bool false);have c0:=hb1.c0;have c1:=hb1.c1;have f0:=hb1.fz 0;have f1:=hb1.fz 1;have c4:=hx1.c4;have c5:=hx1.c5;have hps:=hr1.pos;simp only at c5 c4;cases hbr:a.br
 ·rw[hbr]at c5;have hno:Hid (Ld a p=((2:Int),(p.pos:Int))):=by unfold Hid;simp[Ld,hbr]
  clear hbr;go_wp2_with fail;go_region_with (go_at_call 57;refine(D7 hr1.drew _ _).mono ?_;rintro e w' ⟨rfl,hw,hf2⟩)
  go_wp2;go_ret
  exact⟨rfl,by rw[hno.out];exact hw,(hfx.trans ((Fr.refl B _).drew.x L)).trans (hf2.x L)⟩
 ·rw[hbr]at c5;have hfull:=Jj hr1 hn;cases hfu:full p
  ·rw[hfu]at hfull;have hno:Hid (Ld a p=((2:Int),(p.pos:Int))):=by unfold Hid;simp[Ld,hfu]
   clear hbr hfu;go_wp2_with (go_at_call 151;refine hfull.mono ?_;rintro e w' ⟨rfl,rfl⟩);go_region_with (go_at_call 57;refine(D7 hr1.drew _ _).mono ?_;rintro e w' ⟨rfl,hw,hf2⟩)
   go_wp2;go_ret
   exact⟨rfl,by rw[hno.out];exact hw,(hfx.trans ((Fr.refl B _).drew.x L)).trans (hf2.x L)⟩
  ·rw[hfu]at hfull;have hno:Hid (Ld a p=((5:Int),(a.pl:Int))):=by unfold Hid;simp[Ld,hbr,hfu]
   clear hbr hfu;go_wp2_with (go_at_call 151;refine hfull.mono ?_;rintro e w' ⟨rfl,rfl⟩);go_region_with (go_at_call 57;refine(D7 hr1.drew _ _).mono ?_;rintro e w' ⟨rfl,hw,hf2⟩)
   go_wp2;go_ret
   exact⟨rfl,by rw[hno.out];exact hw,(hfx.trans ((Fr.refl B _).drew.x L)).trans (hf2.x L)⟩
end
theorem Tryz.infoMAtom:(Tryz.prog.info? 124).map (fun i=>(i.zero,i.size,i.bytes))=some (some (.agg #[.string ⟨#[]⟩,.bool false,.int .i64 0,.int .i64 0,.int .i64 0,.bool false]),6,56):=by kernel_rfl
theorem Tryz.infoMBond:(Tryz.prog.info? 102).map (fun i=>(i.zero,i.size,i.bytes))=some (some (.agg #[.int .i64 0,.int .i64 0,.int .i64 0,.int .i64 0]),4,32):=by kernel_rfl
theorem Tryz.MG:(Tryz.prog.info? 46).map (fun i=>(i.zero,i.size,i.bytes))=some (some (.agg #[.int .i64 0,.int .i64 0,.int .i64 0]),3,24):=by kernel_rfl
section
variable {w:World}{B:Nat}{s:ByteArray}{p:St}
theorem ownBlock_ne {w:World}{b1 b2:Nat}{e1 e2:TypeId}{s1 s2:Nat}{v1 v2:Value}{n1 n2:Nat}{x1 x2:List Value}(h1:w.ownsRow b1 e1 s1 v1 n1 x1)(h2:w.ownsRow b2 e2 s2 v2 n2 x2)(he:e1≠e2)(k:Nat)(hk:v1.ownBlock=some k):v2.ownBlock≠some k:=by
 intro hk2;rcases h1.2 with⟨rfl,_⟩|⟨g,cap,cur,rfl,_,hg,_⟩
 ·simp[Value.ownBlock]at hk
 rcases h2.2 with⟨rfl,_⟩|⟨g',cap',cur',rfl,_,hg',_⟩
 ·simp[Value.ownBlock]at hk2
 simp[Value.ownBlock]at hk hk2;subst hk hk2;rw[hg]at hg';simp at hg';exact he hg'.2
theorem Rd.atomAdded {w2:World}(h:Rd w B s p){av:Value}(hav:w.cell? ⟨B,26,none⟩=some av)(a:Atm)(v':Value)
  (hown:w2.ownsRow (B+1) 124 6 v' (p.atoms.length+1) (p.atoms.flatMap Ba++Ba a))(hg:w.grownBy w2 av.ownBlock)
  (hv:∀k,v'.ownBlock=some k→av.ownBlock=some k∨w.heap.size≤k):
  Rd (w2.setCell ⟨B,26,none⟩ v') B s {p with atoms:=p.atoms++[a]}∧Fr B w (w2.setCell ⟨B,26,none⟩ v'):=by
 obtain⟨va,ha,oa⟩:=h.atoms;obtain⟨vb,hb,ob⟩:=h.bonds;rw[hav]at ha;cases ha;have hB:w2.heap[B]? =w.heap[B]? :=hg.block B h.lt (fun e=>by have:=(oa.lt B e.symm).1;omega);have hc:∀i,w2.cell? ⟨B,i,none⟩=w.cell? ⟨B,i,none⟩:=fun i=>World.cell?_of_block (w:=w) hB;have hf:∀i,w2.frozen? ⟨B,i,none⟩=w.frozen? ⟨B,i,none⟩:=fun i=>World.frozen?_of_block (w:=w) hB;have ob2:w2.ownsRow (B+1) 102 4 vb p.bonds.length (p.bonds.flatMap CJ):=
  AL ob fun k hk=>hg.block k (ob.lt k hk).2 (fun e=>ownBlock_ne ob oa (by decide) k hk e.symm)
 have h26:(w2.setCell ⟨B,26,none⟩ v').cell? ⟨B,26,none⟩=some v':=World.cell?_setCell_same w2 _ _ (by rw[hc];exact hav);refine⟨⟨by rw[AA (by omega),hc];exact h.text,by rw[AA (by omega),hc];exact h.pos,fun k hk=>by rw[AA (by omega),hc];exact h.near k hk,
  ⟨v',h26,?_⟩,⟨vb,by rw[AA (by omega),hc];exact hb,Ai ob2 _ _⟩,
  by rw[AA (by omega),hc];exact h.err,by rw[AA (by omega),hc];exact h.plc,fun n j v hn hv=>by rw[AA (by omega),hc];exact h.rings n j v hn hv,
  fun i=>by rw[World.frozen?_setCell,hf];exact h.free i⟩,⟨hg.os,hg.tape,hg.output,by simpa using hg.size,?_,?_⟩⟩
 ·have:=Ai hown 26 v';simpa using this
 ·intro k hk hm;rw[Below.heap_setCell w2 _ _ k (by rintro rfl;exact hm (.inl rfl))];exact hg.block k hk (fun e=>hm (.inr (.inl ⟨av,hav,e.symm⟩)))
 ·intro k hk hm;rcases hm with rfl|⟨v,hv1,hv2⟩|⟨v,hv1,hv2⟩
  ·exact .inl rfl
  ·rw[h26]at hv1;cases hv1;rcases hv k hv2 with e|e
   ·exact .inr (.inl ⟨av,hav,e⟩)
   ·omega
  ·rw[AA (by omega),hc]at hv1;exact .inr (.inr ⟨v,hv1,hv2⟩)
theorem Rd.atomCell {w2:World}(h:Rd w B s p){av:Value}(hav:w.cell? ⟨B,26,none⟩=some av)(hg:w.grownBy w2 av.ownBlock):w2.cell? ⟨B,26,none⟩=some av∧w2.frozen? ⟨B,26,none⟩=false:=by obtain⟨va,ha,oa⟩:=h.atoms;rw[hav]at ha;cases ha;have hB:w2.heap[B]? =w.heap[B]? :=hg.block B h.lt (fun e=>by have:=(oa.lt B e.symm).1;omega);exact⟨by rw[World.cell?_of_block (w:=w) hB];exact hav,by rw[World.frozen?_of_block (w:=w) hB];exact h.free 26⟩
theorem cells6 (w:World)(a:Atm)(t:TypeId):∀j u,(Ba a)[j]? =some u→(w.alloc (.cells #[.string a.el,.bool a.aro,.int .i64 a.ch,.int .i64 a.hy,.int .i64 a.pl,.bool a.br] t)).cell? ((⟨w.heap.size,0,none⟩:Addr).add j)=some u:=by
 intro j u hj;have hadd:(⟨w.heap.size,0,none⟩:Addr).add j=⟨w.heap.size,j,none⟩:=by unfold Addr.add;split<;>simp_all
 rw[hadd,World.cell?_alloc_new];simpa[Ba]using hj
theorem add_any (h:Rd w B s p)(a:Atm)(hn:p.atoms.length<24):
  Calls Tryz.prog 128 #[.pointer (some ⟨B,2,none⟩),OX a] w fun e w'=>e=.returned (.int .i64 p.atoms.length)∧Rd w' B s {p with atoms:=p.atoms++[a]}∧Fr B w w':=by
 have hB:=h.lt;obtain⟨av,hav,oa⟩:=h.atoms;obtain⟨i0,hi,hz0,hz1,hz2⟩:=info_parts Tryz.infoMAtom;have hnews:∀(o:Obj)(t:TypeId),∀j u,(Ba a)[j]? =some u→(((w.alloc o).alloc (.cells #[.string a.el,.bool a.aro,.int .i64 a.ch,.int .i64 a.hy,.int .i64 a.pl,.bool a.br] t)).drew).cell? ((⟨w.heap.size+1,0,none⟩:Addr).add j)=some u:=by intro o t j u hj;have:=cells6 (w.alloc o) a t j u hj;simpa using this
 have hav2:Hid (∀o o':Obj,(((w.alloc o).alloc o').drew).cell? ⟨B,26,none⟩=some av):=by intro o o';rw[World.cell?_drew,World.cell?_alloc_lt _ _ _ (by simp;omega),World.cell?_alloc_lt _ _ _ (by simpa using hB)];exact hav
 have h1c:∀u∈Ba a,u.oneCell'=true:=by intro u hu;simp[Ba]at hu;rcases hu with rfl|rfl|rfl|rfl|rfl|rfl<;>rfl
 unfold OX;go_enter Tryz.func128,Tryz.ntmps128
 go_wp2_with fail;go_region_law (refine DK rfl (.tmp 9) (.tmp 11) 66 rfl (B+1) 124 i0 (.agg #[.string ⟨#[]⟩,.bool false,.int .i64 0,.int .i64 0,.int .i64 0,.bool false]) 6 56 Tryz.underlying66 hi hz0 hz1 hz2 rfl (by decide) av p.atoms.length (p.atoms.flatMap Ba) rfl (by exact((oa.alloc _).alloc _).drew) ⟨w.heap.size+1,0,none⟩ 1 1 (Ba a) rfl rfl (by exact hnews _ _) h1c (by unfold maxLen;omega) (by omega) (by simp;omega) ?_;intro v' w2 ho hg hk;obtain⟨ao,cap,hv'⟩:=ownsRow_shape ho;subst hv';have X:=(((h.alloc _).alloc _).drew).atomAdded (hav2.out _ _) a _ ho hg hk;obtain⟨c26,f26⟩:=(((h.alloc _).alloc _).drew).atomCell (hav2.out _ _) hg)
 all_goals
  go_wp2_with fail;go_ret
  exact⟨DW (by omega),X.1,(Fr.two hB _ _).trans X.2⟩
end
end Go.Proofs.YtcabaecbmkgclaaGreatDoor
namespace Go.Proofs.YtcabaecbmkgclaaGreatDoor
open Go.RowKit
def marks (c:List Value)(n:Nat):List Value:=(List.replicate n c).flatten
theorem Kt (c:List Value)(n:Nat):(marks c n).length=n*c.length:=by unfold marks;rw[List.length_flatten,List.map_replicate,List.sum_replicate_nat]
theorem Io (c:List Value)(n m:Nat):marks c n++marks c m=marks c (n+m):=by unfold marks;rw[←List.flatten_append,List.replicate_append_replicate]
theorem marks_take (c:List Value)(n m:Nat)(h:n≤m):(marks c m).take (n*c.length)=marks c n:=by
 obtain⟨d,rfl⟩:∃d,m=n+d:=⟨m-n,by omega⟩
 rw[←Io,←Kt,List.take_left]
theorem NJ (c:List Value):∀(n i j:Nat),i<n→j<c.length→(marks c n)[i*c.length+j]? =c[j]?
 |0,_,_,h,_=>absurd h (Nat.not_lt_zero _)
 |n+1,i,j,hi,hj=>by
  have e:marks c (n+1)=c++marks c n:=by rw[Nat.add_comm,←Io];simp[marks]
  rw[e];cases i with
  |zero=>rw[Nat.zero_mul,Nat.zero_add,List.getElem?_append_left hj]
  |succ i=>rw[List.getElem?_append_right (by rw[Nat.succ_mul];omega),show(i+1)*c.length+j-c.length=i*c.length+j by rw[Nat.succ_mul];omega];exact NJ c n i j (by omega) hj
theorem marks_one {c:List Value}(h:∀u∈c,u.oneCell'=true)(n:Nat):∀u∈marks c n,u.oneCell'=true:=by intro u hu;unfold marks at hu;obtain⟨l,hl,hu⟩:=List.mem_flatten.1 hu;rw[(List.mem_replicate.1 hl).2]at hu;exact h u hu
theorem Jk {w:World}{base:Nat}{e:TypeId}{size g n n' cap:Nat}{xs':List Value}(h:w.ownsRow base e size (.slice (some ⟨g,0,none⟩) n' cap) n' xs')(hn:n≤n'):w.ownsRow base e size (.slice (some ⟨g,0,none⟩) n cap) n (xs'.take (n*size)):=by
 have hm:n*size≤n'*size:=Nat.mul_le_mul_right _ hn;rcases h.2 with⟨h0,_⟩|⟨g',cap',cur,hv,hb,hg,hnc,hcm,hcs,ht⟩
 ·cases h0
 ·cases hv;refine⟨by rw[List.length_take,h.1];omega,.inr ⟨g,cap,cur,rfl,hb,hg,by omega,hcm,hcs,?_⟩⟩;rw[←ht,List.take_take,Nat.min_eq_left hm]
structure Marked (w w':World)(base:Nat)(e:TypeId)(size:Nat)(c:List Value)(v v':Value)(n:Nat):Prop where
 own:w'.ownsRow base e size v' n (marks c n)
 old:∀b v2 n2,n2≤n→w.ownsRow b e size v2 n2 (marks c n2)→w'.ownsRow b e size v2 n2 (marks c n2)
 grown:w.grownBy w' v.ownBlock
 loc:∀k,v'.ownBlock=some k→v.ownBlock=some k∨w.heap.size≤k
section
variable {P:Program}(w:World)
theorem NK (base:Nat)(t ty e:TypeId)(i:TypeInfo)(z:Value)(size bytes:Nat)(ht:P.underlying t=some (.slice e))(hi:P.info? e=some i)(hz:i.zero=some z)
  (hsize:i.size=size)(hby:i.bytes=bytes)(hzs:z.cells.size=size)(hsz:0<size)
  (c:List Value)(hc:c.length=size)(hc1:∀u∈c,u.oneCell'=true)
  (v:Value)(n:Nat)(hown:w.ownsRow base e size v n (marks c n))
  (a:Addr)(m cp:Nat)(hnews:∀j u,(marks c m)[j]? =some u→w.cell? (a.add j)=some u)
  (h63:n+m≤maxLen)(hbytes:(n+m)*bytes≤140737488355328)(hbase:base≤w.heap.size):
  ∃v' w',(Builtin.append_ #[t,t] ty #[v,.slice (some a) m cp]).run P w=.ok v' w'∧Marked w w' base e size c v v' (n+m):=by
 have hl:(marks c m).length=m*size:=by rw[Kt,hc]
 have h1:=marks_one hc1 m;have keeps:∀w',w.grownBy w' none→∀b v2 n2,w.ownsRow b e size v2 n2 (marks c n2)→w'.ownsRow b e size v2 n2 (marks c n2):=fun w' hg b v2 n2 h=>h.kept hg (by cases hv:v2.ownBlock<;>simp);rcases hown.2 with⟨rfl,rfl⟩|⟨g,cap,cur,rfl,hbg,hg,hnc,hcm,hcs,htake⟩
 ·obtain⟨v',w',hr,ho,hgr,_⟩:=run_append_own (P:=P) w w.heap.size t ty e i z size bytes ht hi hz hsize hby hzs hsz (.slice none 0 0) 0 [] (World.ownsRow_nil w _ e size) a m cp _ hl hnews h1 h63 hbytes (Nat.le_refl _);rw[List.nil_append]at ho;exact⟨v',w',hr,by rw[show 0+m=m by omega]at ho ⊢;exact AP ho hbase,fun b v2 n2 _ h=>keeps w' hgr b v2 n2 h,hgr,fun k hk=>.inr (ho.lt k hk).1⟩
 ·by_cases hroom:n+m≤cap
  ·obtain⟨w',hr,ho,hgr⟩:=run_append_fits (P:=P) w base t ty e i size ht hi hsize g n cap _ hown a m cp _ hl hnews h1 hroom;rw[Io]at ho;refine⟨_,w',hr,ho,?_,hgr,fun k hk=>.inl (by simpa[Value.ownBlock]using hk)⟩;intro b v2 n2 hn2 h2;by_cases hb:v2.ownBlock=some g
   ·rcases h2.2 with⟨rfl,_⟩|⟨g2,cap2,cur2,rfl,hbg2,hg2,hnc2,hcm2,hcs2,_⟩
    ·cases hb
    ·simp only[Value.ownBlock,Option.some.injEq]at hb;subst hb;rw[hg]at hg2;simp only[Option.some.injEq,Obj.cells.injEq,and_true]at hg2;subst hg2;have ec:cap2=cap:=Nat.eq_of_mul_eq_mul_right hsz (hcs2.symm.trans hcs);subst ec;have hp:=Jk ho hn2;rw[←hc,marks_take c n2 _ hn2,hc]at hp;rcases hp.2 with⟨h0,_⟩|⟨g',cap',cur',hv',_,r⟩
     ·cases h0
     ·cases hv';exact⟨hp.1,.inr ⟨g2,cap2,cur',rfl,hbg2,r⟩⟩
   ·exact h2.kept hgr (.inr hb)
  ·obtain⟨v',w',hr,ho,hgr⟩:=run_append_arg_grows (P:=P) w t ty e i z size bytes ht hi hz hsize hby hzs hsz ⟨g,0,none⟩ n cap _ hown.1 (hown.cells rfl) a m cp _ hl hnews (by omega) h63 hbytes;rw[Io]at ho;exact⟨v',w',hr,AP ho hbase,fun b v2 n2 _ h=>keeps w' hgr b v2 n2 h,Fe hgr,fun k hk=>.inr (ho.lt k hk).1⟩
end
theorem BG {P:Program}{w:World}{ops:Array Oper}{rest:List Oper}{o:Oper}{a:Act}{Q:Exit→Act→World→Prop}(hgd:o.guard=none)(s x:Operand)(t:TypeId)
  (ho:o.op=.call {callee:=.builtin .append,args:=#[s,x],argTypes:=#[t,t]})
  (base:Nat)(e:TypeId)(i:TypeInfo)(z:Value)(size bytes:Nat)(ht:P.underlying t=some (.slice e))(hi:P.info? e=some i)(hz:i.zero=some z)
  (hsize:i.size=size)(hby:i.bytes=bytes)(hzs:z.cells.size=size)(hsz:0<size)
  (c:List Value)(hc:c.length=size)(hc1:∀u∈c,u.oneCell'=true)
  (v:Value)(n:Nat)(hs:a.eval s=v)(hown:w.ownsRow base e size v n (marks c n))
  (ad:Addr)(m cp:Nat)(hx:a.eval x=.slice (some ad) m cp)(hnews:∀j u,(marks c m)[j]? =some u→w.cell? (ad.add j)=some u)
  (h63:n+m≤maxLen)(hbytes:(n+m)*bytes≤140737488355328)(hbase:base≤w.heap.size)
  (h:∀v' w',Marked w w' base e size c v v' (n+m)→wpList P ops Q rest (a.put o.dst v') w'):wpList P ops Q (o::rest) a w:=by
 refine wpList_plain hgd fun K hK=>?_;obtain⟨v',w',hr,h2⟩:=NK (P:=P) w base t o.type e i z size bytes ht hi hz hsize hby hzs hsz c hc hc1 v n hown ad m cp hnews h63 hbytes hbase;unfold Oper.wp execOp;simp only[ho,resolve,invoke,builtin,Sem.run_bind,Sem.run_pure,Result.andThen_ok,List.map_toArray,List.map_cons,List.map_nil,hs,hx,hr];exact hK _ _ (h v' w' h2)
end Go.Proofs.YtcabaecbmkgclaaGreatDoor
namespace Go.Proofs.YtcabaecbmkgclaaGreatDoor
open Go.RowKit Bz
theorem Oo (m b:Nat)(hm:m<4294967296)(hb:b<24):bits .or .u32 (m:Int) ((2:Int)^b%4294967296)=((m|||1<<<b:Nat):Int):=by
 have h1:(2:Nat)^b<2^24:=Nat.pow_lt_pow_right (by decide) hb;have h2:(2:Int)^b%(4294967296:Int)=((1<<<b:Nat):Int):=by
  rw[Nat.shiftLeft_eq,Nat.one_mul];have:(2:Int)^b=((2^b:Nat):Int):=by simp
  rw[this];generalize (2:Nat)^b=q at*;omega
 rw[h2,u32_or_nat m (1<<<b) hm (by rw[Nat.shiftLeft_eq,Nat.one_mul];omega)]
theorem join_cells (w:World)(B a b:Nat)(ha:a<24)(hb:b<24)(hab:a≠b)(m n:Nat)(hm:m<4294967296)(hn:n<4294967296)
  (ca:w.cell? ⟨B,2+a,none⟩=some (.int .u32 m))(cb:w.cell? ⟨B,2+b,none⟩=some (.int .u32 n))(fa:w.frozen? ⟨B,2+a,none⟩=false)(fb:w.frozen? ⟨B,2+b,none⟩=false):
  Calls Tryz.prog 33 #[.pointer (some ⟨B,2,none⟩),.int .i64 a,.int .i64 b] w fun e w'=>e=.returned (.tuple #[])∧
   ∃k,w'=((w.setCell ⟨B,2+a,none⟩ (.int .u32 ((m|||1<<<b:Nat):Int))).setCell ⟨B,2+b,none⟩ (.int .u32 ((n|||1<<<a:Nat):Int))).drewN k:=by
 have a24:(a:Int)<24:=by omega
 have b24:(b:Int)<24:=by omega
 go_enter Tryz.func33,Tryz.ntmps33
 go_wp2;go_region
 go_wp2;go_region
 go_wp2;go_end0
 refine⟨rfl,2,?_⟩;rw[Oo m b hm hb,Oo n a hn ha];rfl
theorem Jl (l:List Bnd)(a b:Nat)(o:Int)(pl k j:Nat):C9 (l++[⟨min a b,max a b,o,pl⟩]) k j=(C9 l k j||((k==a&&j==b)||(k==b&&j==a))):=by unfold C9;rw[List.any_append];congr 1;simp only[List.any_cons,List.any_nil,Bool.or_false];rw[Bool.eq_iff_iff];simp;omega
theorem Jm (m b j:Nat):(m|||1<<<b).testBit j=(m.testBit j||decide (j=b)):=by rw[Nat.testBit_or,Nat.shiftLeft_eq,Nat.one_mul,Nat.testBit_two_pow];congr 1;rw[Bool.eq_iff_iff];simp;exact eq_comm
theorem or_bit_lt (m b:Nat)(hm:m<4294967296)(hb:b<24):m|||1<<<b<4294967296:=by
 have:(1<<<b:Nat)<2^32:=by rw[Nat.shiftLeft_eq,Nat.one_mul];exact Nat.pow_lt_pow_right (by decide) (by omega)
 exact Nat.or_lt_two_pow (n:=32) hm this
section
variable {w:World}{B:Nat}{s:ByteArray}{p:St}
structure RdJ (w:World)(B:Nat)(s:ByteArray)(p:St)(l:List Bnd):Prop where
 text:w.cell? ⟨B,0,none⟩=some (.string s)
 pos:w.cell? ⟨B,1,none⟩=some (.int .i64 p.pos)
 near:∀k,k<24→∃m:Nat,w.cell? ⟨B,2+k,none⟩=some (.int .u32 m)∧m<4294967296∧∀j,j<24→m.testBit j=C9 l k j
 atoms:∃v,w.cell? ⟨B,26,none⟩=some v∧w.ownsRow (B+1) 124 6 v p.atoms.length (p.atoms.flatMap Ba)
 bonds:∃v,w.cell? ⟨B,27,none⟩=some v∧w.ownsRow (B+1) 102 4 v p.bonds.length (p.bonds.flatMap CJ)
 err:∃v,w.cell? ⟨B,28,none⟩=some v
 plc:∃v,w.cell? ⟨B,29,none⟩=some v
 rings:∀n j v,n<100→(Dn (p.rings n))[j]? =some v→w.cell? ⟨B,30+n*5+j,none⟩=some v
 free:∀i,w.frozen? ⟨B,i,none⟩=false
theorem MH (h:Rd w B s p)(a b:Nat)(o:Int)(pl:Nat)(ha:a<24)(hb:b<24)(hab:a≠b):
  Calls Tryz.prog 33 #[.pointer (some ⟨B,2,none⟩),.int .i64 a,.int .i64 b] w fun e w'=>e=.returned (.tuple #[])∧RdJ w' B s p (p.bonds++[⟨min a b,max a b,o,pl⟩])∧Fr B w w':=by
 obtain⟨m,ca,hm,ta⟩:=h.near a ha;obtain⟨n,cb,hn,tb⟩:=h.near b hb;refine(join_cells w B a b ha hb hab m n hm hn ca cb (h.free _) (h.free _)).mono ?_;rintro e w' ⟨rfl,k,rfl⟩;obtain⟨va,hva,oa⟩:=h.atoms;obtain⟨vb,hvb,ob⟩:=h.bonds;have hc:∀i,i≠2+a→i≠2+b→(((w.setCell ⟨B,2+a,none⟩ (.int .u32 ((m|||1<<<b:Nat):Int))).setCell ⟨B,2+b,none⟩ (.int .u32 ((n|||1<<<a:Nat):Int))).drewN k).cell? ⟨B,i,none⟩=w.cell? ⟨B,i,none⟩:=by intro i h1 h2;rw[World.cell?_drewN,AA (by omega),AA (by omega)]
 refine⟨rfl,⟨by rw[hc _ (by omega) (by omega)];exact h.text,by rw[hc _ (by omega) (by omega)];exact h.pos,?_,
  ⟨va,by rw[hc _ (by omega) (by omega)];exact hva,Ai (Ai oa _ _) _ _⟩,⟨vb,by rw[hc _ (by omega) (by omega)];exact hvb,Ai (Ai ob _ _) _ _⟩,
  by rw[hc _ (by omega) (by omega)];exact h.err,by rw[hc _ (by omega) (by omega)];exact h.plc,fun n j v hn hv=>by rw[hc _ (by omega) (by omega)];exact h.rings n j v hn hv,
  fun i=>by rw[World.frozen?_drewN,World.frozen?_setCell,World.frozen?_setCell];exact h.free i⟩,
  (((Fr.refl B w).setCell (.inl rfl) (fun _=>⟨by simp;omega,by simp;omega⟩) _).setCell (.inl rfl) (fun _=>⟨by simp;omega,by simp;omega⟩) _).drewN k⟩
 intro i hi;by_cases e1:i=a
 ·subst e1;refine⟨_,by rw[World.cell?_drewN,AA (by omega)];exact World.cell?_setCell_same w _ _ ca,or_bit_lt m b hm hb,fun j hj=>?_⟩;rw[Jm,ta j hj,Jl];congr 1;rw[Bool.eq_iff_iff];simp;omega
 ·by_cases e2:i=b
  ·subst e2;refine⟨_,by rw[World.cell?_drewN];exact World.cell?_setCell_same _ _ _ (by rw[AA (by omega)];exact cb),or_bit_lt n a hn ha,fun j hj=>?_⟩;rw[Jm,tb j hj,Jl];congr 1;rw[Bool.eq_iff_iff];simp;omega
  ·obtain⟨q,cq,hq,tq⟩:=h.near i hi;refine⟨q,by rw[hc _ (by omega) (by omega)];exact cq,hq,fun j hj=>?_⟩;rw[tq j hj,Jl];simp[e1,e2]
end
end Go.Proofs.YtcabaecbmkgclaaGreatDoor
