import Derived.Test.YtcabaecbmkgclaaGreatDoorP06
set_option maxHeartbeats 2000000
set_option maxRecDepth 100000
namespace Go.Proofs.YtcabaecbmkgclaaGreatDoor
open Go.RowKit Bz
def E9 (w:World)(v:Value)(l:List Int):Prop:=
 (l=[]∧v=.slice none 0 0)∨∃g cap,v=.slice (some ⟨g,0,none⟩) l.length cap∧∀j x,l[j]? =some x→w.cell? ⟨g,j,none⟩=some (.int .i64 x)
def ValPost (w:World)(l:List Int)(e:Ending)(w':World):Prop:=∃v,e=.returned v∧E9 w' v l∧Below w.heap.size w w'
theorem LK (el:ByteArray)(ch:Int):∃a b c:List Int,Aa el ch=(if ch>0 then b else if ch<0 then c else a)∧
  ((el=⟨#[66]⟩∧a=[3]∧b=[]∧c=[4])∨(el=⟨#[67]⟩∧a=[4]∧b=[3]∧c=[3])∨((el=⟨#[78]⟩∨el=⟨#[80]⟩)∧a=[3,5]∧b=[4]∧c=[2])∨
   (el=⟨#[79]⟩∧a=[2]∧b=[3]∧c=[1])∨(el=⟨#[83]⟩∧a=[2,4,6]∧b=[3,5]∧c=[1])∨
   ((el≠⟨#[66]⟩∧el≠⟨#[67]⟩∧el≠⟨#[78]⟩∧el≠⟨#[80]⟩∧el≠⟨#[79]⟩∧el≠⟨#[83]⟩)∧a=[1]∧b=[2]∧c=[0])):=by
 by_cases h1:el=⟨#[66]⟩
 ·exact⟨_,_,_,by unfold Aa;rw[if_pos h1],.inl ⟨h1,rfl,rfl,rfl⟩⟩
 by_cases h2:el=⟨#[67]⟩
 ·exact⟨_,_,_,by unfold Aa;simp only;rw[if_neg h1,if_pos h2],.inr (.inl ⟨h2,rfl,rfl,rfl⟩)⟩
 by_cases h3:el=⟨#[78]⟩∨el=⟨#[80]⟩
 ·exact⟨_,_,_,by unfold Aa;simp only;rw[if_neg h1,if_neg h2,if_pos h3],.inr (.inr (.inl ⟨h3,rfl,rfl,rfl⟩))⟩
 by_cases h4:el=⟨#[79]⟩
 ·exact⟨_,_,_,by unfold Aa;simp only;rw[if_neg h1,if_neg h2,if_neg h3,if_pos h4],.inr (.inr (.inr (.inl ⟨h4,rfl,rfl,rfl⟩)))⟩
 by_cases h5:el=⟨#[83]⟩
 ·exact⟨_,_,_,by unfold Aa;simp only;rw[if_neg h1,if_neg h2,if_neg h3,if_neg h4,if_pos h5],.inr (.inr (.inr (.inr (.inl ⟨h5,rfl,rfl,rfl⟩))))⟩
 ·exact⟨_,_,_,by unfold Aa;simp only;rw[if_neg h1,if_neg h2,if_neg h3,if_neg h4,if_neg h5],.inr (.inr (.inr (.inr (.inr ⟨⟨h1,h2,fun e=>h3 (.inl e),fun e=>h3 (.inr e),h4,h5⟩,rfl,rfl,rfl⟩))))⟩
def picked (ch:Int)(n p m:Value):Value:=if ch>0 then p else if ch<0 then m else n
theorem EP (ch:Int)(an bn cn ap bp cp:Nat)(a b c:Option Addr)(w:World):
  Calls Tryz.prog 110 #[.int .i64 ch,.slice a an ap,.slice b bn bp,.slice c cn cp] w fun e w'=>e=.returned (picked ch (.slice a an ap) (.slice b bn bp) (.slice c cn cp))∧w'=w:=by
 by_cases h1:0<ch
 ·have e:picked ch (.slice a an ap) (.slice b bn bp) (.slice c cn cp)=.slice b bn bp:=by unfold picked;rw[if_pos h1]
  rw[e];clear e;go_enter Tryz.func110,Tryz.ntmps110
  go_wp2;go_ret
  exact⟨rfl,rfl⟩
 ·by_cases h2:ch<0
  ·have e:picked ch (.slice a an ap) (.slice b bn bp) (.slice c cn cp)=.slice c cn cp:=by unfold picked;rw[if_neg h1,if_pos h2]
   rw[e];clear e;go_enter Tryz.func110,Tryz.ntmps110
   go_wp2;go_ret
   exact⟨rfl,rfl⟩
  ·have e:picked ch (.slice a an ap) (.slice b bn bp) (.slice c cn cp)=.slice a an ap:=by unfold picked;rw[if_neg h1,if_neg h2]
   rw[e];clear e;go_enter Tryz.func110,Tryz.ntmps110
   go_wp2;go_ret
   exact⟨rfl,rfl⟩
theorem Ep {w:World}{ch:Int}{n p m:Value}{a b c l:List Int}(hl:l=(if ch>0 then b else if ch<0 then c else a))(hn:E9 w n a)(hp:E9 w p b)(hm:E9 w m c):E9 w (picked ch n p m) l:=by
 subst hl;unfold picked;split
 ·exact hp
 ·split
  ·exact hm
  ·exact hn
theorem P4 (w:World):E9 w (.slice none 0 0) []:=.inl ⟨rfl,rfl⟩
theorem NP {w:World}{g:Nat}{l:List Int}{cap:Nat}(h:∀j x,l[j]? =some x→w.cell? ⟨g,j,none⟩=some (.int .i64 x)):E9 w (.slice (some ⟨g,0,none⟩) l.length cap) l:=.inr ⟨g,cap,rfl,h⟩
theorem Bl {w:World}{g:Nat}{x:Int}{cap:Nat}(h:w.cell? ⟨g,0,none⟩=some (.int .i64 x)):E9 w (.slice (some ⟨g,0,none⟩) 1 cap) [x]:=NP (l:=[x]) (by
 intro j y hj;match j,hj with
 |0,hj=>simp at hj;subst hj;exact h)
theorem Kv {w:World}{g:Nat}{x y:Int}{cap:Nat}(h:w.cell? ⟨g,0,none⟩=some (.int .i64 x))(h1:w.cell? ⟨g,1,none⟩=some (.int .i64 y)):E9 w (.slice (some ⟨g,0,none⟩) 2 cap) [x,y]:=NP (l:=[x,y]) (by
 intro j z hj;match j,hj with
 |0,hj=>simp at hj;subst hj;exact h
 |1,hj=>simp at hj;subst hj;exact h1)
theorem intsAt3 {w:World}{g:Nat}{x y z:Int}{cap:Nat}(h:w.cell? ⟨g,0,none⟩=some (.int .i64 x))(h1:w.cell? ⟨g,1,none⟩=some (.int .i64 y))(h2:w.cell? ⟨g,2,none⟩=some (.int .i64 z)):E9 w (.slice (some ⟨g,0,none⟩) 3 cap) [x,y,z]:=NP (l:=[x,y,z]) (by
 intro j u hj;match j,hj with
 |0,hj=>simp at hj;subst hj;exact h
 |1,hj=>simp at hj;subst hj;exact h1
 |2,hj=>simp at hj;subst hj;exact h2)
theorem Jr {el:ByteArray}{c:UInt8}(h:el≠⟨#[c]⟩):(el.toList==[c])=false:=by
 rw[ByteArray.toList_eq];simp;intro e;apply h;cases el with
 |mk d=>simp at e;rw[show d=#[c]from Array.toList_inj.1 e]
theorem Ho (el:ByteArray)(ch:Int)(w:World):Calls Tryz.prog 85 #[.string el,.int .i64 ch] w (ValPost w (Aa el ch)):=by
 obtain⟨a,b,c,hl,hcase⟩:=LK el ch;have HL:Hid _:=hl;clear hl;rcases hcase with⟨h,rfl,rfl,rfl⟩|⟨h,rfl,rfl,rfl⟩|⟨h|h,rfl,rfl,rfl⟩|⟨h,rfl,rfl,rfl⟩|⟨h,rfl,rfl,rfl⟩|⟨⟨h1,h2,h3,h4,h5,h6⟩,rfl,rfl,rfl⟩
 ·subst h;go_enter Tryz.func85,Tryz.ntmps85
  go_wp2_with fail;refine(EP _ _ _ _ _ _ _ _ _ _ _).mono ?_;rintro e w' ⟨rfl,rfl⟩;go_wp2_with fail;go_ret
  refine⟨_,rfl,Ep HL.out (Bl (by simp[go_sem])) (P4 _) (Bl (by simp[go_sem])),?_⟩;exact(by repeat (first|with_reducible exact Below.refl _ _|with_reducible refine below_drewN ?_ _|with_reducible refine Below.drew ?_|with_reducible refine Below.setCell ?_ (by simp) _|with_reducible refine Below.alloc ?_ (by simp;try omega) _))
 ·subst h;go_enter Tryz.func85,Tryz.ntmps85
  go_wp2_with fail;refine(EP _ _ _ _ _ _ _ _ _ _ _).mono ?_;rintro e w' ⟨rfl,rfl⟩;go_wp2_with fail;go_ret
  refine⟨_,rfl,Ep HL.out (Bl (by simp[go_sem])) (Bl (by simp[go_sem])) (Bl (by simp[go_sem])),?_⟩;exact(by repeat (first|with_reducible exact Below.refl _ _|with_reducible refine below_drewN ?_ _|with_reducible refine Below.drew ?_|with_reducible refine Below.setCell ?_ (by simp) _|with_reducible refine Below.alloc ?_ (by simp;try omega) _))
 ·subst h;go_enter Tryz.func85,Tryz.ntmps85
  go_wp2_with fail;refine(EP _ _ _ _ _ _ _ _ _ _ _).mono ?_;rintro e w' ⟨rfl,rfl⟩;go_wp2_with fail;go_ret
  refine⟨_,rfl,Ep HL.out (Kv (by simp[go_sem]) (by simp[go_sem])) (Bl (by simp[go_sem])) (Bl (by simp[go_sem])),?_⟩;exact(by repeat (first|with_reducible exact Below.refl _ _|with_reducible refine below_drewN ?_ _|with_reducible refine Below.drew ?_|with_reducible refine Below.setCell ?_ (by simp) _|with_reducible refine Below.alloc ?_ (by simp;try omega) _))
 ·subst h;go_enter Tryz.func85,Tryz.ntmps85
  go_wp2_with fail;refine(EP _ _ _ _ _ _ _ _ _ _ _).mono ?_;rintro e w' ⟨rfl,rfl⟩;go_wp2_with fail;go_ret
  refine⟨_,rfl,Ep HL.out (Kv (by simp[go_sem]) (by simp[go_sem])) (Bl (by simp[go_sem])) (Bl (by simp[go_sem])),?_⟩;exact(by repeat (first|with_reducible exact Below.refl _ _|with_reducible refine below_drewN ?_ _|with_reducible refine Below.drew ?_|with_reducible refine Below.setCell ?_ (by simp) _|with_reducible refine Below.alloc ?_ (by simp;try omega) _))
 ·subst h;go_enter Tryz.func85,Tryz.ntmps85
  go_wp2_with fail;refine(EP _ _ _ _ _ _ _ _ _ _ _).mono ?_;rintro e w' ⟨rfl,rfl⟩;go_wp2_with fail;go_ret
  refine⟨_,rfl,Ep HL.out (Bl (by simp[go_sem])) (Bl (by simp[go_sem])) (Bl (by simp[go_sem])),?_⟩;exact(by repeat (first|with_reducible exact Below.refl _ _|with_reducible refine below_drewN ?_ _|with_reducible refine Below.drew ?_|with_reducible refine Below.setCell ?_ (by simp) _|with_reducible refine Below.alloc ?_ (by simp;try omega) _))
 ·subst h;go_enter Tryz.func85,Tryz.ntmps85
  go_wp2_with fail;refine(EP _ _ _ _ _ _ _ _ _ _ _).mono ?_;rintro e w' ⟨rfl,rfl⟩;go_wp2_with fail;go_ret
  refine⟨_,rfl,Ep HL.out (intsAt3 (by simp[go_sem]) (by simp[go_sem]) (by simp[go_sem])) (Kv (by simp[go_sem]) (by simp[go_sem])) (Bl (by simp[go_sem])),?_⟩;exact(by repeat (first|with_reducible exact Below.refl _ _|with_reducible refine below_drewN ?_ _|with_reducible refine Below.drew ?_|with_reducible refine Below.setCell ?_ (by simp) _|with_reducible refine Below.alloc ?_ (by simp;try omega) _))
 ·have t1:=Jr h1;have t2:=Jr h2;have t3:=Jr h3;have t4:=Jr h4;have t5:=Jr h5;have t6:=Jr h6;clear h1 h2 h3 h4 h5 h6;go_enter Tryz.func85,Tryz.ntmps85
  go_wp2_with fail;refine(EP _ _ _ _ _ _ _ _ _ _ _).mono ?_;rintro e w' ⟨rfl,rfl⟩;go_wp2_with fail;go_ret
  refine⟨_,rfl,Ep HL.out (Bl (by simp[go_sem])) (Bl (by simp[go_sem])) (Bl (by simp[go_sem])),?_⟩;exact(by repeat (first|with_reducible exact Below.refl _ _|with_reducible refine below_drewN ?_ _|with_reducible refine Below.drew ?_|with_reducible refine Below.setCell ?_ (by simp) _|with_reducible refine Below.alloc ?_ (by simp;try omega) _))
theorem missing_cons (v:Int)(l:List Int)(n:Int):missing (v::l) n=if n≤v then v-n else missing l n:=by unfold missing;rw[List.find?_cons];by_cases h:n≤v<;>simp[h]
theorem intsAt_below {w w':World}{v:Value}{l:List Int}(h:E9 w v l)(hb:Below w.heap.size w w'):E9 w' v l:=by
 rcases h with⟨rfl,rfl⟩|⟨g,cap,rfl,hc⟩
 ·exact .inl ⟨rfl,rfl⟩
 ·refine .inr ⟨g,cap,rfl,fun j x hj=>?_⟩;have:=hc j x hj;rw[hb.cell (p:=⟨g,j,none⟩) (World.block_lt_of_cell? w _ this)];exact this
theorem drop_cons {l:List Int}{i:Nat}{x:Int}(h:l[i]? =some x):l.drop i=x::l.drop (i+1):=by obtain⟨h1,h2⟩:=List.getElem?_eq_some_iff.1 h;rw[List.drop_eq_getElem_cons h1,h2]
theorem missing_any (w:World)(v:Value)(l:List Int)(n:Int)(hv:E9 w v l)(hl:l.length≤10)(hn:0≤n∧n≤100000)(hx:∀x∈l,0≤x∧x≤9):
  Calls Tryz.prog 137 #[v,.int .i64 n] w fun e w'=>e=.returned (.int .i64 (missing l n))∧w'=w:=by
 rcases hv with⟨rfl,rfl⟩|⟨g,cap,rfl,hc⟩
 ·have he:Hid (missing [] n=0):=rfl;go_enter Tryz.func137,Tryz.ntmps137
  go_wp2_with fail;refine wp_loop_rounds 1 ?_;rw[rounds_succ];go_wp2_with fail;go_ret
  exact⟨DW he.out.symm,rfl⟩
 ·have HC:Hid _:=hc;have HX:Hid _:=hx;clear hc hx;go_enter Tryz.func137,Tryz.ntmps137
  go_wp2_with fail;go_loopg [9] (l.length+1) (fun k vi wr=>∃i:Nat,i≤l.length∧l.length-i≤k∧vi=.int .i64 i∧missing l n=missing (l.drop i) n∧wr=w)
  case atStart=>exact⟨0,by omega,by omega,rfl,by simp,rfl⟩
  case round=>
   obtain⟨i,hi,hk,rfl,hm,rfl⟩:=hrel;have HM:Hid _:=hm;clear hm;by_cases hlt:i<l.length
   ·have gi:=List.getElem?_eq_getElem hlt;have c0:=HC.out i _ gi;have hxi:=HX.out l[i] (List.getElem_mem _);have hd:=drop_cons gi;have hmc:=missing_cons l[i] (l.drop (i+1)) n;rw[←hd]at hmc;have HMC:Hid _:=HM.out.trans hmc;have hlt':(i:Int)<(l.length:Int):=by omega
    clear hd hmc gi;generalize l[i]=x at*;by_cases hxn:n≤x
    ·rw[if_pos hxn]at HMC;go_wp2_with fail;go_ret
     exact⟨DW HMC.out.symm,rfl⟩
    ·rw[if_neg hxn]at HMC;go_wp2_with fail;go_roundg (l.length-(i+1))
     case measure=>omega
     case rel=>exact⟨i+1,by omega,Nat.le_refl _,by go_num,HMC.out,rfl⟩
   ·have hlt':¬(i:Int)<(l.length:Int):=by omega
    have he:Hid (missing (l.drop i) n=0):=by unfold Hid;rw[List.drop_eq_nil_of_le (by omega)];rfl
    go_wp2_with fail;go_ret
    exact⟨DW (HM.out.trans he.out).symm,rfl⟩
def IdxOk (l:List Int)(n r:Int):Prop:=decide (0≤r)=l.contains n
theorem index_any (w:World)(v:Value)(l:List Int)(n:Int)(hv:E9 w v l)(hl:l.length≤10):
  Calls Tryz.prog 158 #[v,.int .i64 n] w fun e w'=>∃r:Int,e=.returned (.int .i64 r)∧IdxOk l n r∧w'=w:=by
 rcases hv with⟨rfl,rfl⟩|⟨g,cap,rfl,hc⟩
 ·go_enter Tryz.func158,Tryz.ntmps158
  go_wp2_with fail;refine wp_loop_rounds 1 ?_;rw[rounds_succ];go_wp2_with fail;go_ret
  exact⟨-1,rfl,by unfold IdxOk;simp,rfl⟩
 ·have HC:Hid _:=hc;clear hc;go_enter Tryz.func158,Tryz.ntmps158
  go_wp2_with fail;go_loopg [8] (l.length+1) (fun k vi wr=>∃i:Nat,i≤l.length∧l.length-i≤k∧vi=.int .i64 i∧l.contains n=(l.drop i).contains n∧wr=w)
  case atStart=>exact⟨0,by omega,by omega,rfl,by simp,rfl⟩
  case round=>
   obtain⟨i,hi,hk,rfl,hm,rfl⟩:=hrel;have HM:Hid _:=hm;clear hm;by_cases hlt:i<l.length
   ·have gi:=List.getElem?_eq_getElem hlt;have c0:=HC.out i _ gi;have hd:=drop_cons gi;have hlt':(i:Int)<(l.length:Int):=by omega
    have HD:Hid _:=hd;clear hd gi;generalize l[i]=x at*;by_cases hxn:n=x
    ·have tx:(n==x)=true:=by simpa using hxn
     have he:Hid (l.contains n=true):=by unfold Hid;rw[HM.out,HD.out,hxn];simp
     clear hxn;go_wp2_with fail;go_ret
     exact⟨_,rfl,by unfold IdxOk;rw[he.out];simp,rfl⟩
    ·have tx:(n==x)=false:=by simpa using hxn
     have he:Hid (l.contains n=(l.drop (i+1)).contains n):=by unfold Hid;rw[HM.out,HD.out,List.contains_cons,tx,Bool.false_or]
     clear hxn;go_wp2_with fail;go_roundg (l.length-(i+1))
     case measure=>omega
     case rel=>exact⟨i+1,by omega,Nat.le_refl _,by go_num,he.out,rfl⟩
   ·have hlt':¬(i:Int)<(l.length:Int):=by omega
    have he:Hid (l.contains n=false):=by unfold Hid;rw[HM.out,List.drop_eq_nil_of_le (by omega)];rfl
    go_wp2_with fail;go_ret
    exact⟨-1,rfl,by unfold IdxOk;rw[he.out];rfl,rfl⟩
theorem contains_any (w:World)(v:Value)(l:List Int)(n:Int)(hv:E9 w v l)(hl:l.length≤10):
  Calls Tryz.prog 139 #[v,.int .i64 n] w fun e w'=>e=.returned (.bool (l.contains n))∧w'=w:=by
 have hI:=index_any w v l n hv hl;go_enter Tryz.func139,Tryz.ntmps139
 go_wp2_with fail;refine hI.mono ?_;rintro e w' ⟨r,rfl,hr,rfl⟩;have HR:Hid _:=hr;clear hr;go_wp2_with fail;go_ret
 exact⟨BU HR.out,rfl⟩
def aV (a:Atm):Value:=.agg #[.string a.el,.bool a.aro,.int .i64 a.ch,.int .i64 a.hy]
theorem ER (el:ByteArray)(ch:Int):(Aa el ch).length≤3∧∀x∈Aa el ch,0≤x∧x≤9:=by
 obtain⟨a,b,c,hl,hc⟩:=LK el ch;rw[hl];rcases hc with⟨_,rfl,rfl,rfl⟩|⟨_,rfl,rfl,rfl⟩|⟨_,rfl,rfl,rfl⟩|⟨_,rfl,rfl,rfl⟩|⟨_,rfl,rfl,rfl⟩|⟨_,rfl,rfl,rfl⟩;all_goals
  split
  ·simp
  ·split<;>simp
theorem Fz (a:Atm)(x:Int)(r:List Int)(hx:Aa a.el a.ch=x::r)(w:World):
  Calls Tryz.prog 61 #[aV a] w fun e w'=>e=.returned (.int .i64 x)∧Below w.heap.size w w':=by
 unfold aV;go_enter Tryz.func61,Tryz.ntmps61
 go_wp2_with fail;refine(Ho _ _ _).mono ?_;rintro e w1 ⟨v,rfl,hv,hb⟩;rw[hx]at hv;rcases hv with⟨h,_⟩|⟨g,cap,rfl,hc⟩
 ·cases h
 ·have c0:=hc 0 x rfl;have hl:(x::r).length=r.length+1:=rfl;rw[hl];clear hx hc hl;go_wp2_with fail;go_ret
  exact⟨rfl,((Below.refl _ _).alloc (Nat.le_refl _) _).trans (hb.mono (by simp))⟩
theorem implied_any (a:Atm)(n:Int)(hn:0≤n∧n≤100000)(w:World):
  Calls Tryz.prog 108 #[aV a,.int .i64 n] w fun e w'=>e=.returned (.int .i64 (Ce a n))∧Below w.heap.size w w':=by
 unfold aV;cases ha:a.aro
 ·have HI:Hid (Ce a n=missing (Aa a.el a.ch) n):=by unfold Hid Ce;rw[ha];rfl
  clear ha;go_enter Tryz.func108,Tryz.ntmps108
  go_wp2_with fail;refine(Ho _ _ _).mono ?_;rintro e w1 ⟨v,rfl,hv,hb⟩;have hM:=missing_any w1 v _ n hv (by have:=(ER a.el a.ch).1;omega) hn (ER a.el a.ch).2;clear hv;go_wp2_with fail;refine hM.mono ?_;rintro e w2 ⟨rfl,rfl⟩;go_wp2_with fail;go_ret
  exact⟨DW HI.out.symm,((Below.refl _ _).alloc (Nat.le_refl _) _).trans (hb.mono (by simp))⟩
 ·obtain⟨n0,n1⟩:=hn;by_cases hc:a.el=⟨#[67]⟩
  ·have HI:Hid (Ce a n=max (3-n) 0):=by unfold Hid Ce;rw[ha,if_pos rfl,if_pos hc]
   rw[hc];clear ha hc;by_cases h3:n≤3
   ·have e:Hid (max (3-n) 0=3-n):=by unfold Hid;omega
    go_enter Tryz.func108,Tryz.ntmps108
    go_wp2_with fail;go_ret
    exact⟨DW (HI.out.trans e.out).symm,(Below.refl _ _).alloc (Nat.le_refl _) _⟩
   ·have e:Hid (max (3-n) 0=0):=by unfold Hid;omega
    go_enter Tryz.func108,Tryz.ntmps108
    go_wp2_with fail;go_ret
    exact⟨DW (HI.out.trans e.out).symm,(Below.refl _ _).alloc (Nat.le_refl _) _⟩
  ·have HI:Hid (Ce a n=0):=by unfold Hid Ce;rw[ha,if_pos rfl,if_neg hc]
   have tc:=Jr hc;clear ha hc;go_enter Tryz.func108,Tryz.ntmps108
   go_wp2_with fail;go_ret
   exact⟨DW HI.out.symm,(Below.refl _ _).alloc (Nat.le_refl _) _⟩
section
variable {w:World}{B:Nat}{s:ByteArray}{p:St}
structure AtI (w:World)(B g cap n i:Nat)(a:Atm):Prop where
 sl:w.cell? ⟨B,26,none⟩=some (.slice (some ⟨g,0,none⟩) n cap)
 c0:w.cell? ⟨g,i*6,none⟩=some (.string a.el)
 c1:w.cell? ⟨g,i*6+1,none⟩=some (.bool a.aro)
 c2:w.cell? ⟨g,i*6+2,none⟩=some (.int .i64 a.ch)
 c3:w.cell? ⟨g,i*6+3,none⟩=some (.int .i64 a.hy)
 c4:w.cell? ⟨g,i*6+4,none⟩=some (.int .i64 a.pl)
 c5:w.cell? ⟨g,i*6+5,none⟩=some (.bool a.br)
theorem Rd.atI (h:Rd w B s p){i:Nat}{a:Atm}(hi:p.atoms[i]? =some a):∃g cap,AtI w B g cap p.atoms.length i a∧g<w.heap.size:=by have hl:i<p.atoms.length:=(List.getElem?_eq_some_iff.1 hi).1;obtain⟨g,cap,hv,hc,_,_,hg⟩:=h.JH (by omega);exact⟨g,cap,⟨hv,hc i a 0 _ hi rfl,hc i a 1 _ hi rfl,hc i a 2 _ hi rfl,hc i a 3 _ hi rfl,hc i a 4 _ hi rfl,hc i a 5 _ hi rfl⟩,hg⟩
theorem AtI.below {w':World}{g cap n i:Nat}{a:Atm}(h:AtI w B g cap n i a)(hB:B<w.heap.size)(hg:g<w.heap.size)(hb:Below w.heap.size w w'):AtI w' B g cap n i a:=
 ⟨(hb.cell (p:=⟨B,26,none⟩) hB).trans h.sl,(hb.cell (p:=⟨g,i*6,none⟩) hg).trans h.c0,(hb.cell (p:=⟨g,i*6+1,none⟩) hg).trans h.c1,(hb.cell (p:=⟨g,i*6+2,none⟩) hg).trans h.c2,
  (hb.cell (p:=⟨g,i*6+3,none⟩) hg).trans h.c3,(hb.cell (p:=⟨g,i*6+4,none⟩) hg).trans h.c4,(hb.cell (p:=⟨g,i*6+5,none⟩) hg).trans h.c5⟩
theorem H8 (o:Ok s p)(hs:s.size≤160)(i:Nat):0≤Bz.sum p.bonds i∧Bz.sum p.bonds i≤1000:=by have h:=Lh p.bonds i o.ords p.bonds.length (Nat.le_refl _);rw[List.take_length]at h;have:=o.bonds;have:=o.pos;omega
def fill (p:St)(i:Nat)(a:Atm):Int:=Bz.sum p.bonds i+a.hy
theorem Hr (h:Rd w B s p)(o:Ok s p)(hs:s.size≤160)(i:Nat)(a:Atm)(hi:p.atoms[i]? =some a):
  Calls Tryz.prog 60 #[.pointer (some ⟨B,2,none⟩),.int .i64 i] w fun e w'=>e=.returned (.int .i64 (fill p i a))∧Below w.heap.size w w':=by
 obtain⟨g,cap,hA,hg⟩:=h.atI hi;have hB:=h.lt;have hl:i<p.atoms.length:=(List.getElem?_eq_some_iff.1 hi).1;have hl':(i:Int)<(p.atoms.length:Int):=by omega
 have hn:=o.atoms;have hsb:=H8 o hs i;have hhy:=o.hys a (List.mem_of_getElem? hi);have hS:Calls Tryz.prog 84 #[.pointer (some ⟨B,2,none⟩),.int .i64 i] w.drew fun e w'=>e=.returned (.int .i64 (Bz.sum p.bonds i))∧Below w.heap.size w w'∧w'.cell? ⟨B,26,none⟩=some (.slice (some ⟨g,0,none⟩) p.atoms.length cap)∧w'.cell? ⟨g,i*6+3,none⟩=some (.int .i64 a.hy):=by refine(sum_any h.drew i (by have:=o.bonds;have:=o.pos;omega) o.ords).mono ?_;rintro e w' ⟨he,hb⟩;have hb':Below w.heap.size w w':=(Below.refl _ _).drew.trans hb;have hA':=hA.below hB hg hb';exact⟨he,hb',hA'.sl,hA'.c3⟩
 have HF:Hid (fill p i a=Bz.sum p.bonds i+a.hy):=rfl;have q0:=hA.sl;have q1:=hA.c3;clear hA;generalize Bz.sum p.bonds i=sm at*;generalize a.hy=hy at*;go_enter Tryz.func60,Tryz.ntmps60
 go_wp2_with fail;go_region_held3 (fun w'=>w'.cell? ⟨B,26,none⟩=some (.slice (some ⟨g,0,none⟩) p.atoms.length cap)∧w'.cell? ⟨g,i*6+3,none⟩=some (.int .i64 hy)) (go_keep) (first|(go_at_call 84;refine hS.mono ?_;rintro e w' ⟨rfl,hb,i0,i1⟩))
 all_goals
  go_wp2_with fail;go_ret
  exact⟨DW (by first|exact HF.out.symm|(rw[HF.out,IntKind.wrap_i64];omega)),hb⟩
structure FQ (w wx:World)(a:Atm):Prop where
 c0:wx.cell? ⟨w.heap.size,0,none⟩=some (.string a.el)
 c1:wx.cell? ⟨w.heap.size,1,none⟩=some (.bool a.aro)
 c2:wx.cell? ⟨w.heap.size,2,none⟩=some (.int .i64 a.ch)
 c3:wx.cell? ⟨w.heap.size,3,none⟩=some (.int .i64 a.hy)
 below:Below w.heap.size w wx
theorem FQ.step {wx w':World}{a:Atm}(h:FQ w wx a)(hb:Below wx.heap.size wx w'):FQ w w' a:=by have hl:w.heap.size<wx.heap.size:=World.block_lt_of_cell? wx ⟨w.heap.size,0,none⟩ h.c0;exact⟨(hb.cell (p:=⟨w.heap.size,0,none⟩) hl).trans h.c0,(hb.cell (p:=⟨w.heap.size,1,none⟩) hl).trans h.c1,(hb.cell (p:=⟨w.heap.size,2,none⟩) hl).trans h.c2,(hb.cell (p:=⟨w.heap.size,3,none⟩) hl).trans h.c3,h.below.trans (hb.mono h.below.size)⟩
theorem IZ (h:Rd w B s p)(o:Ok s p)(hs:s.size≤160)(i:Nat)(a:Atm)(hi:p.atoms[i]? =some a)(ha:a.aro=true)(x:Int)(r:List Int)(hx:Aa a.el a.ch=x::r):
  Calls Tryz.prog 32 #[.pointer (some ⟨B,2,none⟩),.int .i64 i] w fun e w'=>e=.returned (.bool (fill p i a==x-1))∧Below w.heap.size w w':=by
 obtain⟨g,cap,hA,hg⟩:=h.atI hi;have hB:=h.lt;have hl:i<p.atoms.length:=(List.getElem?_eq_some_iff.1 hi).1;have hl':(i:Int)<(p.atoms.length:Int):=by omega
 have hn:=o.atoms;have hx9:=(ER a.el a.ch).2 x (by rw[hx];simp);have HW:Hid (∀wx,FQ w wx a→Calls Tryz.prog 60 #[.pointer (some ⟨B,2,none⟩),.int .i64 i] wx fun e w'=>e=.returned (.int .i64 (fill p i a))∧FQ w w' a∧w'.cell? ⟨w.heap.size,0,none⟩=some (.string a.el)∧
   w'.cell? ⟨w.heap.size,1,none⟩=some (.bool true)∧w'.cell? ⟨w.heap.size,2,none⟩=some (.int .i64 a.ch)∧w'.cell? ⟨w.heap.size,3,none⟩=some (.int .i64 a.hy)):=by
  intro wx hwx;refine(Hr (h.below hwx.below) o hs i a hi).mono ?_;rintro e w' ⟨he,hb⟩;have hc:=hwx.step hb;exact⟨he,hc,hc.c0,ha▸hc.c1,hc.c2,hc.c3⟩
 have HV:Hid (∀wx,FQ w wx a→Calls Tryz.prog 61 #[.agg #[.string a.el,.bool true,.int .i64 a.ch,.int .i64 a.hy]] wx fun e w'=>e=.returned (.int .i64 x)∧FQ w w' a∧w'.cell? ⟨w.heap.size,0,none⟩=some (.string a.el)∧
   w'.cell? ⟨w.heap.size,1,none⟩=some (.bool true)∧w'.cell? ⟨w.heap.size,2,none⟩=some (.int .i64 a.ch)∧w'.cell? ⟨w.heap.size,3,none⟩=some (.int .i64 a.hy)):=by
  intro wx hwx;have hfv:=Fz a x r hx wx;unfold aV at hfv;rw[ha]at hfv;refine hfv.mono ?_;rintro e w' ⟨he,hb⟩;have hc:=hwx.step hb;exact⟨he,hc,hc.c0,ha▸hc.c1,hc.c2,hc.c3⟩
 have q0:=hA.sl;have q1:=hA.c0;have q2:=hA.c1;rw[ha]at q2;have q3:=hA.c2;have q4:=hA.c3;have hb0:FQ w ((w.alloc (.cells #[.string a.el,.bool true,.int .i64 a.ch,.int .i64 a.hy] 50)).drew) a:=⟨by simp[go_sem],by rw[ha];simp[go_sem],by simp[go_sem],by simp[go_sem],((Below.refl _ _).alloc (Nat.le_refl _) _).drew⟩
 have HX:Hid (0≤x∧x≤9):=hx9;clear hA hx hx9 ha;generalize fill p i a=fl at*;go_enter Tryz.func32,Tryz.ntmps32
 go_wp2_with fail;go_region_held3 (fun w'=>w'.cell? ⟨w.heap.size,0,none⟩=some (.string a.el)∧w'.cell? ⟨w.heap.size,1,none⟩=some (.bool true)∧w'.cell? ⟨w.heap.size,2,none⟩=some (.int .i64 a.ch)∧w'.cell? ⟨w.heap.size,3,none⟩=some (.int .i64 a.hy)) (go_keep) (first|(go_at_call 60;refine(HW.out _ (by assumption)).mono ?_;rintro e w' ⟨rfl,hb,i0,i1,i2,i3⟩)|(go_at_call 61;refine(HV.out _ (by assumption)).mono ?_;rintro e w' ⟨rfl,hb',j0,j1,j2,j3⟩))
 all_goals
  go_wp2_with fail;go_ret
  exact⟨BU (by have:=HX.out;first|rfl|(rw[IntKind.wrap_i64,show(x-1+9223372036854775808)%18446744073709551616-9223372036854775808=x-1 from by omega])),(show FQ w _ a by assumption).below⟩
theorem ML (h:Rd w B s p)(i:Nat)(a:Atm)(hi:p.atoms[i]? =some a)(ha:a.aro=false):
  Calls Tryz.prog 32 #[.pointer (some ⟨B,2,none⟩),.int .i64 i] w fun e w'=>e=.returned (.bool false)∧Below w.heap.size w w':=by
 obtain⟨g,cap,hA,hg⟩:=h.atI hi;have hB:=h.lt;have hl:i<p.atoms.length:=(List.getElem?_eq_some_iff.1 hi).1;have hl':(i:Int)<(p.atoms.length:Int):=by omega
 have q0:=hA.sl;have q1:=hA.c0;have q2:=hA.c1;rw[ha]at q2;have q3:=hA.c2;have q4:=hA.c3;have HB:Hid (∀n,Below w.heap.size w ((w.alloc (.cells #[.string a.el,.bool false,.int .i64 a.ch,.int .i64 a.hy] 50)).drewN n)):=fun n=>below_drewN ((Below.refl _ _).alloc (Nat.le_refl _) _) n;clear hA ha;go_enter Tryz.func32,Tryz.ntmps32
 go_wp2_with fail;go_quiet (fail)
 go_wp2_with fail;go_ret
 exact⟨rfl,HB.out _⟩
theorem finished_any (h:Rd w B s p)(o:Ok s p)(hs:s.size≤160)(i:Nat)(a:Atm)(hi:p.atoms[i]? =some a)(x:Int)(r:List Int)(hx:Aa a.el a.ch=x::r):
  Calls Tryz.prog 138 #[.pointer (some ⟨B,2,none⟩),.int .i64 i] w fun e w'=>e=.returned (.bool (fill p i a==x))∧Below w.heap.size w w':=by
 obtain⟨g,cap,hA,hg⟩:=h.atI hi;have hB:=h.lt;have hl:i<p.atoms.length:=(List.getElem?_eq_some_iff.1 hi).1;have hl':(i:Int)<(p.atoms.length:Int):=by omega
 have hn:=o.atoms;have hx9:=(ER a.el a.ch).2 x (by rw[hx];simp);have HW:Hid (∀wx,Below w.heap.size w wx→Calls Tryz.prog 60 #[.pointer (some ⟨B,2,none⟩),.int .i64 i] wx fun e w'=>e=.returned (.int .i64 (fill p i a))∧Below w.heap.size w w'∧w'.cell? ⟨B,26,none⟩=some (.slice (some ⟨g,0,none⟩) p.atoms.length cap)∧w'.cell? ⟨g,i*6,none⟩=some (.string a.el)∧
   w'.cell? ⟨g,i*6+1,none⟩=some (.bool a.aro)∧w'.cell? ⟨g,i*6+2,none⟩=some (.int .i64 a.ch)∧w'.cell? ⟨g,i*6+3,none⟩=some (.int .i64 a.hy)):=by
  intro wx hwx;refine(Hr (h.below hwx) o hs i a hi).mono ?_;rintro e w' ⟨he,hb⟩;have hb':Below w.heap.size w w':=hwx.trans (hb.mono hwx.size);have hA':=hA.below hB hg hb';exact⟨he,hb',hA'.sl,hA'.c0,hA'.c1,hA'.c2,hA'.c3⟩
 have HV:Hid (∀wx,Below w.heap.size w wx→Calls Tryz.prog 61 #[.agg #[.string a.el,.bool a.aro,.int .i64 a.ch,.int .i64 a.hy]] wx fun e w'=>e=.returned (.int .i64 x)∧Below w.heap.size w w'∧w'.cell? ⟨B,26,none⟩=some (.slice (some ⟨g,0,none⟩) p.atoms.length cap)∧w'.cell? ⟨g,i*6,none⟩=some (.string a.el)∧
   w'.cell? ⟨g,i*6+1,none⟩=some (.bool a.aro)∧w'.cell? ⟨g,i*6+2,none⟩=some (.int .i64 a.ch)∧w'.cell? ⟨g,i*6+3,none⟩=some (.int .i64 a.hy)):=by
  intro wx hwx;refine(Fz a x r hx wx).mono ?_;rintro e w' ⟨he,hb⟩;have hb':Below w.heap.size w w':=hwx.trans (hb.mono hwx.size);have hA':=hA.below hB hg hb';exact⟨he,hb',hA'.sl,hA'.c0,hA'.c1,hA'.c2,hA'.c3⟩
 have q0:=hA.sl;have q1:=hA.c0;have q2:=hA.c1;have q3:=hA.c2;have q4:=hA.c3;have hb0:Below w.heap.size w w.drew:=(Below.refl _ _).drew;clear hA hx;generalize fill p i a=fl at*;go_enter Tryz.func138,Tryz.ntmps138
 go_wp2_with fail;go_region_held3 (fun w'=>w'.cell? ⟨B,26,none⟩=some (.slice (some ⟨g,0,none⟩) p.atoms.length cap)∧w'.cell? ⟨g,i*6,none⟩=some (.string a.el)∧w'.cell? ⟨g,i*6+1,none⟩=some (.bool a.aro)∧w'.cell? ⟨g,i*6+2,none⟩=some (.int .i64 a.ch)∧w'.cell? ⟨g,i*6+3,none⟩=some (.int .i64 a.hy)) (go_keep) (first|(go_at_call 60;refine(HW.out _ (by assumption)).mono ?_;rintro e w' ⟨rfl,hb,i0,i1,i2,i3,i4⟩)|(go_at_call 61;refine(HV.out _ (by assumption)).mono ?_;rintro e w' ⟨rfl,hb',j0,j1,j2,j3,j4⟩))
 all_goals
  go_wp2_with fail;go_ret
  exact⟨BU (by first|rfl|rfl),by assumption⟩
end
section
variable {w:World}{B:Nat}{s:ByteArray}{p:St}
theorem wrong_any (h:Rd w B s p)(o:Ok s p)(hs:s.size≤160)(i:Nat)(a:Atm)(hi:p.atoms[i]? =some a):
  Calls Tryz.prog 109 #[.pointer (some ⟨B,2,none⟩),.int .i64 i] w fun e w'=>e=.returned (.bool (Bz.wrong p.bonds i a))∧Below w.heap.size w w':=by
 obtain⟨g,cap,hA,hg⟩:=h.atI hi;have hB:=h.lt;have hl:i<p.atoms.length:=(List.getElem?_eq_some_iff.1 hi).1;have hl':(i:Int)<(p.atoms.length:Int):=by omega
 have hn:=o.atoms;have q0:=hA.sl;have q1:=hA.c0;have q2:=hA.c1;have q3:=hA.c2;have q4:=hA.c3;have q5:=hA.c4;have q6:=hA.c5;clear hA;have hbA:Below w.heap.size w (w.alloc (.cells #[.string a.el,.bool a.aro,.int .i64 a.ch,.int .i64 a.hy,.int .i64 a.pl,.bool a.br] 124)):=(Below.refl _ _).alloc (Nat.le_refl _) _;cases har:a.aro
 ·have HW:Hid (Bz.wrong p.bonds i a= !((Aa a.el a.ch).contains (fill p i a))):=by unfold Hid Bz.wrong fill;rw[har];rfl
  rw[har]at q2 hbA;clear har;go_enter Tryz.func109,Tryz.ntmps109
  go_wp2_with fail;refine(Ho _ _ _).mono ?_;rintro e w1 ⟨v,rfl,hv,hb⟩;have hb1:Below w.heap.size w w1:=hbA.trans (hb.mono hbA.size);have hF:=Hr (h.below hb1) o hs i a hi;go_wp2_with fail;refine hF.mono ?_;rintro e w2 ⟨rfl,hb2⟩;have hb3:Below w.heap.size w w2:=hb1.trans (hb2.mono hb1.size);have hCo:=contains_any w2 v _ (fill p i a) (intsAt_below hv hb2) (by have:=(ER a.el a.ch).1;omega);clear hF hv hb hb2;go_wp2_with fail;refine hCo.mono ?_;rintro e w3 ⟨rfl,rfl⟩;go_wp2_with fail;go_ret
  exact⟨BU (by rw[HW.out];simp),hb3⟩
 ·obtain⟨x,r,hx⟩:∃x r,Aa a.el a.ch=x::r:=by
   cases hv:Aa a.el a.ch with
   |nil=>exact absurd hv (o.aros a (List.mem_of_getElem? hi) har)
   |cons x r=>exact⟨x,r,rfl⟩
  have HW:Hid (Bz.wrong p.bonds i a=(!(fill p i a==x-1)&& !(fill p i a==x))):=by unfold Hid Bz.wrong fill;rw[har,hx];rfl
  rw[har]at q2 hbA;have hCa:=IZ (h.below hbA) o hs i a hi har x r hx;have HFi:Hid (∀wx,Below w.heap.size w wx→Calls Tryz.prog 138 #[.pointer (some ⟨B,2,none⟩),.int .i64 i] wx fun e w'=>e=.returned (.bool (fill p i a==x))∧Below wx.heap.size wx w'):=fun wx hwx=>finished_any (h.below hwx) o hs i a hi x r hx;clear har hx;cases hc:(fill p i a==x-1)
  ·rw[hc]at hCa HW;clear hc;go_enter Tryz.func109,Tryz.ntmps109
   go_wp2_with fail;refine hCa.mono ?_;rintro e w1 ⟨rfl,hb⟩;have hb1:Below w.heap.size w w1:=hbA.trans (hb.mono hbA.size);go_wp2_with fail;refine(HFi.out _ hb1).mono ?_;rintro e w2 ⟨rfl,hb2⟩;have hb3:Below w.heap.size w w2:=hb1.trans (hb2.mono hb1.size);clear hCa hb hb2;go_wp2_with fail;go_ret
   exact⟨BU (by rw[HW.out];simp),hb3⟩
  ·rw[hc]at hCa HW;clear hc;go_enter Tryz.func109,Tryz.ntmps109
   go_wp2_with fail;refine hCa.mono ?_;rintro e w1 ⟨rfl,hb⟩;have hb1:Below w.heap.size w w1:=hbA.trans (hb.mono hbA.size);clear hCa hb;go_wp2_with fail;go_ret
   exact⟨BU (by rw[HW.out];simp),hb1⟩
def E5 (l:List Bnd):Nat→List Atm→Option Nat
 |_,[]=>none
 |i,a::r=>if Bz.wrong l i a then some i else E5 l (i+1) r
def Lj (w:World)(r:Option Nat)(e:Ending)(w':World):Prop:=
 (match r with
 |some k=>e=.returned (.tuple #[.int .i64 k,.bool true])
 |none=>e=.returned (.tuple #[.int .i64 0,.bool false]))∧Below w.heap.size w w'
theorem Lj.some {w w':World}{r:Option Nat}{e:Ending}{k:Nat}(hr:r=.some k)(he:e=.returned (.tuple #[.int .i64 k,.bool true]))(hb:Below w.heap.size w w'):Lj w r e w':=by subst hr;exact⟨he,hb⟩
theorem Lj.none {w w':World}{r:Option Nat}{e:Ending}(hr:r=.none)(he:e=.returned (.tuple #[.int .i64 0,.bool false]))(hb:Below w.heap.size w w'):Lj w r e w':=by subst hr;exact⟨he,hb⟩
theorem drop_consA {l:List Atm}{i:Nat}{x:Atm}(h:l[i]? =some x):l.drop i=x::l.drop (i+1):=by obtain⟨h1,h2⟩:=List.getElem?_eq_some_iff.1 h;rw[List.drop_eq_getElem_cons h1,h2]
theorem P5 (h:Rd w B s p)(o:Ok s p)(hs:s.size≤160):
  Calls Tryz.prog 83 #[.pointer (some ⟨B,2,none⟩)] w (Lj w (E5 p.bonds 0 p.atoms)):=by
 obtain⟨ao,cap,hc⟩:=h.atomsLen;have hn:=o.atoms;go_enter Tryz.func83,Tryz.ntmps83
 go_wp2_with fail;go_loopg [10] (p.atoms.length+1) (fun k vi wr=>∃i:Nat,i≤p.atoms.length∧p.atoms.length-i≤k∧vi=.int .i64 i∧E5 p.bonds 0 p.atoms=E5 p.bonds i (p.atoms.drop i)∧Below w.heap.size w wr)
 case atStart=>exact⟨0,by omega,by omega,rfl,by simp,Below.refl _ _⟩
 case round=>
  obtain⟨i,hi,hk,rfl,hm,hb⟩:=hrel;have HM:Hid _:=hm;clear hm;by_cases hlt:i<p.atoms.length
  ·have gi:=List.getElem?_eq_getElem hlt;have hd:=drop_consA gi;have hW:=wrong_any (h.below hb) o hs i _ gi;have hlt':(i:Int)<(p.atoms.length:Int):=by omega
   generalize p.atoms[i]=a at*;cases hw:Bz.wrong p.bonds i a
   ·rw[hw]at hW;have HE:Hid _:=HM.out.trans (show E5 p.bonds i (p.atoms.drop i)=E5 p.bonds (i+1) (p.atoms.drop (i+1)) by rw[hd,E5,hw];rfl);clear hw hd gi;go_wp2_with fail;refine hW.mono ?_;rintro e w1 ⟨rfl,hb1⟩;have hb2:Below w.heap.size w w1:=hb.trans (hb1.mono hb.size);clear hW hb1;go_wp2_with fail;go_roundg (p.atoms.length-(i+1))
    case measure=>omega
    case rel=>exact⟨i+1,by omega,Nat.le_refl _,by go_num,HE.out,hb2⟩
   ·rw[hw]at hW;have HE:Hid _:=HM.out.trans (show E5 p.bonds i (p.atoms.drop i)=some i by rw[hd,E5,hw];rfl);clear hw hd gi;go_wp2_with fail;refine hW.mono ?_;rintro e w1 ⟨rfl,hb1⟩;have hb2:Below w.heap.size w w1:=hb.trans (hb1.mono hb.size);clear hW hb1;go_wp2_with fail;go_ret2
    exact Lj.some HE.out rfl hb2
  ·have hlt':¬(i:Int)<(p.atoms.length:Int):=by omega
   have HE:Hid _:=HM.out.trans (show E5 p.bonds i (p.atoms.drop i)=none by rw[List.drop_eq_nil_of_le (by omega)];rfl);go_wp2_with fail;go_ret2
   exact Lj.none HE.out rfl hb
end
end Go.Proofs.YtcabaecbmkgclaaGreatDoor
