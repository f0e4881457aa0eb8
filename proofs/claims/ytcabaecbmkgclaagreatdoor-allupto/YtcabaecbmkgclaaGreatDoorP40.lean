import Derived.Test.YtcabaecbmkgclaaGreatDoorP39
import Derived.Test.YtcabaecbmkgclaaGreatDoorP36
set_option maxHeartbeats 4000000
set_option maxRecDepth 100000
namespace Go.Proofs.YtcabaecbmkgclaaGreatDoor.Kd
open Go.RowKit Bz Mt Mg Rf Bu Cp
theorem N7 (w:World)(s:ByteArray)(ha:Ascii s.data.toList)(hs:s.size≤1000):
  Calls Tryz.prog 68 #[.string s] w fun e w'=>e=.returned (.string ⟨(Dv s.data.toList).toArray⟩)∧Below w.heap.size w w':=by
 have MP:=map_any w s ha hs;go_enter Tryz.func68,Tryz.ntmps68
 go_wp2_with fail;refine MP.mono ?_;rintro e w1 ⟨rfl,hb⟩;clear MP;have HB:Hid (Below w.heap.size w w1):=hb;clear hb;go_wp2_with fail;go_ret
 exact⟨rfl,HB.out⟩
def wrGo (t:List UInt8):List (Bnd×Nat)→Nat→List UInt8
 |[],f=>Dv (t.drop f)
 |(b,x)::l,f=>if b.o=4∧x=2 then Dv ((t.drop f).take (b.pl-f))++[61]++wrGo t l b.pl else wrGo t l f
def wrL (t:List UInt8)(l:List Bnd)(os:List Nat):List UInt8:=wrGo t (l.zip os) 0
theorem zip_drop {l:List Bnd}{os:List Nat}{i:Nat}{b:Bnd}{x:Nat}(hb:l[i]? =some b)(hx:os[i]? =some x):(l.zip os).drop i=(b,x)::(l.zip os).drop (i+1):=by
 have h:(l.zip os)[i]? =some (b,x):=by rw[List.getElem?_zip_eq_some];exact⟨hb,hx⟩
 obtain⟨hl,he⟩:=List.getElem?_eq_some_iff.1 h;rw[List.drop_eq_getElem_cons hl,he]
structure QR (w wr:World)(t:List UInt8)(l:List Bnd)(os:List Nat)(D i f:Nat):Prop where
 below:Below D w wr
 size:D≤wr.heap.size
 le:f≤t.length
 from_:∀j b,i≤j→l[j]? =some b→f≤b.pl
 at_:∃acc,Bd D D (Lib.byteCells acc) wr∧acc.length≤f+i∧acc++wrGo t ((l.zip os).drop i) f=wrL t l os
theorem QR.on {w wr w':World}{t:List UInt8}{l:List Bnd}{os:List Nat}{D i f:Nat}(h:QR w wr t l os D i f)(hb:Below wr.heap.size wr w'):QR w w' t l os D i f:=by obtain⟨acc,h1,h2,h3⟩:=h.at_;exact⟨h.below.trans (hb.mono h.size),Nat.le_trans h.size hb.size,h.le,h.from_,acc,h1.below hb,h2,h3⟩
theorem bd_lt {D b:Nat}{bs:List Value}{w:World}(h:Bd D b bs w):b<w.heap.size:=h.elim (fun x=>x.lt) (fun x=>x.lt)
theorem QR.lt {w wr:World}{t:List UInt8}{l:List Bnd}{os:List Nat}{D i f:Nat}(h:QR w wr t l os D i f):D<wr.heap.size:=by obtain⟨acc,h1,_⟩:=h.at_;exact bd_lt h1
section
variable {w:World}{B base:Nat}{s:ByteArray}{p:St}
theorem bd_fresh (w:World):Bd w.heap.size w.heap.size [] (w.alloc (.cells #[.pointer none,.slice none 0 0] 151)):=by refine Or.inl ⟨Nat.le_refl _,.slice none 0 0,heap_alloc_new w _,?_,by simp[Value.ownBlock]⟩;exact⟨rfl,Or.inl ⟨rfl,rfl⟩⟩
theorem write_any (h:Kd w B base p)(o:Ok s p)(en:En p.atoms.length p.bonds s.size)(hs:s.size≤160)(ha:Ascii s.data.toList){bv:Value}(hbv:w.cell? ⟨B,25,none⟩=some bv){ov:Value}{os:List Nat}{ob:Nat}(hO:Ints w ob ov os)(hol:os.length=p.bonds.length):
  Calls Tryz.prog 41 #[.string s,bv,ov] w fun e w'=>e=.returned (.string ⟨(wrL s.data.toList p.bonds os).toArray⟩)∧Below w.heap.size w w':=by
 have hbl:p.bonds.length≤160:=by have:=o.bonds;have:=o.pos;omega
 have hsz:s.data.toList.length=s.size:=(Lib.size_eq s).symm;have HK:Hid (Kd w B base p):=h;have HO:Hid (Ok s p):=o;have HI:Hid (Ints w ob ov os):=hO;have HEN:Hid (En p.atoms.length p.bonds s.size):=en;obtain⟨bv',hbv0,hbo⟩:=h.bonds;obtain⟨bso,bcap,hbs⟩:=ownsRow_shape hbo;subst hbs;obtain rfl:bv=.slice bso p.bonds.length bcap:=Option.some.inj (hbv.symm.trans hbv0);obtain⟨oso,ocap,rfl⟩:=hO.shape;have HBV:Hid (w.cell? ⟨B,25,none⟩=some (.slice bso p.bonds.length bcap)):=hbv0;have HOL:Hid (os.length=p.bonds.length):=hol;have HW0:Hid (QR w (w.alloc (.cells #[.pointer none,.slice none 0 0] 151)) s.data.toList p.bonds os w.heap.size 0 0):=
  ⟨(Below.refl _ w).alloc (Nat.le_refl _) _,by simp,by omega,fun _ _ _ _=>Nat.zero_le _,[],bd_fresh w,by simp,by simp[wrL]⟩
 clear hbo h o en hO hbv hbv0 hol;go_enter Tryz.func41,Tryz.ntmps41
 go_wp2_with fail;go_loopg [8,13] (p.bonds.length+1) (fun k v8 v13 wr=>∃i f:Nat,i≤p.bonds.length∧p.bonds.length-i<k∧v8=.int .i64 (f:Nat)∧v13=.int .i64 (i:Nat)∧QR w wr s.data.toList p.bonds os w.heap.size i f)
 case atStart=>exact⟨0,0,by omega,by omega,rfl,rfl,HW0.out⟩
 case round=>
  clear HW0;obtain⟨i,f,hi,hk,rfl,rfl,hat⟩:=hrel;have HAT:Hid (QR w wr s.data.toList p.bonds os w.heap.size i f):=hat;have hfl:=hat.le;rw[hsz]at hfl;clear hat;by_cases hlt:i<p.bonds.length
  ·have hlt':(i:Int)<(p.bonds.length:Int):=by omega
   have gi:=List.getElem?_eq_getElem hlt;obtain⟨g,cap,hv,hc,_,_,hgl⟩:=HK.out.Ks (by omega);have es:=hv.symm.trans HBV.out;simp only[Option.some.injEq,Value.slice.injEq,true_and]at es;obtain⟨rfl,rfl⟩:=es;have c0:=(HAT.out.below.cell (p:=⟨g,i*4,none⟩) hgl).trans (hc i _ 0 _ gi rfl);have c1:=(HAT.out.below.cell (p:=⟨g,i*4+1,none⟩) hgl).trans (hc i _ 1 _ gi rfl);have c2:=(HAT.out.below.cell (p:=⟨g,i*4+2,none⟩) hgl).trans (hc i _ 2 _ gi rfl);have c3:=(HAT.out.below.cell (p:=⟨g,i*4+3,none⟩) hgl).trans (hc i _ 3 _ gi rfl);have hord:=HO.out.ords _ (List.mem_of_getElem? gi);have hpl:=HEN.out.plt _ (List.mem_of_getElem? gi);have hfp:=HAT.out.from_ i _ (Nat.le_refl _) gi;have hri:∀j b',i<j→p.bonds[j]? =some b'→p.bonds[i].pl<b'.pl:=by intro j b' hij hj;obtain⟨hjl,rfl⟩:=List.getElem?_eq_some_iff.1 hj;exact List.pairwise_iff_getElem.1 HEN.out.rise i j hlt hjl hij
   obtain⟨x,gx⟩:∃x,os[i]? =some x:=⟨_,List.getElem?_eq_getElem (show i<os.length by rw[HOL.out];exact hlt)⟩
   obtain⟨og,oc,hov,_,hogl,oc0⟩:=HI.out.at gx;simp only[Value.slice.injEq,true_and]at hov;obtain⟨rfl,rfl⟩:=hov;have c4:=(HAT.out.below.cell (p:=⟨og,i,none⟩) hogl).trans oc0;have HGO:Hid (∀b',p.bonds[i]? =some b'→(p.bonds.zip os).drop i=(b',x)::(p.bonds.zip os).drop (i+1)):=fun b' hb'=>zip_drop hb' gx;have HGI:Hid (p.bonds[i]? =some p.bonds[i]):=gi;have HRI:Hid (∀j b',i<j→p.bonds[j]? =some b'→p.bonds[i].pl<b'.pl):=hri;clear hri;generalize p.bonds[i]=b at*;obtain⟨ba,bb,bo,bpl⟩:=b;simp only at c0 c1 c2 c3 hord hpl hfp;obtain⟨m,rfl⟩:=Int.eq_ofNat_of_zero_le (show 0≤bo by omega);have hol:(i:Int)<(os.length:Int):=by rw[HOL.out];omega
   clear gi hc hv gx oc0;have hbq:Below wr.heap.size wr (wr.alloc (.cells #[.int .i64 (ba:Int),.int .i64 (bb:Int),.int .i64 (m:Int),.int .i64 (bpl:Int)] 102)):=(Below.refl _ _).alloc (Nat.le_refl _) _;have HA2:Hid (QR w (wr.alloc (.cells #[.int .i64 (ba:Int),.int .i64 (bb:Int),.int .i64 (m:Int),.int .i64 (bpl:Int)] 102)) s.data.toList p.bonds os w.heap.size i f):=HAT.out.on hbq;have c5:=(hbq.cell (p:=⟨og,i,none⟩) (Nat.lt_of_lt_of_le hogl HAT.out.size)).trans c4;have q2:(wr.alloc (.cells #[.int .i64 (ba:Int),.int .i64 (bb:Int),.int .i64 (m:Int),.int .i64 (bpl:Int)] 102)).cell? ⟨wr.heap.size,2,none⟩=some (.int .i64 (m:Int)):=by rw[World.cell?_alloc_new];rfl
   have q3:(wr.alloc (.cells #[.int .i64 (ba:Int),.int .i64 (bb:Int),.int .i64 (m:Int),.int .i64 (bpl:Int)] 102)).cell? ⟨wr.heap.size,3,none⟩=some (.int .i64 (bpl:Int)):=by rw[World.cell?_alloc_new];rfl
   have HX:Hid ((wr.alloc (.cells #[.int .i64 (ba:Int),.int .i64 (bb:Int),.int .i64 (m:Int),.int .i64 (bpl:Int)] 102)).heap[wr.heap.size]? =some (.cells #[.int .i64 (ba:Int),.int .i64 (bb:Int),.int .i64 (m:Int),.int .i64 (bpl:Int)] 102 (0,0))):=heap_alloc_new wr _;have hX:wr.heap.size<(wr.alloc (.cells #[.int .i64 (ba:Int),.int .i64 (bb:Int),.int .i64 (m:Int),.int .i64 (bpl:Int)] 102)).heap.size:=by simp
   have hDX:w.heap.size<wr.heap.size:=HAT.out.lt;clear HAT hbq;go_upto_region 6 with fail
   generalize wr.alloc (.cells #[.int .i64 (ba:Int),.int .i64 (bb:Int),.int .i64 (m:Int),.int .i64 (bpl:Int)] 102)=wq at*;generalize wr.heap.size=X at*;clear c0 c1 c2 c3 c4;by_cases hdo:(m:Int)=4∧x=2
   ·obtain⟨h4,h2⟩:=hdo;obtain rfl:m=4:=by omega
    subst h2;have hfp':¬((bpl:Int)<(f:Int)):=by omega
    have hpl':(bpl:Int)≤(s.size:Int):=by omega
    have hxt:(s.extract f bpl).data.toList=(s.data.toList.drop f).take (bpl-f):=Lib.extract_data _ _ _;have hxs:(s.extract f bpl).size=bpl-f:=by rw[Lib.size_eq,hxt,List.length_take,List.length_drop,hsz];omega
    have CA:=N7 wq (s.extract f bpl) (by rw[hxt];exact(ha.drop f).take _) (by omega);rw[hxt]at CA;obtain⟨acc,hacc,hal,hall⟩:=HA2.out.at_;have HAL:Hid (acc++Dv ((s.data.toList.drop f).take (bpl-f))++[61]++wrGo s.data.toList ((p.bonds.zip os).drop (i+1)) bpl=wrL s.data.toList p.bonds os):=by show _=_;rw[←hall,HGO.out _ HGI.out];simp[wrGo]
    have HAC:Hid (Bd w.heap.size w.heap.size (Lib.byteCells acc) wq):=hacc;have hcl:(Dv ((s.data.toList.drop f).take (bpl-f))).length≤bpl-f:=Nat.le_trans (QL _) (by rw[List.length_take];exact Nat.min_le_left _ _);clear hall hacc hxt;go_wp2_with fail;refine CA.mono ?_;rintro e w2 ⟨rfl,hb2⟩;clear CA;have hs2:=hb2.size;have WS:=wstr_any (HAC.out.below hb2) ⟨(Dv ((s.data.toList.drop f).take (bpl-f))).toArray⟩ (by rw[Lib.byteCells_length];show _+(Dv _).length≤_;omega) (by omega);have HB2:Hid (Below wq.heap.size wq w2):=hb2;clear hb2;go_wp2_with fail;refine WS.mono ?_;rintro e w3 ⟨rfl,h3,hb3,k3⟩;clear WS;have hs3:=hb3.size;have WB:=wbyte_any h3 61 (by rw[List.length_append,Lib.byteCells_length,Lib.strCells_length];show _+(Dv _).length≤_;omega) (by omega);have HX3:Hid (w3.heap[X]? =some (.cells #[.int .i64 (ba:Int),.int .i64 (bb:Int),.int .i64 4,.int .i64 (bpl:Int)] 102 (0,0))):=
     k3 X _ ((HB2.out.block X hX).trans HX.out) (by intro e;have:=Option.some.inj e;omega) (by intro c fz e;cases e)
    have HB3:Hid (Below w.heap.size w2 w3):=hb3;clear h3 hb3 k3;go_wp2_with fail;refine WB.mono ?_;rintro e w4 ⟨rfl,h4,hb4,k4⟩;clear WB;have HX4:Hid (w4.heap[X]? =some (.cells #[.int .i64 (ba:Int),.int .i64 (bb:Int),.int .i64 4,.int .i64 (bpl:Int)] 102 (0,0))):=
     k4 X _ HX3.out (by intro e;have:=Option.some.inj e;omega) (by intro c fz e;cases e)
    have q4:w4.cell? ⟨X,3,none⟩=some (.int .i64 (bpl:Int)):=by rw[Lib.cell_of_heap HX4.out];rfl
    have HN:Hid (QR w w4 s.data.toList p.bonds os w.heap.size (i+1) bpl):=by
     refine⟨((HA2.out.below.trans (HB2.out.mono HA2.out.size)).trans HB3.out).trans hb4,?_,by omega,fun j b' hj hb'=>Nat.le_of_lt (HRI.out j b' (by omega) hb'),acc++Dv ((s.data.toList.drop f).take (bpl-f))++[61],Or.inr ?_,?_,HAL.out⟩
     ·have:=HA2.out.size;have:=hb4.size;omega
     ·rw[Lib.byteCells_append,Lib.byteCells_append];exact h4
     ·simp only[List.length_append,List.length_singleton];omega
    clear h4 hb4 k4 HA2;go_wp2_with fail;go_roundg (p.bonds.length-i)
    case measure=>omega
    case rel=>exact⟨i+1,bpl,by omega,by omega,rfl,by go_num,HN.out⟩
   ·have HN:Hid (QR w wq s.data.toList p.bonds os w.heap.size (i+1) f):=by obtain⟨acc,hacc,hal,hall⟩:=HA2.out.at_;refine⟨HA2.out.below,HA2.out.size,HA2.out.le,fun j b' hj hb'=>HA2.out.from_ j b' (by omega) hb',acc,hacc,by omega,?_⟩;rw[←hall,HGO.out _ HGI.out];conv=>rhs;rw[wrGo,if_neg (by simpa using hdo)]
    by_cases h4:m=4
    ·subst h4;have h2:¬((x:Int)=2):=fun e=>hdo ⟨rfl,by omega⟩;have h2b:((x:Int)==2)=false:=by simp[h2]
     clear hdo HA2 HGO HGI HRI;go_wp2_with fail;go_roundg (p.bonds.length-i)
     case measure=>omega
     case rel=>exact⟨i+1,f,by omega,by omega,rfl,by go_num,HN.out⟩
    ·have h4':¬((m:Int)=4):=by omega
     have h4b:((m:Int)==4)=false:=by simp[h4']
     clear hdo HA2 HGO HGI HRI;go_wp2_with fail;go_roundg (p.bonds.length-i)
     case measure=>omega
     case rel=>exact⟨i+1,f,by omega,by omega,rfl,by go_num,HN.out⟩
  ·have hlt':¬(i:Int)<(p.bonds.length:Int):=by omega
   have hfs:¬((s.size:Int)<(f:Int)):=by omega
   obtain⟨acc,hacc,hal,hall⟩:=HAT.out.at_;have hxt:(s.extract f s.size).data.toList=s.data.toList.drop f:=ext_drop;have hxs:(s.extract f s.size).size=s.size-f:=by rw[Lib.size_eq,hxt,List.length_drop,hsz]
   have CA:=N7 wr (s.extract f s.size) (by rw[hxt];exact ha.drop f) (by omega);rw[hxt]at CA;have HAL:Hid (acc++Dv (s.data.toList.drop f)=wrL s.data.toList p.bonds os):=by show _=_;have e:(p.bonds.zip os).drop i=[]:=List.drop_of_length_le (by rw[List.length_zip,HOL.out];omega);rw[←hall,e];rfl
   have HAC:Hid (Bd w.heap.size w.heap.size (Lib.byteCells acc) wr):=hacc;have hcl:(Dv (s.data.toList.drop f)).length≤s.size-f:=Nat.le_trans (QL _) (by rw[List.length_drop];omega);have hsw:=HAT.out.size;clear hall hacc hxt;go_wp2_with fail;refine CA.mono ?_;rintro e w2 ⟨rfl,hb2⟩;clear CA;have hs2:=hb2.size;have WS:=wstr_any (HAC.out.below hb2) ⟨(Dv (s.data.toList.drop f)).toArray⟩ (by rw[Lib.byteCells_length];show _+(Dv _).length≤_;omega) (by omega);have HB2:Hid (Below wr.heap.size wr w2):=hb2;clear hb2;go_wp2_with fail;refine WS.mono ?_;rintro e w3 ⟨rfl,h3,hb3,k3⟩;clear WS;have h3':Bd w.heap.size w.heap.size (Lib.byteCells (acc++Dv (s.data.toList.drop f))) w3:=by rw[Lib.byteCells_append];exact Or.inr h3
   rw[HAL.out]at h3';have ST:=str_any h3' (by have:=hb3.size;omega);have HB3:Hid (Below w.heap.size w w3):=(HAT.out.below.trans (HB2.out.mono HAT.out.size)).trans hb3;clear h3 hb3 k3 h3';go_wp2_with fail;refine ST.mono ?_;rintro e w4 ⟨rfl,hb4⟩;clear ST;have HB4:Hid (Below w.heap.size w w4):=HB3.out.trans hb4;clear hb4;go_wp2_with fail;go_ret
   exact⟨rfl,HB4.out⟩
end
def DnIs (w:World)(s:ByteArray)(p:St)(os:List Nat)(e:Ending)(w':World):Prop:=
 ∃ov cv,e=.returned (.agg #[.int .i64 1,ov,.string ⟨(wrL s.data.toList p.bonds os).toArray⟩,cv,.slice none 0 0,.slice none 0 0])∧Ints w' w.heap.size ov os∧Ints w' w.heap.size cv (List.range p.atoms.length)∧
  (∀k,ov.ownBlock=some k→cv.ownBlock≠some k)∧Below w.heap.size w w'
structure Lu (w:World)(base:Nat)(p:St)(os:List Nat)(av bv ov:Value)(W:World):Prop where
 kd:Kd W w.heap.size base p
 cA:W.cell? ⟨w.heap.size,24,none⟩=some av
 cB:W.cell? ⟨w.heap.size,25,none⟩=some bv
 io:Ints W (w.heap.size+2) ov os
 r:W.heap[w.heap.size+1]? =some (.cells #[.int .i64 0,.slice none 0 0,.string ⟨#[]⟩,.slice none 0 0,.slice none 0 0,.slice none 0 0] 31 (0,0))
 below:Below w.heap.size w W
theorem Lu.on {w:World}{base:Nat}{p:St}{os:List Nat}{av bv ov:Value}{W W':World}(h:Lu w base p os av bv ov W)(hb:Below W.heap.size W W'):Lu w base p os av bv ov W':=by have hl:w.heap.size+1<W.heap.size:=(Array.getElem?_eq_some_iff.1 h.r).1;exact⟨h.kd.below hb,(hb.cell (p:=⟨w.heap.size,24,none⟩) (by show w.heap.size<_;omega)).trans h.cA,(hb.cell (p:=⟨w.heap.size,25,none⟩) (by show w.heap.size<_;omega)).trans h.cB,AL h.io fun k hk=>hb.block k (h.io.lt k hk).2,(hb.block _ hl).trans h.r,h.below.trans (hb.mono (by omega))⟩
theorem Lu.drew {w:World}{base:Nat}{p:St}{os:List Nat}{av bv ov:Value}{W:World}(h:Lu w base p os av bv ov W):Lu w base p os av bv ov W.drew:=h.on (Below.refl _ W).drew
theorem Lu.cells {w:World}{base:Nat}{p:St}{os:List Nat}{av bv ov:Value}{W:World}(h:Lu w base p os av bv ov W):
  W.cell? ⟨w.heap.size+1,0,none⟩=some (.int .i64 0)∧W.cell? ⟨w.heap.size+1,1,none⟩=some (.slice none 0 0)∧W.cell? ⟨w.heap.size+1,2,none⟩=some (.string ⟨#[]⟩)∧W.cell? ⟨w.heap.size+1,3,none⟩=some (.slice none 0 0)∧W.cell? ⟨w.heap.size+1,4,none⟩=some (.slice none 0 0)∧W.cell? ⟨w.heap.size+1,5,none⟩=some (.slice none 0 0)∧∀j,W.frozen? ⟨w.heap.size+1,j,none⟩=false:=by
 refine⟨?_,?_,?_,?_,?_,?_,fun j=>Lib.frozen_of_heap h.r j⟩;all_goals (rw[Lib.cell_of_heap h.r];rfl)
structure CvAt (w:World)(n:Nat)(ov cv:Value)(W:World):Prop where
 i:Ints W (w.heap.size+2) cv (List.range n)
 ne:∀k,ov.ownBlock=some k→cv.ownBlock≠some k
theorem CvAt.on {w:World}{n:Nat}{ov cv:Value}{W W':World}(h:CvAt w n ov cv W)(hb:Below W.heap.size W W'):CvAt w n ov cv W':=
 ⟨AL h.i fun k hk=>hb.block k (h.i.lt k hk).2,h.ne⟩
theorem Lu.cv {w:World}{base:Nat}{p:St}{os:List Nat}{av bv ov:Value}{W:World}(h:Lu w base p os av bv ov W){n:Nat}{cv:Value}{W':World}(hi:Ints W' W.heap.size cv (List.range n)):CvAt w n ov cv W':=by have hl:w.heap.size+1<W.heap.size:=(Array.getElem?_eq_some_iff.1 h.r).1;refine⟨AP hi (by omega),fun k hk hc=>?_⟩;have:=(h.io.lt k hk).2;have:=(hi.lt k hc).1;omega
theorem Lu.end_ {w:World}{base:Nat}{p:St}{s:ByteArray}{os:List Nat}{av bv ov cv:Value}{W:World}(h:Lu w base p os av bv ov W)(hc:CvAt w p.atoms.length ov cv W)(v0 v1 v2 v3 v4 v5:Value):
  DnIs w s p os (.returned (.agg #[.int .i64 1,ov,.string ⟨(wrL s.data.toList p.bonds os).toArray⟩,cv,.slice none 0 0,.slice none 0 0])) ((((((W.setCell ⟨w.heap.size+1,0,none⟩ v0).setCell ⟨w.heap.size+1,1,none⟩ v1).setCell ⟨w.heap.size+1,2,none⟩ v2).setCell ⟨w.heap.size+1,3,none⟩ v3).setCell ⟨w.heap.size+1,4,none⟩ v4).setCell ⟨w.heap.size+1,5,none⟩ v5):=by
 refine⟨ov,cv,rfl,AP (base:=w.heap.size+2) ?_ (by omega),AP (base:=w.heap.size+2) ?_ (by omega),hc.ne,?_⟩
 ·have:=h.io;exact ownsRow_setCell_below (ownsRow_setCell_below (ownsRow_setCell_below (ownsRow_setCell_below (ownsRow_setCell_below (ownsRow_setCell_below this (by simp) _) (by simp) _) (by simp) _) (by simp) _) (by simp) _) (by simp) _
 ·have:=hc.i;exact ownsRow_setCell_below (ownsRow_setCell_below (ownsRow_setCell_below (ownsRow_setCell_below (ownsRow_setCell_below (ownsRow_setCell_below this (by simp) _) (by simp) _) (by simp) _) (by simp) _) (by simp) _) (by simp) _
 ·have:=h.below;exact(((((this.setCell (p:=⟨w.heap.size+1,0,none⟩) (by simp) _).setCell (p:=⟨w.heap.size+1,1,none⟩) (by simp) _).setCell (p:=⟨w.heap.size+1,2,none⟩) (by simp) _).setCell (p:=⟨w.heap.size+1,3,none⟩) (by simp) _).setCell (p:=⟨w.heap.size+1,4,none⟩) (by simp) _).setCell (p:=⟨w.heap.size+1,5,none⟩) (by simp) _
section
variable {w:World}{base:Nat}{s:ByteArray}{p:St}
theorem box_at {w:World}{ns:List Value}{av bv:Value}(hlen:ns.length=24):(w.alloc (.cells (ns++[av,bv]).toArray 69)).cell? ⟨w.heap.size,24,none⟩=some av∧(w.alloc (.cells (ns++[av,bv]).toArray 69)).cell? ⟨w.heap.size,25,none⟩=some bv:=by
 constructor
 ·rw[World.cell?_alloc_new];simp[hlen]
 ·rw[World.cell?_alloc_new];simp[hlen]
theorem box_kd {ns:List Value}{av bv:Value}(hlen:ns.length=24)(ha:w.ownsRow base 124 6 av p.atoms.length (p.atoms.flatMap Ba))(hb:w.ownsRow base 102 4 bv p.bonds.length (p.bonds.flatMap CJ)):
  Kd (w.alloc (.cells (ns++[av,bv]).toArray 69)) w.heap.size base p:=by
 have hb1:Below w.heap.size w (w.alloc (.cells (ns++[av,bv]).toArray 69)):=(Below.refl _ w).alloc (Nat.le_refl _) _;exact⟨⟨av,(box_at hlen).1,AL ha fun k hk=>hb1.block k (ha.lt k hk).2⟩,⟨bv,(box_at hlen).2,AL hb fun k hk=>hb1.block k (hb.lt k hk).2⟩,by simp⟩
theorem done_any {ns:List Value}{av bv:Value}(hlen:ns.length=24)(ha:w.ownsRow base 124 6 av p.atoms.length (p.atoms.flatMap Ba))(hb:w.ownsRow base 102 4 bv p.bonds.length (p.bonds.flatMap CJ))(o:Ok s p)(en:En p.atoms.length p.bonds s.size)(hs:s.size≤160)(hasc:Ascii s.data.toList){pv:Value}{P:List (Nat×Nat)}(hP:NPr w pv P)(hPl:P.length≤1000):
  Calls Tryz.prog 25 #[.string s,.agg (ns++[av,bv]).toArray,pv] w (DnIs w s p (p.bonds.map (D4 P))):=by
 have K0:=box_kd hlen ha hb;have cA:=(box_at (w:=w) (av:=av) (bv:=bv) hlen).1;have cB:=(box_at (w:=w) (av:=av) (bv:=bv) hlen).2;obtain⟨aso,acap,rfl⟩:=ownsRow_shape ha;obtain⟨bso,bcap,rfl⟩:=ownsRow_shape hb;have hbb:Below w.heap.size w (w.alloc (.cells (ns++[Value.slice aso p.atoms.length acap,Value.slice bso p.bonds.length bcap]).toArray 69)):=(Below.refl _ w).alloc (Nat.le_refl _) _;obtain⟨w1,hw1⟩:∃w1,(w.alloc (.cells (ns++[Value.slice aso p.atoms.length acap,Value.slice bso p.bonds.length bcap]).toArray 69)).alloc (.cells #[.int .i64 0,.slice none 0 0,.string ⟨#[]⟩,.slice none 0 0,.slice none 0 0,.slice none 0 0] 31)=w1:=⟨_,rfl⟩
 have hb1:Below (w.heap.size+1) (w.alloc (.cells (ns++[Value.slice aso p.atoms.length acap,Value.slice bso p.bonds.length bcap]).toArray 69)) w1:=by rw[←hw1];exact(Below.refl _ _).alloc (by simp) _
 have hs1:w1.heap.size=w.heap.size+2:=by rw[←hw1];simp
 have hz:(w.alloc (.cells (ns++[Value.slice aso p.atoms.length acap,Value.slice bso p.bonds.length bcap]).toArray 69)).heap.size=w.heap.size+1:=by simp
 have K1:Kd w1 w.heap.size base p:=K0.below (by rw[hz];exact hb1);have r1:w1.heap[w.heap.size+1]? =some (.cells #[.int .i64 0,.slice none 0 0,.string ⟨#[]⟩,.slice none 0 0,.slice none 0 0,.slice none 0 0] 31 (0,0)):=by rw[←hw1,←hz];exact heap_alloc_new _ _
 have hB1:Below w.heap.size w w1:=hbb.trans (hb1.mono (by omega));have DB:=doubled_any K1 o hs (hP.below hB1) hPl;have HD1:Hid (∀W ov,Below w1.heap.size w1 W→Ints W w1.heap.size ov (p.bonds.map (D4 P))→Lu w base p (p.bonds.map (D4 P)) (.slice aso p.atoms.length acap) (.slice bso p.bonds.length bcap) ov W):=fun W ov hb hi=>
  ⟨K1.below hb,(hb.cell (p:=⟨w.heap.size,24,none⟩) (by show w.heap.size<_;omega)).trans ((hb1.cell (p:=⟨w.heap.size,24,none⟩) (by simp)).trans cA),(hb.cell (p:=⟨w.heap.size,25,none⟩) (by show w.heap.size<_;omega)).trans ((hb1.cell (p:=⟨w.heap.size,25,none⟩) (by simp)).trans cB),by rw[←hs1];exact hi,(hb.block _ (by omega)).trans r1,hB1.trans (hb.mono (by omega))⟩
 have WRITE:∀W ov,Lu w base p (p.bonds.map (D4 P)) (.slice aso p.atoms.length acap) (.slice bso p.bonds.length bcap) ov W→Calls Tryz.prog 41 #[.string s,.slice bso p.bonds.length bcap,ov] W fun e w'=>e=.returned (.string ⟨(wrL s.data.toList p.bonds (p.bonds.map (D4 P))).toArray⟩)∧Below W.heap.size W w':=fun W ov h=>
  write_any h.kd o en hs hasc h.cB h.io (by simp)
 have COUNT:=fun W=>counted_any W p.atoms.length (by have:=o.atoms;omega);clear ha hb hlen K0 K1 r1 hB1 hbb hb1 cA cB o en hz hP;go_enter Tryz.func25,Tryz.ntmps25
 go_wp2_with fail;refine DB.mono ?_;rintro e w2 ⟨ov,rfl,hi2,hb2⟩;have hd2:=HD1.out w2 ov hb2 hi2;obtain⟨oso,ocap,rfl⟩:=hi2.shape;have HD:Hid (Lu w base p (p.bonds.map (D4 P)) (.slice aso p.atoms.length acap) (.slice bso p.bonds.length bcap) (.slice oso (p.bonds.map (D4 P)).length ocap) w2):=hd2;clear DB HD1 hw1 hs1 hi2 hb2 hd2;generalize (p.bonds.map (D4 P))=os at*;go_wp2_with fail;have hD:=HD.out.drew;have c24:=hD.cA;have c25:=hD.cB;obtain⟨r0,r1,r2,r3,r4,r5,rf⟩:=hD.cells;clear HD;go_region_with (first
  |(go_at_call 41;refine(WRITE _ _ hD).mono ?_;rintro e wA ⟨rfl,hbA⟩;have hD:=hD.on hbA;have c24:=hD.cA;have c25:=hD.cB;obtain⟨r0,r1,r2,r3,r4,r5,rf⟩:=hD.cells;try (have hC:=hC.on hbA))
  |(go_at_call 42;refine(COUNT _).mono ?_;rintro e wB ⟨cv,rfl,hi,hbB⟩;obtain⟨cso,ccap,rfl⟩:=hi.shape;have hC:=hD.cv hi;have hD:=hD.on hbB;have c24:=hD.cA;have c25:=hD.cB;obtain⟨r0,r1,r2,r3,r4,r5,rf⟩:=hD.cells))
 all_goals
  have HE:=fun v0 v1 v2 v3 v4 v5=>hD.end_ (s:=s) hC v0 v1 v2 v3 v4 v5;have HEH:Hid _:=HE;clear HE;go_wp2_with fail;refine bodyPost_ret (v:=.agg #[.int .i64 1,.slice oso os.length ocap,.string ⟨(wrL s.data.toList p.bonds os).toArray⟩,.slice cso p.atoms.length ccap,.slice none 0 0,.slice none 0 0]) ?_ rfl ?_
  ·simp only[results,Tryz.results25];go_simp
  ·have:=HEH.out (.int .i64 1) (.slice oso os.length ocap) (.string ⟨(wrL s.data.toList p.bonds os).toArray⟩) (.slice cso p.atoms.length ccap) (.slice none 0 0) (.slice none 0 0);simpa using this
end
end Go.Proofs.YtcabaecbmkgclaaGreatDoor.Kd
