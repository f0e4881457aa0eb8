import Derived.Test.YtcabaecbmkgclaaGreatDoorP07
import Derived.Deep.MidRow
set_option maxHeartbeats 2000000
set_option maxRecDepth 100000
namespace Go.Proofs.YtcabaecbmkgclaaGreatDoor
open Go.RowKit Bz
theorem flatMap_set (l:List Atm):∀(i:Nat)(a:Atm)(x:Int),l[i]? =some a→(l.flatMap Ba).set (i*6+3) (.int .i64 x)=(l.set i {a with hy:=x}).flatMap Ba:=by
 induction l with
 |nil=>intro i a x h;simp at h
 |cons b r ih=>
  intro i a x h;match i,h with
  |0,h=>simp at h;subst h;rfl
  |i+1,h=>
   simp at h;rw[List.flatMap_cons,List.set_cons_succ,List.flatMap_cons,←ih i a x h];have:(i+1)*6+3=(i*6+3)+(Ba b).length:=by rw[EN];omega
   rw[this,List.set_append_right _ _ (by omega),Nat.add_sub_cancel]
section
variable {w:World}{B:Nat}{s:ByteArray}{p:St}
theorem Rd.IJ (h:Rd w B s p){g cap i:Nat}{a:Atm}(hi:p.atoms[i]? =some a)(hsl:w.cell? ⟨B,26,none⟩=some (.slice (some ⟨g,0,none⟩) p.atoms.length cap))(x:Int):
  Rd (w.setCell ⟨g,i*6+3,none⟩ (.int .i64 x)) B s {p with atoms:=p.atoms.set i {a with hy:=x}}:=by
 obtain⟨va,ha,oa⟩:=h.atoms;obtain⟨vb,hb,ob⟩:=h.bonds;rw[hsl]at ha;cases ha;have hgB:=(oa.lt g rfl).1;have hB:(w.setCell ⟨g,i*6+3,none⟩ (.int .i64 x)).heap[B]? =w.heap[B]? :=Below.heap_setCell w _ _ B (by simp;omega);have hc:∀k,(w.setCell ⟨g,i*6+3,none⟩ (.int .i64 x)).cell? ⟨B,k,none⟩=w.cell? ⟨B,k,none⟩:=fun k=>World.cell?_of_block (w:=w) hB;have hf:∀k,(w.setCell ⟨g,i*6+3,none⟩ (.int .i64 x)).frozen? ⟨B,k,none⟩=w.frozen? ⟨B,k,none⟩:=fun k=>World.frozen?_of_block (w:=w) hB;have hst:=(oa.stored (i*6+3) (.int .i64 x)).1;rw[flatMap_set _ _ _ _ hi]at hst;refine⟨by rw[hc];exact h.text,by rw[hc];exact h.pos,fun k hk=>by rw[hc];exact h.near k hk,
  ⟨_,by rw[hc];exact hsl,by simpa using hst⟩,⟨vb,by rw[hc];exact hb,?_⟩,by rw[hc];exact h.err,by rw[hc];exact h.plc,fun n j v hn hv=>by rw[hc];exact h.rings n j v hn hv,fun k=>by rw[hf];exact h.free k⟩
 exact ownsRow_setCell_other ob (fun e=>ownBlock_ne oa ob (by decide) g rfl e) _
theorem Fr.setRow {B g i:Nat}{a w:World}(h:Fr B a w)(hm:Mine w B g)(hg:g≠B)(u:Value):Fr B a (w.setCell ⟨g,i,none⟩ u):=by have hB:(w.setCell ⟨g,i,none⟩ u).heap[B]? =w.heap[B]? :=Below.heap_setCell w _ u B (by simpa using fun e=>hg e.symm);refine⟨h.os,h.tape,h.output,by simpa using h.size,fun k hk hn=>?_,fun k hk hk'=>h.mine k hk ((Mine.same hB).1 hk')⟩;rw[Below.heap_setCell w _ u k (by rintro rfl;exact hn (h.mine _ hk hm))];exact h.block k hk hn
theorem Rd.belowAt {w':World}(h:Rd w B s p)(hb:Below w.heap.size w w'):Rd w' B s p:=h.same fun k hk=>hb.block k (h.mine hk).2
def FT (l:List Bnd)(at_:List Atm)(k:Nat):List Atm:=at_.mapIdx fun i a=>if i<k then AO l i a else a
theorem Gi (l:List Bnd)(at_:List Atm)(k i:Nat):(FT l at_ k)[i]? =(at_[i]?).map fun a=>if i<k then AO l i a else a:=by unfold FT;rw[List.getElem?_mapIdx]
theorem EZ (l:List Bnd)(at_:List Atm)(k:Nat):(FT l at_ k).length=at_.length:=by unfold FT;simp
theorem hyTo_br (l:List Bnd)(at_:List Atm)(k:Nat)(a:Atm)(ha:at_[k]? =some a)(hb:a.br=true):FT l at_ (k+1)=FT l at_ k:=by
 apply List.ext_getElem?;intro i;rw[Gi,Gi];cases hi:at_[i]? with
 |none=>rfl
 |some b=>
  simp only[Option.map_some,Option.some.injEq];by_cases e:i=k
  ·subst e;rw[ha]at hi;cases hi;rw[if_pos (by omega),if_neg (by omega)];unfold AO;rw[hb];rfl
  ·by_cases e2:i<k
   ·rw[if_pos (by omega),if_pos e2]
   ·rw[if_neg (by omega),if_neg e2]
theorem hyTo_set (l:List Bnd)(at_:List Atm)(k:Nat)(a:Atm)(ha:at_[k]? =some a)(hb:a.br=false):FT l at_ (k+1)=(FT l at_ k).set k {a with hy:=Ce a (Bz.sum l k)}:=by
 apply List.ext_getElem?;intro i;rw[List.getElem?_set,Gi,Gi];have hk:k<(FT l at_ k).length:=by rw[EZ];exact(List.getElem?_eq_some_iff.1 ha).1
 by_cases e:k=i
 ·subst e;rw[if_pos rfl,if_pos hk,ha];simp only[Option.map_some,Option.some.injEq];rw[if_pos (by omega)];unfold AO;rw[hb];rfl
 ·rw[if_neg e];cases hi:at_[i]? with
  |none=>rfl
  |some b=>
   simp only[Option.map_some,Option.some.injEq];by_cases e2:i<k
   ·rw[if_pos (by omega),if_pos e2]
   ·rw[if_neg (by omega),if_neg e2]
theorem hyTo_at (l:List Bnd)(at_:List Atm)(k:Nat):(FT l at_ k)[k]? =at_[k]? :=by
 rw[Gi];cases at_[k]? with
 |none=>rfl
 |some a=>simp
theorem hyTo_all (l:List Bnd)(at_:List Atm):FT l at_ at_.length=at_.mapIdx (AO l):=by
 apply List.ext_getElem?;intro i;rw[Gi,List.getElem?_mapIdx];cases hi:at_[i]? with
 |none=>rfl
 |some a=>simp only[Option.map_some];rw[if_pos (List.getElem?_eq_some_iff.1 hi).1]
theorem hyTo_zero (l:List Bnd)(at_:List Atm):FT l at_ 0=at_:=by apply List.ext_getElem?;intro i;rw[Gi];cases at_[i]? <;>simp
theorem FX {w:World}{g L i j:Nat}(h:L≠g)(u:Value):(w.setCell ⟨g,i,none⟩ u).cell? ⟨L,j,none⟩=w.cell? ⟨L,j,none⟩:=
 World.cell?_setCell_other w _ _ u (fun e=>h (by simpa using(congrArg Addr.block e).symm))
theorem NQ (h:Rd w B s p)(o:Ok s p)(hs:s.size≤160)(hne:0<p.atoms.length):
  Calls Tryz.prog 82 #[.pointer (some ⟨B,2,none⟩)] w fun e w'=>e=.returned (.tuple #[])∧Rd w' B s {p with atoms:=p.atoms.mapIdx (AO p.bonds)}∧Fr B w w':=by
 obtain⟨g,cap,hsl,_,_,hBg,hgl⟩:=h.JH hne;have hn:=o.atoms;have HALL:Hid _:=hyTo_all p.bonds p.atoms;go_enter Tryz.func82,Tryz.ntmps82
 go_wp2_with fail;go_loopg [9] (p.atoms.length+1) (fun k vi wr=>∃i:Nat,i≤p.atoms.length∧p.atoms.length-i≤k∧vi=.int .i64 i∧Rd wr B s {p with atoms:=FT p.bonds p.atoms i}∧wr.cell? ⟨B,26,none⟩=some (.slice (some ⟨g,0,none⟩) p.atoms.length cap)∧Fr B w wr)
 case atStart=>exact⟨0,by omega,by omega,rfl,by rw[hyTo_zero];exact h,hsl,Fr.refl _ _⟩
 case round=>
  obtain⟨i,hi,hk,rfl,hr,hs26,hf⟩:=hrel;by_cases hlt:i<p.atoms.length
  ·have gi:=List.getElem?_eq_getElem hlt;have gi2:(FT p.bonds p.atoms i)[i]? =some p.atoms[i]:=(hyTo_at _ _ _).trans gi;have hlt':(i:Int)<(p.atoms.length:Int):=by omega
   obtain⟨g',cap',hA,hg'⟩:=hr.atI (i:=i) gi2;have e1:=hA.sl;rw[hs26]at e1;simp only[Option.some.injEq,Value.slice.injEq,Addr.mk.injEq,and_true]at e1;obtain⟨rfl,e2,rfl⟩:=e1;clear e2;generalize p.atoms[i]=a at*;have q1:=hA.c0;have q2:=hA.c1;have q3:=hA.c2;have q4:=hA.c3;have q5:=hA.c4;have q6:=hA.c5;clear hA;cases hbr:a.br
   ·rw[hbr]at q6;have HE:Hid _:=hyTo_set p.bonds p.atoms i a gi hbr;clear hbr;have hB2:=hr.lt;have hsb:=H8 o hs i;have W0:Below wr.heap.size wr (wr.alloc (.cells #[.string a.el,.bool a.aro,.int .i64 a.ch,.int .i64 a.hy,.int .i64 a.pl,.bool false] 124)).drew:=((Below.refl _ _).alloc (Nat.le_refl _) _).drew;have hrs:∀j,wr.frozen? ⟨g,j,none⟩=false:=by obtain⟨g2,cap2,hv2,_,hfz,_,_⟩:=hr.JH (by show 0<(FT p.bonds p.atoms i).length;rw[EZ];omega);rw[hs26]at hv2;simp only[Option.some.injEq,Value.slice.injEq,Addr.mk.injEq,and_true]at hv2;rw[hv2.1];exact hfz
    have hfr3:=hrs (i*6+3);have cells:∀wx,Below (wr.heap.size+1) (wr.alloc (.cells #[.string a.el,.bool a.aro,.int .i64 a.ch,.int .i64 a.hy,.int .i64 a.pl,.bool false] 124)) wx→
      wx.cell? ⟨B,26,none⟩=some (.slice (some ⟨g,0,none⟩) p.atoms.length cap)∧wx.cell? ⟨wr.heap.size,0,none⟩=some (.string a.el)∧wx.cell? ⟨wr.heap.size,1,none⟩=some (.bool a.aro)∧wx.cell? ⟨wr.heap.size,2,none⟩=some (.int .i64 a.ch)∧wx.cell? ⟨wr.heap.size,3,none⟩=some (.int .i64 a.hy)∧
      wx.cell? ⟨g,i*6+3,none⟩=some (.int .i64 a.hy)∧wx.frozen? ⟨g,i*6+3,none⟩=false:=by
     intro wx hb;refine⟨?_,?_,?_,?_,?_,?_,?_⟩
     ·rw[hb.cell (p:=⟨B,26,none⟩) (by simp;omega),World.cell?_alloc_lt _ _ _ hB2];exact hs26
     ·rw[hb.cell (p:=⟨wr.heap.size,0,none⟩) (by simp)];simp
     ·rw[hb.cell (p:=⟨wr.heap.size,1,none⟩) (by simp)];simp
     ·rw[hb.cell (p:=⟨wr.heap.size,2,none⟩) (by simp)];simp
     ·rw[hb.cell (p:=⟨wr.heap.size,3,none⟩) (by simp)];simp
     ·rw[hb.cell (p:=⟨g,i*6+3,none⟩) (by simp;omega),World.cell?_alloc_lt _ _ _ hg'];exact q4
     ·rw[hb.frozen (p:=⟨g,i*6+3,none⟩) (by simp;omega),World.frozen?_alloc_past _ _ _ hg'];exact hfr3
    have HSu:Hid (∀wx,Below (wr.heap.size+1) (wr.alloc (.cells #[.string a.el,.bool a.aro,.int .i64 a.ch,.int .i64 a.hy,.int .i64 a.pl,.bool false] 124)) wx→Calls Tryz.prog 84 #[.pointer (some ⟨B,2,none⟩),.int .i64 i] wx fun e w'=>e=.returned (.int .i64 (Bz.sum p.bonds i))∧
      Below (wr.heap.size+1) (wr.alloc (.cells #[.string a.el,.bool a.aro,.int .i64 a.ch,.int .i64 a.hy,.int .i64 a.pl,.bool false] 124)) w'∧
      w'.cell? ⟨B,26,none⟩=some (.slice (some ⟨g,0,none⟩) p.atoms.length cap)∧w'.cell? ⟨wr.heap.size,0,none⟩=some (.string a.el)∧w'.cell? ⟨wr.heap.size,1,none⟩=some (.bool a.aro)∧w'.cell? ⟨wr.heap.size,2,none⟩=some (.int .i64 a.ch)∧w'.cell? ⟨wr.heap.size,3,none⟩=some (.int .i64 a.hy)∧
      w'.cell? ⟨g,i*6+3,none⟩=some (.int .i64 a.hy)∧w'.frozen? ⟨g,i*6+3,none⟩=false):=by
     intro wx hb;have hrx:=(hr.alloc (.cells #[.string a.el,.bool a.aro,.int .i64 a.ch,.int .i64 a.hy,.int .i64 a.pl,.bool false] 124)).belowAt (by simpa using hb);refine(sum_any hrx i (by have:=o.bonds;have:=o.pos;show p.bonds.length≤1000;omega) o.ords).mono ?_;rintro e w' ⟨he,hb'⟩;have hb2:=hb.trans (hb'.mono (by have:=hb.size;simpa using this));exact⟨he,hb2,cells w' hb2⟩
    have HIm:Hid (∀wx,Below (wr.heap.size+1) (wr.alloc (.cells #[.string a.el,.bool a.aro,.int .i64 a.ch,.int .i64 a.hy,.int .i64 a.pl,.bool false] 124)) wx→Calls Tryz.prog 108 #[.agg #[.string a.el,.bool a.aro,.int .i64 a.ch,.int .i64 a.hy],.int .i64 (Bz.sum p.bonds i)] wx fun e w'=>e=.returned (.int .i64 (Ce a (Bz.sum p.bonds i)))∧
      Below (wr.heap.size+1) (wr.alloc (.cells #[.string a.el,.bool a.aro,.int .i64 a.ch,.int .i64 a.hy,.int .i64 a.pl,.bool false] 124)) w'∧
      w'.cell? ⟨B,26,none⟩=some (.slice (some ⟨g,0,none⟩) p.atoms.length cap)∧w'.cell? ⟨wr.heap.size,0,none⟩=some (.string a.el)∧w'.cell? ⟨wr.heap.size,1,none⟩=some (.bool a.aro)∧w'.cell? ⟨wr.heap.size,2,none⟩=some (.int .i64 a.ch)∧w'.cell? ⟨wr.heap.size,3,none⟩=some (.int .i64 a.hy)∧
      w'.cell? ⟨g,i*6+3,none⟩=some (.int .i64 a.hy)∧w'.frozen? ⟨g,i*6+3,none⟩=false):=by
     intro wx hb;refine(implied_any a (Bz.sum p.bonds i) ⟨hsb.1,by omega⟩ wx).mono ?_;rintro e w' ⟨he,hb'⟩;have hb2:=hb.trans (hb'.mono (by have:=hb.size;simpa using this));exact⟨he,hb2,cells w' hb2⟩
    have hbA:Below (wr.heap.size+1) (wr.alloc (.cells #[.string a.el,.bool a.aro,.int .i64 a.ch,.int .i64 a.hy,.int .i64 a.pl,.bool false] 124)) (wr.alloc (.cells #[.string a.el,.bool a.aro,.int .i64 a.ch,.int .i64 a.hy,.int .i64 a.pl,.bool false] 124)).drew:=(Below.refl _ _).drew;have HFIN:Hid (∀wx,Below (wr.heap.size+1) (wr.alloc (.cells #[.string a.el,.bool a.aro,.int .i64 a.ch,.int .i64 a.hy,.int .i64 a.pl,.bool false] 124)) wx→
      Rd (wx.setCell ⟨g,i*6+3,none⟩ (.int .i64 (Ce a (Bz.sum p.bonds i)))) B s {p with atoms:=FT p.bonds p.atoms (i+1)}∧(wx.setCell ⟨g,i*6+3,none⟩ (.int .i64 (Ce a (Bz.sum p.bonds i)))).cell? ⟨B,26,none⟩=some (.slice (some ⟨g,0,none⟩) p.atoms.length cap)∧
      Fr B w (wx.setCell ⟨g,i*6+3,none⟩ (.int .i64 (Ce a (Bz.sum p.bonds i))))):=by
     intro wx hb;have hrx:=(hr.alloc (.cells #[.string a.el,.bool a.aro,.int .i64 a.ch,.int .i64 a.hy,.int .i64 a.pl,.bool false] 124)).belowAt (by simpa using hb);have c26:=(cells wx hb).1;have hfx:Fr B w wx:=(hf.alloc hB2 _).trans (Fr.below (by simp;omega) (by simpa using hb));have hset:=hrx.IJ (i:=i) (cap:=cap) gi2 (by simp only[EZ];exact c26) (Ce a (Bz.sum p.bonds i));rw[HE.out];refine⟨hset,?_,hfx.setRow (.inr (.inl ⟨_,c26,rfl⟩)) (show g≠B by omega) _⟩;rw[FX (by omega)];exact c26
    have hgB1:B≠g:=by omega
    have hgL:wr.heap.size≠g:=by omega
    clear cells HE gi gi2 hrs;generalize Ce a (Bz.sum p.bonds i)=im at*;generalize Bz.sum p.bonds i=sm at*;go_wp2_with fail;go_region_held3 (fun w'=>w'.cell? ⟨B,26,none⟩=some (.slice (some ⟨g,0,none⟩) p.atoms.length cap)∧w'.cell? ⟨wr.heap.size,0,none⟩=some (.string a.el)∧w'.cell? ⟨wr.heap.size,1,none⟩=some (.bool a.aro)∧w'.cell? ⟨wr.heap.size,2,none⟩=some (.int .i64 a.ch)∧w'.cell? ⟨wr.heap.size,3,none⟩=some (.int .i64 a.hy)) (first|with_reducible exact⟨(FX hgB1 _).trans j0,(FX hgL _).trans j1,(FX hgL _).trans j2,(FX hgL _).trans j3,(FX hgL _).trans j4⟩|go_keep) (first|(go_at_call 84;refine(HSu.out _ (by assumption)).mono ?_;rintro e w' ⟨rfl,hb,i0,i1,i2,i3,i4,i5,i6⟩)|(go_at_call 108;refine(HIm.out _ (by assumption)).mono ?_;rintro e w' ⟨rfl,hb',j0,j1,j2,j3,j4,j5,j6⟩))
    all_goals
     go_wp2_with fail;go_roundg (p.atoms.length-(i+1))
     case measure=>omega
     case rel=>have X:=HFIN.out _ hb';exact⟨i+1,by omega,Nat.le_refl _,by go_num,X.1,X.2.1,X.2.2⟩
   ·rw[hbr]at q6;have HE:Hid _:=hyTo_br p.bonds p.atoms i a gi hbr;have hB2:=hr.lt;clear hbr gi gi2;go_wp2_with fail;go_roundg (p.atoms.length-(i+1))
    case measure=>omega
    case rel=>exact⟨i+1,by omega,Nat.le_refl _,by go_num,by rw[HE.out];exact hr.alloc _,by rw[World.cell?_alloc_lt _ _ _ hB2];exact hs26,hf.alloc hB2 _⟩
  ·have hlt':¬(i:Int)<(p.atoms.length:Int):=by omega
   have hi':i=p.atoms.length:=by omega
   rw[hi',HALL.out]at hr;clear hi';go_wp2_with fail;go_end0
   exact⟨rfl,hr,hf⟩
end
section
variable {w:World}{B:Nat}{s:ByteArray}{p:St}
def DI (f:Nat→Option Opn):Nat→List Value
 |0=>[]
 |n+1=>DI f n++Dn (f n)
theorem ES (f:Nat→Option Opn):∀n,(DI f n).length=n*5
 |0=>rfl
 |n+1=>by rw[DI,List.length_append,ES f n,EW];omega
theorem Gx (f:Nat→Option Opn):∀(n m j:Nat),m<n→j<5→(DI f n)[m*5+j]? =(Dn (f m))[j]?
 |0,_,_,h,_=>absurd h (Nat.not_lt_zero _)
 |n+1,m,j,h,hj=>by
  rw[DI];by_cases e:m=n
  ·subst e;rw[List.getElem?_append_right (by rw[ES];omega),ES];congr 1;omega
  ·rw[List.getElem?_append_left (by rw[ES];omega)];exact Gx f n m j (by omega) hj
theorem Rd.ringRange (h:Rd w B s p):w.rangeAt B 30 (DI p.rings 100):=by
 intro j v hj;have hl:j<500:=by have:=(List.getElem?_eq_some_iff.1 hj).1;rwa[ES]at this
 have hd:j=(j / 5)*5+j%5:=by omega
 rw[hd,Gx p.rings 100 (j / 5) (j%5) (by omega) (by omega)]at hj;have:=h.rings (j / 5) (j%5) v (by omega) hj;rw[hd,←Nat.add_assoc];exact this
theorem Tryz.sizeOpen:(Tryz.prog.info? 94).map (·.size)=some 5:=by kernel_rfl
theorem Tryz.Ir:(Tryz.prog.info? 95).map (·.size)=some 500:=by kernel_rfl
theorem ring_extract (f:Nat→Option Opn)(i:Nat)(hi:i<100):(DI f 100).toArray.extract (i*5) (i*5+5)=(Dn (f i)).toArray:=by
 apply Array.toList_inj.1;rw[Array.toList_extract];apply List.ext_getElem?;intro k;simp only[List.extract_eq_take_drop,List.getElem?_take,List.getElem?_drop];by_cases hk:k<5
 ·rw[if_pos (by omega),Gx f 100 i k hi hk]
 ·rw[if_neg (by omega)];symm
  rw[List.getElem?_eq_none];rw[EW];omega
theorem index_ring (f:Nat→Option Opn)(i:Nat)(hi:i<100)(w:World):
  (Instr.index 95 (.agg (DI f 100).toArray) (.int .i64 i)).run Tryz.prog w=.ok (.agg (Dn (f i)).toArray) w:=by
 have hs:=Tryz.sizeOpen;cases hq:Tryz.prog.info? 94 with
 |none=>rw[hq]at hs;cases hs
 |some q=>
  rw[hq]at hs;simp only[Option.map_some,Option.some.injEq]at hs;rw[←ring_extract f i hi];have h1:(0:Int)≤(i:Int)∧(i:Int)<100:=by omega
  have hp:(Go.part 94 (DI f 100).toArray (i*5)).run Tryz.prog w=.ok (.agg ((DI f 100).toArray.extract (i*5) (i*5+5))) w:=by simp[Go.part,isAgg,run_underlying Tryz.underlying94,sizeOf,typeInfo,hq,hs]
  simp[Instr.index,asIntOf,run_underlying Tryz.underlying95,sizeOf,typeInfo,hq,hs,h1,hp];intro hge;omega
def NR (w:World)(B:Nat)(s:ByteArray)(p:St)(e:Ending)(w':World):Prop:=
 if leftmost p.rings s.size 100<s.size then e=.returned (.bool false)∧Wrong w' B (4,(leftmost p.rings s.size 100:Nat))∧Fr B w w'
 else e=.returned (.bool true)∧Rd w' B s p∧Fr B w w'
theorem OY (h:Rd w B s p)(_hs:s.size≤160):
  Calls Tryz.prog 58 #[.pointer (some ⟨B,0,none⟩)] w (NR w B s p):=by
 have hB:=h.lt;have ht:=h.text;have HIX:Hid (∀i,i<100→∀w,(Instr.index 95 (.agg (DI p.rings 100).toArray) (.int .i64 (i:Nat))).run Tryz.prog w=.ok (.agg (Dn (p.rings i)).toArray) w):=fun i hi w=>index_ring p.rings i hi w;go_enter Tryz.func58,Tryz.ntmps58
 go_wp2_with (refine wpList_load_mid rfl 95 _ rfl B 30 rfl (DI p.rings 100) _ h.ringRange Tryz.underlying95 rfl (by rw[ES];exact Tryz.Ir) ?_);go_loopg [3,16] 101 (fun k vp vi wr=>∃i:Nat,i≤100∧100-i≤k∧vi=.int .i64 i∧vp=.int .i64 (leftmost p.rings s.size i:Nat)∧Below w.heap.size w wr)
 case atStart=>exact⟨0,by omega,by omega,rfl,rfl,Below.refl _ _⟩
 case round=>
  obtain⟨i,hi,hk,rfl,rfl,hb⟩:=hrel;have hsz:=hb.size;by_cases hlt:i<100
  ·have hix:=fun w=>HIX.out i hlt w;have hlt':(i:Int)<100:=by omega
   cases hr:p.rings i with
   |none=>
    rw[hr]at hix;simp only[Dn]at hix;have HE:Hid (leftmost p.rings s.size (i+1)=leftmost p.rings s.size i):=by unfold Hid;rw[leftmost,hr]
    clear hr;go_wp2_with fail;go_roundg (100-(i+1))
    case measure=>omega
    case rel=>exact⟨i+1,by omega,Nat.le_refl _,by go_num,by rw[HE.out],hb.alloc hsz _⟩
   |some o=>
    rw[hr]at hix;simp only[Dn]at hix;have HE:Hid (leftmost p.rings s.size (i+1)=min (leftmost p.rings s.size i) o.place):=by unfold Hid;rw[leftmost,hr]
    clear hr;generalize leftmost p.rings s.size i=lm at*;by_cases hmin:o.place<lm
    ·have hmin':(o.place:Int)<(lm:Int):=by omega
     have HE2:Hid (leftmost p.rings s.size (i+1)=o.place):=by unfold Hid;rw[HE.out];omega
     clear HE hmin;go_wp2_with fail;go_roundg (100-(i+1))
     case measure=>omega
     case rel=>exact⟨i+1,by omega,Nat.le_refl _,by go_num,by rw[HE2.out],hb.alloc hsz _⟩
    ·have hmin':¬(o.place:Int)<(lm:Int):=by omega
     have HE2:Hid (leftmost p.rings s.size (i+1)=lm):=by unfold Hid;rw[HE.out];omega
     clear HE hmin;go_wp2_with fail;go_roundg (100-(i+1))
     case measure=>omega
     case rel=>exact⟨i+1,by omega,Nat.le_refl _,by go_num,by rw[HE2.out],hb.alloc hsz _⟩
  ·obtain rfl:i=100:=by omega
   have ht2:=(hb.cell (p:=⟨B,0,none⟩) hB).trans ht;have hrb:=h.below hb;have hfb:=Fr.below hB hb;by_cases hle:leftmost p.rings s.size 100<s.size
   ·have HP:Hid (∀e w',NR w B s p e w'=(e=.returned (.bool false)∧Wrong w' B (4,(leftmost p.rings s.size 100:Nat))∧Fr B w w')):=by intro e w';unfold NR;rw[if_pos hle]
    have hle':((leftmost p.rings s.size 100:Nat):Int)<(s.size:Int):=by omega
    have hfa:=D7 hrb 4 ((leftmost p.rings s.size 100:Nat):Int);clear hle;generalize leftmost p.rings s.size 100=lm at*;go_wp2_with fail;refine hfa.mono ?_;rintro e w' ⟨rfl,hw,hf6⟩;go_wp2_with fail;go_ret
    rw[HP.out];exact⟨rfl,hw,hfb.trans hf6⟩
   ·have HP:Hid (∀e w',NR w B s p e w'=(e=.returned (.bool true)∧Rd w' B s p∧Fr B w w')):=by intro e w';unfold NR;rw[if_neg hle]
    have hle':¬((leftmost p.rings s.size 100:Nat):Int)<(s.size:Int):=by omega
    clear hle;generalize leftmost p.rings s.size 100=lm at*;go_wp2_with fail;go_ret
    rw[HP.out];exact⟨rfl,hrb,hfb⟩
end
end Go.Proofs.YtcabaecbmkgclaaGreatDoor
