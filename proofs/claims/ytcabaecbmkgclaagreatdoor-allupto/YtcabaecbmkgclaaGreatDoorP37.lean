import Derived.Test.YtcabaecbmkgclaaGreatDoorP22
import Derived.Test.YtcabaecbmkgclaaGreatDoorP36
import Derived.Deep.DeepHandedRow
import Derived.Lib.LaidTab
import Derived.OpenShut
import Derived.ProofKit
import Derived.Test.YtcabaecbmkgclaaGreatDoorCards
import Derived.Test.YtcabaecbmkgclaaGreatDoorTie
import Derived.WalkKit
set_option maxHeartbeats 1000000
set_option maxRecDepth 100000
namespace Go.Proofs.YtcabaecbmkgclaaGreatDoor
open Go.ChangeShapes Go.WideShapes Go.ChangeAt Go.RowKit
theorem own:ownKnob Tryz.prog.godebug=none:=by kernel_rfl
theorem laidOut:laidOutB Tryz.prog=true:=by kernel_rfl
def layWith (cs:Array Value):Obj→Obj
 | .cells _ t frozen=>.cells cs t frozen
 |o=>o
def acceptCells:Array Value:=#[.int .u8 128,.int .u8 191,.int .u8 160,.int .u8 191,.int .u8 128,.int .u8 159,.int .u8 144,.int .u8 191,.int .u8 128,.int .u8 143,.int .u8 0,.int .u8 0,.int .u8 0,.int .u8 0,.int .u8 0,.int .u8 0,
 .int .u8 0,.int .u8 0,.int .u8 0,.int .u8 0,.int .u8 0,.int .u8 0,.int .u8 0,.int .u8 0,.int .u8 0,.int .u8 0,.int .u8 0,.int .u8 0,.int .u8 0,.int .u8 0,.int .u8 0,.int .u8 0]
def firstCells:Array Value:=(Pinned.utf8FirstZ.map fun(n:Nat)=>Value.int .u8 n).toArray
def Po (w:World):World:={w with heap:=(w.heap.modify 0 (layWith firstCells)).modify 1 (layWith acceptCells)}
theorem O9 (os:Os):laidMet Tryz.prog Rows.parsesRow.laid ((Po (World.holding Tryz.prog os ⟨#[],#[],[]⟩)).forCall (fun _ _=>0) ⟨#[],#[.slice none 0 0],[]⟩).memory:=
 laidMet_of_run' 8 (by kernel_rfl) (by kernel_rfl)
end Go.Proofs.YtcabaecbmkgclaaGreatDoor
namespace Go.Proofs.YtcabaecbmkgclaaGreatDoor
open Go.ChangeShapes Go.WideShapes Go.ChangeAt Go.RowKit Bz
section
theorem OA {w wr:World}{l:List Sl}(o:OpD)(hk:o.kind=1)(hm:o.s.size≤maxLen)(hst:F7 w wr l)(hl:l.length≤8999990):
  Calls Tryz.prog 20 #[.pointer (some ⟨w.heap.size,0,none⟩),opV o] wr (EG w.heap.size wr w.heap.size l 4):=by
 obtain⟨kind,n,s,lo,ll,lc⟩:=o;simp only at hk hm;subst hk;unfold opV;simp only;have HB:Hid (∀ob,BFr wr (wr.alloc ob) w.heap.size):=fun ob=>BFr.of_below ((Below.refl _ wr).alloc (Nat.le_refl _) _) (by have:=hst.lt;omega);have HP:Hid (∀ob,Calls Tryz.prog 27 #[.pointer (some ⟨w.heap.size,0,none⟩),.string s] (wr.alloc ob) (EG w.heap.size (wr.alloc ob) w.heap.size l 2)):=fun ob=>bparse_any (hst.J3 ((Below.refl _ wr).alloc (Nat.le_refl _) _)).bk hl s hm;clear hst;go_enter Tryz.func20,Tryz.ntmps20
 go_wp2_with fail;refine(HP.out _).mono ?_;rintro e w2 ⟨rfl,⟨l',hbk,hl'⟩,hf⟩;have HF:Hid (BFr wr w2 w.heap.size):=(HB.out _).trans hf;clear hf;go_wp2_with fail;go_ret
 exact⟨rfl,⟨l',hbk,by omega⟩,HF.out⟩
end
end Go.Proofs.YtcabaecbmkgclaaGreatDoor
namespace Go.Proofs.YtcabaecbmkgclaaGreatDoor
open Go.RowKit Bz
def Asc (s:ByteArray)(k:Nat):Prop:=∀i,i<k→byteAt s i<128
theorem Asc.succ {s:ByteArray}{k:Nat}(h:Asc s k)(hk:byteAt s k<128):Asc s (k+1):=fun i hi=>by
 rcases Nat.lt_or_ge i k with hl|hl
 ·exact h i hl
 ·have:i=k:=by omega
  subst this;exact hk
theorem isSign_lt {c:Int}(h:BH c=true):c<128:=by unfold BH at h;simp only[Bool.or_eq_true,beq_iff_eq]at h;omega
theorem element_ac {s:ByteArray}{i:Nat}{el:ByteArray}{ar:Bool}{n:Nat}(h:element s i=some (el,ar,n))(a:Asc s i):Asc s (i+n):=by
 unfold element at h;simp only at h;split at h
 ·rename_i hc;simp only[Option.some.injEq,Prod.mk.injEq]at h;obtain⟨_,_,rfl⟩:=h;exact(a.succ (by omega)).succ (by omega)
 ·split at h
  ·rename_i hc;simp only[Option.some.injEq,Prod.mk.injEq]at h;obtain⟨_,_,rfl⟩:=h;exact(a.succ (by omega)).succ (by omega)
  ·split at h
   ·rename_i hc;simp only[Option.some.injEq,Prod.mk.injEq]at h;obtain⟨_,_,rfl⟩:=h;exact a.succ (by omega)
   ·split at h
    ·rename_i hc;simp only[Option.some.injEq,Prod.mk.injEq]at h;obtain⟨_,_,rfl⟩:=h;exact a.succ (by omega)
    ·cases h
theorem hydro_ac {s:ByteArray}{i:Nat}(a:Asc s i):Asc s (BX s i).2:=by
 unfold BX;split
 ·split
  ·exact(a.succ (by omega)).succ (by omega)
  ·exact a.succ (by omega)
 ·exact a
theorem charge_ac {s:ByteArray}{i:Nat}(a:Asc s i):Asc s (BI s i).2:=by
 unfold BI;split
 ·exact a.succ (by omega)
 ·split
  ·exact a.succ (by omega)
  ·exact a
theorem bracket_ac {s:ByteArray}{i:Nat}{x:Int×Int×Nat}(h:bracket s i=.ok x)(a:Asc s i):Asc s x.2.2:=by
 unfold bracket at h;simp only at h;split at h
 ·rename_i hc;simp only[Except.ok.injEq]at h;subst h;exact(charge_ac (hydro_ac a)).succ (by omega)
 ·cases h
theorem head_ac {s:ByteArray}{p:St}{g:Ak}{at_:Atm}{j:Nat}(h:BC s g p=.ok (at_,j))(a:Asc s p.pos):Asc s j:=by
 unfold BC at h;split at h
 ·split at h<;>cases h
 ·rename_i el ar n he;have a1:Asc s (if (byteAt s p.pos==91)=true then p.pos+1 else p.pos):=by
   split
   ·rename_i hb;simp only[beq_iff_eq]at hb;exact a.succ (by omega)
   ·exact a
  have a2:=element_ac he a1;split at h
  ·cases h
  ·split at h
   ·cases h
   ·split at h
    ·cases h
    ·rename_i ch hy j' hb;simp only[Except.ok.injEq,Prod.mk.injEq]at h;obtain⟨_,rfl⟩:=h;split at hb
     ·rename_i hq;rw[if_pos hq]at a2;have:=bracket_ac hb a2;exact this
     ·rename_i hq;rw[if_neg hq]at a2;simp only[Except.ok.injEq,Prod.mk.injEq]at hb;obtain⟨_,_,rfl⟩:=hb;exact a2
theorem QS {s:ByteArray}{a:Nat}{p q:St}{g:Ak}(h:Am s a p=.ok (g,q))(e:Asc s p.pos):Asc s q.pos:=by
 unfold Am at h;simp only at h;split at h
 ·rename_i hs;split at h
  ·cases h
  ·simp only[Except.ok.injEq,Prod.mk.injEq]at h;obtain⟨_,rfl⟩:=h;exact e.succ (isSign_lt hs)
 ·simp only[Except.ok.injEq,Prod.mk.injEq]at h;obtain⟨_,rfl⟩:=h;exact e
theorem link_ac {s:ByteArray}{a:Nat}{p q:St}{g:Ak}(h:link s a p=.ok (g,q))(e:Asc s p.pos):Asc s q.pos:=by
 unfold link at h;split at h
 ·simp only[Except.ok.injEq,Prod.mk.injEq]at h;obtain⟨_,rfl⟩:=h;exact e.succ (by omega)
 ·exact QS h e
theorem atom_ac {s:ByteArray}{p q:St}{g:Ak}{k:Nat}(h:atom s g p=.ok (k,q))(e:Asc s p.pos):Asc s q.pos:=by
 rw[IK]at h;cases hh:BC s g p with
 |error e=>rw[hh]at h;cases h
 |ok x=>
  obtain⟨a,j⟩:=x;rw[hh]at h;simp only[Except.ok.injEq]at h;have hj:=head_ac hh e;unfold Ej at h;simp only[Prod.mk.injEq]at h;obtain⟨_,rfl⟩:=h;split
  ·exact hj
  ·exact hj
theorem KX {c:Int}(h:isDigit c=true):c<128:=by unfold isDigit at h;simp only[Bool.and_eq_true,decide_eq_true_eq]at h;omega
theorem ringNumber_ac {s:ByteArray}{i n j:Nat}(h:AY s i=.ok (n,j))(e:Asc s i):Asc s j:=by
 unfold AY at h;split at h
 ·rename_i h0;split at h
  ·split at h
   ·rename_i h1 h2;simp only[Except.ok.injEq,Prod.mk.injEq]at h;obtain⟨_,rfl⟩:=h;exact((e.succ (by omega)).succ (KX h1)).succ (KX h2)
   ·cases h
  ·cases h
 ·split at h
  ·rename_i h1;simp only[Except.ok.injEq,Prod.mk.injEq]at h;obtain⟨_,rfl⟩:=h;exact e.succ (KX h1)
  ·cases h
theorem ring_ac {s:ByteArray}{a:Nat}{p q:St}(h:ring s a p=.ok q)(e:Asc s p.pos):Asc s q.pos:=by
 unfold ring at h;split at h
 ·cases h
 ·rename_i g p1 hbe;have e1:=QS hbe e;split at h
  ·cases h
  ·rename_i n j hrn;have e2:=ringNumber_ac hrn e1;split at h
   ·simp only[Except.ok.injEq]at h;subst h;exact e2
   ·unfold BZ at h;simp only at h;split at h
    ·cases h
    ·split at h
     ·cases h
     ·split at h
      ·cases h
      ·simp only[Except.ok.injEq]at h;subst h;exact e2
theorem QT {s:ByteArray}{a:Nat}:∀(n:Nat){p q:St},BM s a n p=.ok q→Asc s p.pos→Asc s q.pos
 |0,p,q,h,e=>by simp only[BM,Except.ok.injEq]at h;subst h;exact e
 |n+1,p,q,h,e=>by
  unfold BM at h;split at h
  ·split at h
   ·cases h
   ·rename_i p1 hr;exact QT n h (ring_ac hr e)
  ·simp only[Except.ok.injEq]at h;subst h;exact e
def N8 (s:ByteArray)(c:Ak→St→R St):Prop:=∀g q q',Asc s q.pos→c g q=.ok q'→Asc s q'.pos
theorem branch_ac {s:ByteArray}{c:Ak→St→R St}(hc:N8 s c){a:Nat}{p q:St}(h:branch s c a p=.ok q)(e:Asc s p.pos):Asc s q.pos:=by
 unfold branch at h;split at h
 ·cases h
 ·rename_i g p1 hl;have e1:=link_ac hl e;split at h
  ·cases h
  ·rename_i p2 hch;have e2:=hc g p1 p2 e1 hch;split at h
   ·rename_i hb;simp only[Except.ok.injEq]at h;subst h;exact e2.succ (by omega)
   ·cases h
theorem OT {s:ByteArray}{c:Ak→St→R St}(hc:N8 s c){a:Nat}:∀(n:Nat){p q:St},Au s c a n p=.ok q→Asc s p.pos→Asc s q.pos
 |0,p,q,h,e=>by simp only[Au,Except.ok.injEq]at h;subst h;exact e
 |n+1,p,q,h,e=>by
  unfold Au at h;split at h
  ·rename_i eb;split at h
   ·cases h
   ·rename_i p1 hr;exact OT hc n h (branch_ac hc hr (e.succ (by omega)))
  ·simp only[Except.ok.injEq]at h;subst h;exact e
theorem knot_ac {s:ByteArray}{c:Ak→St→R St}(hc:N8 s c){g:Ak}{p q:St}{k:Nat}(h:Dx s c g p=.ok (k,q))(e:Asc s p.pos):Asc s q.pos:=by
 unfold Dx at h;split at h
 ·cases h
 ·rename_i k1 p1 ha;have e1:=atom_ac ha e;split at h
  ·cases h
  ·rename_i p2 hr;have e2:=QT _ hr e1;split at h
   ·cases h
   ·rename_i p3 hb;simp only[Except.ok.injEq,Prod.mk.injEq]at h;obtain⟨_,rfl⟩:=h;exact OT hc _ hb e2
theorem linked_ac {s:ByteArray}{c:Ak→St→R St}(hc:N8 s c):∀(n:Nat){a:Nat}{p q:St},Bz.linked s c n a p=.ok q→Asc s p.pos→Asc s q.pos
 |0,a,p,q,h,e=>by simp only[Bz.linked,Except.ok.injEq]at h;subst h;exact e
 |n+1,a,p,q,h,e=>by
  unfold Bz.linked at h;split at h
  ·split at h
   ·cases h
   ·rename_i k1 p1 hr;unfold BN at hr;split at hr
    ·cases hr
    ·rename_i g p0 hl;exact linked_ac hc n h (knot_ac hc hr (link_ac hl e))
  ·simp only[Except.ok.injEq]at h;subst h;exact e
theorem QU (s:ByteArray):∀n,N8 s (chain s n)
 |0=>by intro g q q' _ h;simp[chain]at h
 |n+1=>by
  intro g q q' e h;unfold chain at h;split at h
  ·cases h
  ·rename_i k p1 hk;exact linked_ac (QU s n) _ h (knot_ac (QU s n) hk e)
theorem parse_ac {s:ByteArray}{ats:List Atm}{l:List Bnd}(h:Bz.parse s=.ok (ats,l)):∀b∈s.data.toList,b.toNat<128:=by
 have key:Asc s s.size:=by
  unfold Bz.parse at h;split at h
  ·cases h
  ·split at h
   ·cases h
   ·rename_i p hc;have he:=QU s (s.size+1) _ _ _ (fun i hi=>absurd hi (Nat.not_lt_zero i)) hc;split at h
    ·cases h
    ·rename_i hp;exact fun i hi=>he i (by omega)
 intro b hb;obtain⟨i,hi,rfl⟩:=List.getElem_of_mem hb;have hi':i<s.size:=by simpa using hi
 have:=key i hi';rw[DV s i hi']at this;have e:s.data.toList[i]=s[i]:=rfl;rw[e];omega
end Go.Proofs.YtcabaecbmkgclaaGreatDoor
