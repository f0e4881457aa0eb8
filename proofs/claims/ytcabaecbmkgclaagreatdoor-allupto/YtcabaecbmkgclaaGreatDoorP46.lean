import Derived.Test.YtcabaecbmkgclaaGreatDoorP45
import Derived.BigQuiet
import Derived.Deep.CutBlock
import Derived.Deep.CutRange
import Derived.Deep.LoopGhost
set_option maxHeartbeats 8000000
set_option maxRecDepth 100000
namespace Go.Proofs.YtcabaecbmkgclaaGreatDoor.Kd
open Go.RowKit Bz Mt Mg Rf
theorem atom_at {w:World}{base:Nat}{va:Value}{ats:List Atm}(h:w.ownsRow base 50 4 va ats.length (ats.flatMap AV)){k:Nat}{a:Atm}(hk:ats[k]? =some a):
  ∃g cap,va=.slice (some ⟨g,0,none⟩) ats.length cap∧g<w.heap.size∧w.cell? ⟨g,k*4,none⟩=some (.string a.el)∧w.cell? ⟨g,k*4+1,none⟩=some (.bool a.aro)∧w.cell? ⟨g,k*4+2,none⟩=some (.int .i64 a.ch)∧w.cell? ⟨g,k*4+3,none⟩=some (.int .i64 a.hy):=by
 have hl:k<ats.length:=(List.getElem?_eq_some_iff.1 hk).1;obtain⟨g,cap,rfl,h1,h2,h3,h4⟩:=Ap h (by omega);have d0:=Ae AV 4 Cc _ k 0 a hk (by omega);rw[Nat.add_zero]at d0;refine⟨g,cap,rfl,h2,(h3 (k*4) (by omega)).trans d0,?_,?_,?_⟩
 ·exact(h3 (k*4+1) (by omega)).trans (Ae AV 4 Cc _ k 1 a hk (by omega))
 ·exact(h3 (k*4+2) (by omega)).trans (Ae AV 4 Cc _ k 2 a hk (by omega))
 ·exact(h3 (k*4+3) (by omega)).trans (Ae AV 4 Cc _ k 3 a hk (by omega))
structure MBx (base X:Nat)(av bv:Value)(ats:List Atm)(W:World):Prop where
 c0:W.cell? ⟨X,0,none⟩=some av
 c1:W.cell? ⟨X,1,none⟩=some bv
 row:W.ownsRow base 50 4 av ats.length (ats.flatMap AV)
 lt:X<W.heap.size
theorem MBx.new {base:Nat}{w:World}{av bv:Value}{ats:List Atm}(h:w.ownsRow base 50 4 av ats.length (ats.flatMap AV)):MBx base w.heap.size av bv ats (w.alloc (.cells #[av,bv] 39)):=
 ⟨by simp,by simp,AL h fun k hk=>((Below.refl _ w).alloc (Nat.le_refl _) _).block k (h.lt k hk).2,by simp⟩
theorem MBx.on {base X:Nat}{av bv:Value}{ats:List Atm}{W W':World}(h:MBx base X av bv ats W)(hb:Below W.heap.size W W'):MBx base X av bv ats W':=
 ⟨(hb.cell h.lt).trans h.c0,(hb.cell h.lt).trans h.c1,AL h.row fun k hk=>hb.block k (h.row.lt k hk).2,Nat.lt_of_lt_of_le h.lt hb.size⟩
theorem MBx.grow {base X:Nat}{av bv:Value}{ats:List Atm}{W:World}(h:MBx base X av bv ats W)(o:Obj):MBx base X av bv ats (W.alloc o):=h.on ((Below.refl _ W).alloc (Nat.le_refl _) o)
theorem Di.shape {s:ByteArray}{w:World}{e:Ending}{w':World}(h:Di s w e w'):∃ao na ac bo nb bc y1 y2,e=.returned (.tuple #[.agg #[.slice ao na ac,.slice bo nb bc],.int .i64 y1,.int .i64 y2])∧Below w.heap.size w w':=by
 rcases h with⟨er,h,he,hb2⟩|⟨ats,l,v,v',h,he,hr1,hr2,hb2,_⟩
 ·exact⟨none,0,0,none,0,0,_,_,he,hb2⟩
 ·obtain⟨ao,ac,rfl⟩:=ownsRow_shape hr1;obtain⟨bo,bc,rfl⟩:=ownsRow_shape hr2;exact⟨ao,_,ac,bo,_,bc,_,_,he,hb2⟩
theorem Di.err {s:ByteArray}{w:World}{e:Ending}{w':World}{er:Int×Int}(h:Di s w e w')(hp:Bz.parse s=.error er):e=.returned (.tuple #[.agg #[.slice none 0 0,.slice none 0 0],.int .i64 er.1,.int .i64 er.2])∧Below w.heap.size w w':=by
 rcases h with⟨er',h,he,hb2⟩|⟨ats,l,v,v',h,_⟩
 ·rw[hp]at h;cases h;exact⟨he,hb2⟩
 ·rw[hp]at h;cases h
theorem Di.fine {s:ByteArray}{w:World}{e:Ending}{w':World}{ats:List Atm}{l:List Bnd}(h:Di s w e w')(hp:Bz.parse s=.ok (ats,l)):∃ao ac bo bc,e=.returned (.tuple #[.agg #[.slice ao ats.length ac,.slice bo l.length bc],.int .i64 0,.int .i64 0])∧w'.ownsRow w.heap.size 50 4 (.slice ao ats.length ac) ats.length (ats.flatMap AV)∧w'.ownsRow w.heap.size 46 3 (.slice bo l.length bc) l.length (l.flatMap AZ)∧Below w.heap.size w w'∧ats.length≤24∧l.length≤160:=by
 rcases h with⟨er',h,he,hb2⟩|⟨ats',l',v,v',h,he,hr1,hr2,hb2,_,hn,hl⟩
 ·rw[hp]at h;cases h
 ·rw[hp]at h;cases h;obtain⟨ao,ac,rfl⟩:=ownsRow_shape hr1;obtain⟨bo,bc,rfl⟩:=ownsRow_shape hr2;exact⟨ao,ac,bo,bc,he,hr1,hr2,hb2,hn,hl⟩
theorem QV.fine {s:ByteArray}{w:World}{e:Ending}{w':World}{ats:List Atm}{l:List Bnd}(h:QV s w e w')(hp:Bz.parse s=.ok (ats,l)):∃q:St,q.atoms=ats∧q.bonds=l∧∃vd oo on oc tx co cn cc po pn pc uo un uc,KkOut q w e w' vd oo on oc tx co cn cc po pn pc uo un uc:=by
 rcases h with⟨er,h,_⟩|⟨q,mate,f,gh,h⟩
 ·rw[hp]at h;cases h
 ·have:=h.h;rw[hp]at this;simp only[Except.ok.injEq,Prod.mk.injEq]at this;exact⟨q,this.1.symm,this.2.symm,h.out⟩
theorem NH {w:World}{base:Nat}{vb:Value}{l:List Bnd}(h:w.ownsRow base 46 3 vb l.length (l.flatMap AZ)){k:Nat}{b:Bnd}(hk:l[k]? =some b):
  ∃g cap,vb=.slice (some ⟨g,0,none⟩) l.length cap∧g<w.heap.size∧w.cell? ⟨g,k*3,none⟩=some (.int .i64 b.a)∧w.cell? ⟨g,k*3+1,none⟩=some (.int .i64 b.b)∧w.cell? ⟨g,k*3+2,none⟩=some (.int .i64 b.o):=by
 have hl:k<l.length:=(List.getElem?_eq_some_iff.1 hk).1;have bl:∀b:Bnd,(AZ b).length=3:=fun _=>rfl;obtain⟨g,cap,rfl,h1,h2,h3,h4⟩:=Ap h (by omega);have d0:=Ae AZ 3 bl _ k 0 b hk (by omega);rw[Nat.add_zero]at d0;refine⟨g,cap,rfl,h2,(h3 (k*3) (by omega)).trans d0,?_,?_⟩
 ·exact(h3 (k*3+1) (by omega)).trans (Ae AZ 3 bl _ k 1 b hk (by omega))
 ·exact(h3 (k*3+2) (by omega)).trans (Ae AZ 3 bl _ k 2 b hk (by omega))
structure FK (av bv:Value)(ats:List Atm)(l:List Bnd)(W:World):Prop where
 a:∃base,W.ownsRow base 50 4 av ats.length (ats.flatMap AV)
 b:∃base,W.ownsRow base 46 3 bv l.length (l.flatMap AZ)
theorem FK.on {av bv:Value}{ats:List Atm}{l:List Bnd}{W W':World}(h:FK av bv ats l W)(hb:Below W.heap.size W W'):FK av bv ats l W':=by obtain⟨⟨b1,h1⟩,⟨b2,h2⟩⟩:=h;exact⟨⟨b1,AL h1 fun k hk=>hb.block k (h1.lt k hk).2⟩,⟨b2,AL h2 fun k hk=>hb.block k (h2.lt k hk).2⟩⟩
theorem FK.grow {av bv:Value}{ats:List Atm}{l:List Bnd}{W:World}(h:FK av bv ats l W)(o:Obj):FK av bv ats l (W.alloc o):=h.on ((Below.refl _ W).alloc (Nat.le_refl _) o)
theorem FK.drewN {av bv:Value}{ats:List Atm}{l:List Bnd}{W:World}(h:FK av bv ats l W)(n:Nat):FK av bv ats l (W.drewN n):=by obtain⟨⟨b1,h1⟩,⟨b2,h2⟩⟩:=h;exact⟨⟨b1,AL h1 fun _ _=>rfl⟩,⟨b2,AL h2 fun _ _=>rfl⟩⟩
structure Gw (w:World)(X:Nat)(av bv:Value)(ats:List Atm)(l:List Bnd)(W:World):Prop where
 c0:W.cell? ⟨X,0,none⟩=some av
 c1:W.cell? ⟨X,1,none⟩=some bv
 rows:FK av bv ats l W
 lt:X<W.heap.size
 below:Below w.heap.size w W
theorem Gw.on {w:World}{X:Nat}{av bv:Value}{ats:List Atm}{l:List Bnd}{W W':World}(h:Gw w X av bv ats l W)(hb:Below W.heap.size W W'):Gw w X av bv ats l W':=
 ⟨(hb.cell h.lt).trans h.c0,(hb.cell h.lt).trans h.c1,h.rows.on hb,Nat.lt_of_lt_of_le h.lt hb.size,h.below.trans (hb.mono h.below.size)⟩
theorem Gw.grow {w:World}{X:Nat}{av bv:Value}{ats:List Atm}{l:List Bnd}{W:World}(h:Gw w X av bv ats l W)(o:Obj):Gw w X av bv ats l (W.alloc o):=h.on ((Below.refl _ W).alloc (Nat.le_refl _) o)
theorem Gw.drewN {w:World}{X:Nat}{av bv:Value}{ats:List Atm}{l:List Bnd}{W:World}(h:Gw w X av bv ats l W)(n:Nat):Gw w X av bv ats l (W.drewN n):=⟨h.c0,h.c1,h.rows.drewN n,h.lt,below_drewN h.below n⟩
theorem Gw.new {w:World}{av bv:Value}{ats:List Atm}{l:List Bnd}(h:FK av bv ats l w):Gw w w.heap.size av bv ats l (w.alloc (.cells #[av,bv] 39)):=
 ⟨by simp,by simp,h.grow _,by simp,(Below.refl _ w).alloc (Nat.le_refl _) _⟩
theorem NS (w:World){ao:Option Addr}{ac:Nat}{bo:Option Addr}{bc:Nat}{ats:List Atm}{l:List Bnd}(h:FK (.slice ao ats.length ac) (.slice bo l.length bc) ats l w)(hl:l.length≤160)(he:∀b∈l,b.a<b.b∧b.b<ats.length):
  Calls Tryz.prog 17 #[.agg #[.slice ao ats.length ac,.slice bo l.length bc]] w fun e w'=>e=.returned (.bool true)∧Below w.heap.size w w':=by
 have H0:Hid (Gw w w.heap.size (.slice ao ats.length ac) (.slice bo l.length bc) ats l (w.alloc (.cells #[.slice ao ats.length ac,.slice bo l.length bc] 39))):=Gw.new h;have HE:Hid (∀b∈l,b.a<b.b∧b.b<ats.length):=he;clear h he;go_enter Tryz.func17,Tryz.ntmps17
 go_wp2_with fail;go_loopg [3] (l.length+1) (fun g v3 wr=>∃i:Nat,i≤l.length∧l.length-i<g∧v3=.int .i64 (i:Int)∧Gw w w.heap.size (.slice ao ats.length ac) (.slice bo l.length bc) ats l wr)
 case atStart=>exact⟨0,by omega,by omega,rfl,H0.out⟩
 case round=>
  obtain⟨i,hi,hg,rfl,hS⟩:=hrel;clear H0;have HS:Hid (Gw w w.heap.size (.slice ao ats.length ac) (.slice bo l.length bc) ats l wr):=hS;have c0:=hS.c0;have c1:=hS.c1;have hlt0:=hS.lt;by_cases hlt:i<l.length
  ·have hlt':(i:Int)<(l.length:Int):=by omega
   obtain⟨b,hb⟩:∃b,l[i]? =some b:=⟨_,List.getElem?_eq_getElem hlt⟩
   have hends:=HE.out b (List.mem_of_getElem? hb);obtain⟨_,hrow⟩:=hS.rows.b;obtain⟨g,k1,e1,hg1,y0,y1,y2⟩:=NH hrow hb;simp only[Value.slice.injEq,true_and]at e1;obtain⟨rfl,rfl⟩:=e1;have HN:Hid (∀o,Gw w w.heap.size (.slice ao ats.length ac) (.slice (some ⟨g,0,none⟩) l.length bc) ats l (wr.alloc o)):=fun o=>HS.out.grow o;have c0':∀o,(wr.alloc o).cell? ⟨w.heap.size,0,none⟩=some (.slice ao ats.length ac):=fun o=>(HS.out.grow o).c0;have t1:¬((b.a:Int)<0):=by omega
   have t2:¬((b.b:Int)≤(b.a:Int)):=by omega
   have t3:¬((ats.length:Int)≤(b.b:Int)):=by omega
   clear hS hrow hb HS HE;go_wp2_with fail;go_roundg (l.length-i)
   case measure=>omega
   case rel=>exact⟨i+1,by omega,by omega,by go_num,HN.out _⟩
  ·have hlt':¬(i:Int)<(l.length:Int):=by omega
   clear hS;go_wp2_with fail;go_ret
   exact⟨rfl,HS.out.below⟩
structure Set4 (s:ByteArray)(q:St)(mate:Nat→Option Nat)(f:Fo)(gh:Gh):Prop where
 h:Bz.parse s=.ok (q.atoms,q.bonds)
 en:En q.atoms.length q.bonds s.size
 n24:q.atoms.length≤24
 pos:∀b∈q.bonds,1≤b.o∧b.o≤4
 best:Ie (grL q.atoms.length (AU q q.bonds)) mate f gh
 all:¬2*(AQ q.atoms.length mate).length<cnt q.atoms.length (Bj q)
abbrev Nw (q:St)(mate:Nat→Option Nat):List Nat:=q.bonds.map (D4 (AQ q.atoms.length mate))
section
variable {s:ByteArray}{q:St}{mate:Nat→Option Nat}{f:Fo}{gh:Gh}
theorem ord_le (S:Set4 s q mate f gh){b:Bnd}(hb:b∈q.bonds):D4 (AQ q.atoms.length mate) b≤3∧1≤D4 (AQ q.atoms.length mate) b:=by
 have:=S.pos b hb;unfold D4;split
 ·split<;>omega
 ·omega
structure Again (q:St)(os:List Nat)(ats':List Atm)(l':List Bnd):Prop where
 la:ats'.length=q.atoms.length
 lb:l'.length=q.bonds.length
 at_:∀(i:Nat)(a:Atm),q.atoms[i]? =some a→∃a':Atm,ats'[i]? =some a'∧a'.aro=false∧a'.el=a.el∧a'.ch=a.ch∧a'.hy=a.hy
 bd:∀(i:Nat)(b:Bnd)(x:Nat),q.bonds[i]? =some b→os[i]? =some x→∃b':Bnd,l'[i]? =some b'∧b'.a=b.a∧b'.b=b.b∧b'.o=(x:Int)
 aro:∀a'∈ats',a'.aro=false
 ord:∀b'∈l',b'.o≠4∧1≤b'.o
theorem again_is (S:Set4 s q mate f gh){W:ByteArray}(hW:W.data.toList=wrL s.data.toList q.bonds (Nw q mate))(hs:W.size≤160):∃ats' l',Bz.parse W=.ok (ats',l')∧Again q (Nw q mate) ats' l':=by
 obtain⟨ats',l',h1,h2,h3⟩:=again_parse S.h S.en S.n24 S.pos S.best S.all hW hs;refine⟨ats',l',h1,?_,?_,?_,?_,?_,?_⟩
 ·have:=congrArg List.length h2;simpa using this
 ·have:=congrArg List.length h3;simpa using this
 ·intro i a hi;have e:(ats'.map pl0)[i]? =some (un a):=by rw[h2,List.getElem?_map,hi];rfl
  rw[List.getElem?_map]at e;cases ha:ats'[i]? with
  |none=>rw[ha]at e;cases e
  |some a'=>
   rw[ha]at e;simp only[Option.map_some,Option.some.injEq]at e;have e1:(pl0 a').el=(un a).el:=by rw[e]
   have e2:(pl0 a').ch=(un a).ch:=by rw[e]
   have e3:(pl0 a').hy=(un a).hy:=by rw[e]
   have e4:(pl0 a').aro=(un a).aro:=by rw[e]
   exact⟨a',rfl,e4,e1,e2,e3⟩
 ·intro i b x hb hx;have hxb:x=D4 (AQ q.atoms.length mate) b:=by rw[List.getElem?_map,hb]at hx;exact(Option.some.inj hx).symm
  have e:(l'.map tri)[i]? =some (b.a,b.b,(D4 (AQ q.atoms.length mate) b:Int)):=by rw[h3,List.getElem?_map,hb];rfl
  rw[List.getElem?_map]at e;cases hb':l'[i]? with
  |none=>rw[hb']at e;cases e
  |some b'=>rw[hb']at e;simp only[Option.map_some,Option.some.injEq,tri,Prod.mk.injEq]at e;exact⟨b',rfl,e.1,e.2.1,by rw[hxb];exact e.2.2⟩
 ·intro a' ha';obtain⟨i,hi,ei⟩:=List.getElem_of_mem ha';have e:(q.atoms.map un)[i]? =some (pl0 a'):=by rw[←h2,List.getElem?_map,List.getElem?_eq_getElem hi,ei];rfl
  rw[List.getElem?_map]at e;cases ha:q.atoms[i]? with
  |none=>rw[ha]at e;cases e
  |some a=>rw[ha]at e;simp only[Option.map_some,Option.some.injEq]at e;exact(congrArg Atm.aro e).symm
 ·intro b' hb';obtain⟨i,hi,ei⟩:=List.getElem_of_mem hb';have e:(q.bonds.map fun b=>(b.a,b.b,(D4 (AQ q.atoms.length mate) b:Int)))[i]? =some (tri b'):=by rw[←h3,List.getElem?_map,List.getElem?_eq_getElem hi,ei];rfl
  rw[List.getElem?_map]at e;cases hb:q.bonds[i]? with
  |none=>rw[hb]at e;cases e
  |some b=>rw[hb]at e;simp only[Option.map_some,Option.some.injEq,tri,Prod.mk.injEq]at e;have:=ord_le S (List.mem_of_getElem? hb);omega
end
theorem Cm {w:World}{a:Addr}{v:Value}(h:w.cell? a=some v)(o:Obj):(w.alloc o).cell? a=some v:=by rw[World.cell?_alloc_lt _ _ _ (World.block_lt_of_cell? w _ h)];exact h
structure C4 (X:Nat)(vs:List Value)(W:World):Prop where
 c:∀j v,vs[j]? =some v→W.cell? ⟨X,j,none⟩=some v
 lt:X<W.heap.size
theorem C4.on {X:Nat}{vs:List Value}{W W':World}(h:C4 X vs W)(hb:Below W.heap.size W W'):C4 X vs W':=⟨fun j v hj=>(hb.cell h.lt).trans (h.c j v hj),Nat.lt_of_lt_of_le h.lt hb.size⟩
theorem C4.grow {X:Nat}{vs:List Value}{W:World}(h:C4 X vs W)(o:Obj):C4 X vs (W.alloc o):=h.on ((Below.refl _ W).alloc (Nat.le_refl _) o)
theorem C4.drewN {X:Nat}{vs:List Value}{W:World}(h:C4 X vs W)(n:Nat):C4 X vs (W.drewN n):=⟨fun j v hj=>h.c j v hj,h.lt⟩
theorem C4.new (w:World)(vs:List Value)(t:TypeId):C4 w.heap.size vs (w.alloc (.cells vs.toArray t)):=⟨fun j v hj=>by rw[World.cell?_alloc_new];simpa using hj,by simp⟩
def Ec (v:Value)(l:List Nat)(W:World):Prop:=∃base,Ints W base v l
theorem Ec.on {v:Value}{l:List Nat}{W W':World}(h:Ec v l W)(hb:Below W.heap.size W W'):Ec v l W':=by obtain⟨b,h⟩:=h;exact⟨b,AL h fun k hk=>hb.block k (h.lt k hk).2⟩
theorem Ec.drewN {v:Value}{l:List Nat}{W:World}(h:Ec v l W)(n:Nat):Ec v l (W.drewN n):=by obtain⟨b,h⟩:=h;exact⟨b,AL h fun _ _=>rfl⟩
theorem Ec.cell {so:Option Addr}{n c:Nat}{l:List Nat}{W:World}(h:Ec (.slice so n c) l W){i x:Nat}(hi:l[i]? =some x):∃g,so=some ⟨g,0,none⟩∧W.cell? ⟨g,i,none⟩=some (.int .i64 (x:Int)):=by obtain⟨b,h⟩:=h;obtain⟨g,cap,e,_,_,hc⟩:=h.at hi;simp only[Value.slice.injEq]at e;exact⟨g,e.1,hc⟩
structure ShS (w:World)(X1 Y1 X2 Y2:Nat)(av bv ov tv dv xv zv yv:Value)(ats:List Atm)(l:List Bnd)(ats':List Atm)(l':List Bnd)(os:List Nat)(W:World):Prop where
 m:C4 X1 [av,bv] W
 r:C4 Y1 [.int .i64 1,ov,tv,dv] W
 x:C4 X2 [xv,zv] W
 y:C4 Y2 [.int .i64 1,yv] W
 rm:FK av bv ats l W
 rx:FK xv zv ats' l' W
 o:Ec ov os W
 d:Ec dv (List.range ats.length) W
 o2:Ec yv (l'.map fun b=>b.o.toNat) W
 below:Below w.heap.size w W
theorem ShS.on {w:World}{X1 Y1 X2 Y2:Nat}{av bv ov tv dv xv zv yv:Value}{ats:List Atm}{l:List Bnd}{ats':List Atm}{l':List Bnd}{os:List Nat}{W W':World}(h:ShS w X1 Y1 X2 Y2 av bv ov tv dv xv zv yv ats l ats' l' os W)(hb:Below W.heap.size W W'):ShS w X1 Y1 X2 Y2 av bv ov tv dv xv zv yv ats l ats' l' os W':=
 ⟨h.m.on hb,h.r.on hb,h.x.on hb,h.y.on hb,h.rm.on hb,h.rx.on hb,h.o.on hb,h.d.on hb,h.o2.on hb,h.below.trans (hb.mono h.below.size)⟩
theorem ShS.grow {w:World}{X1 Y1 X2 Y2:Nat}{av bv ov tv dv xv zv yv:Value}{ats:List Atm}{l:List Bnd}{ats':List Atm}{l':List Bnd}{os:List Nat}{W:World}(h:ShS w X1 Y1 X2 Y2 av bv ov tv dv xv zv yv ats l ats' l' os W)(o:Obj):ShS w X1 Y1 X2 Y2 av bv ov tv dv xv zv yv ats l ats' l' os (W.alloc o):=h.on ((Below.refl _ W).alloc (Nat.le_refl _) o)
theorem ShS.drewN {w:World}{X1 Y1 X2 Y2:Nat}{av bv ov tv dv xv zv yv:Value}{ats:List Atm}{l:List Bnd}{ats':List Atm}{l':List Bnd}{os:List Nat}{W:World}(h:ShS w X1 Y1 X2 Y2 av bv ov tv dv xv zv yv ats l ats' l' os W)(n:Nat):ShS w X1 Y1 X2 Y2 av bv ov tv dv xv zv yv ats l ats' l' os (W.drewN n):=
 ⟨h.m.drewN n,h.r.drewN n,h.x.drewN n,h.y.drewN n,h.rm.drewN n,h.rx.drewN n,h.o.drewN n,h.d.drewN n,h.o2.drewN n,below_drewN h.below n⟩
structure Lc (q:St):Prop where
 n0:0<q.atoms.length
 n24:q.atoms.length≤24
 l160:q.bonds.length≤160
 ends:∀b∈q.bonds,b.a<b.b∧b.b<q.atoms.length
 ords:∀b∈q.bonds,1≤b.o∧b.o≤4
 chs:∀a∈q.atoms,a.ch=0∨a.ch=1∨a.ch= -1
 hys:∀a∈q.atoms,0≤a.hy∧a.hy≤9
 aros:∀a∈q.atoms,a.aro=true→Aa a.el a.ch≠[]
theorem candB_is {q:St}{k:Nat}{a:Atm}(h:q.atoms[k]? =some a):candB q.bonds k a=Bj q k:=by unfold candB Bj fill;rw[h];rfl
def Ik (q:St)(k:Nat)(x:Nat):Bool:=decide (x<k)&&Bj q x
theorem told_set {q:St}{k:Nat}{b:Bool}(h:Bj q k=b):setAt (Ik q k) k b=Ik q (k+1):=by
 funext x;unfold setAt Ik;by_cases h1:x=k
 ·subst h1;simp[h]
 ·have:decide (x<k)=decide (x<k+1):=by
   by_cases h2:x<k
   ·simp[h2];omega
   ·simp[h2];omega
  simp[h1,this]
theorem told_all {q:St}{x:Nat}(h:x<q.atoms.length):Ik q q.atoms.length x=Bj q x:=by unfold Ik;simp[h]
structure CaS (w:World)(U:Nat)(av bv:Value)(n:Nat)(u:Nat→Bool)(W:World):Prop where
 c0:W.cell? ⟨w.heap.size,0,none⟩=some av
 c1:W.cell? ⟨w.heap.size,1,none⟩=some bv
 bls:Bls W U n u
 below:Below w.heap.size w W
theorem CaS.on {w:World}{U:Nat}{av bv:Value}{n:Nat}{u:Nat→Bool}{W W':World}(h:CaS w U av bv n u W)(hn:0<n)(hb:Below W.heap.size W W'):CaS w U av bv n u W':=
 ⟨(hb.cell (World.block_lt_of_cell? W _ h.c0)).trans h.c0,(hb.cell (World.block_lt_of_cell? W _ h.c1)).trans h.c1,h.bls.below hn hb,h.below.trans (hb.mono h.below.size)⟩
theorem CaS.set {w:World}{U:Nat}{av bv:Value}{n:Nat}{u:Nat→Bool}{W:World}(h:CaS w U av bv n u W)(hU:w.heap.size<U){k:Nat}(hk:k<n)(b:Bool):CaS w U av bv n (setAt u k b) (W.setCell ⟨U,k,none⟩ (.bool b)):=
 ⟨by rw[World.cell?_setCell_other _ _ _ _ (fun e=>by have:=congrArg Addr.block e;simp at this;omega)];exact h.c0,by rw[World.cell?_setCell_other _ _ _ _ (fun e=>by have:=congrArg Addr.block e;simp at this;omega)];exact h.c1,h.bls.set hk b,h.below.setCell (p:=⟨U,k,none⟩) (by simp only;omega) _⟩
structure CaOut (q:St)(w:World)(e:Ending)(w':World)(U:Nat)(eo:Option Addr)(ec:Nat):Prop where
 he:e=.returned (.tuple #[.slice (some ⟨U,0,none⟩) q.atoms.length q.atoms.length,.slice eo (AU q q.bonds).length ec])
 bls:Bls w' U q.atoms.length (Bj q)
 pr:NPr w' (.slice eo (AU q q.bonds).length ec) (AU q q.bonds)
 below:Below w.heap.size w w'
 lo:w.heap.size<U
def CaPost (q:St)(w:World)(e:Ending)(w':World):Prop:=∃U eo ec,CaOut q w e w' U eo ec
theorem MB (w:World){q:St}{ao:Option Addr}{ac:Nat}{bo:Option Addr}{bc:Nat}{base:Nat}(hA:w.ownsRow base 50 4 (.slice ao q.atoms.length ac) q.atoms.length (q.atoms.flatMap AV))(hB:w.ownsRow base 46 3 (.slice bo q.bonds.length bc) q.bonds.length (q.bonds.flatMap AZ))(ok:Lc q):
  Calls Tryz.prog 54 #[.agg #[.slice ao q.atoms.length ac,.slice bo q.bonds.length bc]] w (CaPost q w):=by
 obtain⟨b0,hb0,hbz0,hbz1,hbz2⟩:=info_parts Rf.Tryz.FC;obtain⟨i0,hi0,hz0,hz1,hz2⟩:=info_parts Tryz.Nl;have hn0:=ok.n0;have hn24:=ok.n24;have hl:=ok.l160;have HOK:Hid (Lc q):=ok;have HRA:Hid (∀W,Below w.heap.size w W→W.ownsRow base 50 4 (.slice ao q.atoms.length ac) q.atoms.length (q.atoms.flatMap AV)):=fun W hb=>AL hA fun k hk=>hb.block k (hA.lt k hk).2;have HRB:Hid (∀W,Below w.heap.size w W→W.ownsRow base 46 3 (.slice bo q.bonds.length bc) q.bonds.length (q.bonds.flatMap AZ)):=fun W hb=>AL hB fun k hk=>hb.block k (hB.lt k hk).2;have C0:=C4.new w [.slice ao q.atoms.length ac,.slice bo q.bonds.length bc] 39;have HC0:Hid (_):=C0;have x0:=C0.c 0 _ rfl;clear hA hB ok C0;go_enter Tryz.func54,Tryz.ntmps54
 go_wp2_with (at_make;go_must (refine wpList_make_full _ rfl _ _ 129 rfl (w.heap.size+1) 4 b0 (.bool false) 1 Tryz.underlying129 hb0 hbz0 hbz1 .i64 .i64 _ _ q.atoms.length rfl rfl rfl rfl ?c1 ?c2 ?c3 ?_))
 case c1=>rw[hbz2];omega
 case c2=>unfold maxLen;omega
 case c3=>simp
 intro w1 hown hgrow;have hb1:Below (w.heap.size+1) (w.alloc (.cells #[(.slice ao q.atoms.length ac),(.slice bo q.bonds.length bc)] 39)) w1:=(Below.refl _ _).grown hgrow (by simp) (by intro k hk;cases hk);have hb0':Below w.heap.size w w1:=((Below.refl _ w).alloc (Nat.le_refl _) _).trans (hb1.mono (by omega));have S0:Hid (CaS w (w.heap.size+1) (.slice ao q.atoms.length ac) (.slice bo q.bonds.length bc) q.atoms.length (Ik q 0) w1):=by
  refine⟨(hb1.cell (by simp)).trans (HC0.out.c 0 _ rfl),(hb1.cell (by simp)).trans (HC0.out.c 1 _ rfl),?_,hb0'⟩;have e:Ik q 0=fun _=>false:=by funext x;unfold Ik;simp
  rw[e];exact Bls.made hown
 clear hown hgrow hb1 hb0' HC0 x0;obtain⟨U,hU⟩:∃U,w.heap.size+1=U:=⟨_,rfl⟩
 rw[hU]at S0 ⊢;have hUw:w.heap.size<U:=by omega
 clear hU;have c0:=S0.out.c0;go_wp2_with fail;go_loopg [5] (q.atoms.length+1) (fun g v5 wr=>∃k:Nat,k≤q.atoms.length∧q.atoms.length-k<g∧v5=.int .i64 (k:Int)∧CaS w U (.slice ao q.atoms.length ac) (.slice bo q.bonds.length bc) q.atoms.length (Ik q k) wr)
 case atStart=>exact⟨0,by omega,by omega,rfl,S0.out⟩
 case round=>
  obtain⟨k,hk,hg,rfl,hS⟩:=hrel;clear S0 c0;have HS:Hid (CaS w U (.slice ao q.atoms.length ac) (.slice bo q.bonds.length bc) q.atoms.length (Ik q k) wr):=hS;have c0:=hS.c0;have c1:=hS.c1;clear hS;by_cases hlt:k<q.atoms.length
  ·have hlt':(k:Int)<(q.atoms.length:Int):=by omega
   obtain⟨a,ha⟩:∃a,q.atoms[k]? =some a:=⟨_,List.getElem?_eq_getElem hlt⟩
   have hm:=List.mem_of_getElem? ha;have RC:=Pm (HRA.out wr HS.out.below) (HRB.out wr HS.out.below) k a ha (by omega) HOK.out.ords (HOK.out.chs a hm) (HOK.out.hys a hm) (HOK.out.aros a hm);rw[candB_is ha]at RC;obtain⟨cb,hcb⟩:∃cb,Bj q k=cb:=⟨_,rfl⟩
   rw[hcb]at RC;have HCB:Hid (Bj q k=cb):=hcb;clear ha hm hcb;go_wp2_with fail;refine RC.mono ?_;rintro e w2 ⟨rfl,hb2⟩;have S2:=HS.out.on hn0 hb2;have S3:=S2.set hUw hlt cb;rw[told_set HCB.out]at S3;have HS3:Hid (_):=S3;have q0:=S2.bls.cell k hlt;have q1:=S2.bls.free k;clear RC hb2 S2 S3 HS;go_wp2_with fail;go_roundg (q.atoms.length-k)
   case measure=>omega
   case rel=>exact⟨k+1,by omega,by omega,by go_num,HS3.out⟩
  ·have hlt':¬(k:Int)<(q.atoms.length:Int):=by omega
   have HBM:Hid (Bls wr U q.atoms.length (Bj q)):=⟨fun x hx=>by have h:=HS.out.bls.cell x hx;rw[show k=q.atoms.length by omega,told_all hx]at h;exact h,HS.out.bls.free⟩
   have HUlt:Hid (U<wr.heap.size):=World.block_lt_of_cell? wr ⟨U,0,none⟩ (HBM.out.cell 0 hn0);have HXlt:Hid (w.heap.size<wr.heap.size):=World.block_lt_of_cell? wr _ c0;have HBwm:Hid (Below w.heap.size w wr):=HS.out.below;obtain⟨wm,hwm⟩:∃wm,wm=wr:=⟨_,rfl⟩
   subst hwm;go_wp2_with fail;go_loopg [6,7] (q.bonds.length+1) (fun g v6 v7 wr=>∃(i:Nat)(eo:Option Addr)(ec:Nat),i≤q.bonds.length∧q.bonds.length-i<g∧v7=.int .i64 (i:Int)∧v6=.slice eo (AU q (q.bonds.take i)).length ec∧Prs wr wm.heap.size v6 (AU q (q.bonds.take i))∧Below wm.heap.size wm wr)
   case atStart=>exact⟨0,none,0,by omega,by omega,rfl,rfl,Prs.nil _ _,Below.refl _ _⟩
   case round=>
    obtain⟨i,eo,ec,hi,hg2,rfl,rfl,hP,hbM⟩:=hrel;have HP:Hid (Prs wr wm.heap.size (.slice eo (AU q (q.bonds.take i)).length ec) (AU q (q.bonds.take i))):=hP;have HM:Hid (Below wm.heap.size wm wr):=hbM;have d1:wr.cell? ⟨w.heap.size,1,none⟩=some (.slice bo q.bonds.length bc):=(hbM.cell HXlt.out).trans c1;clear hP hbM;by_cases hjt:i<q.bonds.length
    ·have hjt':(i:Int)<(q.bonds.length:Int):=by omega
     obtain⟨b,hb⟩:∃b,q.bonds[i]? =some b:=⟨_,List.getElem?_eq_getElem hjt⟩
     have hends:=HOK.out.ends b (List.mem_of_getElem? hb);obtain⟨gb,kb',eb,hgb,e0,e1,e2⟩:=NH (HRB.out wr (HBwm.out.trans (HM.out.mono HBwm.out.size))) hb;simp only[Value.slice.injEq,true_and]at eb;obtain⟨rfl,rfl⟩:=eb;have HBI:Hid (q.bonds[i]? =some b):=hb;have BL:Bls (wr.alloc (.cells #[.int .i64 (b.a:Int),.int .i64 (b.b:Int),.int .i64 b.o] 46)) U q.atoms.length (Bj q):=(HBM.out.below hn0 HM.out).below hn0 ((Below.refl _ wr).alloc (Nat.le_refl _) _);have ua:=BL.cell b.a (by omega);have ub:=BL.cell b.b (by omega);have HPN:Hid (Prs (wr.alloc (.cells #[.int .i64 (b.a:Int),.int .i64 (b.b:Int),.int .i64 b.o] 46)) wm.heap.size (.slice eo (AU q (q.bonds.take i)).length ec) (AU q (q.bonds.take i))):=World.ownsRow.alloc HP.out (.cells #[.int .i64 (b.a:Int),.int .i64 (b.b:Int),.int .i64 b.o] 46);have HMN:Hid (Below wm.heap.size wm (wr.alloc (.cells #[.int .i64 (b.a:Int),.int .i64 (b.b:Int),.int .i64 b.o] 46))):=HM.out.alloc HM.out.size _;have hab1:(b.a:Int)<(q.atoms.length:Int):=by omega
     have hab2:(b.b:Int)<(q.atoms.length:Int):=by omega
     clear hb BL;by_cases t0:b.o=4
     ·have t0':(b.o==4)=true:=by simp[t0]
      clear t0;cases ta:Bj q b.a with
      |false=>
       rw[ta]at ua;have HED:Hid (AU q (q.bonds.take (i+1))=AU q (q.bonds.take i)):=F6 HBI.out (by unfold DC;rw[ta];simp);go_wp2_with fail;go_roundg (q.bonds.length-i)
       case measure=>omega
       case rel=>exact⟨i+1,eo,ec,by omega,by omega,by go_num,by rw[HED.out],by rw[HED.out];exact HPN.out,HMN.out⟩
      |true=>
       rw[ta]at ua;cases tb:Bj q b.b with
       |false=>
        rw[tb]at ub;have HED:Hid (AU q (q.bonds.take (i+1))=AU q (q.bonds.take i)):=F6 HBI.out (by unfold DC;rw[tb];simp);go_wp2_with fail;go_roundg (q.bonds.length-i)
        case measure=>omega
        case rel=>exact⟨i+1,eo,ec,by omega,by omega,by go_num,by rw[HED.out],by rw[HED.out];exact HPN.out,HMN.out⟩
       |true=>
        rw[tb]at ub;have HED:Hid (AU q (q.bonds.take (i+1))=AU q (q.bonds.take i)++[(b.a,b.b)]):=La HBI.out (by unfold DC;rw[t0',ta,tb];rfl);have hel:(AU q (q.bonds.take i)).length≤160:=by unfold AU;rw[List.length_map];exact Nat.le_trans (List.length_filter_le _ _) (by rw[List.length_take];omega)
        have HINA:Hid (∀ob,((wr.alloc (.cells #[.int .i64 (b.a:Int),.int .i64 (b.b:Int),.int .i64 b.o] 46)).alloc ob).ownsRow wm.heap.size 48 2 (.slice eo (AU q (q.bonds.take i)).length ec) (AU q (q.bonds.take i)).length (DD (AU q (q.bonds.take i)))):=fun ob=>World.ownsRow.alloc HPN.out ob;have HN1:Hid (∀t,∀j u,[Value.int .i64 (b.a:Int),.int .i64 (b.b:Int)][j]? =some u→((wr.alloc (.cells #[.int .i64 (b.a:Int),.int .i64 (b.b:Int),.int .i64 b.o] 46)).alloc (.cells #[.int .i64 (b.a:Int),.int .i64 (b.b:Int)] t)).cell? ((⟨(wr.alloc (.cells #[.int .i64 (b.a:Int),.int .i64 (b.b:Int),.int .i64 b.o] 46)).heap.size,0,none⟩:Addr).add j)=some u):=fun t=>cells2 (wr.alloc (.cells #[.int .i64 (b.a:Int),.int .i64 (b.b:Int),.int .i64 b.o] 46)) _ _ t;have hsz:(wr.alloc (.cells #[.int .i64 (b.a:Int),.int .i64 (b.b:Int),.int .i64 b.o] 46)).heap.size=wr.heap.size+1:=by simp
        rw[hsz]at HN1;clear hsz ta tb;go_wp2_with (at_builtin;go_must (refine Ad rfl (.tmp 58) (.tmp 64) 29 rfl wm.heap.size 48 i0 (.agg #[.int .i64 0,.int .i64 0]) 2 16 Tryz.underlying29 hi0 hz0 hz1 hz2 rfl (by decide) (.slice eo (AU q (q.bonds.take i)).length ec) (AU q (q.bonds.take i)).length (DD (AU q (q.bonds.take i))) rfl (by exact HINA.out _) ⟨wr.heap.size+1,0,none⟩ 1 1 [.int .i64 (b.a:Int),.int .i64 (b.b:Int)] rfl rfl (by exact HN1.out _) (by intro u hu;simp at hu;rcases hu with rfl|rfl<;>rfl) (by unfold maxLen;omega) (by omega) (by have:=HM.out.size;simp;omega) ?_));intro v' w3 ho hgr hkk;obtain⟨eo',ec',hv'⟩:=ownsRow_shape ho;subst hv';have e1':(AU q (q.bonds.take (i+1))).length=(AU q (q.bonds.take i)).length+1:=by rw[HED.out];simp
        have HP3:Hid (Prs w3 wm.heap.size (.slice eo' (AU q (q.bonds.take (i+1))).length ec') (AU q (q.bonds.take (i+1)))):=by unfold Hid Prs;rw[e1',HED.out,J5];exact ho
        have HM3:Hid (Below wm.heap.size wm w3):=(HMN.out.alloc HMN.out.size _).grown hgr (by have:=HM.out.size;simp;omega) (fun k hk=>(HP.out.lt k hk).1);have HE1:Hid (_):=e1';clear ho hgr hkk e1';go_wp2_with fail;go_roundg (q.bonds.length-i)
        case measure=>omega
        case rel=>exact⟨i+1,eo',ec',by omega,by omega,by go_num,by rw[HE1.out],by have:=HP3.out;rw[HE1.out]at this;exact this,HM3.out⟩
     ·have t0':(b.o==4)=false:=by simp[t0]
      have HED:Hid (AU q (q.bonds.take (i+1))=AU q (q.bonds.take i)):=F6 HBI.out (by unfold DC;rw[t0'];rfl);go_wp2_with fail;go_roundg (q.bonds.length-i)
      case measure=>omega
      case rel=>exact⟨i+1,eo,ec,by omega,by omega,by go_num,by rw[HED.out],by rw[HED.out];exact HPN.out,HMN.out⟩
    ·have hjt':¬(i:Int)<(q.bonds.length:Int):=by omega
     have HTK:Hid (q.bonds.take i=q.bonds):=List.take_of_length_le (by omega);rw[HTK.out]at HP;have HBF:Hid (Bls wr U q.atoms.length (Bj q)):=HBM.out.below hn0 HM.out;have HBE:Hid (Below w.heap.size w wr):=HBwm.out.trans (HM.out.mono HBwm.out.size);go_wp2_with fail;go_ret2
     exact⟨U,eo,ec,by rw[HTK.out];rfl,HBF.out,NPr.of HP.out,HBE.out,hUw⟩
def KlPost (q:St)(w:World)(e:Ending)(w':World):Prop:=∃b:Bool,e=.returned (.bool b)∧(b=true↔Jg q)∧Below w.heap.size w w'
theorem OW (w:World){q:St}{ao:Option Addr}{ac:Nat}{bo:Option Addr}{bc:Nat}{base pos:Nat}(hA:w.ownsRow base 50 4 (.slice ao q.atoms.length ac) q.atoms.length (q.atoms.flatMap AV))(hB:w.ownsRow base 46 3 (.slice bo q.bonds.length bc) q.bonds.length (q.bonds.flatMap AZ))(ok:Lc q)(en:En q.atoms.length q.bonds pos):
  Calls Tryz.prog 51 #[.agg #[.slice ao q.atoms.length ac,.slice bo q.bonds.length bc]] w (KlPost q w):=by
 have hb0:Below w.heap.size w (w.alloc (.cells #[.slice ao q.atoms.length ac,.slice bo q.bonds.length bc] 39)):=(Below.refl _ w).alloc (Nat.le_refl _) _;have CC:=MB (w.alloc (.cells #[.slice ao q.atoms.length ac,.slice bo q.bonds.length bc] 39)) (AL hA fun k hk=>hb0.block k (hA.lt k hk).2) (AL hB fun k hk=>hb0.block k (hB.lt k hk).2) ok;have HB0:Hid (_):=hb0;have HPF:Hid (Jg q↔KZ (AU q q.bonds) q.atoms.length (Bj q)):=perf_pf en;have hn0:=ok.n0;have hn24:=ok.n24;have hel:(AU q q.bonds).length≤1000000000000000:=by have:=ok.l160;unfold AU;rw[List.length_map];exact Nat.le_trans (List.length_filter_le _ _) (by omega)
 clear hA hB ok en hb0;go_enter Tryz.func51,Tryz.ntmps51
 go_wp2_with fail;refine CC.mono ?_;clear CC;rintro e w1 ⟨U,eo,ec,rfl,hbl,hpr,hb1,_⟩;have PC:=perfect_any hel q.atoms.length w1 U q.atoms.length q.atoms.length (Bj q) (.slice eo (AU q q.bonds).length ec) hbl hn0 hn24 hpr cnt_le;have HB1:Hid (Below w.heap.size w w1):=HB0.out.trans (hb1.mono HB0.out.size);clear hbl hpr hb1;go_wp2_with fail;refine PC.mono ?_;clear PC;rintro e w2 ⟨b,rfl,hbb,hb2⟩;have HB2:Hid (Below w.heap.size w w2):=HB1.out.trans (hb2.mono HB1.out.size);have HBB:Hid (b=true↔Jg q):=hbb.trans HPF.out.symm;clear hbb hb2;go_wp2_with fail;go_ret
 exact⟨b,rfl,HBB.out,HB2.out⟩
theorem QV.err {s:ByteArray}{w:World}{e:Ending}{w':World}{er:Int×Int}(h:QV s w e w')(hp:Bz.parse s=.error er):e=.returned (.tuple #[.agg #[.int .i64 0,.slice none 0 0,.string ⟨#[]⟩,.slice none 0 0,.slice none 0 0,.slice none 0 0],.int .i64 er.1,.int .i64 er.2])∧Below w.heap.size w w':=by
 rcases h with⟨er',h,he,_,hb⟩|⟨q,mate,f,gh,h⟩
 ·rw[hp]at h;cases h;exact⟨he,hb⟩
 ·have:=h.h;rw[hp]at this;cases this
structure KkBarred (q:St)(w:World)(e:Ending)(w':World)(mate:Nat→Option Nat)(po:Option Addr)(pc:Nat)(uo:Option Addr)(un uc:Nat):Prop where
 he:e=.returned (.tuple #[.agg #[.int .i64 2,.slice none 0 0,.string ⟨#[]⟩,.slice none 0 0,.slice po (AQ q.atoms.length mate).length pc,.slice uo un uc],.int .i64 0,.int .i64 0])
 hp:Prs w' w.heap.size (.slice po (AQ q.atoms.length mate).length pc) (AQ q.atoms.length mate)
 pr:∀x y,(x,y)∈AQ q.atoms.length mate→∃b∈q.bonds,b.o=4∧b.a=x∧b.b=y
 hb:Below w.heap.size w w'
structure KkSet (s:ByteArray)(q:St)(w:World)(e:Ending)(w':World)(mate:Nat→Option Nat)(f:Fo)(gh:Gh)(oo:Option Addr)(oc:Nat)(co:Option Addr)(cc:Nat):Prop where
 S:Set4 s q mate f gh
 he:e=.returned (.tuple #[.agg #[.int .i64 1,.slice oo q.bonds.length oc,.string ⟨(wrL s.data.toList q.bonds (Nw q mate)).toArray⟩,.slice co q.atoms.length cc,.slice none 0 0,.slice none 0 0],.int .i64 0,.int .i64 0])
 ho:Ints w' w.heap.size (.slice oo q.bonds.length oc) (Nw q mate)
 hc:Ints w' w.heap.size (.slice co q.atoms.length cc) (List.range q.atoms.length)
 hb:Below w.heap.size w w'
theorem QV.parts {s:ByteArray}{w:World}{e:Ending}{w':World}{ats:List Atm}{l:List Bnd}(h:QV s w e w')(hp:Bz.parse s=.ok (ats,l)):∃q:St,q.atoms=ats∧q.bonds=l∧(∀a∈q.atoms,0≤a.hy∧a.hy≤9)∧(∀b∈q.bonds,1≤b.o∧b.o≤4)∧((∃mate po pc uo un uc,KkBarred q w e w' mate po pc uo un uc)∨∃mate f gh oo oc co cc,KkSet s q w e w' mate f gh oo oc co cc):=by
 rcases h with⟨er,h,_⟩|⟨q,mate,f,gh,h⟩
 ·rw[hp]at h;cases h
 have hpq:=h.h;rw[hp]at hpq;simp only[Except.ok.injEq,Prod.mk.injEq]at hpq;refine⟨q,hpq.1.symm,hpq.2.symm,h.ho.hys,h.ho.ords,?_⟩;rcases h.case with⟨hlow,pv,uv,hK⟩|⟨hlow,ov,cv,hK⟩
 ·obtain⟨he,hpp,hu,hb4⟩:=hK;obtain⟨po,pc,rfl⟩:=ownsRow_shape hpp;obtain⟨uo,uc,rfl⟩:=hu.shape;refine .inl ⟨mate,po,pc,uo,_,uc,he,hpp,fun x y hxy=>?_,hb4⟩;obtain⟨b,hb,he,h1,h2⟩:=pair_bond h.en h.best hxy;unfold DC at he;simp only[Bool.and_eq_true,beq_iff_eq]at he;exact⟨b,hb,he.1,h1,h2⟩
 ·obtain⟨he,ho,hcv,_,hb4⟩:=hK;obtain⟨oo,oc,rfl⟩:=ho.shape;obtain⟨co,cc,rfl⟩:=hcv.shape;have e1:(Nw q mate).length=q.bonds.length:=List.length_map ..;have e2:(List.range q.atoms.length).length=q.atoms.length:=List.length_range;rw[e1]at ho he;rw[e2]at hcv he;exact .inr ⟨mate,f,gh,oo,oc,co,cc,⟨h.h,h.en,h.ho.atoms,h.ho.ords,h.best,hlow⟩,he,ho,hcv,hb4⟩
section
structure SoS (w:World)(X Y:Nat)(av bv:Value)(vs:List Value)(ats:List Atm)(l:List Bnd)(W:World):Prop where
 m:C4 X [av,bv] W
 r:C4 Y vs W
 rm:FK av bv ats l W
 below:Below w.heap.size w W
theorem SoS.on {w:World}{X Y:Nat}{av bv:Value}{vs:List Value}{ats:List Atm}{l:List Bnd}{W W':World}(h:SoS w X Y av bv vs ats l W)(hb:Below W.heap.size W W'):SoS w X Y av bv vs ats l W':=
 ⟨h.m.on hb,h.r.on hb,h.rm.on hb,h.below.trans (hb.mono h.below.size)⟩
theorem SoS.grow {w:World}{X Y:Nat}{av bv:Value}{vs:List Value}{ats:List Atm}{l:List Bnd}{W:World}(h:SoS w X Y av bv vs ats l W)(o:Obj):SoS w X Y av bv vs ats l (W.alloc o):=h.on ((Below.refl _ W).alloc (Nat.le_refl _) o)
theorem SoS.drewN {w:World}{X Y:Nat}{av bv:Value}{vs:List Value}{ats:List Atm}{l:List Bnd}{W:World}(h:SoS w X Y av bv vs ats l W)(n:Nat):SoS w X Y av bv vs ats l (W.drewN n):=
 ⟨h.m.drewN n,h.r.drewN n,h.rm.drewN n,below_drewN h.below n⟩
def PrsE (v:Value)(l:List (Nat×Nat))(W:World):Prop:=∃base,Prs W base v l
theorem PrsE.on {v:Value}{l:List (Nat×Nat)}{W W':World}(h:PrsE v l W)(hb:Below W.heap.size W W'):PrsE v l W':=by obtain⟨b,h⟩:=h;exact⟨b,AL h fun k hk=>hb.block k (h.lt k hk).2⟩
theorem PrsE.drewN {v:Value}{l:List (Nat×Nat)}{W:World}(h:PrsE v l W)(n:Nat):PrsE v l (W.drewN n):=by obtain⟨b,h⟩:=h;exact⟨b,AL h fun _ _=>rfl⟩
theorem PrsE.cell {so:Option Addr}{n c:Nat}{l:List (Nat×Nat)}{W:World}(h:PrsE (.slice so n c) l W){i x y:Nat}(hi:l[i]? =some (x,y)):∃g,so=some ⟨g,0,none⟩∧W.cell? ⟨g,i*2,none⟩=some (.int .i64 (x:Int))∧W.cell? ⟨g,i*2+1,none⟩=some (.int .i64 (y:Int)):=by obtain⟨b,h⟩:=h;have hil:=(List.getElem?_eq_some_iff.1 hi).1;obtain⟨g,cap',e,_,_,hc,_⟩:=Ap h (by omega);simp only[Value.slice.injEq]at e;obtain⟨h1,h2⟩:=N6 hi;exact⟨g,e.1,(hc _ (by omega)).trans h1,(hc _ (by omega)).trans h2⟩
end
theorem ord_is {s:ByteArray}{q:St}{mate:Nat→Option Nat}{f:Fo}{gh:Gh}(S:Set4 s q mate f gh){i:Nat}{b:Bnd}{x:Nat}(hb:q.bonds[i]? =some b)(hx:(Nw q mate)[i]? =some x):x≤3∧(b.o≠4→(x:Int)=b.o)∧(b.o=4→x=1∨x=2):=by
 have hm:=List.mem_of_getElem? hb;have h1:=ord_le S hm;have h2:=S.pos b hm;have e:x=D4 (AQ q.atoms.length mate) b:=by rw[List.getElem?_map,hb]at hx;exact(Option.some.inj hx).symm
 refine⟨by rw[e];exact h1.1,fun h=>?_,fun h=>?_⟩
 ·rw[e];unfold D4;rw[if_neg h];omega
 ·rw[e];unfold D4;rw[if_pos h];split<;>simp
theorem QL (t:List UInt8):(Cp.Dv t).length≤t.length:=by
 induction t with
 |nil=>exact Nat.le_refl 0
 |cons c t ih=>
  rw[Cp.GK,List.length_append,List.length_cons];have:(Cp.KW c).length≤1:=by unfold Cp.KW;split;exact Nat.zero_le _;split<;>exact Nat.le_refl _
  omega
end Go.Proofs.YtcabaecbmkgclaaGreatDoor.Kd
