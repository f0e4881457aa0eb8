import Derived.Test.YtcabaecbmkgclaaGreatDoorP29
set_option maxHeartbeats 1000000
set_option maxRecDepth 100000
namespace Go.Proofs.YtcabaecbmkgclaaGreatDoor.Mg
open Go.RowKit Mt
def rgCells (r:Nat→Nat→Bool):List Value:=(List.range 576).map fun j=>.bool (r (j / 24) (j%24))
theorem CY (r:Nat→Nat→Bool):(rgCells r).length=576:=by simp[rgCells]
theorem KN (r:Nat→Nat→Bool){j:Nat}(hj:j<576):(rgCells r)[j]? =some (.bool (r (j / 24) (j%24))):=by simp[rgCells,hj]
theorem Q7 (r:Nat→Nat→Bool){v x:Nat}(hv:v<24)(hx:x<24):(rgCells r)[v*24+x]? =some (.bool (r v x)):=by rw[KN r (by omega),show(v*24+x) / 24=v by omega,show(v*24+x)%24=x by omega]
theorem rgCells_one (r:Nat→Nat→Bool):(rgCells r).toArray.all (·.oneCell')=true:=all_oneCell_toArray (by intro v hv;obtain⟨_,_,rfl⟩:=List.mem_map.1 hv;rfl)
theorem rg_size (r:Nat→Nat→Bool):(rgCells r).toArray.size=576:=by simp[CY]
theorem Tryz.Ir:(Tryz.prog.info? 111).map (·.size)=some 576:=by kernel_rfl
theorem alloc_rings (w:World):(Instr.alloc 111 true (.tuple #[])).run Tryz.prog w=.ok (.pointer (some ⟨w.heap.size,0,none⟩)) (w.alloc (.cells (rgCells fun _ _=>false).toArray 111)):=by kernel_rfl
theorem rg_there (w:World)(r:Nat→Nat→Bool)(t:TypeId):(w.alloc (.cells (rgCells r).toArray t)).there w.heap.size 0 576:=by intro j hj;rw[Nat.zero_add];refine⟨?_,by simp⟩;rw[World.cell?_alloc_new];simp[CY,hj]
theorem rg_range (w:World)(r:Nat→Nat→Bool)(t:TypeId):(w.alloc (.cells (rgCells r).toArray t)).rangeAt w.heap.size 0 (rgCells r):=by intro j u hj;rw[Nat.zero_add,World.cell?_alloc_new];simpa using hj
theorem rg_stored {wx:World}{L:Nat}(r:Nat→Nat→Bool)(ht:wx.there L 0 576):(loadVar 111 ⟨L,0,none⟩).run Tryz.prog (wx.setCells L 0 (rgCells r))=.ok (.agg (rgCells r).toArray) (wx.setCells L 0 (rgCells r)):=
 run_loadVar_mid _ L 0 _ (rgCells r) _ (World.rangeAt_setCells_same wx L 0 (rgCells r) (by rw[CY];exact ht)) Tryz.underlying111 rfl (by rw[CY];exact Tryz.Ir)
structure Ob (A:Nat)(w wr:World)(cur:Nat→Nat→Bool):Prop where
 below:Below A w wr
 box:wr.rangeAt (A+1) 0 (rgCells cur)
 thr:wr.there (A+1) 0 576
 res:wr.there A 0 576
theorem Ob.start (w:World)(t:TypeId):Ob w.heap.size w ((w.alloc (.cells (rgCells fun _ _=>false).toArray t)).alloc (.cells (rgCells fun _ _=>false).toArray t)) (fun _ _=>false):=by
 have h1:(w.alloc (.cells (rgCells fun _ _=>false).toArray t)).heap.size=w.heap.size+1:=by simp
 refine⟨((Below.refl _ w).alloc (Nat.le_refl _) _).alloc (by omega) _,?_,?_,World.there_alloc (rg_there w _ t) _⟩
 ·rw[←h1];exact rg_range _ _ _
 ·rw[←h1];exact rg_there _ _ _
theorem Ob.set {A:Nat}{w wr:World}{i:Nat}(h:Ob A w wr (fun v x=>v==x&&decide (v<i)))(hi:i<24):Ob A w (wr.setCell ⟨A+1,i*24+i,none⟩ (.bool true)) (fun v x=>v==x&&decide (v<i+1)):=by
 refine⟨h.below.setCell (p:=⟨A+1,i*24+i,none⟩) (by show A≤A+1;omega) _,?_,World.there_setCells h.thr (A+1) (i*24+i) [.bool true],World.there_setCells h.res (A+1) (i*24+i) [.bool true]⟩;intro j v hj;rw[Nat.zero_add];have hj5:j<576:=by have:=(List.getElem?_eq_some_iff.1 hj).1;rwa[CY]at this
 rw[KN _ hj5]at hj;cases hj;by_cases e:j=i*24+i
 ·subst e;have:=(h.thr (i*24+i) (by omega)).1;rw[Nat.zero_add]at this;rw[World.cell?_setCell_same' _ _ _ this,show(i*24+i) / 24=i by omega,show(i*24+i)%24=i by omega];simp
 ·rw[World.cell?_setCell_other (w:=wr) (a:=⟨A+1,i*24+i,none⟩) (b:=⟨A+1,j,none⟩) (v:=.bool true) (by intro e';injection e' with _ e';exact e e'.symm)];have:=h.box j _ (KN _ hj5);rw[Nat.zero_add]at this;rw[this];by_cases k:j / 24=j%24
  ·rw[←k,J4 (show j / 24≠i by omega)]
  ·have e0:(j / 24==j%24)=false:=by simpa using k
   rw[e0];simp
theorem Ob.cell {A:Nat}{w wr:World}{cur:Nat→Nat→Bool}(h:Ob A w wr cur){i:Nat}(hi:i<24):wr.cell? ⟨A+1,i*24+i,none⟩=some (.bool (cur i i))∧wr.frozen? ⟨A+1,i*24+i,none⟩=false:=by have:=h.box (i*24+i) _ (Q7 cur hi hi);have t:=(h.thr (i*24+i) (by omega)).2;rw[Nat.zero_add]at this t;exact⟨this,t⟩
theorem Q8 (w:World):
  Calls Tryz.prog 62 #[] w fun e w'=>e=.returned (.agg (rgCells fun v x=>v==x).toArray)∧Below w.heap.size w w':=by
 have HST:Hid (Ob w.heap.size w ((w.alloc (.cells (rgCells fun _ _=>false).toArray 111)).alloc (.cells (rgCells fun _ _=>false).toArray 111)) (fun _ _=>false)):=Ob.start w _;go_enter Tryz.func62,Tryz.ntmps62
 go_upto_region 2 with(refine Az rfl 111 rfl _ _ (alloc_rings _) ?_;simp only[Act.put,List.setIfInBounds_toArray,List.set_cons_zero,List.set_cons_succ])
 have e1:(w.alloc (.cells (rgCells fun _ _=>false).toArray 111)).heap.size=w.heap.size+1:=by simp
 rw[e1];clear e1;generalize World.alloc _ _=w2 at HST ⊢;go_wp2_with fail;go_loopg [3] 26 (fun k vi wr=>∃i:Nat,i≤24∧25-i≤k∧vi=.int .i64 i∧Ob w.heap.size w wr (fun v x=>v==x&&decide (v<i)))
 case atStart=>
  refine⟨0,by omega,by omega,rfl,?_⟩;have e:(fun v x:Nat=>v==x&&decide (v<0))=fun _ _=>false:=by funext v x;simp
  rw[e];exact HST.out
 case round=>
  clear HST;obtain⟨i,hi,hk,rfl,hat⟩:=hrel;have HAT:Hid (Ob w.heap.size w wr (fun v x=>v==x&&decide (v<i))):=hat;clear hat;by_cases hlt:i<24
  ·have hlt':(i:Int)<(24:Int):=by omega
   obtain⟨ci,fi⟩:=HAT.out.cell hlt;have HAN:=HAT.out.set hlt;have HAN':Hid (Ob w.heap.size w (wr.setCell ⟨w.heap.size+1,i*24+i,none⟩ (.bool true)) (fun v x=>v==x&&decide (v<i+1))):=HAN;clear HAN;go_wp2_with fail;go_roundg (25-(i+1))
   case measure=>omega
   case rel=>exact⟨i+1,by omega,Nat.le_refl _,by go_num,HAN'.out⟩
  ·have hlt':¬(i:Int)<(24:Int):=by omega
   have HE:Hid (rgCells (fun v x=>v==x&&decide (v<i))=rgCells (fun v x=>v==x)):=List.map_congr_left fun j hj=>by have:=List.mem_range.1 hj;simp[show j / 24<i by omega]
   have HBX:Hid (wr.rangeAt (w.heap.size+1) 0 (rgCells (fun v x=>v==x))):=by have:=HAT.out.box;rw[HE.out]at this;exact this
   go_wp2_with (first|(refine wpList_load_mid rfl 111 (.tmp 1) rfl (w.heap.size+1) 0 (by simp[Act.eval]) (rgCells (fun v x=>v==x)) _ HBX.out Tryz.underlying111 rfl (by rw[Tryz.Ir,CY]) ?_;simp only[Act.put,List.setIfInBounds_toArray,List.set_cons_zero,List.set_cons_succ])|(refine wpList_store_mid rfl 111 (.tmp 0) (.tmp 11) rfl w.heap.size 0 (rgCells (fun v x=>v==x)).toArray (by simp[Act.eval]) (by rfl) (by rw[rg_size];exact HAT.out.res) (by rw[rg_size];exact Tryz.Ir) (rgCells_one _) ?_;simp only[Act.put]));have HLD:=rg_stored (fun v x=>v==x) HAT.out.res;refine bodyPost_ret (v:=.agg (rgCells (fun v x=>v==x)).toArray) ?_ rfl ⟨rfl,BV (Nat.le_refl _) _ _ _ HAT.out.below⟩;simp[results,Tryz.results62,asAddr,HLD]
def BK (nr:Nat→Nat)(n:Nat)(mt:Nat→Int)(r:Nat→Nat→Bool):List Value:=AX nr n mt++(rgCells r++(List.replicate 24 (Value.int .i64 0)++(List.replicate 48 (Value.bool false)++[Value.slice none 0 0])))
theorem Tryz.GH:(Tryz.prog.info? 113).map (·.size)=some 698:=by kernel_rfl
theorem KO (nr:Nat→Nat)(n:Nat)(mt:Nat→Int)(r:Nat→Nat→Bool):(BK nr n mt r).length=698:=by simp[BK,BJ,CY]
theorem build_fo (w:World)(nr:Nat→Nat)(n:Nat)(mt:Nat→Int)(r:Nat→Nat→Bool):(Instr.build 113 #[(0,.agg (AX nr n mt).toArray),(1,.agg (rgCells r).toArray)]).run Tryz.prog w=.ok (.agg (BK nr n mt r).toArray) w:=by kernel_rfl
theorem Q9 (w:World):(Instr.alloc 113 true (.tuple #[])).run Tryz.prog w=.ok (.pointer (some ⟨w.heap.size,0,none⟩)) (w.alloc (.cells (BK (fun _=>0) 0 (fun _=>0) fun _ _=>false).toArray 113)):=by kernel_rfl
def QA (r:Nat→Nat→Bool):Fo:=⟨r,fun _=>0,fun _=>false,fun _=>false,[]⟩
section
variable {nr:Nat→Nat}{n:Nat}{mt:Nat→Int}{r:Nat→Nat→Bool}
theorem KP {j:Nat}(hj:j<49):(BK nr n mt r)[j]? =(AX nr n mt)[j]? :=by unfold BK;rw[List.getElem?_append_left (by rw[BJ];exact hj)]
theorem foCells_ring {v x:Nat}(hv:v<24)(hx:x<24):(BK nr n mt r)[49+v*24+x]? =some (.bool (r v x)):=by unfold BK;rw[List.getElem?_append_right (by rw[BJ];omega),BJ,List.getElem?_append_left (by rw[CY];omega),show 49+v*24+x-49=v*24+x by omega,Q7 r hv hx]
theorem foCells_next {k:Nat}(hk:k<24):(BK nr n mt r)[625+k]? =some (.int .i64 0):=by unfold BK;rw[List.getElem?_append_right (by rw[BJ];omega),BJ,List.getElem?_append_right (by rw[CY];omega),CY,List.getElem?_append_left (by rw[List.length_replicate];omega)];exact List.getElem?_replicate_of_lt (by omega)
theorem LV {k:Nat}(hk:k<48):(BK nr n mt r)[649+k]? =some (.bool false):=by unfold BK;rw[List.getElem?_append_right (by rw[BJ];omega),BJ,List.getElem?_append_right (by rw[CY];omega),CY,List.getElem?_append_right (by rw[List.length_replicate];omega),List.length_replicate,List.getElem?_append_left (by rw[List.length_replicate];omega)];exact List.getElem?_replicate_of_lt (by omega)
theorem LW:(BK nr n mt r)[697]? =some (.slice none 0 0):=by unfold BK;rw[List.getElem?_append_right (by rw[BJ];omega),BJ,List.getElem?_append_right (by rw[CY];omega),CY,List.getElem?_append_right (by simp),List.getElem?_append_right (by simp)];simp
theorem FAt.bare {w:World}{F:Nat}{g:Gr}{mate:Nat→Option Nat}(h:w.rangeAt F 0 (BK nr n mt r))(hf:∀i,w.frozen? ⟨F,i,none⟩=false)
  (hb:∀k,k<24→nr k<4294967296∧∀j,j<24→(nr k).testBit j=g.adj k j)(hn:n=g.n)(hm:∀k,k<24→mt k=mi (mate k)):FAt w F g mate (QA r):=by
 have c:∀j u,(BK nr n mt r)[j]? =some u→w.cell? ⟨F,j,none⟩=some u:=fun j u hu=>by have:=h j u hu;rwa[Nat.zero_add]at this
 refine⟨fun k hk=>⟨nr k,c k _ (by rw[KP (by omega),FD _ _ _ hk]),(hb k hk).1,(hb k hk).2⟩,by rw[←hn];exact c 24 _ (by rw[KP (by omega),GG]),fun k hk=>by rw[←hm k hk];exact c _ _ (by rw[KP (by omega),Dl _ _ _ hk]),
  fun v x hv hx=>c _ _ (foCells_ring hv hx),fun k hk=>c _ _ (foCells_next hk),fun k hk=>c _ _ (LV (by omega)),fun k hk=>?_,⟨_,c _ _ LW,Ints.nil _ _,by simp[Value.ownBlock]⟩,hf⟩
 have:=c (649+(24+k)) _ (LV (by omega));rwa[show 649+(24+k)=673+k by omega]at this
end
theorem Ih {b k:Nat}(hk:k≠b):∀(vs:List Value)(o:Nat)(w:World),(w.setCells b o vs).heap[k]? =w.heap[k]?
 |[],_,_=>rfl
 |v::vs,o,w=>by rw[World.setCells];refine(Ih hk vs _ _).trans ?_;exact Below.heap_setCell w ⟨b,o,none⟩ v k hk
theorem QB (b:Nat):∀(vs:List Value)(o:Nat)(w:World),(w.setCells b o vs).heap.size=w.heap.size
 |[],_,_=>rfl
 |v::vs,o,w=>by rw[World.setCells,QB b vs];simp
def Dk (mate:Nat→Option Nat)(c:Nat):Fo:=
 ⟨fun v x=>v==x,fun _=>0,fun v=>decide (v<c)&&(mate v).isNone,fun _=>false,(List.range c).filter fun v=>(mate v).isNone⟩
theorem rootsTo_zero (mate:Nat→Option Nat):Dk mate 0=QA fun v x=>v==x:=by unfold Dk QA;simp
theorem rootsTo_no {mate:Nat→Option Nat}{c:Nat}(h:(mate c).isNone=false):Dk mate (c+1)=Dk mate c:=by
 unfold Dk;rw[L6 (p:=fun v=>(mate v).isNone) h];congr 1;funext v;by_cases e:v=c
 ·subst e;simp[h]
 ·congr 1;simp;omega
theorem rootsTo_yes {mate:Nat→Option Nat}{c:Nat}(h:mate c=none):{Dk mate c with outer:=setAt (Dk mate c).outer c true,queue:=(Dk mate c).queue++[c]}=Dk mate (c+1):=by
 have e1:setAt (Dk mate c).outer c true=(Dk mate (c+1)).outer:=by
  funext v;simp only[setAt,Dk];by_cases e:v=c
  ·subst e;simp[h]
  ·rw[if_neg e];congr 1;simp;omega
 have e2:(Dk mate c).queue++[c]=(Dk mate (c+1)).queue:=(Lt (p:=fun v=>(mate v).isNone) (by rw[h];rfl)).symm;rw[e1,e2];rfl
theorem rootsTo_len (mate:Nat→Option Nat)(c:Nat):(Dk mate c).queue.length≤c:=G9 _ c
section
variable {w w' wr:World}{B F:Nat}{g:Gr}{mate:Nat→Option Nat}{f f':Fo}
theorem FAt.congr (h:FAt w B g mate f)(hr:∀v x,v<24→x<24→f'.ring v x=f.ring v x)(hn:∀k,k<24→f'.next k=f.next k)(ho:∀k,k<24→f'.outer k=f.outer k)(hi:∀k,k<24→f'.inner k=f.inner k)(hq:f'.queue=f.queue):FAt w B g mate f':=
 ⟨h.near,h.n,h.mate,fun v x hv hx=>by rw[hr v x hv hx];exact h.ring v x hv hx,fun k hk=>by rw[hn k hk];exact h.next k hk,fun k hk=>by rw[ho k hk];exact h.outer k hk,fun k hk=>by rw[hi k hk];exact h.inner k hk,by rw[hq];exact h.queue,h.free⟩
theorem FAt.GY (h:FAt w F g mate (Dk mate g.n)):FAt w F g mate (GY g mate):=
 h.congr (fun v x hv _=>by simp[Mt.GY,Dk,hv]) (fun _ _=>rfl) (fun _ _=>rfl) (fun _ _=>rfl) rfl
theorem FAt.cells (h:FAt w F g mate f)(j:Nat)(hj:j<698):∃v,w.cell? ⟨F,j,none⟩=some v∧v.oneCell'=true:=by
 by_cases h1:j<24
 ·obtain⟨m,hm,_⟩:=h.near j h1;exact⟨_,hm,rfl⟩
 by_cases h2:j=24
 ·subst h2;exact⟨_,h.n,rfl⟩
 by_cases h3:j<49
 ·obtain⟨q,rfl⟩:∃q,j=25+q:=⟨j-25,by omega⟩
  exact⟨_,h.mate q (by omega),rfl⟩
 by_cases h4:j<625
 ·obtain⟨q,rfl⟩:∃q,j=49+q:=⟨j-49,by omega⟩
  have:=h.ring (q / 24) (q%24) (by omega) (by omega);rw[show 49+q / 24*24+q%24=49+q by omega]at this;exact⟨_,this,rfl⟩
 by_cases h5:j<649
 ·obtain⟨q,rfl⟩:∃q,j=625+q:=⟨j-625,by omega⟩
  exact⟨_,h.next q (by omega),rfl⟩
 by_cases h6:j<673
 ·obtain⟨q,rfl⟩:∃q,j=649+q:=⟨j-649,by omega⟩
  exact⟨_,h.outer q (by omega),rfl⟩
 by_cases h7:j<697
 ·obtain⟨q,rfl⟩:∃q,j=673+q:=⟨j-673,by omega⟩
  exact⟨_,h.inner q (by omega),rfl⟩
 obtain rfl:j=697:=by omega
 obtain⟨v,hv,hI,_⟩:=h.queue;obtain⟨so,sc,rfl⟩:=hI.shape;exact⟨_,hv,rfl⟩
def Bv (w:World)(F n:Nat):List Value:=(List.range n).map fun j=>(w.cell? ⟨F,j,none⟩).getD (.bool false)
theorem Du (w:World)(F n:Nat):(Bv w F n).length=n:=by simp[Bv]
theorem FAt.Oe (h:FAt w F g mate f){j:Nat}(hj:j<698):(Bv w F 698)[j]? =w.cell? ⟨F,j,none⟩:=by obtain⟨v,hv,_⟩:=h.cells j hj;unfold Bv;simp[hj,hv]
theorem FAt.range (h:FAt w F g mate f):w.rangeAt F 0 (Bv w F 698):=by intro j v hj;have hl:=(List.getElem?_eq_some_iff.1 hj).1;rw[Du]at hl;rw[h.Oe hl]at hj;rw[Nat.zero_add];exact hj
theorem FAt.cellsOne (h:FAt w F g mate f):(Bv w F 698).toArray.all (·.oneCell')=true:=all_oneCell_toArray (by intro v hv;obtain⟨j,hj⟩:=List.mem_iff_getElem?.1 hv;have hl:=(List.getElem?_eq_some_iff.1 hj).1;rw[Du]at hl;obtain⟨u,hu,h1⟩:=h.cells j hl;rw[h.Oe hl,hu]at hj;cases hj;exact h1)
theorem FAt.moved (h:FAt w F g mate f){F':Nat}(hr:w'.rangeAt F' 0 (Bv w F 698))(hz:∀i,w'.frozen? ⟨F',i,none⟩=false)(hq:∀v k,w.cell? ⟨F,697,none⟩=some v→v.ownBlock=some k→k≠F'∧w'.heap[k]? =w.heap[k]?):FAt w' F' g mate f:=by
 have c:∀j,j<698→w'.cell? ⟨F',j,none⟩=w.cell? ⟨F,j,none⟩:=fun j hj=>by obtain⟨v,hv,_⟩:=h.cells j hj;have:=hr j v (by rw[h.Oe hj,hv]);rw[Nat.zero_add]at this;rw[this,hv]
 obtain⟨v,hv,hI,hne⟩:=h.queue;refine⟨fun k hk=>by rw[c _ (by omega)];exact h.near k hk,by rw[c _ (by omega)];exact h.n,fun k hk=>by rw[c _ (by omega)];exact h.mate k hk,fun v x hv hx=>by rw[c _ (by omega)];exact h.ring v x hv hx,fun k hk=>by rw[c _ (by omega)];exact h.next k hk,fun k hk=>by rw[c _ (by omega)];exact h.outer k hk,
  fun k hk=>by rw[c _ (by omega)];exact h.inner k hk,⟨v,by rw[c _ (by omega)];exact hv,AL hI fun k hk=>(hq v k hv hk).2,fun e=>(hq v F' hv e).1 rfl⟩,hz⟩
end
theorem KQ (w:World)(nr:Nat→Nat)(n:Nat)(mt:Nat→Int)(r:Nat→Nat→Bool)(t:TypeId):(w.alloc (.cells (BK nr n mt r).toArray t)).there w.heap.size 0 698:=by intro j hj;rw[Nat.zero_add];refine⟨?_,by simp⟩;rw[World.cell?_alloc_new];simp[KO,hj]
theorem Og (nr:Nat→Nat)(n:Nat)(mt:Nat→Int)(r:Nat→Nat→Bool):(BK nr n mt r).toArray.size=698:=by simp[KO]
theorem mat_range (w:World)(nr:Nat→Nat)(n:Nat)(mt:Nat→Int)(t:TypeId):(w.alloc (.cells (AX nr n mt).toArray t)).rangeAt w.heap.size 0 (AX nr n mt):=by intro j u hj;rw[Nat.zero_add,World.cell?_alloc_new];simpa using hj
structure PlAt (A:Nat)(w wr:World)(nr:Nat→Nat)(n:Nat)(mt:Nat→Int):Prop where
 below:Below A w wr
 box:wr.rangeAt A 0 (AX nr n mt)
 res:wr.there (A+1) 0 698
 lt:A+1<wr.heap.size
theorem PlAt.on {A:Nat}{w wr w':World}{nr:Nat→Nat}{n:Nat}{mt:Nat→Int}(h:PlAt A w wr nr n mt)(hA:A=w.heap.size)(hb:Below wr.heap.size wr w'):PlAt A w w' nr n mt:=by have hl:=h.lt;have hs:=h.below.size;refine⟨h.below.trans (hb.mono (by omega)),fun j v hj=>(hb.cell (p:=⟨A,0+j,none⟩) (by show A<_;omega)).trans (h.box j v hj),fun j hj=>⟨by rw[hb.cell (p:=⟨A+1,0+j,none⟩) hl];exact(h.res j hj).1,(hb.frozen (p:=⟨A+1,0+j,none⟩) hl).trans (h.res j hj).2⟩,by have:=hb.size;omega⟩
theorem PlAt.set {A F:Nat}{w wr:World}{nr:Nat→Nat}{n:Nat}{mt:Nat→Int}(h:PlAt A w wr nr n mt)(hF:A+2≤F)(vs:List Value):PlAt A w (wr.setCells F 0 vs) nr n mt:=by have hs:=(BV (Nat.zero_le F) vs 0 wr (Below.refl 0 wr)).size;have hl:=h.lt;exact⟨BV (by omega) _ _ _ h.below,World.rangeAt_setCells_apart h.box _ _ _ (.inl (by omega)),World.there_setCells h.res _ _ _,by omega⟩
theorem OI (nr:Nat→Nat)(n:Nat)(mt:Nat→Int)(r:Nat→Nat→Bool):(BK nr n mt r).toArray.all (·.oneCell')=true:=all_oneCell_toArray (by intro v hv;unfold BK AX AM Hf rgCells at hv;simp only[List.mem_append,List.mem_map,List.mem_cons,List.mem_replicate]at hv;rcases hv with(⟨_,_,rfl⟩|rfl|⟨_,_,rfl⟩)|⟨_,_,rfl⟩|⟨_,rfl⟩|⟨_,rfl⟩|rfl|hv;all_goals first|rfl|cases hv)
theorem fo_end {wz:World}{F:Nat}(hth:wz.there F 0 698)(hfr:∀i,wz.frozen? ⟨F,i,none⟩=false)(nr:Nat→Nat)(n:Nat)(mt:Nat→Int)(r:Nat→Nat→Bool):
  (wz.setCells F 0 (BK nr n mt r)).rangeAt F 0 (BK nr n mt r)∧∀i,(wz.setCells F 0 (BK nr n mt r)).frozen? ⟨F,i,none⟩=false:=
 ⟨World.rangeAt_setCells_same wz F 0 _ (by rw[KO];exact hth),fun i=>by rw[Eb];exact hfr i⟩
theorem OJ (d:Option Tmp)(t:TypeId)(pos:String)(af:Array Edge)(a:Act)(w:World)(K:Act→World→Prop)(Q:Exit→Act→World→Prop)
  (hK:K (a.put d (.pointer (some ⟨w.heap.size,0,none⟩))) (w.alloc (.cells (BK (fun _=>0) 0 (fun _=>0) fun _ _=>false).toArray 113))):Oper.wp Tryz.prog ⟨d,.alloc 113,t,pos,af,none⟩ a w K Q:=by
 unfold Oper.wp execOp;simp only[Sem.run_bind,Sem.run_pure,Q9,Result.andThen_ok];exact hK
theorem bare_mine {w:World}{F:Nat}{nr:Nat→Nat}{n:Nat}{mt:Nat→Int}{r:Nat→Nat→Bool}(h:w.rangeAt F 0 (BK nr n mt r))(k:Nat)(hk:CS w F k):k=F:=by
 rcases hk with rfl|⟨v,hv,hk⟩
 ·rfl
 ·have:=h 697 _ LW;rw[Nat.zero_add]at this;rw[this]at hv;cases hv;simp[Value.ownBlock]at hk
structure Me (A F:Nat)(w wr:World)(g:Gr)(mate:Nat→Option Nat)(nr:Nat→Nat)(n:Nat)(mt:Nat→Int)(c:Nat):Prop where
 fo:FAt wr F g mate (Dk mate c)
 pl:PlAt A w wr nr n mt
 mine:∀k,CS wr F k→A+2≤k
theorem Me.fr {A F:Nat}{w wr w':World}{g:Gr}{mate:Nat→Option Nat}{nr:Nat→Nat}{n:Nat}{mt:Nat→Int}{c c':Nat}(h:Me A F w wr g mate nr n mt c)(hA:A=w.heap.size)(hf:FFr F wr w')(ho:FAt w' F g mate (Dk mate c')):Me A F w w' g mate nr n mt c':=by
 have hl:=h.pl.lt;have hs:=h.pl.below.size;have no:∀k,k<A+2→¬CS wr F k:=fun k hk hm=>by have:=h.mine k hm;omega
 have b:∀k,k<A+2→w'.heap[k]? =wr.heap[k]? :=fun k hk=>hf.block k (by omega) (no k hk);refine⟨ho,⟨⟨hf.os.trans h.pl.below.os,hf.tape.trans h.pl.below.tape,hf.output.trans h.pl.below.output,Nat.le_trans h.pl.below.size hf.size,fun k hk=>(b k (by omega)).trans (h.pl.below.block k hk)⟩,fun j v hj=>(World.cell?_of_block (a:=⟨A,0+j,none⟩) (b A (by omega))).trans (h.pl.box j v hj),
  fun j hj=>⟨by rw[World.cell?_of_block (a:=⟨A+1,0+j,none⟩) (b (A+1) (by omega))];exact(h.pl.res j hj).1,(World.frozen?_of_block (a:=⟨A+1,0+j,none⟩) (b (A+1) (by omega))).trans (h.pl.res j hj).2⟩,by have:=hf.size;omega⟩,fun k hk=>?_⟩
 by_cases hw:k<wr.heap.size
 ·exact h.mine k (hf.mine k hw hk)
 ·omega
theorem Me.cell {A F:Nat}{w wr:World}{g:Gr}{mate:Nat→Option Nat}{nr:Nat→Nat}{n:Nat}{mt:Nat→Int}{c:Nat}(h:Me A F w wr g mate nr n mt c){i:Nat}(hi:i<24):wr.cell? ⟨A,25+i,none⟩=some (.int .i64 (mt i)):=by have:=h.pl.box _ _ (Dl nr n mt hi);rwa[Nat.zero_add]at this
theorem Me.cellN {A F:Nat}{w wr:World}{g:Gr}{mate:Nat→Option Nat}{nr:Nat→Nat}{n:Nat}{mt:Nat→Int}{c:Nat}(h:Me A F w wr g mate nr n mt c):wr.cell? ⟨A,24,none⟩=some (.int .i64 (n:Int)):=by have:=h.pl.box _ _ (GG nr n mt);rwa[Nat.zero_add]at this
def PlIs (w:World)(g:Gr)(mate:Nat→Option Nat)(e:Ending)(w':World):Prop:=
 ∃cs:List Value,e=.returned (.agg cs.toArray)∧cs.length=698∧cs.toArray.all (·.oneCell')=true∧Below w.heap.size w w'∧
  ∀wx F,wx.rangeAt F 0 cs→(∀i,wx.frozen? ⟨F,i,none⟩=false)→(F<w.heap.size∨w'.heap.size≤F)→(∀k,w.heap.size≤k→k<w'.heap.size→wx.heap[k]? =w'.heap[k]?)→
   FAt wx F g mate (GY g mate)∧∀k,CS wx F k→k=F∨(w.heap.size≤k∧k<w'.heap.size)
theorem Me.done {F:Nat}{w wr:World}{g:Gr}{mate:Nat→Option Nat}{nr:Nat→Nat}{mt:Nat→Int}(h:Me w.heap.size F w wr g mate nr g.n mt g.n):PlIs w g mate (.returned (.agg (Bv wr F 698).toArray)) (wr.setCells (w.heap.size+1) 0 (Bv wr F 698)):=by
 have hP:=h.fo.GY;have hs:(wr.setCells (w.heap.size+1) 0 (Bv wr F 698)).heap.size=wr.heap.size:=QB _ _ _ _;refine⟨_,rfl,Du _ _ _,h.fo.cellsOne,BV (by omega) _ _ _ h.pl.below,fun wx F' hr hz hF' hk=>?_⟩;have row:∀v k,wr.cell? ⟨F,697,none⟩=some v→v.ownBlock=some k→w.heap.size+2≤k∧k<wr.heap.size:=fun v k hv hk=>⟨h.mine k (.inr ⟨v,hv,hk⟩),(h.fo.mine (.inr ⟨v,hv,hk⟩)).2⟩
 rw[hs]at hF';have hq:∀v k,wr.cell? ⟨F,697,none⟩=some v→v.ownBlock=some k→k≠F'∧wx.heap[k]? =wr.heap[k]? :=fun v k hv hkb=>by obtain⟨r1,r2⟩:=row v k hv hkb;refine⟨by omega,?_⟩;rw[hk k (by omega) (by rw[hs];exact r2)];exact Ih (by omega) _ _ _
 refine⟨hP.moved hr hz hq,fun k hm=>?_⟩;rcases hm with rfl|⟨v,hv,hkb⟩
 ·exact .inl rfl
 ·obtain⟨u,hu,_⟩:=h.fo.cells 697 (by omega);have:=hr 697 u (by rw[h.fo.Oe (by omega),hu]);rw[Nat.zero_add]at this;rw[this]at hv;cases hv;obtain⟨r1,r2⟩:=row _ k hu hkb;exact .inr ⟨by omega,by rw[hs];exact r2⟩
theorem plant_any (w:World){nr:Nat→Nat}{n:Nat}{mt:Nat→Int}{g:Gr}{mate:Nat→Option Nat}(hb:∀k,k<24→nr k<4294967296∧∀j,j<24→(nr k).testBit j=g.adj k j)(hn:n=g.n)(hm:∀k,k<24→mt k=mi (mate k))(hn24:g.n≤24):
  Calls Tryz.prog 35 #[.agg (AX nr n mt).toArray] w fun e w'=>PlIs w g mate e w':=by
 subst hn;have HM:Hid (∀k,k<24→mt k=mi (mate k)):=hm;have HPL:Hid (PlAt w.heap.size w ((w.alloc (.cells (AX nr g.n mt).toArray 107)).alloc (.cells (BK (fun _=>0) 0 (fun _=>0) fun _ _=>false).toArray 113)).drew nr g.n mt):=by
  have h1:(w.alloc (.cells (AX nr g.n mt).toArray 107)).heap.size=w.heap.size+1:=by simp
  refine⟨(((Below.refl _ w).alloc (Nat.le_refl _) _).alloc (by omega) _).drew,(World.rangeAt_drew _ _ _ _).2 (World.rangeAt_alloc (mat_range w nr g.n mt _) _),(World.there_drew _ _ _ _).2 ?_,by show _<(World.alloc _ _).heap.size;simp⟩;rw[←h1];exact KQ _ _ _ _ _ _
 have HFA:Hid (∀wx F,wx.rangeAt F 0 (BK nr g.n mt fun v x=>v==x)→(∀i,wx.frozen? ⟨F,i,none⟩=false)→FAt wx F g mate (QA fun v x=>v==x)∧∀k,CS wx F k→k=F):=fun wx F h1 h2=>⟨FAt.bare h1 h2 hb rfl hm,bare_mine h1⟩
 clear hb hm;go_enter Tryz.func35,Tryz.ntmps35
 go_upto_region 1 with(refine Az rfl 113 rfl _ _ (Q9 _) ?_;simp only[Act.put,List.setIfInBounds_toArray,List.set_cons_zero,List.set_cons_succ])
 have e1:(w.alloc (.cells (AX nr g.n mt).toArray 107)).heap.size=w.heap.size+1:=by simp
 rw[e1];clear e1;go_cut [3]from 5 to 7 (fun v3 wc=>∃F,v3=.pointer (some ⟨F,0,none⟩)∧w.heap.size+2≤F∧(FAt wc F g mate (QA fun v x=>v==x)∧∀k,CS wc F k→k=F)∧PlAt w.heap.size w wc nr g.n mt)
 case first=>
  refine wp_region_held_drew (S:=fun w'=>PlAt w.heap.size w w' nr g.n mt) (by kernel_rfl) ?_ (fun hHeld=>?_)
  ·exact HPL.out
  generalize World.drew _=wd at hHeld ⊢;clear HPL;refine wpAnyH_take (i:=0) (oi:=⟨some 5,.load _ (.tmp 1),_,_,_,none⟩) (v:=(.agg (AX nr g.n mt).toArray)) rfl (by kernel_rfl) (by kernel_rfl) (by kernel_rfl) (fun _ _ _ h=>h) (yieldsIf_load_mid (by rfl) 107 (.tmp 1) rfl w.heap.size 0 (by simp[Act.eval]) (AX nr g.n mt) _ (fun w h=>h.box) Tryz.underlying107 rfl (by rw[Tryz.EV,BJ])) (by assumption) ?_;try simp only[Act.put,List.setIfInBounds_toArray,List.set_cons_zero,List.set_cons_succ]
  refine wpAnyH_ready (rs:=[1,3]) (by kernel_rfl) (by simp) ?_;refine AllReadyH.cons (o:=⟨some 6,.call ⟨.value (.func 62),#[],_⟩,_,_,_,none⟩) rfl (fun K hK=>?_) (AllReadyH.cons (o:=⟨some 3,.alloc _,_,_,_,none⟩) rfl (fun K hK=>?_) AllReadyH.nil)
  ·skip
   rw[if_pos (by rfl)];go_simp;refine(Q8 _).mono ?_;rintro e w3 ⟨rfl,w3b⟩;have w3P:=hHeld.on rfl w3b;refine hK.out _ _ w3P (fun _=>?_);clear hK K;try simp only[Act.put,List.setIfInBounds_toArray,List.set_cons_zero,List.set_cons_succ]
   refine wpAnyH_take (i:=2) (oi:=⟨some 7,.build _ #[(0,.tmp 5),(1,.tmp 6)],_,_,_,none⟩) (v:=(.agg (BK nr g.n mt fun v x=>v==x).toArray)) rfl (by kernel_rfl) (by kernel_rfl) (by kernel_rfl) (fun _ _ _ h=>h) (Or.inl ⟨by rfl,fun w0 hS=>by unfold execOp;simp[Act.eval,build_fo]⟩) (by assumption) ?_;try simp only[Act.put,List.setIfInBounds_toArray,List.set_cons_zero,List.set_cons_succ]
   refine wpAnyH_ready (rs:=[3]) (by kernel_rfl) (by simp) ?_;refine AllReadyH.cons (o:=⟨some 3,.alloc _,_,_,_,none⟩) rfl (fun K hK=>?_) AllReadyH.nil;rw[if_pos (by rfl)];refine OJ _ _ _ _ _ _ _ _ ?_;have hPZ:=w3P.on rfl ((Below.refl _ w3).alloc (Nat.le_refl _) (.cells (BK (fun _=>0) 0 (fun _=>0) fun _ _=>false).toArray 113));have hTH:=KQ w3 (fun _=>0) 0 (fun _=>0) (fun _ _=>false) 113;have hFZ:∀i,(w3.alloc (.cells (BK (fun _=>0) 0 (fun _=>0) fun _ _=>false).toArray 113)).frozen? ⟨w3.heap.size,i,none⟩=false:=fun i=>by simp
   have hF2:w.heap.size+2≤w3.heap.size:=by have:=w3P.lt;omega
   refine hK.out _ _ hPZ (fun _=>?_);clear hK K;try simp only[Act.put,List.setIfInBounds_toArray,List.set_cons_zero,List.set_cons_succ]
   refine wpAnyH_ready (rs:=[4]) (by kernel_rfl) (by simp) ?_;refine AllReadyH.cons (o:=⟨none,.store _ (.tmp 3) (.tmp 7),_,_,_,none⟩) rfl (fun K hK=>?_) AllReadyH.nil;rw[if_pos (by rfl)];refine wp_store_mid 113 (.tmp 3) (.tmp 7) rfl w3.heap.size 0 (BK nr g.n mt fun v x=>v==x).toArray (by simp[Act.eval]) (by simp[Act.eval]) (by rw[Og];exact hTH) (by rw[Og];exact Tryz.GH) (OI _ _ _ _) ?_;try simp only[Act.put]
   have hE:=fo_end hTH hFZ nr g.n mt fun v x=>v==x;have hP:=hPZ.set (F:=w3.heap.size) hF2 (BK nr g.n mt fun v x=>v==x);refine hK.out _ _ hP (fun _=>?_);clear hK K;refine wpAnyH_done (by kernel_rfl) ?_ _;have HREL:Hid _:=HFA.out _ _ hE.1 hE.2;go_wp2_with fail;go_meet
   exact⟨_,rfl,hF2,HREL.out,hP⟩
  ·skip
   rw[if_pos (by rfl)];refine OJ _ _ _ _ _ _ _ _ ?_;have w3b:Below wd.heap.size wd (wd.alloc (.cells (BK (fun _=>0) 0 (fun _=>0) fun _ _=>false).toArray 113)):=(Below.refl _ _).alloc (Nat.le_refl _) _;have haP:=hHeld.on rfl w3b;have hTa:=KQ wd (fun _=>0) 0 (fun _=>0) (fun _ _=>false) 113;have hFa:∀i,(wd.alloc (.cells (BK (fun _=>0) 0 (fun _=>0) fun _ _=>false).toArray 113)).frozen? ⟨wd.heap.size,i,none⟩=false:=fun i=>by simp
   have hFl:wd.heap.size<(wd.alloc (.cells (BK (fun _=>0) 0 (fun _=>0) fun _ _=>false).toArray 113)).heap.size:=by simp
   have hF2:w.heap.size+2≤wd.heap.size:=by have:=hHeld.lt;omega
   refine hK.out _ _ haP (fun _=>?_);clear hK K;generalize wd.alloc (.cells (BK (fun _=>0) 0 (fun _=>0) fun _ _=>false).toArray 113)=wa at*;try simp only[Act.put,List.setIfInBounds_toArray,List.set_cons_zero,List.set_cons_succ]
   refine wpAnyH_ready (rs:=[1]) (by kernel_rfl) (by simp) ?_;refine AllReadyH.cons (o:=⟨some 6,.call ⟨.value (.func 62),#[],_⟩,_,_,_,none⟩) rfl (fun K hK=>?_) AllReadyH.nil;rw[if_pos (by rfl)];go_simp;refine(Q8 _).mono ?_;rintro e w4 ⟨rfl,hb4⟩;have hPZ:=haP.on rfl hb4;have hTH:w4.there wd.heap.size 0 698:=fun j hj=>⟨by rw[hb4.cell (p:=⟨wd.heap.size,0+j,none⟩) hFl];exact(hTa j hj).1,(hb4.frozen (p:=⟨wd.heap.size,0+j,none⟩) hFl).trans (hTa j hj).2⟩
   have hFZ:∀i,w4.frozen? ⟨wd.heap.size,i,none⟩=false:=fun i=>(hb4.frozen (p:=⟨wd.heap.size,i,none⟩) hFl).trans (hFa i);refine hK.out _ _ hPZ (fun _=>?_);clear hK K;try simp only[Act.put,List.setIfInBounds_toArray,List.set_cons_zero,List.set_cons_succ]
   refine wpAnyH_take (i:=2) (oi:=⟨some 7,.build _ #[(0,.tmp 5),(1,.tmp 6)],_,_,_,none⟩) (v:=(.agg (BK nr g.n mt fun v x=>v==x).toArray)) rfl (by kernel_rfl) (by kernel_rfl) (by kernel_rfl) (fun _ _ _ h=>h) (Or.inl ⟨by rfl,fun w0 hS=>by unfold execOp;simp[Act.eval,build_fo]⟩) (by assumption) ?_;try simp only[Act.put,List.setIfInBounds_toArray,List.set_cons_zero,List.set_cons_succ]
   refine wpAnyH_ready (rs:=[4]) (by kernel_rfl) (by simp) ?_;refine AllReadyH.cons (o:=⟨none,.store _ (.tmp 3) (.tmp 7),_,_,_,none⟩) rfl (fun K hK=>?_) AllReadyH.nil;rw[if_pos (by rfl)];refine wp_store_mid 113 (.tmp 3) (.tmp 7) rfl wd.heap.size 0 (BK nr g.n mt fun v x=>v==x).toArray (by simp[Act.eval]) (by simp[Act.eval]) (by rw[Og];exact hTH) (by rw[Og];exact Tryz.GH) (OI _ _ _ _) ?_;try simp only[Act.put]
   have hE:=fo_end hTH hFZ nr g.n mt fun v x=>v==x;have hP:=hPZ.set (F:=wd.heap.size) hF2 (BK nr g.n mt fun v x=>v==x);refine hK.out _ _ hP (fun _=>?_);clear hK K;refine wpAnyH_done (by kernel_rfl) ?_ _;have HREL:Hid _:=HFA.out _ _ hE.1 hE.2;go_wp2_with fail;go_meet
   exact⟨_,rfl,hF2,HREL.out,hP⟩
 case rest=>
  clear HPL HFA;obtain⟨F,rfl,hF2,⟨hFA0,hFM0⟩,hPA0⟩:=hcut;have HST:Hid (Me w.heap.size F w wc g mate nr g.n mt 0):=⟨by rw[rootsTo_zero];exact hFA0,hPA0,fun k hk=>by rw[hFM0 k hk];exact hF2⟩
  have c24:=HST.out.cellN;clear hFA0 hFM0 hPA0;go_wp2_with fail;go_loopg [10] 26 (fun k v10 wr=>∃c:Nat,c≤g.n∧25-c≤k∧v10=.int .i64 c∧Me w.heap.size F w wr g mate nr g.n mt c)
  case atStart=>exact⟨0,by omega,by omega,rfl,HST.out⟩
  case round=>
   clear HST c24;obtain⟨c,hc,hk,rfl,hat⟩:=hrel;have HAT:Hid (Me w.heap.size F w wr g mate nr g.n mt c):=hat;by_cases hcn:c<g.n
   ·have hcn':(c:Int)<(g.n:Int):=by omega
    have c24:(c:Int)<24:=by omega
    have cm:=hat.cell (show c<24 by omega);rw[HM.out c (by omega)]at cm;cases hm:mate c with
    |none=>
     rw[hm]at cm;simp only[mi]at cm;have RC:=Nj hat.fo (show c<24 by omega) (by have:=rootsTo_len mate c;omega);rw[rootsTo_yes hm]at RC;clear hat;go_wp2_with fail;refine RC.mono ?_;rintro e w2 ⟨rfl,hF,hf⟩;have HN:Hid (Me w.heap.size F w w2 g mate nr g.n mt (c+1)):=HAT.out.fr rfl hf hF;clear hF hf RC;go_wp2_with fail;go_roundg (25-(c+1))
     case measure=>omega
     case rel=>exact⟨c+1,by omega,Nat.le_refl _,by go_num,HN.out⟩
    |some m=>
     rw[hm]at cm;simp only[mi]at cm;have hne:¬((m:Int)= -1):=by omega
     have HN:Hid (Me w.heap.size F w wr g mate nr g.n mt (c+1)):=HAT.out.fr rfl (FFr.refl _ _) (by rw[rootsTo_no (by rw[hm];rfl)];exact HAT.out.fo);clear hat;go_wp2_with fail;go_roundg (25-(c+1))
     case measure=>omega
     case rel=>exact⟨c+1,by omega,Nat.le_refl _,by go_num,HN.out⟩
   ·have hcn':¬(c:Int)<(g.n:Int):=by omega
    have ec:c=g.n:=by omega
    subst ec;have HE:Hid _:=hat.done;have HRG:Hid (wr.rangeAt F 0 (Bv wr F 698)):=hat.fo.range;have HTH:Hid (wr.there (w.heap.size+1) 0 698):=hat.pl.res;have HON:Hid ((Bv wr F 698).toArray.all (·.oneCell')=true):=hat.fo.cellsOne;have hsz:(Bv wr F 698).toArray.size=698:=by simp[Du]
    have HSZ:Hid ((Bv wr F 698).toArray.size=698):=hsz;have HLD:=run_loadVar_mid (P:=Tryz.prog) _ (w.heap.size+1) 0 113 (Bv wr F 698) _ (World.rangeAt_setCells_same wr (w.heap.size+1) 0 (Bv wr F 698) (by rw[Du];exact hat.pl.res)) Tryz.underlying113 rfl (by rw[Du];exact Tryz.GH);have HLD':Hid _:=HLD;clear hat hsz HLD;go_wp2_with (first|(refine wpList_load_mid rfl 113 (.tmp 3) rfl F 0 (by simp[Act.eval]) (Bv wr F 698) _ HRG.out Tryz.underlying113 rfl (by rw[Tryz.GH,Du]) ?_;simp only[Act.put,List.setIfInBounds_toArray,List.set_cons_zero,List.set_cons_succ])|(refine wpList_store_mid rfl 113 (.tmp 2) (.tmp 21) rfl (w.heap.size+1) 0 (Bv wr F 698).toArray (by simp[Act.eval]) (by rfl) (by rw[HSZ.out];exact HTH.out) (by rw[HSZ.out];exact Tryz.GH) HON.out ?_;simp only[Act.put]));refine bodyPost_ret (v:=.agg (Bv wr F 698).toArray) ?_ rfl HE.out;have HLD:=HLD'.out;simp[results,Tryz.results35,asAddr,HLD]
end Go.Proofs.YtcabaecbmkgclaaGreatDoor.Mg
