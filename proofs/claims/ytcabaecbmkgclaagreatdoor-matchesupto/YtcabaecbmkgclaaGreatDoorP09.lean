/-
  Lists that are full of one mark, made longer by the same mark: whatever shared their row still reads as it did.
  A slip of the book: lists that are full of its mark; reads finds them so.
  The book: all slips read as their owner wrote them.
  What the graph's Join and Joined do.
  What Joined, Bind, BothAromatic and order do.
-/
import Derived.Test.YtcabaecbmkgclaaGreatDoorP08
import Derived.Deep.LoopGhost
import Derived.Laws.DeepBits32

namespace Go.Proofs.YtcabaecbmkgclaaGreatDoor
open Go.RowKit

def marks (c : List Value) (n : Nat) : List Value := (List.replicate n c).flatten

theorem marks_len (c : List Value) (n : Nat) : (marks c n).length = n * c.length := by
  unfold marks; rw [List.length_flatten, List.map_replicate, List.sum_replicate_nat]

theorem marks_add (c : List Value) (n m : Nat) : marks c n ++ marks c m = marks c (n + m) := by
  unfold marks; rw [← List.flatten_append, List.replicate_append_replicate]

theorem marks_take (c : List Value) (n m : Nat) (h : n ≤ m) : (marks c m).take (n * c.length) = marks c n := by
  obtain ⟨d, rfl⟩ : ∃ d, m = n + d := ⟨m - n, by omega⟩
  rw [← marks_add, ← marks_len, List.take_left]

theorem marks_get (c : List Value) : ∀ (n i j : Nat), i < n → j < c.length → (marks c n)[i * c.length + j]? = c[j]?
  | 0, _, _, h, _ => absurd h (Nat.not_lt_zero _)
  | n + 1, i, j, hi, hj => by
    have e : marks c (n + 1) = c ++ marks c n := by rw [Nat.add_comm, ← marks_add]; simp [marks]
    rw [e]
    cases i with
    | zero => rw [Nat.zero_mul, Nat.zero_add, List.getElem?_append_left hj]
    | succ i =>
      rw [List.getElem?_append_right (by rw [Nat.succ_mul]; omega), show (i + 1) * c.length + j - c.length = i * c.length + j by rw [Nat.succ_mul]; omega]
      exact marks_get c n i j (by omega) hj

theorem marks_one {c : List Value} (h : ∀ u ∈ c, u.oneCell' = true) (n : Nat) : ∀ u ∈ marks c n, u.oneCell' = true := by
  intro u hu
  unfold marks at hu
  obtain ⟨l, hl, hu⟩ := List.mem_flatten.1 hu
  rw [(List.mem_replicate.1 hl).2] at hu
  exact h u hu

theorem ownsRow_pre {w : World} {base : Nat} {e : TypeId} {size g n n' cap : Nat} {xs' : List Value} (h : w.ownsRow base e size (.slice (some ⟨g, 0, none⟩) n' cap) n' xs') (hn : n ≤ n') : w.ownsRow base e size (.slice (some ⟨g, 0, none⟩) n cap) n (xs'.take (n * size)) := by
  have hm : n * size ≤ n' * size := Nat.mul_le_mul_right _ hn
  rcases h.2 with ⟨h0, _⟩ | ⟨g', cap', cur, hv, hb, hg, hnc, hcm, hcs, ht⟩
  · cases h0
  · cases hv
    refine ⟨by rw [List.length_take, h.1]; omega, .inr ⟨g, cap, cur, rfl, hb, hg, by omega, hcm, hcs, ?_⟩⟩
    rw [← ht, List.take_take, Nat.min_eq_left hm]

/-- What an append of marks leaves: the longer list, all that shared its row, all else. -/
structure Marked (w w' : World) (base : Nat) (e : TypeId) (size : Nat) (c : List Value) (v v' : Value) (n : Nat) : Prop where
  own : w'.ownsRow base e size v' n (marks c n)
  old : ∀ b v2 n2, n2 ≤ n → w.ownsRow b e size v2 n2 (marks c n2) → w'.ownsRow b e size v2 n2 (marks c n2)
  grown : w.grownBy w' v.ownBlock
  loc : ∀ k, v'.ownBlock = some k → v.ownBlock = some k ∨ w.heap.size ≤ k

section
variable {P : Program} (w : World)

theorem run_append_marks (base : Nat) (t ty e : TypeId) (i : TypeInfo) (z : Value) (size bytes : Nat) (ht : P.underlying t = some (.slice e)) (hi : P.info? e = some i) (hz : i.zero = some z)
    (hsize : i.size = size) (hby : i.bytes = bytes) (hzs : z.cells.size = size) (hsz : 0 < size)
    (c : List Value) (hc : c.length = size) (hc1 : ∀ u ∈ c, u.oneCell' = true)
    (v : Value) (n : Nat) (hown : w.ownsRow base e size v n (marks c n))
    (a : Addr) (m cp : Nat) (hnews : ∀ j u, (marks c m)[j]? = some u → w.cell? (a.add j) = some u)
    (h63 : n + m ≤ maxLen) (hbytes : (n + m) * bytes ≤ 140737488355328) (hbase : base ≤ w.heap.size) :
    ∃ v' w', (Builtin.append_ #[t, t] ty #[v, .slice (some a) m cp]).run P w = .ok v' w' ∧ Marked w w' base e size c v v' (n + m) := by
  have hl : (marks c m).length = m * size := by rw [marks_len, hc]
  have h1 := marks_one hc1 m
  have keeps : ∀ w', w.grownBy w' none → ∀ b v2 n2, w.ownsRow b e size v2 n2 (marks c n2) → w'.ownsRow b e size v2 n2 (marks c n2) := fun w' hg b v2 n2 h => h.kept hg (by cases hv : v2.ownBlock <;> simp)
  rcases hown.2 with ⟨rfl, rfl⟩ | ⟨g, cap, cur, rfl, hbg, hg, hnc, hcm, hcs, htake⟩
  · obtain ⟨v', w', hr, ho, hgr, _⟩ := run_append_own (P := P) w w.heap.size t ty e i z size bytes ht hi hz hsize hby hzs hsz (.slice none 0 0) 0 [] (World.ownsRow_nil w _ e size) a m cp _ hl hnews h1 h63 hbytes (Nat.le_refl _)
    rw [List.nil_append] at ho
    exact ⟨v', w', hr, by rw [show 0 + m = m by omega] at ho ⊢; exact ownsRow_mono ho hbase, fun b v2 n2 _ h => keeps w' hgr b v2 n2 h, hgr, fun k hk => .inr (ho.lt k hk).1⟩
  · by_cases hroom : n + m ≤ cap
    · obtain ⟨w', hr, ho, hgr⟩ := run_append_fits (P := P) w base t ty e i size ht hi hsize g n cap _ hown a m cp _ hl hnews h1 hroom
      rw [marks_add] at ho
      refine ⟨_, w', hr, ho, ?_, hgr, fun k hk => .inl (by simpa [Value.ownBlock] using hk)⟩
      intro b v2 n2 hn2 h2
      by_cases hb : v2.ownBlock = some g
      · rcases h2.2 with ⟨rfl, _⟩ | ⟨g2, cap2, cur2, rfl, hbg2, hg2, hnc2, hcm2, hcs2, _⟩
        · cases hb
        · simp only [Value.ownBlock, Option.some.injEq] at hb
          subst hb
          rw [hg] at hg2
          simp only [Option.some.injEq, Obj.cells.injEq, and_true] at hg2
          subst hg2
          have ec : cap2 = cap := Nat.eq_of_mul_eq_mul_right hsz (hcs2.symm.trans hcs)
          subst ec
          have hp := ownsRow_pre ho hn2
          rw [← hc, marks_take c n2 _ hn2, hc] at hp
          rcases hp.2 with ⟨h0, _⟩ | ⟨g', cap', cur', hv', _, r⟩
          · cases h0
          · cases hv'
            exact ⟨hp.1, .inr ⟨g2, cap2, cur', rfl, hbg2, r⟩⟩
      · exact h2.kept hgr (.inr hb)
    · obtain ⟨v', w', hr, ho, hgr⟩ := run_append_arg_grows (P := P) w t ty e i z size bytes ht hi hz hsize hby hzs hsz ⟨g, 0, none⟩ n cap _ hown.1 (hown.cells rfl) a m cp _ hl hnews (by omega) h63 hbytes
      rw [marks_add] at ho
      exact ⟨v', w', hr, ownsRow_mono ho hbase, fun b v2 n2 _ h => keeps w' hgr b v2 n2 h, grownBy_weaken hgr, fun k hk => .inr (ho.lt k hk).1⟩
end

theorem wpList_append_marks {P : Program} {w : World} {ops : Array Oper} {rest : List Oper} {o : Oper} {a : Act} {Q : Exit → Act → World → Prop} (hgd : o.guard = none) (s x : Operand) (t : TypeId)
    (ho : o.op = .call { callee := .builtin .append, args := #[s, x], argTypes := #[t, t] })
    (base : Nat) (e : TypeId) (i : TypeInfo) (z : Value) (size bytes : Nat) (ht : P.underlying t = some (.slice e)) (hi : P.info? e = some i) (hz : i.zero = some z)
    (hsize : i.size = size) (hby : i.bytes = bytes) (hzs : z.cells.size = size) (hsz : 0 < size)
    (c : List Value) (hc : c.length = size) (hc1 : ∀ u ∈ c, u.oneCell' = true)
    (v : Value) (n : Nat) (hs : a.eval s = v) (hown : w.ownsRow base e size v n (marks c n))
    (ad : Addr) (m cp : Nat) (hx : a.eval x = .slice (some ad) m cp) (hnews : ∀ j u, (marks c m)[j]? = some u → w.cell? (ad.add j) = some u)
    (h63 : n + m ≤ maxLen) (hbytes : (n + m) * bytes ≤ 140737488355328) (hbase : base ≤ w.heap.size)
    (h : ∀ v' w', Marked w w' base e size c v v' (n + m) → wpList P ops Q rest (a.put o.dst v') w') : wpList P ops Q (o :: rest) a w := by
  refine wpList_plain hgd fun K hK => ?_
  obtain ⟨v', w', hr, h2⟩ := run_append_marks (P := P) w base t o.type e i z size bytes ht hi hz hsize hby hzs hsz c hc hc1 v n hown ad m cp hnews h63 hbytes hbase
  unfold Oper.wp execOp
  simp only [ho, resolve, invoke, builtin, Sem.run_bind, Sem.run_pure, Result.andThen_ok, List.map_toArray, List.map_cons, List.map_nil, hs, hx, hr]
  exact hK _ _ (h v' w' h2)

end Go.Proofs.YtcabaecbmkgclaaGreatDoor

namespace Go.Proofs.YtcabaecbmkgclaaGreatDoor
open Go.RowKit

structure Sl where
  va : Value
  vb : Value
  vp : Value
  vn : Value
  m : Int
  al : List (Value × Nat)
  bl : List (Value × Nat)
  pl : List (Value × Nat)
  nl : List (Value × Nat)

def slCells (x : Sl) : List Value := [x.va, x.vb, x.vp, x.vn, .int .i64 x.m]
theorem slCells_len (x : Sl) : (slCells x).length = 5 := rfl
def atomMark (m : Int) : List Value := [.string ⟨#[]⟩, .bool false, .int .i64 m, .int .i64 0]
def bondMark (m : Int) : List Value := [.int .i64 m, .int .i64 0, .int .i64 0]
def pairMark (m : Int) : List Value := [.int .i64 m, .int .i64 0]
def intMark (m : Int) : List Value := [.int .i64 m]

/-- A list of lists, each full of a mark. -/
structure Full (w : World) (tr te : TypeId) (c : List Value) (v : Value) (l : List (Value × Nat)) : Prop where
  row : w.ownsRow 0 tr 1 v l.length (l.map (·.1))
  few : l.length ≤ 4
  each : ∀ y ∈ l, y.2 ≤ 1000 ∧ w.ownsRow 0 te c.length y.1 y.2 (marks c y.2)

/-- The blocks in which they lie. -/
def fullHas (v : Value) (l : List (Value × Nat)) (k : Nat) : Prop := v.ownBlock = some k ∨ ∃ y ∈ l, y.1.ownBlock = some k

theorem Full.same {w w' : World} {tr te : TypeId} {c : List Value} {v : Value} {l : List (Value × Nat)} (h : Full w tr te c v l) (hs : ∀ k, fullHas v l k → w'.heap[k]? = w.heap[k]?) : Full w' tr te c v l :=
  ⟨ownsRow_same h.row fun k hk => hs k (.inl hk), h.few, fun y hy => ⟨(h.each y hy).1, ownsRow_same (h.each y hy).2 fun k hk => hs k (.inr ⟨y, hy, hk⟩)⟩⟩

theorem Full.lt {w : World} {tr te : TypeId} {c : List Value} {v : Value} {l : List (Value × Nat)} (h : Full w tr te c v l) {k : Nat} (hk : fullHas v l k) : k < w.heap.size := by
  rcases hk with hk | ⟨y, hy, hk⟩
  · exact (h.row.lt k hk).2
  · exact ((h.each y hy).2.lt k hk).2

theorem ownsRow_type {w : World} {base : Nat} {e : TypeId} {size : Nat} {v : Value} {n : Nat} {xs : List Value} (h : w.ownsRow base e size v n xs) {k : Nat} (hk : v.ownBlock = some k) : ∃ cur, w.heap[k]? = some (.cells cur e (0, 0)) := by
  rcases h.2 with ⟨rfl, _⟩ | ⟨g, cap, cur, rfl, _, hg, _⟩
  · cases hk
  · simp only [Value.ownBlock, Option.some.injEq] at hk
    subst hk
    exact ⟨cur, hg⟩

theorem Full.type {w : World} {tr te : TypeId} {c : List Value} {v : Value} {l : List (Value × Nat)} (h : Full w tr te c v l) {k : Nat} (hk : fullHas v l k) : ∃ cur e, w.heap[k]? = some (.cells cur e (0, 0)) ∧ (e = tr ∨ e = te) := by
  rcases hk with hk | ⟨y, hy, hk⟩
  · obtain ⟨cur, hc⟩ := ownsRow_type h.row hk; exact ⟨cur, _, hc, .inl rfl⟩
  · obtain ⟨cur, hc⟩ := ownsRow_type (h.each y hy).2 hk; exact ⟨cur, _, hc, .inr rfl⟩

theorem full_nil (w : World) (tr te : TypeId) (c : List Value) : Full w tr te c (.slice none 0 0) [] := ⟨World.ownsRow_nil _ _ _ _, by simp, by intro y hy; cases hy⟩

def Sl.has (x : Sl) (k : Nat) : Prop := fullHas x.va x.al k ∨ fullHas x.vb x.bl k ∨ fullHas x.vp x.pl k ∨ fullHas x.vn x.nl k

structure SlOk (w : World) (x : Sl) : Prop where
  a : Full w 36 50 (atomMark x.m) x.va x.al
  b : Full w 37 46 (bondMark x.m) x.vb x.bl
  p : Full w 29 48 (pairMark x.m) x.vp x.pl
  n : Full w 25 3 (intMark x.m) x.vn x.nl

theorem SlOk.same {w w' : World} {x : Sl} (h : SlOk w x) (hs : ∀ k, x.has k → w'.heap[k]? = w.heap[k]?) : SlOk w' x :=
  ⟨h.a.same fun k hk => hs k (.inl hk), h.b.same fun k hk => hs k (.inr (.inl hk)), h.p.same fun k hk => hs k (.inr (.inr (.inl hk))), h.n.same fun k hk => hs k (.inr (.inr (.inr hk)))⟩

theorem SlOk.lt {w : World} {x : Sl} (h : SlOk w x) {k : Nat} (hk : x.has k) : k < w.heap.size := by
  rcases hk with hk | hk | hk | hk
  · exact h.a.lt hk
  · exact h.b.lt hk
  · exact h.p.lt hk
  · exact h.n.lt hk

theorem SlOk.below {w w' : World} {x : Sl} (h : SlOk w x) (hb : Below w.heap.size w w') : SlOk w' x := h.same fun k hk => hb.block k (h.lt hk)

/-- What lies in a slip's blocks is no slip and no book. -/
theorem SlOk.type {w : World} {x : Sl} (h : SlOk w x) {k : Nat} (hk : x.has k) : ∃ cur e, w.heap[k]? = some (.cells cur e (0, 0)) ∧ e ≠ 84 ∧ e ≠ 58 := by
  rcases hk with hk | hk | hk | hk
  · obtain ⟨cur, e, hc, he⟩ := h.a.type hk; exact ⟨cur, e, hc, by rcases he with rfl | rfl <;> decide⟩
  · obtain ⟨cur, e, hc, he⟩ := h.b.type hk; exact ⟨cur, e, hc, by rcases he with rfl | rfl <;> decide⟩
  · obtain ⟨cur, e, hc, he⟩ := h.p.type hk; exact ⟨cur, e, hc, by rcases he with rfl | rfl <;> decide⟩
  · obtain ⟨cur, e, hc, he⟩ := h.n.type hk; exact ⟨cur, e, hc, by rcases he with rfl | rfl <;> decide⟩

/-- The slip in its box. -/
structure SlBox (w : World) (b : Nat) (x : Sl) : Prop where
  c0 : w.cell? ⟨b, 0, none⟩ = some x.va
  c1 : w.cell? ⟨b, 1, none⟩ = some x.vb
  c2 : w.cell? ⟨b, 2, none⟩ = some x.vp
  c3 : w.cell? ⟨b, 3, none⟩ = some x.vn
  c4 : w.cell? ⟨b, 4, none⟩ = some (.int .i64 x.m)
  ok : SlOk w x

theorem SlBox.drewN {w : World} {b : Nat} {x : Sl} (h : SlBox w b x) (n : Nat) : SlBox (w.drewN n) b x := ⟨h.c0, h.c1, h.c2, h.c3, h.c4, h.ok.same fun _ _ => rfl⟩

theorem markAt {w : World} {base : Nat} {e : TypeId} {c : List Value} {v : Value} {n : Nat} (h : w.ownsRow base e c.length v n (marks c n)) {i : Nat} (hi : i < n) :
    ∃ g cap, v = .slice (some ⟨g, 0, none⟩) n cap ∧ g < w.heap.size ∧ ∀ j, j < c.length → w.cell? ⟨g, i * c.length + j, none⟩ = c[j]? := by
  obtain ⟨g, cap, rfl, h1, h2, h3, h4⟩ := ownsRow_at h (by omega)
  refine ⟨g, cap, rfl, h2, fun j hj => ?_⟩
  have : i * c.length + j < n * c.length := by
    have := Nat.mul_le_mul_right c.length (show i + 1 ≤ n by omega)
    rw [Nat.succ_mul] at this
    omega
  rw [h3 _ this, marks_get c n i j hi hj]

theorem rowAt {w : World} {base : Nat} {e : TypeId} {v : Value} {l : List (Value × Nat)} (h : w.ownsRow base e 1 v l.length (l.map (·.1))) {i : Nat} {y : Value × Nat} (hi : l[i]? = some y) :
    ∃ g cap, v = .slice (some ⟨g, 0, none⟩) l.length cap ∧ g < w.heap.size ∧ w.cell? ⟨g, i, none⟩ = some y.1 := by
  have hl := (List.getElem?_eq_some_iff.1 hi).1
  obtain ⟨g, cap, rfl, h1, h2, h3, h4⟩ := ownsRow_at h (by omega)
  refine ⟨g, cap, rfl, h2, ?_⟩
  rw [h3 i (by omega), List.getElem?_map, hi]
  rfl

section
set_option maxRecDepth 100000 in
set_option maxHeartbeats 4000000 in
theorem reads_any (w : World) (x : Sl) (h : SlOk w x) : Calls Tryz.prog 30 #[.agg #[x.va, x.vb, x.vp, x.vn, .int .i64 x.m]] w fun e w' => e = .returned (.bool true) ∧ Below w.heap.size w w' := by
  obtain ⟨va, vb, vp, vn, m, al, bl, pl, nl⟩ := x
  obtain ⟨ao, ac, hva⟩ := ownsRow_shape h.a.row
  obtain ⟨bo, bc, hvb⟩ := ownsRow_shape h.b.row
  obtain ⟨po, pc, hvp⟩ := ownsRow_shape h.p.row
  obtain ⟨no, nc, hvn⟩ := ownsRow_shape h.n.row
  simp only at hva hvb hvp hvn ⊢
  subst hva hvb hvp hvn
  have HB : Hid (SlBox (w.alloc (.cells #[.slice ao al.length ac, .slice bo bl.length bc, .slice po pl.length pc, .slice no nl.length nc, .int .i64 m] 84)) w.heap.size ⟨.slice ao al.length ac, .slice bo bl.length bc, .slice po pl.length pc, .slice no nl.length nc, m, al, bl, pl, nl⟩) :=
    ⟨by simp, by simp, by simp, by simp, by simp, h.below ((Below.refl _ w).alloc (Nat.le_refl _) _)⟩
  have HL : Hid (Below w.heap.size w (w.alloc (.cells #[.slice ao al.length ac, .slice bo bl.length bc, .slice po pl.length pc, .slice no nl.length nc, .int .i64 m] 84))) := (Below.refl _ w).alloc (Nat.le_refl _) _
  have hna := h.a.few
  have hnb := h.b.few
  have hnp := h.p.few
  have hnn := h.n.few
  simp only at hna hnb hnp hnn
  clear h
  go_enter Tryz.func30, Tryz.ntmps30
  go_wp2_with fail
  go_loopg [3] (al.length + 1) (fun k vi wr => ∃ i : Nat, i ≤ al.length ∧ al.length - i ≤ k ∧ vi = .int .i64 i ∧ SlBox wr w.heap.size ⟨.slice ao al.length ac, .slice bo bl.length bc, .slice po pl.length pc, .slice no nl.length nc, m, al, bl, pl, nl⟩ ∧ Below w.heap.size w wr)
  case atStart => exact ⟨0, by omega, by omega, rfl, HB.out, HL.out⟩
  case round =>
    obtain ⟨i, hi, hk, rfl, hb, hbl⟩ := hrel
    clear HB HL
    have HB : Hid (SlBox wr w.heap.size ⟨.slice ao al.length ac, .slice bo bl.length bc, .slice po pl.length pc, .slice no nl.length nc, m, al, bl, pl, nl⟩) := hb
    have HL : Hid (Below w.heap.size w wr) := hbl
    have c0 := hb.c0
    have c4 := hb.c4
    simp only at c0 c4
    clear hb hbl
    by_cases hlt : i < al.length
    · have gi := List.getElem?_eq_getElem hlt
      have hlt' : (i : Int) < (al.length : Int) := by omega
      have hin := List.mem_of_getElem? gi
      generalize al[i] = y at gi hin
      obtain ⟨yv, yn⟩ := y
      obtain ⟨hy1, hyo⟩ := HB.out.ok.a.each _ hin
      obtain ⟨yo, yc, hys⟩ := ownsRow_shape hyo
      simp only at hy1 hys
      subst hys
      obtain ⟨L, lc, hL, hLl, cL⟩ := rowAt HB.out.ok.a.row gi
      simp only [Value.slice.injEq] at hL
      obtain ⟨rfl, _, rfl⟩ := hL
      have HG : Hid (al[i]? = some (.slice yo yn yc, yn)) := gi
      have HIN : Hid ((.slice yo yn yc, yn) ∈ al) := hin
      clear hyo gi hin
      simp only at cL
      go_wp2_with fail
      go_loopg [4] (yn + 1) (fun k vi wr' => ∃ j : Nat, j ≤ yn ∧ yn - j ≤ k ∧ vi = .int .i64 j ∧ SlBox wr' w.heap.size ⟨.slice (some ⟨L, 0, none⟩) al.length ac, .slice bo bl.length bc, .slice po pl.length pc, .slice no nl.length nc, m, al, bl, pl, nl⟩ ∧ Below w.heap.size w wr')
      case atStart => exact ⟨0, by omega, by omega, rfl, HB.out, HL.out⟩
      case round =>
        obtain ⟨j, hj, hkk, rfl, hb, hbl⟩ := hrel
        clear HB HL cL c0 c4 hLl
        have HB : Hid (SlBox wr w.heap.size ⟨.slice (some ⟨L, 0, none⟩) al.length ac, .slice bo bl.length bc, .slice po pl.length pc, .slice no nl.length nc, m, al, bl, pl, nl⟩) := hb
        have HL : Hid (Below w.heap.size w wr) := hbl
        have c0 := hb.c0
        have c4 := hb.c4
        simp only at c0 c4
        obtain ⟨L', lc', hL, hLl, cL⟩ := rowAt hb.ok.a.row HG.out
        simp only [Value.slice.injEq, Option.some.injEq, Addr.mk.injEq, and_true, true_and] at hL cL
        obtain ⟨rfl, rfl⟩ := hL
        clear hb hbl
        by_cases hjt : j < yn
        · have hjt' : (j : Int) < (yn : Int) := by omega
          obtain ⟨g, cap, hg, hgl, cg⟩ := markAt (c := atomMark m) (HB.out.ok.a.each _ HIN.out).2 (i := j) hjt
          simp only [Value.slice.injEq] at hg
          obtain ⟨rfl, _, rfl⟩ := hg
          have g0 := cg 0 (by simp [atomMark])
          have g1 := cg 1 (by simp [atomMark])
          have g2 := cg 2 (by simp [atomMark])
          have g3 := cg 3 (by simp [atomMark])
          simp only [atomMark, List.length_cons, List.length_nil, Nat.add_zero, Nat.zero_add, List.getElem?_cons_zero, List.getElem?_cons_succ] at g0 g1 g2 g3
          clear cg
          have HB2 : Hid (∀ n, SlBox (wr.drewN n) w.heap.size ⟨.slice (some ⟨L, 0, none⟩) al.length ac, .slice bo bl.length bc, .slice po pl.length pc, .slice no nl.length nc, m, al, bl, pl, nl⟩) := fun n => HB.out.drewN n
          have HL2 : Hid (∀ n, Below w.heap.size w (wr.drewN n)) := fun n => below_drewN HL.out n
          go_wp2_with fail
          go_quiet (fail)
          go_wp2_with fail
          go_roundg (yn - (j + 1))
          case measure => omega
          case rel => exact ⟨j + 1, by omega, Nat.le_refl _, by go_num, HB2.out _, HL2.out _⟩
        · have hjt' : ¬ (j : Int) < (yn : Int) := by omega
          go_wp2_with fail
          go_roundg (al.length - (i + 1))
          case measure => omega
          case rel => exact ⟨i + 1, by omega, Nat.le_refl _, by go_num, HB.out, HL.out⟩
    · have hlt' : ¬ (i : Int) < (al.length : Int) := by omega
      clear hi hk
      go_wp2_with fail
      go_loopg [5] (bl.length + 1) (fun k vi wr => ∃ i : Nat, i ≤ bl.length ∧ bl.length - i ≤ k ∧ vi = .int .i64 i ∧ SlBox wr w.heap.size ⟨.slice ao al.length ac, .slice bo bl.length bc, .slice po pl.length pc, .slice no nl.length nc, m, al, bl, pl, nl⟩ ∧ Below w.heap.size w wr)
      case atStart => exact ⟨0, by omega, by omega, rfl, HB.out, HL.out⟩
      case round =>
        obtain ⟨i, hi, hk, rfl, hb, hbl⟩ := hrel
        clear HB HL
        have HB : Hid (SlBox wr w.heap.size ⟨.slice ao al.length ac, .slice bo bl.length bc, .slice po pl.length pc, .slice no nl.length nc, m, al, bl, pl, nl⟩) := hb
        have HL : Hid (Below w.heap.size w wr) := hbl
        have c0 := hb.c1
        have c4 := hb.c4
        simp only at c0 c4
        clear hb hbl
        by_cases hlt : i < bl.length
        · have gi := List.getElem?_eq_getElem hlt
          have hlt' : (i : Int) < (bl.length : Int) := by omega
          have hin := List.mem_of_getElem? gi
          generalize bl[i] = y at gi hin
          obtain ⟨yv, yn⟩ := y
          obtain ⟨hy1, hyo⟩ := HB.out.ok.b.each _ hin
          obtain ⟨yo, yc, hys⟩ := ownsRow_shape hyo
          simp only at hy1 hys
          subst hys
          obtain ⟨L, lc, hL, hLl, cL⟩ := rowAt HB.out.ok.b.row gi
          simp only [Value.slice.injEq] at hL
          obtain ⟨rfl, _, rfl⟩ := hL
          have HG : Hid (bl[i]? = some (.slice yo yn yc, yn)) := gi
          have HIN : Hid ((.slice yo yn yc, yn) ∈ bl) := hin
          clear hyo gi hin
          simp only at cL
          go_wp2_with fail
          go_loopg [6] (yn + 1) (fun k vi wr' => ∃ j : Nat, j ≤ yn ∧ yn - j ≤ k ∧ vi = .int .i64 j ∧ SlBox wr' w.heap.size ⟨.slice ao al.length ac, .slice (some ⟨L, 0, none⟩) bl.length bc, .slice po pl.length pc, .slice no nl.length nc, m, al, bl, pl, nl⟩ ∧ Below w.heap.size w wr')
          case atStart => exact ⟨0, by omega, by omega, rfl, HB.out, HL.out⟩
          case round =>
            obtain ⟨j, hj, hkk, rfl, hb, hbl⟩ := hrel
            clear HB HL cL c0 c4 hLl
            have HB : Hid (SlBox wr w.heap.size ⟨.slice ao al.length ac, .slice (some ⟨L, 0, none⟩) bl.length bc, .slice po pl.length pc, .slice no nl.length nc, m, al, bl, pl, nl⟩) := hb
            have HL : Hid (Below w.heap.size w wr) := hbl
            have c0 := hb.c1
            have c4 := hb.c4
            simp only at c0 c4
            obtain ⟨L', lc', hL, hLl, cL⟩ := rowAt hb.ok.b.row HG.out
            simp only [Value.slice.injEq, Option.some.injEq, Addr.mk.injEq, and_true, true_and] at hL cL
            obtain ⟨rfl, rfl⟩ := hL
            clear hb hbl
            by_cases hjt : j < yn
            · have hjt' : (j : Int) < (yn : Int) := by omega
              obtain ⟨g, cap, hg, hgl, cg⟩ := markAt (c := bondMark m) (HB.out.ok.b.each _ HIN.out).2 (i := j) hjt
              simp only [Value.slice.injEq] at hg
              obtain ⟨rfl, _, rfl⟩ := hg
              have g0 := cg 0 (by simp [bondMark])
              have g1 := cg 1 (by simp [bondMark])
              have g2 := cg 2 (by simp [bondMark])
              simp only [bondMark, List.length_cons, List.length_nil, Nat.add_zero, Nat.zero_add, List.getElem?_cons_zero, List.getElem?_cons_succ] at g0 g1 g2
              clear cg
              have HB2 : Hid (∀ n, SlBox (wr.drewN n) w.heap.size ⟨.slice ao al.length ac, .slice (some ⟨L, 0, none⟩) bl.length bc, .slice po pl.length pc, .slice no nl.length nc, m, al, bl, pl, nl⟩) := fun n => HB.out.drewN n
              have HL2 : Hid (∀ n, Below w.heap.size w (wr.drewN n)) := fun n => below_drewN HL.out n
              go_wp2_with fail
              go_quiet (fail)
              go_wp2_with fail
              go_roundg (yn - (j + 1))
              case measure => omega
              case rel => exact ⟨j + 1, by omega, Nat.le_refl _, by go_num, HB2.out _, HL2.out _⟩
            · have hjt' : ¬ (j : Int) < (yn : Int) := by omega
              go_wp2_with fail
              go_roundg (bl.length - (i + 1))
              case measure => omega
              case rel => exact ⟨i + 1, by omega, Nat.le_refl _, by go_num, HB.out, HL.out⟩
        · have hlt' : ¬ (i : Int) < (bl.length : Int) := by omega
          clear hi hk
          go_wp2_with fail
          go_loopg [7] (pl.length + 1) (fun k vi wr => ∃ i : Nat, i ≤ pl.length ∧ pl.length - i ≤ k ∧ vi = .int .i64 i ∧ SlBox wr w.heap.size ⟨.slice ao al.length ac, .slice bo bl.length bc, .slice po pl.length pc, .slice no nl.length nc, m, al, bl, pl, nl⟩ ∧ Below w.heap.size w wr)
          case atStart => exact ⟨0, by omega, by omega, rfl, HB.out, HL.out⟩
          case round =>
            obtain ⟨i, hi, hk, rfl, hb, hbl⟩ := hrel
            clear HB HL
            have HB : Hid (SlBox wr w.heap.size ⟨.slice ao al.length ac, .slice bo bl.length bc, .slice po pl.length pc, .slice no nl.length nc, m, al, bl, pl, nl⟩) := hb
            have HL : Hid (Below w.heap.size w wr) := hbl
            have c0 := hb.c2
            have c4 := hb.c4
            simp only at c0 c4
            clear hb hbl
            by_cases hlt : i < pl.length
            · have gi := List.getElem?_eq_getElem hlt
              have hlt' : (i : Int) < (pl.length : Int) := by omega
              have hin := List.mem_of_getElem? gi
              generalize pl[i] = y at gi hin
              obtain ⟨yv, yn⟩ := y
              obtain ⟨hy1, hyo⟩ := HB.out.ok.p.each _ hin
              obtain ⟨yo, yc, hys⟩ := ownsRow_shape hyo
              simp only at hy1 hys
              subst hys
              obtain ⟨L, lc, hL, hLl, cL⟩ := rowAt HB.out.ok.p.row gi
              simp only [Value.slice.injEq] at hL
              obtain ⟨rfl, _, rfl⟩ := hL
              have HG : Hid (pl[i]? = some (.slice yo yn yc, yn)) := gi
              have HIN : Hid ((.slice yo yn yc, yn) ∈ pl) := hin
              clear hyo gi hin
              simp only at cL
              go_wp2_with fail
              go_loopg [8] (yn + 1) (fun k vi wr' => ∃ j : Nat, j ≤ yn ∧ yn - j ≤ k ∧ vi = .int .i64 j ∧ SlBox wr' w.heap.size ⟨.slice ao al.length ac, .slice bo bl.length bc, .slice (some ⟨L, 0, none⟩) pl.length pc, .slice no nl.length nc, m, al, bl, pl, nl⟩ ∧ Below w.heap.size w wr')
              case atStart => exact ⟨0, by omega, by omega, rfl, HB.out, HL.out⟩
              case round =>
                obtain ⟨j, hj, hkk, rfl, hb, hbl⟩ := hrel
                clear HB HL cL c0 c4 hLl
                have HB : Hid (SlBox wr w.heap.size ⟨.slice ao al.length ac, .slice bo bl.length bc, .slice (some ⟨L, 0, none⟩) pl.length pc, .slice no nl.length nc, m, al, bl, pl, nl⟩) := hb
                have HL : Hid (Below w.heap.size w wr) := hbl
                have c0 := hb.c2
                have c4 := hb.c4
                simp only at c0 c4
                obtain ⟨L', lc', hL, hLl, cL⟩ := rowAt hb.ok.p.row HG.out
                simp only [Value.slice.injEq, Option.some.injEq, Addr.mk.injEq, and_true, true_and] at hL cL
                obtain ⟨rfl, rfl⟩ := hL
                clear hb hbl
                by_cases hjt : j < yn
                · have hjt' : (j : Int) < (yn : Int) := by omega
                  obtain ⟨g, cap, hg, hgl, cg⟩ := markAt (c := pairMark m) (HB.out.ok.p.each _ HIN.out).2 (i := j) hjt
                  simp only [Value.slice.injEq] at hg
                  obtain ⟨rfl, _, rfl⟩ := hg
                  have g0 := cg 0 (by simp [pairMark])
                  have g1 := cg 1 (by simp [pairMark])
                  simp only [pairMark, List.length_cons, List.length_nil, Nat.add_zero, Nat.zero_add, List.getElem?_cons_zero, List.getElem?_cons_succ] at g0 g1
                  clear cg
                  have HB2 : Hid (∀ n, SlBox (wr.drewN n) w.heap.size ⟨.slice ao al.length ac, .slice bo bl.length bc, .slice (some ⟨L, 0, none⟩) pl.length pc, .slice no nl.length nc, m, al, bl, pl, nl⟩) := fun n => HB.out.drewN n
                  have HL2 : Hid (∀ n, Below w.heap.size w (wr.drewN n)) := fun n => below_drewN HL.out n
                  go_wp2_with fail
                  go_quiet (fail)
                  go_wp2_with fail
                  go_roundg (yn - (j + 1))
                  case measure => omega
                  case rel => exact ⟨j + 1, by omega, Nat.le_refl _, by go_num, HB2.out _, HL2.out _⟩
                · have hjt' : ¬ (j : Int) < (yn : Int) := by omega
                  go_wp2_with fail
                  go_roundg (pl.length - (i + 1))
                  case measure => omega
                  case rel => exact ⟨i + 1, by omega, Nat.le_refl _, by go_num, HB.out, HL.out⟩
            · have hlt' : ¬ (i : Int) < (pl.length : Int) := by omega
              clear hi hk
              go_wp2_with fail
              go_loopg [9] (nl.length + 1) (fun k vi wr => ∃ i : Nat, i ≤ nl.length ∧ nl.length - i ≤ k ∧ vi = .int .i64 i ∧ SlBox wr w.heap.size ⟨.slice ao al.length ac, .slice bo bl.length bc, .slice po pl.length pc, .slice no nl.length nc, m, al, bl, pl, nl⟩ ∧ Below w.heap.size w wr)
              case atStart => exact ⟨0, by omega, by omega, rfl, HB.out, HL.out⟩
              case round =>
                obtain ⟨i, hi, hk, rfl, hb, hbl⟩ := hrel
                clear HB HL
                have HB : Hid (SlBox wr w.heap.size ⟨.slice ao al.length ac, .slice bo bl.length bc, .slice po pl.length pc, .slice no nl.length nc, m, al, bl, pl, nl⟩) := hb
                have HL : Hid (Below w.heap.size w wr) := hbl
                have c0 := hb.c3
                have c4 := hb.c4
                simp only at c0 c4
                clear hb hbl
                by_cases hlt : i < nl.length
                · have gi := List.getElem?_eq_getElem hlt
                  have hlt' : (i : Int) < (nl.length : Int) := by omega
                  have hin := List.mem_of_getElem? gi
                  generalize nl[i] = y at gi hin
                  obtain ⟨yv, yn⟩ := y
                  obtain ⟨hy1, hyo⟩ := HB.out.ok.n.each _ hin
                  obtain ⟨yo, yc, hys⟩ := ownsRow_shape hyo
                  simp only at hy1 hys
                  subst hys
                  obtain ⟨L, lc, hL, hLl, cL⟩ := rowAt HB.out.ok.n.row gi
                  simp only [Value.slice.injEq] at hL
                  obtain ⟨rfl, _, rfl⟩ := hL
                  have HG : Hid (nl[i]? = some (.slice yo yn yc, yn)) := gi
                  have HIN : Hid ((.slice yo yn yc, yn) ∈ nl) := hin
                  clear hyo gi hin
                  simp only at cL
                  go_wp2_with fail
                  go_loopg [10] (yn + 1) (fun k vi wr' => ∃ j : Nat, j ≤ yn ∧ yn - j ≤ k ∧ vi = .int .i64 j ∧ SlBox wr' w.heap.size ⟨.slice ao al.length ac, .slice bo bl.length bc, .slice po pl.length pc, .slice (some ⟨L, 0, none⟩) nl.length nc, m, al, bl, pl, nl⟩ ∧ Below w.heap.size w wr')
                  case atStart => exact ⟨0, by omega, by omega, rfl, HB.out, HL.out⟩
                  case round =>
                    obtain ⟨j, hj, hkk, rfl, hb, hbl⟩ := hrel
                    clear HB HL cL c0 c4 hLl
                    have HB : Hid (SlBox wr w.heap.size ⟨.slice ao al.length ac, .slice bo bl.length bc, .slice po pl.length pc, .slice (some ⟨L, 0, none⟩) nl.length nc, m, al, bl, pl, nl⟩) := hb
                    have HL : Hid (Below w.heap.size w wr) := hbl
                    have c0 := hb.c3
                    have c4 := hb.c4
                    simp only at c0 c4
                    obtain ⟨L', lc', hL, hLl, cL⟩ := rowAt hb.ok.n.row HG.out
                    simp only [Value.slice.injEq, Option.some.injEq, Addr.mk.injEq, and_true, true_and] at hL cL
                    obtain ⟨rfl, rfl⟩ := hL
                    clear hb hbl
                    by_cases hjt : j < yn
                    · have hjt' : (j : Int) < (yn : Int) := by omega
                      obtain ⟨g, cap, hg, hgl, cg⟩ := markAt (c := intMark m) (HB.out.ok.n.each _ HIN.out).2 (i := j) hjt
                      simp only [Value.slice.injEq] at hg
                      obtain ⟨rfl, _, rfl⟩ := hg
                      have g0 := cg 0 (by simp [intMark])
                      simp only [intMark, List.length_cons, List.length_nil, Nat.add_zero, Nat.zero_add, Nat.mul_one, List.getElem?_cons_zero] at g0
                      clear cg
                      have HB2 : Hid (∀ n, SlBox (wr.drewN n) w.heap.size ⟨.slice ao al.length ac, .slice bo bl.length bc, .slice po pl.length pc, .slice (some ⟨L, 0, none⟩) nl.length nc, m, al, bl, pl, nl⟩) := fun n => HB.out.drewN n
                      have HL2 : Hid (∀ n, Below w.heap.size w (wr.drewN n)) := fun n => below_drewN HL.out n
                      go_wp2_with fail
                      go_quiet (fail)
                      go_wp2_with fail
                      go_roundg (yn - (j + 1))
                      case measure => omega
                      case rel => exact ⟨j + 1, by omega, Nat.le_refl _, by go_num, HB2.out _, HL2.out _⟩
                    · have hjt' : ¬ (j : Int) < (yn : Int) := by omega
                      go_wp2_with fail
                      go_roundg (nl.length - (i + 1))
                      case measure => omega
                      case rel => exact ⟨i + 1, by omega, Nat.le_refl _, by go_num, HB.out, HL.out⟩
                · have hlt' : ¬ (i : Int) < (nl.length : Int) := by omega
                  clear hi hk
                  go_wp2_with fail
                  go_ret
                  exact ⟨rfl, HL.out⟩
end
end Go.Proofs.YtcabaecbmkgclaaGreatDoor

namespace Go.Proofs.YtcabaecbmkgclaaGreatDoor
open Go.RowKit

structure BookOk (N : Nat) (w : World) (B : Nat) (l : List Sl) : Prop where
  base : N ≤ B
  bk : ∃ v, w.heap[B]? = some (.cells #[v] 58 (0, 0)) ∧ w.ownsRow N 84 5 v l.length (l.flatMap slCells)
  ok : ∀ x ∈ l, SlOk w x

theorem cell_of_heap {w : World} {B : Nat} {v : Value} {t : TypeId} (h : w.heap[B]? = some (.cells #[v] t (0, 0))) : w.cell? ⟨B, 0, none⟩ = some v ∧ w.frozen? ⟨B, 0, none⟩ = false ∧ B < w.heap.size := by
  have hlt : B < w.heap.size := (Array.getElem?_eq_some_iff.1 h).1
  refine ⟨?_, ?_, hlt⟩
  · simp [World.cell?, h]
  · simp [World.frozen?, h]

theorem BookOk.at {N : Nat} {w : World} {B : Nat} {l : List Sl} (h : BookOk N w B l) : ∃ bo bc, w.cell? ⟨B, 0, none⟩ = some (.slice bo l.length bc) ∧ w.frozen? ⟨B, 0, none⟩ = false ∧ B < w.heap.size ∧ w.heap[B]? = some (.cells #[.slice bo l.length bc] 58 (0, 0)) ∧ w.ownsRow N 84 5 (.slice bo l.length bc) l.length (l.flatMap slCells) := by
  obtain ⟨v, hv, ho⟩ := h.bk
  obtain ⟨bo, bc, rfl⟩ := ownsRow_shape ho
  obtain ⟨h1, h2, h3⟩ := cell_of_heap hv
  exact ⟨bo, bc, h1, h2, h3, hv, ho⟩

theorem BookOk.below {N : Nat} {w w' : World} {B : Nat} {l : List Sl} (h : BookOk N w B l) (hb : Below w.heap.size w w') : BookOk N w' B l := by
  obtain ⟨v, hv, ho⟩ := h.bk
  refine ⟨h.base, ⟨v, (hb.block B (cell_of_heap hv).2.2).trans hv, ownsRow_same ho fun k hk => hb.block k (ho.lt k hk).2⟩, fun x hx => (h.ok x hx).below hb⟩

theorem grownBy_trans {a b c : World} {r : Option Nat} (h : a.grownBy b r) (k : b.grownBy c r) : a.grownBy c r :=
  ⟨k.os.trans h.os, k.tape.trans h.tape, k.output.trans h.output, Nat.le_trans h.size k.size, fun i hi hr => (k.block i (Nat.lt_of_lt_of_le hi h.size) hr).trans (h.block i hi hr)⟩
theorem grownBy_alloc (w : World) (o : Obj) (r : Option Nat) : w.grownBy (w.alloc o) r := ⟨rfl, rfl, rfl, by simp, fun k hk _ => heap_alloc_lt w o k hk⟩
theorem grownBy_set (w : World) (g i : Nat) (u : Value) : w.grownBy (w.setCell ⟨g, i, none⟩ u) (some g) := ⟨rfl, rfl, rfl, by simp, fun k _ hr => Below.heap_setCell w _ u k (by intro e; exact hr (by rw [e]))⟩

theorem BookOk.row {N : Nat} {w : World} {B : Nat} {l : List Sl} (h : BookOk N w B l) {bv : Value} (hbv : w.cell? ⟨B, 0, none⟩ = some bv) : w.heap[B]? = some (.cells #[bv] 58 (0, 0)) ∧ w.ownsRow N 84 5 bv l.length (l.flatMap slCells) := by
  obtain ⟨v, hv, ho⟩ := h.bk
  rw [(cell_of_heap hv).1] at hbv
  cases hbv
  exact ⟨hv, ho⟩

/-- The blocks of the book: its own, its row's, its slips'. -/
def BookHas (w : World) (B : Nat) (l : List Sl) (k : Nat) : Prop := k = B ∨ (∃ v, w.cell? ⟨B, 0, none⟩ = some v ∧ v.ownBlock = some k) ∨ ∃ x ∈ l, x.has k

theorem BookOk.same {N : Nat} {w w' : World} {B : Nat} {l : List Sl} (h : BookOk N w B l) (hs : ∀ k, BookHas w B l k → w'.heap[k]? = w.heap[k]?) : BookOk N w' B l := by
  obtain ⟨v, hv, ho⟩ := h.bk
  exact ⟨h.base, ⟨v, (hs B (.inl rfl)).trans hv, ownsRow_same ho fun k hk => hs k (.inr (.inl ⟨v, (cell_of_heap hv).1, hk⟩))⟩, fun x hx => (h.ok x hx).same fun k hk => hs k (.inr (.inr ⟨x, hx, hk⟩))⟩

/-- What lies in the book's own block and in its row is told by its type. -/
theorem BookOk.not {N : Nat} {w : World} {B : Nat} {l : List Sl} (h : BookOk N w B l) {base : Nat} {e : TypeId} {size : Nat} {v : Value} {n : Nat} {xs : List Value} (ho : w.ownsRow base e size v n xs) (h1 : e ≠ 84) (h2 : e ≠ 58) {k : Nat} (hk : v.ownBlock = some k) :
    k ≠ B ∧ ∀ bv, w.cell? ⟨B, 0, none⟩ = some bv → bv.ownBlock ≠ some k := by
  obtain ⟨cur, hc⟩ := ownsRow_type ho hk
  refine ⟨?_, ?_⟩
  · rintro rfl
    obtain ⟨bv, hv, _⟩ := h.bk
    rw [hv] at hc
    simp at hc
    exact h2 hc.2.symm
  · intro bv hbv hk2
    obtain ⟨cur2, hc2⟩ := ownsRow_type (h.row hbv).2 hk2
    rw [hc2] at hc
    simp at hc
    exact h1 hc.2.symm

theorem heap_set_one {w : World} {B : Nat} {u v : Value} {t : TypeId} (h : w.heap[B]? = some (.cells #[u] t (0, 0))) : (w.setCell ⟨B, 0, none⟩ v).heap[B]? = some (.cells #[v] t (0, 0)) := by
  have := heap_setCell_same w B 0 #[u] t v h
  simpa using this

/-- A slip more. -/
theorem BookOk.added {N : Nat} {w w2 : World} {B : Nat} {l : List Sl} (h : BookOk N w B l) {bv : Value} (hbv : w.cell? ⟨B, 0, none⟩ = some bv) (x : Sl) (hx : SlOk w x) (v' : Value)
    (ho : w2.ownsRow N 84 5 v' (l.length + 1) (l.flatMap slCells ++ slCells x)) (hg : w.grownBy w2 bv.ownBlock) : BookOk N (w2.setCell ⟨B, 0, none⟩ v') B (l ++ [x]) := by
  obtain ⟨hB, hr⟩ := h.row hbv
  have hlt := (cell_of_heap hB).2.2
  have hnB : bv.ownBlock ≠ some B := by
    intro e
    obtain ⟨cur, hc⟩ := ownsRow_type hr e
    rw [hB] at hc
    simp at hc
  have hB2 : w2.heap[B]? = some (.cells #[bv] 58 (0, 0)) := (hg.block B hlt (fun e => hnB e.symm)).trans hB
  have hnB2 : v'.ownBlock ≠ some B := by
    intro e
    obtain ⟨cur, hc⟩ := ownsRow_type ho e
    rw [hB2] at hc
    simp at hc
  have hsl : ∀ y, SlOk w y → SlOk (w2.setCell ⟨B, 0, none⟩ v') y := by
    intro y hy
    refine hy.same fun k hk => ?_
    obtain ⟨cur, e, hc, n1, n2⟩ := hy.type hk
    have hkB : k ≠ B := by
      rintro rfl
      rw [hB] at hc
      simp at hc
      exact n2 hc.2.symm
    rw [Below.heap_setCell w2 _ _ k hkB]
    refine hg.block k (hy.lt hk) fun e2 => ?_
    obtain ⟨cur2, hc2⟩ := ownsRow_type hr e2.symm
    rw [hc2] at hc
    simp at hc
    exact n1 hc.2.symm
  refine ⟨h.base, ⟨v', heap_set_one hB2, ?_⟩, ?_⟩
  · have := ownsRow_setCell_other (a := ⟨B, 0, none⟩) ho hnB2 v'
    simpa using this
  · intro y hy
    rcases List.mem_append.1 hy with hy | hy
    · exact hsl y (h.ok y hy)
    · simp at hy
      subst hy
      exact hsl _ hx

theorem slAt {w : World} {base : Nat} {v : Value} {l : List Sl} (h : w.ownsRow base 84 5 v l.length (l.flatMap slCells)) {i : Nat} {x : Sl} (hi : l[i]? = some x) :
    ∃ g cap, v = .slice (some ⟨g, 0, none⟩) l.length cap ∧ g < w.heap.size ∧ w.cell? ⟨g, i * 5, none⟩ = some x.va ∧ w.cell? ⟨g, i * 5 + 1, none⟩ = some x.vb ∧ w.cell? ⟨g, i * 5 + 2, none⟩ = some x.vp ∧ w.cell? ⟨g, i * 5 + 3, none⟩ = some x.vn ∧ w.cell? ⟨g, i * 5 + 4, none⟩ = some (.int .i64 x.m) := by
  have hl := (List.getElem?_eq_some_iff.1 hi).1
  obtain ⟨g, cap, rfl, h1, h2, h3, h4⟩ := ownsRow_at h (by omega)
  have d0 := flatMap_get slCells 5 slCells_len _ i 0 x hi (by omega)
  rw [Nat.add_zero] at d0
  refine ⟨g, cap, rfl, h2, (h3 (i * 5) (by omega)).trans d0, ?_, ?_, ?_, ?_⟩
  · exact (h3 _ (by omega)).trans (flatMap_get slCells 5 slCells_len _ i 1 x hi (by omega))
  · exact (h3 _ (by omega)).trans (flatMap_get slCells 5 slCells_len _ i 2 x hi (by omega))
  · exact (h3 _ (by omega)).trans (flatMap_get slCells 5 slCells_len _ i 3 x hi (by omega))
  · exact (h3 _ (by omega)).trans (flatMap_get slCells 5 slCells_len _ i 4 x hi (by omega))

section
set_option maxRecDepth 100000 in
set_option maxHeartbeats 4000000 in
theorem looks_any {N : Nat} {w : World} {B : Nat} {l : List Sl} (h : BookOk N w B l) (hn : l.length ≤ 9000000) : Calls Tryz.prog 21 #[.pointer (some ⟨B, 0, none⟩)] w fun e w' => e = .returned (.bool true) ∧ Below w.heap.size w w' := by
  have HH : Hid (BookOk N w B l) := h
  clear h
  go_enter Tryz.func21, Tryz.ntmps21
  go_wp2_with fail
  go_loopg [3] (l.length + 1) (fun k vi wr => ∃ i : Nat, i ≤ l.length ∧ l.length - i ≤ k ∧ vi = .int .i64 i ∧ Below w.heap.size w wr)
  case atStart => exact ⟨0, by omega, by omega, rfl, Below.refl _ _⟩
  case round =>
    obtain ⟨i, hi, hk, rfl, hbl⟩ := hrel
    have HL : Hid (Below w.heap.size w wr) := hbl
    have HB : Hid (BookOk N wr B l) := HH.out.below hbl
    obtain ⟨bo, bc, c0, f0, hlt, _, ho⟩ := HB.out.at
    clear hbl
    by_cases hil : i < l.length
    · have gi := List.getElem?_eq_getElem hil
      have hil' : (i : Int) < (l.length : Int) := by omega
      have hin := List.mem_of_getElem? gi
      generalize l[i] = x at gi hin
      obtain ⟨g, cap, hv, hg, g0, g1, g2, g3, g4⟩ := slAt ho gi
      simp only [Value.slice.injEq] at hv
      obtain ⟨rfl, _, rfl⟩ := hv
      have HS : Hid (SlOk wr x) := HB.out.ok x hin
      obtain ⟨xa, xac, hxa⟩ := ownsRow_shape HS.out.a.row
      obtain ⟨xb, xbc, hxb⟩ := ownsRow_shape HS.out.b.row
      obtain ⟨xp, xpc, hxp⟩ := ownsRow_shape HS.out.p.row
      obtain ⟨xn, xnc, hxn⟩ := ownsRow_shape HS.out.n.row
      have HR := reads_any wr x HS.out
      rw [hxa, hxb, hxp, hxn] at HR
      rw [hxa] at g0
      rw [hxb] at g1
      rw [hxp] at g2
      rw [hxn] at g3
      clear hin gi ho
      go_wp2_with fail
      refine HR.mono ?_
      rintro e w2 ⟨rfl, hb2⟩
      have HL2 : Hid (Below w.heap.size w w2) := HL.out.trans (hb2.mono HL.out.size)
      clear hb2 HR
      go_wp2_with fail
      go_roundg (l.length - (i + 1))
      case measure => omega
      case rel => exact ⟨i + 1, by omega, Nat.le_refl _, by go_num, HL2.out⟩
    · have hil' : ¬ (i : Int) < (l.length : Int) := by omega
      clear ho
      go_wp2_with fail
      go_ret
      exact ⟨rfl, HL.out⟩
end
end Go.Proofs.YtcabaecbmkgclaaGreatDoor

namespace Go.Proofs.YtcabaecbmkgclaaGreatDoor
open Go.RowKit Bz

theorem or_bit_u32 (m b : Nat) (hm : m < 4294967296) (hb : b < 24) : bits .or .u32 (m : Int) ((2 : Int) ^ b % 4294967296) = ((m ||| 1 <<< b : Nat) : Int) := by
  have h1 : (2 : Nat) ^ b < 2 ^ 24 := Nat.pow_lt_pow_right (by decide) hb
  have h2 : (2 : Int) ^ b % (4294967296 : Int) = ((1 <<< b : Nat) : Int) := by
    rw [Nat.shiftLeft_eq, Nat.one_mul]
    have : (2 : Int) ^ b = ((2 ^ b : Nat) : Int) := by simp
    rw [this]
    generalize (2 : Nat) ^ b = q at *
    omega
  rw [h2, u32_or_nat m (1 <<< b) hm (by rw [Nat.shiftLeft_eq, Nat.one_mul]; omega)]

set_option maxHeartbeats 1000000 in
theorem join_cells (w : World) (B a b : Nat) (ha : a < 24) (hb : b < 24) (hab : a ≠ b) (m n : Nat) (hm : m < 4294967296) (hn : n < 4294967296)
    (ca : w.cell? ⟨B, 2 + a, none⟩ = some (.int .u32 m)) (cb : w.cell? ⟨B, 2 + b, none⟩ = some (.int .u32 n)) (fa : w.frozen? ⟨B, 2 + a, none⟩ = false) (fb : w.frozen? ⟨B, 2 + b, none⟩ = false) :
    Calls Tryz.prog 33 #[.pointer (some ⟨B, 2, none⟩), .int .i64 a, .int .i64 b] w fun e w' => e = .returned (.tuple #[]) ∧
      ∃ k, w' = ((w.setCell ⟨B, 2 + a, none⟩ (.int .u32 ((m ||| 1 <<< b : Nat) : Int))).setCell ⟨B, 2 + b, none⟩ (.int .u32 ((n ||| 1 <<< a : Nat) : Int))).drewN k := by
  have a24 : (a : Int) < 24 := by omega
  have b24 : (b : Int) < 24 := by omega
  go_enter Tryz.func33, Tryz.ntmps33
  go_wp2
  go_region
  go_wp2
  go_region
  go_wp2
  go_end0
  refine ⟨rfl, 2, ?_⟩
  rw [or_bit_u32 m b hm hb, or_bit_u32 n a hn ha]
  rfl

theorem bonded_bind (l : List Bnd) (a b : Nat) (o : Int) (pl k j : Nat) : bonded (l ++ [⟨min a b, max a b, o, pl⟩]) k j = (bonded l k j || ((k == a && j == b) || (k == b && j == a))) := by
  unfold bonded
  rw [List.any_append]
  congr 1
  simp only [List.any_cons, List.any_nil, Bool.or_false]
  rw [Bool.eq_iff_iff]
  simp
  omega

theorem testBit_or_bit (m b j : Nat) : (m ||| 1 <<< b).testBit j = (m.testBit j || decide (j = b)) := by
  rw [Nat.testBit_or, Nat.shiftLeft_eq, Nat.one_mul, Nat.testBit_two_pow]
  congr 1
  rw [Bool.eq_iff_iff]
  simp
  exact eq_comm

theorem or_bit_lt (m b : Nat) (hm : m < 4294967296) (hb : b < 24) : m ||| 1 <<< b < 4294967296 := by
  have : (1 <<< b : Nat) < 2 ^ 32 := by
    rw [Nat.shiftLeft_eq, Nat.one_mul]
    exact Nat.pow_lt_pow_right (by decide) (by omega)
  exact Nat.or_lt_two_pow (n := 32) hm this

section
variable {w : World} {B : Nat} {s : ByteArray} {p : St}

/-- The graph alone has turned: the bit of an edge, at both ends. (The list of bonds has yet to grow.) -/
structure RdJ (w : World) (B : Nat) (s : ByteArray) (p : St) (l : List Bnd) : Prop where
  text : w.cell? ⟨B, 0, none⟩ = some (.string s)
  pos : w.cell? ⟨B, 1, none⟩ = some (.int .i64 p.pos)
  near : ∀ k, k < 24 → ∃ m : Nat, w.cell? ⟨B, 2 + k, none⟩ = some (.int .u32 m) ∧ m < 4294967296 ∧ ∀ j, j < 24 → m.testBit j = bonded l k j
  atoms : ∃ v, w.cell? ⟨B, 26, none⟩ = some v ∧ w.ownsRow (B + 1) 124 6 v p.atoms.length (p.atoms.flatMap atmCells)
  bonds : ∃ v, w.cell? ⟨B, 27, none⟩ = some v ∧ w.ownsRow (B + 1) 102 4 v p.bonds.length (p.bonds.flatMap pbCells)
  err : ∃ v, w.cell? ⟨B, 28, none⟩ = some v
  plc : ∃ v, w.cell? ⟨B, 29, none⟩ = some v
  rings : ∀ n j v, n < 100 → (opnCells (p.rings n))[j]? = some v → w.cell? ⟨B, 30 + n * 5 + j, none⟩ = some v
  free : ∀ i, w.frozen? ⟨B, i, none⟩ = false

theorem join_any (h : Rd w B s p) (a b : Nat) (o : Int) (pl : Nat) (ha : a < 24) (hb : b < 24) (hab : a ≠ b) :
    Calls Tryz.prog 33 #[.pointer (some ⟨B, 2, none⟩), .int .i64 a, .int .i64 b] w fun e w' => e = .returned (.tuple #[]) ∧ RdJ w' B s p (p.bonds ++ [⟨min a b, max a b, o, pl⟩]) ∧ Fr B w w' := by
  obtain ⟨m, ca, hm, ta⟩ := h.near a ha
  obtain ⟨n, cb, hn, tb⟩ := h.near b hb
  refine (join_cells w B a b ha hb hab m n hm hn ca cb (h.free _) (h.free _)).mono ?_
  rintro e w' ⟨rfl, k, rfl⟩
  obtain ⟨va, hva, oa⟩ := h.atoms
  obtain ⟨vb, hvb, ob⟩ := h.bonds
  have hc : ∀ i, i ≠ 2 + a → i ≠ 2 + b → (((w.setCell ⟨B, 2 + a, none⟩ (.int .u32 ((m ||| 1 <<< b : Nat) : Int))).setCell ⟨B, 2 + b, none⟩ (.int .u32 ((n ||| 1 <<< a : Nat) : Int))).drewN k).cell? ⟨B, i, none⟩ = w.cell? ⟨B, i, none⟩ := by
    intro i h1 h2
    rw [World.cell?_drewN, cell_set_ne (by omega), cell_set_ne (by omega)]
  refine ⟨rfl, ⟨by rw [hc _ (by omega) (by omega)]; exact h.text, by rw [hc _ (by omega) (by omega)]; exact h.pos, ?_,
    ⟨va, by rw [hc _ (by omega) (by omega)]; exact hva, ownsRow_setB (ownsRow_setB oa _ _) _ _⟩, ⟨vb, by rw [hc _ (by omega) (by omega)]; exact hvb, ownsRow_setB (ownsRow_setB ob _ _) _ _⟩,
    by rw [hc _ (by omega) (by omega)]; exact h.err, by rw [hc _ (by omega) (by omega)]; exact h.plc, fun n j v hn hv => by rw [hc _ (by omega) (by omega)]; exact h.rings n j v hn hv,
    fun i => by rw [World.frozen?_drewN, World.frozen?_setCell, World.frozen?_setCell]; exact h.free i⟩,
    (((Fr.refl B w).setCell (.inl rfl) (fun _ => ⟨by simp; omega, by simp; omega⟩) _).setCell (.inl rfl) (fun _ => ⟨by simp; omega, by simp; omega⟩) _).drewN k⟩
  intro i hi
  by_cases e1 : i = a
  · subst e1
    refine ⟨_, by rw [World.cell?_drewN, cell_set_ne (by omega)]; exact World.cell?_setCell_same w _ _ ca, or_bit_lt m b hm hb, fun j hj => ?_⟩
    rw [testBit_or_bit, ta j hj, bonded_bind]
    congr 1
    rw [Bool.eq_iff_iff]
    simp
    omega
  · by_cases e2 : i = b
    · subst e2
      refine ⟨_, by rw [World.cell?_drewN]; exact World.cell?_setCell_same _ _ _ (by rw [cell_set_ne (by omega)]; exact cb), or_bit_lt n a hn ha, fun j hj => ?_⟩
      rw [testBit_or_bit, tb j hj, bonded_bind]
      congr 1
      rw [Bool.eq_iff_iff]
      simp
      omega
    · obtain ⟨q, cq, hq, tq⟩ := h.near i hi
      refine ⟨q, by rw [hc _ (by omega) (by omega)]; exact cq, hq, fun j hj => ?_⟩
      rw [tq j hj, bonded_bind]
      simp [e1, e2]
end
end Go.Proofs.YtcabaecbmkgclaaGreatDoor

namespace Go.Proofs.YtcabaecbmkgclaaGreatDoor
open Go.RowKit Bz

section
variable {w : World} {B : Nat} {s : ByteArray} {p : St}

theorem bit_u32 (m b : Nat) (hm : m < 4294967296) : (bits .and .u32 ((m : Int) / 2 ^ b) 1 == 1) = m.testBit b := by
  have h1 : ((m : Int) / 2 ^ b) = ((m / 2 ^ b : Nat) : Int) := by simp
  have h2 : m / 2 ^ b < 4294967296 := Nat.lt_of_le_of_lt (Nat.div_le_self _ _) hm
  rw [h1, show (1 : Int) = ((1 : Nat) : Int) from rfl, u32_and_nat _ 1 h2 (by decide)]
  rw [Nat.testBit_eq_decide_div_mod_eq, Nat.and_one_is_mod]
  rw [Bool.eq_iff_iff]
  simp
  omega

set_option maxHeartbeats 1000000 in
theorem joined_any (h : Rd w B s p) (a b : Nat) (ha : a < 24) (hb : b < 24) :
    Calls Tryz.prog 64 #[.pointer (some ⟨B, 2, none⟩), .int .i64 a, .int .i64 b] w fun e w' => e = .returned (.bool (bonded p.bonds a b)) ∧ w' = w := by
  obtain ⟨m, ca, hm, ta⟩ := h.near a ha
  have a24 : (a : Int) < 24 := by omega
  have b24 : (b : Int) < 24 := by omega
  rw [← ta b hb]
  have hbt := bit_u32 m b hm
  have HB : Hid _ := hbt
  clear hbt ta
  go_enter Tryz.func64, Tryz.ntmps64
  go_wp2
  go_ret
  exact ⟨ret_bool HB.out, rfl⟩

set_option maxHeartbeats 1000000 in
theorem both_any (h : Rd w B s p) (a b : Nat) (ha : a < p.atoms.length) (hb : b < p.atoms.length) (hn : p.atoms.length ≤ 24) :
    Calls Tryz.prog 154 #[.pointer (some ⟨B, 2, none⟩), .int .i64 a, .int .i64 b] w fun e w' => e = .returned (.bool (aro p a && aro p b)) ∧ w' = w := by
  obtain ⟨g, cap, hv, hc, _, _, _⟩ := h.atomsAt (by omega)
  have ga := List.getElem?_eq_getElem ha
  have gb := List.getElem?_eq_getElem hb
  have ca := hc a _ 1 (.bool (p.atoms[a]).aro) ga rfl
  have cb := hc b _ 1 (.bool (p.atoms[b]).aro) gb rfl
  have ea : aro p a = (p.atoms[a]).aro := by simp [aro, ga]
  have eb : aro p b = (p.atoms[b]).aro := by simp [aro, gb]
  rw [ea, eb]
  generalize (p.atoms[a]).aro = xa at *
  generalize (p.atoms[b]).aro = xb at *
  clear hc ga gb ea eb
  have ha' : (a : Int) < (p.atoms.length : Int) := by omega
  have hb' : (b : Int) < (p.atoms.length : Int) := by omega
  go_enter Tryz.func154, Tryz.ntmps154
  cases xa
  · go_wp2
    go_ret
    exact ⟨rfl, rfl⟩
  · go_wp2
    go_ret
    exact ⟨rfl, rfl⟩

set_option maxHeartbeats 1000000 in
theorem order_any (h : Rd w B s p) (mark : Int) (a b : Nat) (ha : a < p.atoms.length) (hb : b < p.atoms.length) (hn : p.atoms.length ≤ 24) :
    Calls Tryz.prog 130 #[.pointer (some ⟨B, 0, none⟩), .int .u8 mark, .int .i64 a, .int .i64 b] w fun e w' => e = .returned (.int .i64 (order p mark a b)) ∧ w' = w := by
  have hb2 := both_any h a b ha hb hn
  by_cases h1 : mark = 45
  · have e : order p mark a b = 1 := by simp [order, h1]
    rw [e, h1]
    go_enter Tryz.func130, Tryz.ntmps130
    go_wp2_with fail
    go_ret
    exact ⟨rfl, rfl⟩
  by_cases h2 : mark = 61
  · have e : order p mark a b = 2 := by simp [order, h2]
    rw [e, h2]
    go_enter Tryz.func130, Tryz.ntmps130
    go_wp2_with fail
    go_ret
    exact ⟨rfl, rfl⟩
  by_cases h3 : mark = 35
  · have e : order p mark a b = 3 := by simp [order, h3]
    rw [e, h3]
    go_enter Tryz.func130, Tryz.ntmps130
    go_wp2_with fail
    go_ret
    exact ⟨rfl, rfl⟩
  by_cases h4 : mark = 58
  · have e : order p mark a b = 4 := by simp [order, h4]
    rw [e, h4]
    go_enter Tryz.func130, Tryz.ntmps130
    go_wp2_with fail
    go_ret
    exact ⟨rfl, rfl⟩
  have t1 : (mark == 45) = false := by simpa using h1
  have t2 : (mark == 61) = false := by simpa using h2
  have t3 : (mark == 35) = false := by simpa using h3
  have t4 : (mark == 58) = false := by simpa using h4
  have e : order p mark a b = if aro p a && aro p b then 4 else 1 := by simp [order, h1, h2, h3, h4]
  rw [e]
  clear e h1 h2 h3 h4
  cases hx : (aro p a && aro p b)
  · rw [hx] at hb2
    simp only [Bool.false_eq_true, if_false]
    clear hx
    go_enter Tryz.func130, Tryz.ntmps130
    go_wp2_with fail
    refine hb2.mono ?_
    rintro e w' ⟨rfl, rfl⟩
    go_wp2_with fail
    go_ret
    exact ⟨rfl, rfl⟩
  · rw [hx] at hb2
    simp only [if_true]
    clear hx
    go_enter Tryz.func130, Tryz.ntmps130
    go_wp2_with fail
    refine hb2.mono ?_
    rintro e w' ⟨rfl, rfl⟩
    go_wp2_with fail
    go_ret
    exact ⟨rfl, rfl⟩

theorem RdJ.lt {l : List Bnd} (h : RdJ w B s p l) : B < w.heap.size := World.block_lt_of_cell? w ⟨B, 0, none⟩ h.text

theorem RdJ.cell27 {l : List Bnd} {w2 : World} (h : RdJ w B s p l) {bv : Value} (hbv : w.cell? ⟨B, 27, none⟩ = some bv) (hg : w.grownBy w2 bv.ownBlock) : w2.cell? ⟨B, 27, none⟩ = some bv ∧ w2.frozen? ⟨B, 27, none⟩ = false := by
  obtain ⟨va, ha, oa⟩ := h.bonds
  rw [hbv] at ha
  cases ha
  have hB : w2.heap[B]? = w.heap[B]? := hg.block B h.lt (fun e => by have := (oa.lt B e.symm).1; omega)
  exact ⟨by rw [World.cell?_of_block (w := w) hB]; exact hbv, by rw [World.frozen?_of_block (w := w) hB]; exact h.free 27⟩

theorem RdJ.alloc {l : List Bnd} (h : RdJ w B s p l) (o : Obj) : RdJ (w.alloc o) B s p l := by
  have hB := heap_alloc_lt w o B h.lt
  have hc : ∀ i, (w.alloc o).cell? ⟨B, i, none⟩ = w.cell? ⟨B, i, none⟩ := fun i => World.cell?_of_block (w := w) hB
  have hf : ∀ i, (w.alloc o).frozen? ⟨B, i, none⟩ = w.frozen? ⟨B, i, none⟩ := fun i => World.frozen?_of_block (w := w) hB
  obtain ⟨va, ha, oa⟩ := h.atoms
  obtain ⟨vb, hb, ob⟩ := h.bonds
  exact ⟨by rw [hc]; exact h.text, by rw [hc]; exact h.pos, fun k hk => by rw [hc]; exact h.near k hk, ⟨va, by rw [hc]; exact ha, oa.alloc o⟩, ⟨vb, by rw [hc]; exact hb, ob.alloc o⟩,
    by rw [hc]; exact h.err, by rw [hc]; exact h.plc, fun n j v hn hv => by rw [hc]; exact h.rings n j v hn hv, fun i => by rw [hf]; exact h.free i⟩

theorem RdJ.drew {l : List Bnd} (h : RdJ w B s p l) : RdJ w.drew B s p l := by
  obtain ⟨va, ha, oa⟩ := h.atoms
  obtain ⟨vb, hb, ob⟩ := h.bonds
  exact ⟨h.text, h.pos, h.near, ⟨va, ha, oa.drew⟩, ⟨vb, hb, ob.drew⟩, h.err, h.plc, h.rings, h.free⟩

theorem RdJ.bondAdded {w2 : World} (d : Bnd) (h : RdJ w B s p (p.bonds ++ [d])) {bv : Value} (hbv : w.cell? ⟨B, 27, none⟩ = some bv) (v' : Value)
    (hown : w2.ownsRow (B + 1) 102 4 v' (p.bonds.length + 1) (p.bonds.flatMap pbCells ++ pbCells d)) (hg : w.grownBy w2 bv.ownBlock)
    (hv : ∀ k, v'.ownBlock = some k → bv.ownBlock = some k ∨ w.heap.size ≤ k) :
    Rd (w2.setCell ⟨B, 27, none⟩ v') B s { p with bonds := p.bonds ++ [d] } ∧ Fr B w (w2.setCell ⟨B, 27, none⟩ v') := by
  obtain ⟨va, ha, oa⟩ := h.atoms
  obtain ⟨vb, hb, ob⟩ := h.bonds
  rw [hbv] at hb
  cases hb
  have hB : w2.heap[B]? = w.heap[B]? := hg.block B h.lt (fun e => by have := (ob.lt B e.symm).1; omega)
  have hc : ∀ i, w2.cell? ⟨B, i, none⟩ = w.cell? ⟨B, i, none⟩ := fun i => World.cell?_of_block (w := w) hB
  have hf : ∀ i, w2.frozen? ⟨B, i, none⟩ = w.frozen? ⟨B, i, none⟩ := fun i => World.frozen?_of_block (w := w) hB
  have oa2 : w2.ownsRow (B + 1) 124 6 va p.atoms.length (p.atoms.flatMap atmCells) :=
    ownsRow_same oa fun k hk => hg.block k (oa.lt k hk).2 (fun e => ownBlock_ne oa ob (by decide) k hk e.symm)
  have h27 : (w2.setCell ⟨B, 27, none⟩ v').cell? ⟨B, 27, none⟩ = some v' := World.cell?_setCell_same w2 _ _ (by rw [hc]; exact hbv)
  refine ⟨⟨by rw [cell_set_ne (by omega), hc]; exact h.text, by rw [cell_set_ne (by omega), hc]; exact h.pos, fun k hk => by rw [cell_set_ne (by omega), hc]; exact h.near k hk,
    ⟨va, by rw [cell_set_ne (by omega), hc]; exact ha, ownsRow_setB oa2 _ _⟩, ⟨v', h27, ?_⟩,
    by rw [cell_set_ne (by omega), hc]; exact h.err, by rw [cell_set_ne (by omega), hc]; exact h.plc, fun n j v hn hv => by rw [cell_set_ne (by omega), hc]; exact h.rings n j v hn hv,
    fun i => by rw [World.frozen?_setCell, hf]; exact h.free i⟩, ⟨hg.os, hg.tape, hg.output, by simpa using hg.size, ?_, ?_⟩⟩
  · have := ownsRow_setB hown 27 v'
    simpa using this
  · intro k hk hm
    rw [Below.heap_setCell w2 _ _ k (by rintro rfl; exact hm (.inl rfl))]
    exact hg.block k hk (fun e => hm (.inr (.inr ⟨bv, hbv, e.symm⟩)))
  · intro k hk hm
    rcases hm with rfl | ⟨v, hv1, hv2⟩ | ⟨v, hv1, hv2⟩
    · exact .inl rfl
    · rw [cell_set_ne (by omega), hc] at hv1
      exact .inr (.inl ⟨v, hv1, hv2⟩)
    · rw [h27] at hv1
      cases hv1
      rcases hv k hv2 with e | e
      · exact .inr (.inr ⟨bv, hbv, e⟩)
      · omega

theorem cells4 (w : World) (x y z u0 : Value) (t : TypeId) : ∀ j u, [x, y, z, u0][j]? = some u → (w.alloc (.cells #[x, y, z, u0] t)).cell? ((⟨w.heap.size, 0, none⟩ : Addr).add j) = some u := by
  intro j u hj
  have hadd : (⟨w.heap.size, 0, none⟩ : Addr).add j = ⟨w.heap.size, j, none⟩ := by unfold Addr.add; split <;> simp_all
  rw [hadd, World.cell?_alloc_new]
  simpa using hj

theorem pbCells_min (a b : Nat) (o : Int) (pl : Nat) (h : a < b) : pbCells ⟨min a b, max a b, o, pl⟩ = [.int .i64 (a : Int), .int .i64 (b : Int), .int .i64 o, .int .i64 (pl : Int)] := by
  unfold pbCells
  rw [Nat.min_eq_left (by omega), Nat.max_eq_right (by omega)]
theorem pbCells_max (a b : Nat) (o : Int) (pl : Nat) (h : b < a) : pbCells ⟨min a b, max a b, o, pl⟩ = [.int .i64 (b : Int), .int .i64 (a : Int), .int .i64 o, .int .i64 (pl : Int)] := by
  unfold pbCells
  rw [Nat.min_eq_right (by omega), Nat.max_eq_left (by omega)]

set_option maxHeartbeats 1000000 in
theorem bind_any (h : Rd w B s p) (a b : Nat) (o : Int) (pl : Nat) (ha : a < 24) (hb : b < 24) (hab : a ≠ b) (hn : p.bonds.length ≤ 1000) :
    Calls Tryz.prog 129 #[.pointer (some ⟨B, 2, none⟩), .int .i64 a, .int .i64 b, .int .i64 o, .int .i64 pl] w fun e w' => e = .returned (.tuple #[]) ∧ Rd w' B s (bind p a b o pl) ∧ Fr B w w' := by
  obtain ⟨i0, hi, hz0, hz1, hz2⟩ := info_parts Tryz.infoMBond
  have hJ := join_any h a b o pl ha hb hab
  go_enter Tryz.func129, Tryz.ntmps129
  go_wp2_with fail
  refine hJ.mono ?_
  rintro e w1 ⟨rfl, hj, hf⟩
  have hB := hj.lt
  obtain ⟨bv, hbv, ob⟩ := hj.bonds
  have hb2 : Hid (∀ o o' : Obj, (((w1.alloc o).alloc o').drew).cell? ⟨B, 27, none⟩ = some bv) := by
    intro o o'
    rw [World.cell?_drew, World.cell?_alloc_lt _ _ _ (by simp; omega), World.cell?_alloc_lt _ _ _ (by simpa using hB)]
    exact hbv
  clear hJ
  rcases Nat.lt_or_gt_of_ne hab with hlt | hlt
  · have hlt' : (a : Int) < (b : Int) := by omega
    have HC : Hid (pbCells ⟨min a b, max a b, o, pl⟩ = [.int .i64 (a : Int), .int .i64 (b : Int), .int .i64 o, .int .i64 (pl : Int)]) := pbCells_min a b o pl hlt
    have hnews : Hid (∀ (o1 : Obj) (t : TypeId), ∀ j u, [Value.int .i64 (a : Int), .int .i64 (b : Int), .int .i64 o, .int .i64 (pl : Int)][j]? = some u → (((w1.alloc o1).alloc (.cells #[.int .i64 (a : Int), .int .i64 (b : Int), .int .i64 o, .int .i64 (pl : Int)] t)).drew).cell? ((⟨w1.heap.size + 1, 0, none⟩ : Addr).add j) = some u) := by
      intro o1 t j u hj
      have := cells4 (w1.alloc o1) (.int .i64 (a : Int)) (.int .i64 (b : Int)) (.int .i64 o) (.int .i64 (pl : Int)) t j u hj
      simpa using this
    clear hlt hab
    go_wp2_with fail
    go_region_law (refine step_append_mine rfl (.tmp 29) (.tmp 34) 67 rfl (B + 1) 102 i0 (.agg #[.int .i64 0, .int .i64 0, .int .i64 0, .int .i64 0]) 4 32 Tryz.underlying67 hi hz0 hz1 hz2 rfl (by decide) bv p.bonds.length (p.bonds.flatMap pbCells) rfl (by exact ((ob.alloc _).alloc _).drew) ⟨w1.heap.size + 1, 0, none⟩ 1 1 [.int .i64 (a : Int), .int .i64 (b : Int), .int .i64 o, .int .i64 (pl : Int)] rfl rfl (by exact hnews.out _ _) (by intro u hu; simp at hu; rcases hu with rfl | rfl | rfl | rfl <;> rfl) (by unfold maxLen; omega) (by omega) (by simp; omega) ?_; intro v' w2 ho hg hk; obtain ⟨ao, cap, hv'⟩ := ownsRow_shape ho; subst hv'; have X := (((hj.alloc _).alloc _).drew).bondAdded ⟨min a b, max a b, o, pl⟩ (hb2.out _ _) _ (by rw [HC.out]; exact ho) hg hk; obtain ⟨c27, f27⟩ := (((hj.alloc _).alloc _).drew).cell27 (hb2.out _ _) hg; clear ho hg hk)
    all_goals
      go_wp2_with fail
      go_end0
      exact ⟨rfl, X.1, hf.trans ((Fr.two hB _ _).trans X.2)⟩
  · have hlt' : (b : Int) < (a : Int) := by omega
    have HC : Hid (pbCells ⟨min a b, max a b, o, pl⟩ = [.int .i64 (b : Int), .int .i64 (a : Int), .int .i64 o, .int .i64 (pl : Int)]) := pbCells_max a b o pl hlt
    have hnews : Hid (∀ (o1 : Obj) (t : TypeId), ∀ j u, [Value.int .i64 (b : Int), .int .i64 (a : Int), .int .i64 o, .int .i64 (pl : Int)][j]? = some u → (((w1.alloc o1).alloc (.cells #[.int .i64 (b : Int), .int .i64 (a : Int), .int .i64 o, .int .i64 (pl : Int)] t)).drew).cell? ((⟨w1.heap.size + 1, 0, none⟩ : Addr).add j) = some u) := by
      intro o1 t j u hj
      have := cells4 (w1.alloc o1) (.int .i64 (b : Int)) (.int .i64 (a : Int)) (.int .i64 o) (.int .i64 (pl : Int)) t j u hj
      simpa using this
    clear hlt hab
    go_wp2_with fail
    go_region_law (refine step_append_mine rfl (.tmp 29) (.tmp 34) 67 rfl (B + 1) 102 i0 (.agg #[.int .i64 0, .int .i64 0, .int .i64 0, .int .i64 0]) 4 32 Tryz.underlying67 hi hz0 hz1 hz2 rfl (by decide) bv p.bonds.length (p.bonds.flatMap pbCells) rfl (by exact ((ob.alloc _).alloc _).drew) ⟨w1.heap.size + 1, 0, none⟩ 1 1 [.int .i64 (b : Int), .int .i64 (a : Int), .int .i64 o, .int .i64 (pl : Int)] rfl rfl (by exact hnews.out _ _) (by intro u hu; simp at hu; rcases hu with rfl | rfl | rfl | rfl <;> rfl) (by unfold maxLen; omega) (by omega) (by simp; omega) ?_; intro v' w2 ho hg hk; obtain ⟨ao, cap, hv'⟩ := ownsRow_shape ho; subst hv'; have X := (((hj.alloc _).alloc _).drew).bondAdded ⟨min a b, max a b, o, pl⟩ (hb2.out _ _) _ (by rw [HC.out]; exact ho) hg hk; obtain ⟨c27, f27⟩ := (((hj.alloc _).alloc _).drew).cell27 (hb2.out _ _) hg; clear ho hg hk)
    all_goals
      go_wp2_with fail
      go_end0
      exact ⟨rfl, X.1, hf.trans ((Fr.two hB _ _).trans X.2)⟩
end
end Go.Proofs.YtcabaecbmkgclaaGreatDoor
