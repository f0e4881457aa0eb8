/-
  A slip of the book: lists that are full of its mark; reads finds them so.
  The book: all slips read as their owner wrote them.
-/
import Derived.Test.YtcabaecbmkgclaaGreatDoorR02
import Derived.Deep.LoopGhost
namespace Go.Proofs.YtcabaecbmkgclaaGreatDoor
open Go.RowKit
structure Sl where
  va : Value
  vb : Value
  vp : Value
  vn : Value
  m : Int
  al : List (Value × Nat)
  bl : List (Value × Nat)
  pl : List (Value × Nat)
  nl : List (Value × Nat)

def slCells (x : Sl) : List Value := [x.va, x.vb, x.vp, x.vn, .int .i64 x.m]
theorem slCells_len (x : Sl) : (slCells x).length = 5 := rfl
def atomMark (m : Int) : List Value := [.string ⟨#[]⟩, .bool false, .int .i64 m, .int .i64 0]
def bondMark (m : Int) : List Value := [.int .i64 m, .int .i64 0, .int .i64 0]
def pairMark (m : Int) : List Value := [.int .i64 m, .int .i64 0]
def intMark (m : Int) : List Value := [.int .i64 m]

/-- A list of lists, each full of a mark. -/
structure Full (w : World) (tr te : TypeId) (c : List Value) (v : Value) (l : List (Value × Nat)) : Prop where
  row : w.ownsRow 0 tr 1 v l.length (l.map (·.1))
  few : l.length ≤ 4
  each : ∀ y ∈ l, y.2 ≤ 1000 ∧ w.ownsRow 0 te c.length y.1 y.2 (marks c y.2)

/-- The blocks in which they lie. -/
def fullHas (v : Value) (l : List (Value × Nat)) (k : Nat) : Prop := v.ownBlock = some k ∨ ∃ y ∈ l, y.1.ownBlock = some k

theorem Full.same {w w' : World} {tr te : TypeId} {c : List Value} {v : Value} {l : List (Value × Nat)} (h : Full w tr te c v l) (hs : ∀ k, fullHas v l k → w'.heap[k]? = w.heap[k]?) : Full w' tr te c v l :=
  ⟨ownsRow_same h.row fun k hk => hs k (.inl hk), h.few, fun y hy => ⟨(h.each y hy).1, ownsRow_same (h.each y hy).2 fun k hk => hs k (.inr ⟨y, hy, hk⟩)⟩⟩

theorem Full.lt {w : World} {tr te : TypeId} {c : List Value} {v : Value} {l : List (Value × Nat)} (h : Full w tr te c v l) {k : Nat} (hk : fullHas v l k) : k < w.heap.size := by
  rcases hk with hk | ⟨y, hy, hk⟩
  · exact (h.row.lt k hk).2
  · exact ((h.each y hy).2.lt k hk).2

theorem ownsRow_type {w : World} {base : Nat} {e : TypeId} {size : Nat} {v : Value} {n : Nat} {xs : List Value} (h : w.ownsRow base e size v n xs) {k : Nat} (hk : v.ownBlock = some k) : ∃ cur, w.heap[k]? = some (.cells cur e (0, 0)) := by
  rcases h.2 with ⟨rfl, _⟩ | ⟨g, cap, cur, rfl, _, hg, _⟩
  · cases hk
  · simp only [Value.ownBlock, Option.some.injEq] at hk
    subst hk
    exact ⟨cur, hg⟩

theorem Full.type {w : World} {tr te : TypeId} {c : List Value} {v : Value} {l : List (Value × Nat)} (h : Full w tr te c v l) {k : Nat} (hk : fullHas v l k) : ∃ cur e, w.heap[k]? = some (.cells cur e (0, 0)) ∧ (e = tr ∨ e = te) := by
  rcases hk with hk | ⟨y, hy, hk⟩
  · obtain ⟨cur, hc⟩ := ownsRow_type h.row hk; exact ⟨cur, _, hc, .inl rfl⟩
  · obtain ⟨cur, hc⟩ := ownsRow_type (h.each y hy).2 hk; exact ⟨cur, _, hc, .inr rfl⟩

theorem full_nil (w : World) (tr te : TypeId) (c : List Value) : Full w tr te c (.slice none 0 0) [] := ⟨World.ownsRow_nil _ _ _ _, by simp, by intro y hy; cases hy⟩

def Sl.has (x : Sl) (k : Nat) : Prop := fullHas x.va x.al k ∨ fullHas x.vb x.bl k ∨ fullHas x.vp x.pl k ∨ fullHas x.vn x.nl k

structure SlOk (w : World) (x : Sl) : Prop where
  a : Full w 36 50 (atomMark x.m) x.va x.al
  b : Full w 37 46 (bondMark x.m) x.vb x.bl
  p : Full w 29 48 (pairMark x.m) x.vp x.pl
  n : Full w 25 3 (intMark x.m) x.vn x.nl

theorem SlOk.same {w w' : World} {x : Sl} (h : SlOk w x) (hs : ∀ k, x.has k → w'.heap[k]? = w.heap[k]?) : SlOk w' x :=
  ⟨h.a.same fun k hk => hs k (.inl hk), h.b.same fun k hk => hs k (.inr (.inl hk)), h.p.same fun k hk => hs k (.inr (.inr (.inl hk))), h.n.same fun k hk => hs k (.inr (.inr (.inr hk)))⟩

theorem SlOk.lt {w : World} {x : Sl} (h : SlOk w x) {k : Nat} (hk : x.has k) : k < w.heap.size := by
  rcases hk with hk | hk | hk | hk
  · exact h.a.lt hk
  · exact h.b.lt hk
  · exact h.p.lt hk
  · exact h.n.lt hk

theorem SlOk.below {w w' : World} {x : Sl} (h : SlOk w x) (hb : Below w.heap.size w w') : SlOk w' x := h.same fun k hk => hb.block k (h.lt hk)

/-- What lies in a slip's blocks is no slip and no book. -/
theorem SlOk.type {w : World} {x : Sl} (h : SlOk w x) {k : Nat} (hk : x.has k) : ∃ cur e, w.heap[k]? = some (.cells cur e (0, 0)) ∧ e ≠ 84 ∧ e ≠ 58 := by
  rcases hk with hk | hk | hk | hk
  · obtain ⟨cur, e, hc, he⟩ := h.a.type hk; exact ⟨cur, e, hc, by rcases he with rfl | rfl <;> decide⟩
  · obtain ⟨cur, e, hc, he⟩ := h.b.type hk; exact ⟨cur, e, hc, by rcases he with rfl | rfl <;> decide⟩
  · obtain ⟨cur, e, hc, he⟩ := h.p.type hk; exact ⟨cur, e, hc, by rcases he with rfl | rfl <;> decide⟩
  · obtain ⟨cur, e, hc, he⟩ := h.n.type hk; exact ⟨cur, e, hc, by rcases he with rfl | rfl <;> decide⟩

/-- The slip in its box. -/
structure SlBox (w : World) (b : Nat) (x : Sl) : Prop where
  c0 : w.cell? ⟨b, 0, none⟩ = some x.va
  c1 : w.cell? ⟨b, 1, none⟩ = some x.vb
  c2 : w.cell? ⟨b, 2, none⟩ = some x.vp
  c3 : w.cell? ⟨b, 3, none⟩ = some x.vn
  c4 : w.cell? ⟨b, 4, none⟩ = some (.int .i64 x.m)
  ok : SlOk w x

theorem SlBox.drewN {w : World} {b : Nat} {x : Sl} (h : SlBox w b x) (n : Nat) : SlBox (w.drewN n) b x := ⟨h.c0, h.c1, h.c2, h.c3, h.c4, h.ok.same fun _ _ => rfl⟩

theorem markAt {w : World} {base : Nat} {e : TypeId} {c : List Value} {v : Value} {n : Nat} (h : w.ownsRow base e c.length v n (marks c n)) {i : Nat} (hi : i < n) :
    ∃ g cap, v = .slice (some ⟨g, 0, none⟩) n cap ∧ g < w.heap.size ∧ ∀ j, j < c.length → w.cell? ⟨g, i * c.length + j, none⟩ = c[j]? := by
  obtain ⟨g, cap, rfl, h1, h2, h3, h4⟩ := ownsRow_at h (by omega)
  refine ⟨g, cap, rfl, h2, fun j hj => ?_⟩
  have : i * c.length + j < n * c.length := by
    have := Nat.mul_le_mul_right c.length (show i + 1 ≤ n by omega)
    rw [Nat.succ_mul] at this
    omega
  rw [h3 _ this, marks_get c n i j hi hj]

theorem rowAt {w : World} {base : Nat} {e : TypeId} {v : Value} {l : List (Value × Nat)} (h : w.ownsRow base e 1 v l.length (l.map (·.1))) {i : Nat} {y : Value × Nat} (hi : l[i]? = some y) :
    ∃ g cap, v = .slice (some ⟨g, 0, none⟩) l.length cap ∧ g < w.heap.size ∧ w.cell? ⟨g, i, none⟩ = some y.1 := by
  have hl := (List.getElem?_eq_some_iff.1 hi).1
  obtain ⟨g, cap, rfl, h1, h2, h3, h4⟩ := ownsRow_at h (by omega)
  refine ⟨g, cap, rfl, h2, ?_⟩
  rw [h3 i (by omega), List.getElem?_map, hi]
  rfl

section
set_option maxRecDepth 100000 in
set_option maxHeartbeats 4000000 in
theorem reads_any (w : World) (x : Sl) (h : SlOk w x) : Calls Tryz.prog 30 #[.agg #[x.va, x.vb, x.vp, x.vn, .int .i64 x.m]] w fun e w' => e = .returned (.bool true) ∧ Below w.heap.size w w' := by
  obtain ⟨va, vb, vp, vn, m, al, bl, pl, nl⟩ := x
  obtain ⟨ao, ac, hva⟩ := ownsRow_shape h.a.row
  obtain ⟨bo, bc, hvb⟩ := ownsRow_shape h.b.row
  obtain ⟨po, pc, hvp⟩ := ownsRow_shape h.p.row
  obtain ⟨no, nc, hvn⟩ := ownsRow_shape h.n.row
  simp only at hva hvb hvp hvn ⊢
  subst hva hvb hvp hvn
  have HB : Hid (SlBox (w.alloc (.cells #[.slice ao al.length ac, .slice bo bl.length bc, .slice po pl.length pc, .slice no nl.length nc, .int .i64 m] 84)) w.heap.size ⟨.slice ao al.length ac, .slice bo bl.length bc, .slice po pl.length pc, .slice no nl.length nc, m, al, bl, pl, nl⟩) :=
    ⟨by simp, by simp, by simp, by simp, by simp, h.below ((Below.refl _ w).alloc (Nat.le_refl _) _)⟩
  have HL : Hid (Below w.heap.size w (w.alloc (.cells #[.slice ao al.length ac, .slice bo bl.length bc, .slice po pl.length pc, .slice no nl.length nc, .int .i64 m] 84))) := (Below.refl _ w).alloc (Nat.le_refl _) _
  have hna := h.a.few
  have hnb := h.b.few
  have hnp := h.p.few
  have hnn := h.n.few
  simp only at hna hnb hnp hnn
  clear h
  go_enter Tryz.func30, Tryz.ntmps30
  go_wp2_with fail
  go_loopg [3] (al.length + 1) (fun k vi wr => ∃ i : Nat, i ≤ al.length ∧ al.length - i ≤ k ∧ vi = .int .i64 i ∧ SlBox wr w.heap.size ⟨.slice ao al.length ac, .slice bo bl.length bc, .slice po pl.length pc, .slice no nl.length nc, m, al, bl, pl, nl⟩ ∧ Below w.heap.size w wr)
  case atStart => exact ⟨0, by omega, by omega, rfl, HB.out, HL.out⟩
  case round =>
    obtain ⟨i, hi, hk, rfl, hb, hbl⟩ := hrel
    clear HB HL
    have HB : Hid (SlBox wr w.heap.size ⟨.slice ao al.length ac, .slice bo bl.length bc, .slice po pl.length pc, .slice no nl.length nc, m, al, bl, pl, nl⟩) := hb
    have HL : Hid (Below w.heap.size w wr) := hbl
    have c0 := hb.c0
    have c4 := hb.c4
    simp only at c0 c4
    clear hb hbl
    by_cases hlt : i < al.length
    · have gi := List.getElem?_eq_getElem hlt
      have hlt' : (i : Int) < (al.length : Int) := by omega
      have hin := List.mem_of_getElem? gi
      generalize al[i] = y at gi hin
      obtain ⟨yv, yn⟩ := y
      obtain ⟨hy1, hyo⟩ := HB.out.ok.a.each _ hin
      obtain ⟨yo, yc, hys⟩ := ownsRow_shape hyo
      simp only at hy1 hys
      subst hys
      obtain ⟨L, lc, hL, hLl, cL⟩ := rowAt HB.out.ok.a.row gi
      simp only [Value.slice.injEq] at hL
      obtain ⟨rfl, _, rfl⟩ := hL
      have HG : Hid (al[i]? = some (.slice yo yn yc, yn)) := gi
      have HIN : Hid ((.slice yo yn yc, yn) ∈ al) := hin
      clear hyo gi hin
      simp only at cL
      go_wp2_with fail
      go_loopg [4] (yn + 1) (fun k vi wr' => ∃ j : Nat, j ≤ yn ∧ yn - j ≤ k ∧ vi = .int .i64 j ∧ SlBox wr' w.heap.size ⟨.slice (some ⟨L, 0, none⟩) al.length ac, .slice bo bl.length bc, .slice po pl.length pc, .slice no nl.length nc, m, al, bl, pl, nl⟩ ∧ Below w.heap.size w wr')
      case atStart => exact ⟨0, by omega, by omega, rfl, HB.out, HL.out⟩
      case round =>
        obtain ⟨j, hj, hkk, rfl, hb, hbl⟩ := hrel
        clear HB HL cL c0 c4 hLl
        have HB : Hid (SlBox wr w.heap.size ⟨.slice (some ⟨L, 0, none⟩) al.length ac, .slice bo bl.length bc, .slice po pl.length pc, .slice no nl.length nc, m, al, bl, pl, nl⟩) := hb
        have HL : Hid (Below w.heap.size w wr) := hbl
        have c0 := hb.c0
        have c4 := hb.c4
        simp only at c0 c4
        obtain ⟨L', lc', hL, hLl, cL⟩ := rowAt hb.ok.a.row HG.out
        simp only [Value.slice.injEq, Option.some.injEq, Addr.mk.injEq, and_true, true_and] at hL cL
        obtain ⟨rfl, rfl⟩ := hL
        clear hb hbl
        by_cases hjt : j < yn
        · have hjt' : (j : Int) < (yn : Int) := by omega
          obtain ⟨g, cap, hg, hgl, cg⟩ := markAt (c := atomMark m) (HB.out.ok.a.each _ HIN.out).2 (i := j) hjt
          simp only [Value.slice.injEq] at hg
          obtain ⟨rfl, _, rfl⟩ := hg
          have g0 := cg 0 (by simp [atomMark])
          have g1 := cg 1 (by simp [atomMark])
          have g2 := cg 2 (by simp [atomMark])
          have g3 := cg 3 (by simp [atomMark])
          simp only [atomMark, List.length_cons, List.length_nil, Nat.add_zero, Nat.zero_add, List.getElem?_cons_zero, List.getElem?_cons_succ] at g0 g1 g2 g3
          clear cg
          have HB2 : Hid (∀ n, SlBox (wr.drewN n) w.heap.size ⟨.slice (some ⟨L, 0, none⟩) al.length ac, .slice bo bl.length bc, .slice po pl.length pc, .slice no nl.length nc, m, al, bl, pl, nl⟩) := fun n => HB.out.drewN n
          have HL2 : Hid (∀ n, Below w.heap.size w (wr.drewN n)) := fun n => below_drewN HL.out n
          go_wp2_with fail
          go_quiet (fail)
          go_wp2_with fail
          go_roundg (yn - (j + 1))
          case measure => omega
          case rel => exact ⟨j + 1, by omega, Nat.le_refl _, by go_num, HB2.out _, HL2.out _⟩
        · have hjt' : ¬ (j : Int) < (yn : Int) := by omega
          go_wp2_with fail
          go_roundg (al.length - (i + 1))
          case measure => omega
          case rel => exact ⟨i + 1, by omega, Nat.le_refl _, by go_num, HB.out, HL.out⟩
    · have hlt' : ¬ (i : Int) < (al.length : Int) := by omega
      clear hi hk
      go_wp2_with fail
      go_loopg [5] (bl.length + 1) (fun k vi wr => ∃ i : Nat, i ≤ bl.length ∧ bl.length - i ≤ k ∧ vi = .int .i64 i ∧ SlBox wr w.heap.size ⟨.slice ao al.length ac, .slice bo bl.length bc, .slice po pl.length pc, .slice no nl.length nc, m, al, bl, pl, nl⟩ ∧ Below w.heap.size w wr)
      case atStart => exact ⟨0, by omega, by omega, rfl, HB.out, HL.out⟩
      case round =>
        obtain ⟨i, hi, hk, rfl, hb, hbl⟩ := hrel
        clear HB HL
        have HB : Hid (SlBox wr w.heap.size ⟨.slice ao al.length ac, .slice bo bl.length bc, .slice po pl.length pc, .slice no nl.length nc, m, al, bl, pl, nl⟩) := hb
        have HL : Hid (Below w.heap.size w wr) := hbl
        have c0 := hb.c1
        have c4 := hb.c4
        simp only at c0 c4
        clear hb hbl
        by_cases hlt : i < bl.length
        · have gi := List.getElem?_eq_getElem hlt
          have hlt' : (i : Int) < (bl.length : Int) := by omega
          have hin := List.mem_of_getElem? gi
          generalize bl[i] = y at gi hin
          obtain ⟨yv, yn⟩ := y
          obtain ⟨hy1, hyo⟩ := HB.out.ok.b.each _ hin
          obtain ⟨yo, yc, hys⟩ := ownsRow_shape hyo
          simp only at hy1 hys
          subst hys
          obtain ⟨L, lc, hL, hLl, cL⟩ := rowAt HB.out.ok.b.row gi
          simp only [Value.slice.injEq] at hL
          obtain ⟨rfl, _, rfl⟩ := hL
          have HG : Hid (bl[i]? = some (.slice yo yn yc, yn)) := gi
          have HIN : Hid ((.slice yo yn yc, yn) ∈ bl) := hin
          clear hyo gi hin
          simp only at cL
          go_wp2_with fail
          go_loopg [6] (yn + 1) (fun k vi wr' => ∃ j : Nat, j ≤ yn ∧ yn - j ≤ k ∧ vi = .int .i64 j ∧ SlBox wr' w.heap.size ⟨.slice ao al.length ac, .slice (some ⟨L, 0, none⟩) bl.length bc, .slice po pl.length pc, .slice no nl.length nc, m, al, bl, pl, nl⟩ ∧ Below w.heap.size w wr')
          case atStart => exact ⟨0, by omega, by omega, rfl, HB.out, HL.out⟩
          case round =>
            obtain ⟨j, hj, hkk, rfl, hb, hbl⟩ := hrel
            clear HB HL cL c0 c4 hLl
            have HB : Hid (SlBox wr w.heap.size ⟨.slice ao al.length ac, .slice (some ⟨L, 0, none⟩) bl.length bc, .slice po pl.length pc, .slice no nl.length nc, m, al, bl, pl, nl⟩) := hb
            have HL : Hid (Below w.heap.size w wr) := hbl
            have c0 := hb.c1
            have c4 := hb.c4
            simp only at c0 c4
            obtain ⟨L', lc', hL, hLl, cL⟩ := rowAt hb.ok.b.row HG.out
            simp only [Value.slice.injEq, Option.some.injEq, Addr.mk.injEq, and_true, true_and] at hL cL
            obtain ⟨rfl, rfl⟩ := hL
            clear hb hbl
            by_cases hjt : j < yn
            · have hjt' : (j : Int) < (yn : Int) := by omega
              obtain ⟨g, cap, hg, hgl, cg⟩ := markAt (c := bondMark m) (HB.out.ok.b.each _ HIN.out).2 (i := j) hjt
              simp only [Value.slice.injEq] at hg
              obtain ⟨rfl, _, rfl⟩ := hg
              have g0 := cg 0 (by simp [bondMark])
              have g1 := cg 1 (by simp [bondMark])
              have g2 := cg 2 (by simp [bondMark])
              simp only [bondMark, List.length_cons, List.length_nil, Nat.add_zero, Nat.zero_add, List.getElem?_cons_zero, List.getElem?_cons_succ] at g0 g1 g2
              clear cg
              have HB2 : Hid (∀ n, SlBox (wr.drewN n) w.heap.size ⟨.slice ao al.length ac, .slice (some ⟨L, 0, none⟩) bl.length bc, .slice po pl.length pc, .slice no nl.length nc, m, al, bl, pl, nl⟩) := fun n => HB.out.drewN n
              have HL2 : Hid (∀ n, Below w.heap.size w (wr.drewN n)) := fun n => below_drewN HL.out n
              go_wp2_with fail
              go_quiet (fail)
              go_wp2_with fail
              go_roundg (yn - (j + 1))
              case measure => omega
              case rel => exact ⟨j + 1, by omega, Nat.le_refl _, by go_num, HB2.out _, HL2.out _⟩
            · have hjt' : ¬ (j : Int) < (yn : Int) := by omega
              go_wp2_with fail
              go_roundg (bl.length - (i + 1))
              case measure => omega
              case rel => exact ⟨i + 1, by omega, Nat.le_refl _, by go_num, HB.out, HL.out⟩
        · have hlt' : ¬ (i : Int) < (bl.length : Int) := by omega
          clear hi hk
          go_wp2_with fail
          go_loopg [7] (pl.length + 1) (fun k vi wr => ∃ i : Nat, i ≤ pl.length ∧ pl.length - i ≤ k ∧ vi = .int .i64 i ∧ SlBox wr w.heap.size ⟨.slice ao al.length ac, .slice bo bl.length bc, .slice po pl.length pc, .slice no nl.length nc, m, al, bl, pl, nl⟩ ∧ Below w.heap.size w wr)
          case atStart => exact ⟨0, by omega, by omega, rfl, HB.out, HL.out⟩
          case round =>
            obtain ⟨i, hi, hk, rfl, hb, hbl⟩ := hrel
            clear HB HL
            have HB : Hid (SlBox wr w.heap.size ⟨.slice ao al.length ac, .slice bo bl.length bc, .slice po pl.length pc, .slice no nl.length nc, m, al, bl, pl, nl⟩) := hb
            have HL : Hid (Below w.heap.size w wr) := hbl
            have c0 := hb.c2
            have c4 := hb.c4
            simp only at c0 c4
            clear hb hbl
            by_cases hlt : i < pl.length
            · have gi := List.getElem?_eq_getElem hlt
              have hlt' : (i : Int) < (pl.length : Int) := by omega
              have hin := List.mem_of_getElem? gi
              generalize pl[i] = y at gi hin
              obtain ⟨yv, yn⟩ := y
              obtain ⟨hy1, hyo⟩ := HB.out.ok.p.each _ hin
              obtain ⟨yo, yc, hys⟩ := ownsRow_shape hyo
              simp only at hy1 hys
              subst hys
              obtain ⟨L, lc, hL, hLl, cL⟩ := rowAt HB.out.ok.p.row gi
              simp only [Value.slice.injEq] at hL
              obtain ⟨rfl, _, rfl⟩ := hL
              have HG : Hid (pl[i]? = some (.slice yo yn yc, yn)) := gi
              have HIN : Hid ((.slice yo yn yc, yn) ∈ pl) := hin
              clear hyo gi hin
              simp only at cL
              go_wp2_with fail
              go_loopg [8] (yn + 1) (fun k vi wr' => ∃ j : Nat, j ≤ yn ∧ yn - j ≤ k ∧ vi = .int .i64 j ∧ SlBox wr' w.heap.size ⟨.slice ao al.length ac, .slice bo bl.length bc, .slice (some ⟨L, 0, none⟩) pl.length pc, .slice no nl.length nc, m, al, bl, pl, nl⟩ ∧ Below w.heap.size w wr')
              case atStart => exact ⟨0, by omega, by omega, rfl, HB.out, HL.out⟩
              case round =>
                obtain ⟨j, hj, hkk, rfl, hb, hbl⟩ := hrel
                clear HB HL cL c0 c4 hLl
                have HB : Hid (SlBox wr w.heap.size ⟨.slice ao al.length ac, .slice bo bl.length bc, .slice (some ⟨L, 0, none⟩) pl.length pc, .slice no nl.length nc, m, al, bl, pl, nl⟩) := hb
                have HL : Hid (Below w.heap.size w wr) := hbl
                have c0 := hb.c2
                have c4 := hb.c4
                simp only at c0 c4
                obtain ⟨L', lc', hL, hLl, cL⟩ := rowAt hb.ok.p.row HG.out
                simp only [Value.slice.injEq, Option.some.injEq, Addr.mk.injEq, and_true, true_and] at hL cL
                obtain ⟨rfl, rfl⟩ := hL
                clear hb hbl
                by_cases hjt : j < yn
                · have hjt' : (j : Int) < (yn : Int) := by omega
                  obtain ⟨g, cap, hg, hgl, cg⟩ := markAt (c := pairMark m) (HB.out.ok.p.each _ HIN.out).2 (i := j) hjt
                  simp only [Value.slice.injEq] at hg
                  obtain ⟨rfl, _, rfl⟩ := hg
                  have g0 := cg 0 (by simp [pairMark])
                  have g1 := cg 1 (by simp [pairMark])
                  simp only [pairMark, List.length_cons, List.length_nil, Nat.add_zero, Nat.zero_add, List.getElem?_cons_zero, List.getElem?_cons_succ] at g0 g1
                  clear cg
                  have HB2 : Hid (∀ n, SlBox (wr.drewN n) w.heap.size ⟨.slice ao al.length ac, .slice bo bl.length bc, .slice (some ⟨L, 0, none⟩) pl.length pc, .slice no nl.length nc, m, al, bl, pl, nl⟩) := fun n => HB.out.drewN n
                  have HL2 : Hid (∀ n, Below w.heap.size w (wr.drewN n)) := fun n => below_drewN HL.out n
                  go_wp2_with fail
                  go_quiet (fail)
                  go_wp2_with fail
                  go_roundg (yn - (j + 1))
                  case measure => omega
                  case rel => exact ⟨j + 1, by omega, Nat.le_refl _, by go_num, HB2.out _, HL2.out _⟩
                · have hjt' : ¬ (j : Int) < (yn : Int) := by omega
                  go_wp2_with fail
                  go_roundg (pl.length - (i + 1))
                  case measure => omega
                  case rel => exact ⟨i + 1, by omega, Nat.le_refl _, by go_num, HB.out, HL.out⟩
            · have hlt' : ¬ (i : Int) < (pl.length : Int) := by omega
              clear hi hk
              go_wp2_with fail
              go_loopg [9] (nl.length + 1) (fun k vi wr => ∃ i : Nat, i ≤ nl.length ∧ nl.length - i ≤ k ∧ vi = .int .i64 i ∧ SlBox wr w.heap.size ⟨.slice ao al.length ac, .slice bo bl.length bc, .slice po pl.length pc, .slice no nl.length nc, m, al, bl, pl, nl⟩ ∧ Below w.heap.size w wr)
              case atStart => exact ⟨0, by omega, by omega, rfl, HB.out, HL.out⟩
              case round =>
                obtain ⟨i, hi, hk, rfl, hb, hbl⟩ := hrel
                clear HB HL
                have HB : Hid (SlBox wr w.heap.size ⟨.slice ao al.length ac, .slice bo bl.length bc, .slice po pl.length pc, .slice no nl.length nc, m, al, bl, pl, nl⟩) := hb
                have HL : Hid (Below w.heap.size w wr) := hbl
                have c0 := hb.c3
                have c4 := hb.c4
                simp only at c0 c4
                clear hb hbl
                by_cases hlt : i < nl.length
                · have gi := List.getElem?_eq_getElem hlt
                  have hlt' : (i : Int) < (nl.length : Int) := by omega
                  have hin := List.mem_of_getElem? gi
                  generalize nl[i] = y at gi hin
                  obtain ⟨yv, yn⟩ := y
                  obtain ⟨hy1, hyo⟩ := HB.out.ok.n.each _ hin
                  obtain ⟨yo, yc, hys⟩ := ownsRow_shape hyo
                  simp only at hy1 hys
                  subst hys
                  obtain ⟨L, lc, hL, hLl, cL⟩ := rowAt HB.out.ok.n.row gi
                  simp only [Value.slice.injEq] at hL
                  obtain ⟨rfl, _, rfl⟩ := hL
                  have HG : Hid (nl[i]? = some (.slice yo yn yc, yn)) := gi
                  have HIN : Hid ((.slice yo yn yc, yn) ∈ nl) := hin
                  clear hyo gi hin
                  simp only at cL
                  go_wp2_with fail
                  go_loopg [10] (yn + 1) (fun k vi wr' => ∃ j : Nat, j ≤ yn ∧ yn - j ≤ k ∧ vi = .int .i64 j ∧ SlBox wr' w.heap.size ⟨.slice ao al.length ac, .slice bo bl.length bc, .slice po pl.length pc, .slice (some ⟨L, 0, none⟩) nl.length nc, m, al, bl, pl, nl⟩ ∧ Below w.heap.size w wr')
                  case atStart => exact ⟨0, by omega, by omega, rfl, HB.out, HL.out⟩
                  case round =>
                    obtain ⟨j, hj, hkk, rfl, hb, hbl⟩ := hrel
                    clear HB HL cL c0 c4 hLl
                    have HB : Hid (SlBox wr w.heap.size ⟨.slice ao al.length ac, .slice bo bl.length bc, .slice po pl.length pc, .slice (some ⟨L, 0, none⟩) nl.length nc, m, al, bl, pl, nl⟩) := hb
                    have HL : Hid (Below w.heap.size w wr) := hbl
                    have c0 := hb.c3
                    have c4 := hb.c4
                    simp only at c0 c4
                    obtain ⟨L', lc', hL, hLl, cL⟩ := rowAt hb.ok.n.row HG.out
                    simp only [Value.slice.injEq, Option.some.injEq, Addr.mk.injEq, and_true, true_and] at hL cL
                    obtain ⟨rfl, rfl⟩ := hL
                    clear hb hbl
                    by_cases hjt : j < yn
                    · have hjt' : (j : Int) < (yn : Int) := by omega
                      obtain ⟨g, cap, hg, hgl, cg⟩ := markAt (c := intMark m) (HB.out.ok.n.each _ HIN.out).2 (i := j) hjt
                      simp only [Value.slice.injEq] at hg
                      obtain ⟨rfl, _, rfl⟩ := hg
                      have g0 := cg 0 (by simp [intMark])
                      simp only [intMark, List.length_cons, List.length_nil, Nat.add_zero, Nat.zero_add, Nat.mul_one, List.getElem?_cons_zero] at g0
                      clear cg
                      have HB2 : Hid (∀ n, SlBox (wr.drewN n) w.heap.size ⟨.slice ao al.length ac, .slice bo bl.length bc, .slice po pl.length pc, .slice (some ⟨L, 0, none⟩) nl.length nc, m, al, bl, pl, nl⟩) := fun n => HB.out.drewN n
                      have HL2 : Hid (∀ n, Below w.heap.size w (wr.drewN n)) := fun n => below_drewN HL.out n
                      go_wp2_with fail
                      go_quiet (fail)
                      go_wp2_with fail
                      go_roundg (yn - (j + 1))
                      case measure => omega
                      case rel => exact ⟨j + 1, by omega, Nat.le_refl _, by go_num, HB2.out _, HL2.out _⟩
                    · have hjt' : ¬ (j : Int) < (yn : Int) := by omega
                      go_wp2_with fail
                      go_roundg (nl.length - (i + 1))
                      case measure => omega
                      case rel => exact ⟨i + 1, by omega, Nat.le_refl _, by go_num, HB.out, HL.out⟩
                · have hlt' : ¬ (i : Int) < (nl.length : Int) := by omega
                  clear hi hk
                  go_wp2_with fail
                  go_ret
                  exact ⟨rfl, HL.out⟩
end
structure BookOk (N : Nat) (w : World) (B : Nat) (l : List Sl) : Prop where
  base : N ≤ B
  bk : ∃ v, w.heap[B]? = some (.cells #[v] 58 (0, 0)) ∧ w.ownsRow N 84 5 v l.length (l.flatMap slCells)
  ok : ∀ x ∈ l, SlOk w x

theorem cell_of_heap {w : World} {B : Nat} {v : Value} {t : TypeId} (h : w.heap[B]? = some (.cells #[v] t (0, 0))) : w.cell? ⟨B, 0, none⟩ = some v ∧ w.frozen? ⟨B, 0, none⟩ = false ∧ B < w.heap.size := by
  have hlt : B < w.heap.size := (Array.getElem?_eq_some_iff.1 h).1
  refine ⟨?_, ?_, hlt⟩
  · simp [World.cell?, h]
  · simp [World.frozen?, h]

theorem BookOk.at {N : Nat} {w : World} {B : Nat} {l : List Sl} (h : BookOk N w B l) : ∃ bo bc, w.cell? ⟨B, 0, none⟩ = some (.slice bo l.length bc) ∧ w.frozen? ⟨B, 0, none⟩ = false ∧ B < w.heap.size ∧ w.heap[B]? = some (.cells #[.slice bo l.length bc] 58 (0, 0)) ∧ w.ownsRow N 84 5 (.slice bo l.length bc) l.length (l.flatMap slCells) := by
  obtain ⟨v, hv, ho⟩ := h.bk
  obtain ⟨bo, bc, rfl⟩ := ownsRow_shape ho
  obtain ⟨h1, h2, h3⟩ := cell_of_heap hv
  exact ⟨bo, bc, h1, h2, h3, hv, ho⟩

theorem BookOk.below {N : Nat} {w w' : World} {B : Nat} {l : List Sl} (h : BookOk N w B l) (hb : Below w.heap.size w w') : BookOk N w' B l := by
  obtain ⟨v, hv, ho⟩ := h.bk
  refine ⟨h.base, ⟨v, (hb.block B (cell_of_heap hv).2.2).trans hv, ownsRow_same ho fun k hk => hb.block k (ho.lt k hk).2⟩, fun x hx => (h.ok x hx).below hb⟩

theorem grownBy_trans {a b c : World} {r : Option Nat} (h : a.grownBy b r) (k : b.grownBy c r) : a.grownBy c r :=
  ⟨k.os.trans h.os, k.tape.trans h.tape, k.output.trans h.output, Nat.le_trans h.size k.size, fun i hi hr => (k.block i (Nat.lt_of_lt_of_le hi h.size) hr).trans (h.block i hi hr)⟩
theorem grownBy_alloc (w : World) (o : Obj) (r : Option Nat) : w.grownBy (w.alloc o) r := ⟨rfl, rfl, rfl, by simp, fun k hk _ => heap_alloc_lt w o k hk⟩
theorem grownBy_set (w : World) (g i : Nat) (u : Value) : w.grownBy (w.setCell ⟨g, i, none⟩ u) (some g) := ⟨rfl, rfl, rfl, by simp, fun k _ hr => Below.heap_setCell w _ u k (by intro e; exact hr (by rw [e]))⟩

theorem BookOk.row {N : Nat} {w : World} {B : Nat} {l : List Sl} (h : BookOk N w B l) {bv : Value} (hbv : w.cell? ⟨B, 0, none⟩ = some bv) : w.heap[B]? = some (.cells #[bv] 58 (0, 0)) ∧ w.ownsRow N 84 5 bv l.length (l.flatMap slCells) := by
  obtain ⟨v, hv, ho⟩ := h.bk
  rw [(cell_of_heap hv).1] at hbv
  cases hbv
  exact ⟨hv, ho⟩

/-- The blocks of the book: its own, its row's, its slips'. -/
def BookHas (w : World) (B : Nat) (l : List Sl) (k : Nat) : Prop := k = B ∨ (∃ v, w.cell? ⟨B, 0, none⟩ = some v ∧ v.ownBlock = some k) ∨ ∃ x ∈ l, x.has k

theorem BookOk.same {N : Nat} {w w' : World} {B : Nat} {l : List Sl} (h : BookOk N w B l) (hs : ∀ k, BookHas w B l k → w'.heap[k]? = w.heap[k]?) : BookOk N w' B l := by
  obtain ⟨v, hv, ho⟩ := h.bk
  exact ⟨h.base, ⟨v, (hs B (.inl rfl)).trans hv, ownsRow_same ho fun k hk => hs k (.inr (.inl ⟨v, (cell_of_heap hv).1, hk⟩))⟩, fun x hx => (h.ok x hx).same fun k hk => hs k (.inr (.inr ⟨x, hx, hk⟩))⟩

/-- What lies in the book's own block and in its row is told by its type. -/
theorem BookOk.not {N : Nat} {w : World} {B : Nat} {l : List Sl} (h : BookOk N w B l) {base : Nat} {e : TypeId} {size : Nat} {v : Value} {n : Nat} {xs : List Value} (ho : w.ownsRow base e size v n xs) (h1 : e ≠ 84) (h2 : e ≠ 58) {k : Nat} (hk : v.ownBlock = some k) :
    k ≠ B ∧ ∀ bv, w.cell? ⟨B, 0, none⟩ = some bv → bv.ownBlock ≠ some k := by
  obtain ⟨cur, hc⟩ := ownsRow_type ho hk
  refine ⟨?_, ?_⟩
  · rintro rfl
    obtain ⟨bv, hv, _⟩ := h.bk
    rw [hv] at hc
    simp at hc
    exact h2 hc.2.symm
  · intro bv hbv hk2
    obtain ⟨cur2, hc2⟩ := ownsRow_type (h.row hbv).2 hk2
    rw [hc2] at hc
    simp at hc
    exact h1 hc.2.symm

theorem heap_set_one {w : World} {B : Nat} {u v : Value} {t : TypeId} (h : w.heap[B]? = some (.cells #[u] t (0, 0))) : (w.setCell ⟨B, 0, none⟩ v).heap[B]? = some (.cells #[v] t (0, 0)) := by
  have := heap_setCell_same w B 0 #[u] t v h
  simpa using this

/-- A slip more. -/
theorem BookOk.added {N : Nat} {w w2 : World} {B : Nat} {l : List Sl} (h : BookOk N w B l) {bv : Value} (hbv : w.cell? ⟨B, 0, none⟩ = some bv) (x : Sl) (hx : SlOk w x) (v' : Value)
    (ho : w2.ownsRow N 84 5 v' (l.length + 1) (l.flatMap slCells ++ slCells x)) (hg : w.grownBy w2 bv.ownBlock) : BookOk N (w2.setCell ⟨B, 0, none⟩ v') B (l ++ [x]) := by
  obtain ⟨hB, hr⟩ := h.row hbv
  have hlt := (cell_of_heap hB).2.2
  have hnB : bv.ownBlock ≠ some B := by
    intro e
    obtain ⟨cur, hc⟩ := ownsRow_type hr e
    rw [hB] at hc
    simp at hc
  have hB2 : w2.heap[B]? = some (.cells #[bv] 58 (0, 0)) := (hg.block B hlt (fun e => hnB e.symm)).trans hB
  have hnB2 : v'.ownBlock ≠ some B := by
    intro e
    obtain ⟨cur, hc⟩ := ownsRow_type ho e
    rw [hB2] at hc
    simp at hc
  have hsl : ∀ y, SlOk w y → SlOk (w2.setCell ⟨B, 0, none⟩ v') y := by
    intro y hy
    refine hy.same fun k hk => ?_
    obtain ⟨cur, e, hc, n1, n2⟩ := hy.type hk
    have hkB : k ≠ B := by
      rintro rfl
      rw [hB] at hc
      simp at hc
      exact n2 hc.2.symm
    rw [Below.heap_setCell w2 _ _ k hkB]
    refine hg.block k (hy.lt hk) fun e2 => ?_
    obtain ⟨cur2, hc2⟩ := ownsRow_type hr e2.symm
    rw [hc2] at hc
    simp at hc
    exact n1 hc.2.symm
  refine ⟨h.base, ⟨v', heap_set_one hB2, ?_⟩, ?_⟩
  · have := ownsRow_setCell_other (a := ⟨B, 0, none⟩) ho hnB2 v'
    simpa using this
  · intro y hy
    rcases List.mem_append.1 hy with hy | hy
    · exact hsl y (h.ok y hy)
    · simp at hy
      subst hy
      exact hsl _ hx

theorem slAt {w : World} {base : Nat} {v : Value} {l : List Sl} (h : w.ownsRow base 84 5 v l.length (l.flatMap slCells)) {i : Nat} {x : Sl} (hi : l[i]? = some x) :
    ∃ g cap, v = .slice (some ⟨g, 0, none⟩) l.length cap ∧ g < w.heap.size ∧ w.cell? ⟨g, i * 5, none⟩ = some x.va ∧ w.cell? ⟨g, i * 5 + 1, none⟩ = some x.vb ∧ w.cell? ⟨g, i * 5 + 2, none⟩ = some x.vp ∧ w.cell? ⟨g, i * 5 + 3, none⟩ = some x.vn ∧ w.cell? ⟨g, i * 5 + 4, none⟩ = some (.int .i64 x.m) := by
  have hl := (List.getElem?_eq_some_iff.1 hi).1
  obtain ⟨g, cap, rfl, h1, h2, h3, h4⟩ := ownsRow_at h (by omega)
  have d0 := flatMap_get slCells 5 slCells_len _ i 0 x hi (by omega)
  rw [Nat.add_zero] at d0
  refine ⟨g, cap, rfl, h2, (h3 (i * 5) (by omega)).trans d0, ?_, ?_, ?_, ?_⟩
  · exact (h3 _ (by omega)).trans (flatMap_get slCells 5 slCells_len _ i 1 x hi (by omega))
  · exact (h3 _ (by omega)).trans (flatMap_get slCells 5 slCells_len _ i 2 x hi (by omega))
  · exact (h3 _ (by omega)).trans (flatMap_get slCells 5 slCells_len _ i 3 x hi (by omega))
  · exact (h3 _ (by omega)).trans (flatMap_get slCells 5 slCells_len _ i 4 x hi (by omega))

section
set_option maxRecDepth 100000 in
set_option maxHeartbeats 4000000 in
theorem looks_any {N : Nat} {w : World} {B : Nat} {l : List Sl} (h : BookOk N w B l) (hn : l.length ≤ 9000000) : Calls Tryz.prog 21 #[.pointer (some ⟨B, 0, none⟩)] w fun e w' => e = .returned (.bool true) ∧ Below w.heap.size w w' := by
  have HH : Hid (BookOk N w B l) := h
  clear h
  go_enter Tryz.func21, Tryz.ntmps21
  go_wp2_with fail
  go_loopg [3] (l.length + 1) (fun k vi wr => ∃ i : Nat, i ≤ l.length ∧ l.length - i ≤ k ∧ vi = .int .i64 i ∧ Below w.heap.size w wr)
  case atStart => exact ⟨0, by omega, by omega, rfl, Below.refl _ _⟩
  case round =>
    obtain ⟨i, hi, hk, rfl, hbl⟩ := hrel
    have HL : Hid (Below w.heap.size w wr) := hbl
    have HB : Hid (BookOk N wr B l) := HH.out.below hbl
    obtain ⟨bo, bc, c0, f0, hlt, _, ho⟩ := HB.out.at
    clear hbl
    by_cases hil : i < l.length
    · have gi := List.getElem?_eq_getElem hil
      have hil' : (i : Int) < (l.length : Int) := by omega
      have hin := List.mem_of_getElem? gi
      generalize l[i] = x at gi hin
      obtain ⟨g, cap, hv, hg, g0, g1, g2, g3, g4⟩ := slAt ho gi
      simp only [Value.slice.injEq] at hv
      obtain ⟨rfl, _, rfl⟩ := hv
      have HS : Hid (SlOk wr x) := HB.out.ok x hin
      obtain ⟨xa, xac, hxa⟩ := ownsRow_shape HS.out.a.row
      obtain ⟨xb, xbc, hxb⟩ := ownsRow_shape HS.out.b.row
      obtain ⟨xp, xpc, hxp⟩ := ownsRow_shape HS.out.p.row
      obtain ⟨xn, xnc, hxn⟩ := ownsRow_shape HS.out.n.row
      have HR := reads_any wr x HS.out
      rw [hxa, hxb, hxp, hxn] at HR
      rw [hxa] at g0
      rw [hxb] at g1
      rw [hxp] at g2
      rw [hxn] at g3
      clear hin gi ho
      go_wp2_with fail
      refine HR.mono ?_
      rintro e w2 ⟨rfl, hb2⟩
      have HL2 : Hid (Below w.heap.size w w2) := HL.out.trans (hb2.mono HL.out.size)
      clear hb2 HR
      go_wp2_with fail
      go_roundg (l.length - (i + 1))
      case measure => omega
      case rel => exact ⟨i + 1, by omega, Nat.le_refl _, by go_num, HL2.out⟩
    · have hil' : ¬ (i : Int) < (l.length : Int) := by omega
      clear ho
      go_wp2_with fail
      go_ret
      exact ⟨rfl, HL.out⟩
end
end Go.Proofs.YtcabaecbmkgclaaGreatDoor
