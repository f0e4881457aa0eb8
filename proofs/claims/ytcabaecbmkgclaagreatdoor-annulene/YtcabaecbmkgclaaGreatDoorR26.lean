/-
  What the forest's route and turn do.
  Rings as values: loaded, compared; what the forest's below does.
  What the forest's meeting does, and a ring's with.
  What a ring's with does.
-/
import Derived.Test.YtcabaecbmkgclaaGreatDoorR25
namespace Go.Proofs.YtcabaecbmkgclaaGreatDoor.Mg
open Go.RowKit Mt
theorem ints_fresh (w : World) (l : List Nat) (hm : l.length ≤ maxLen) : Ints (w.alloc (.cells (intCells l).toArray 3)) w.heap.size (.slice (some ⟨w.heap.size, 0, none⟩) l.length l.length) l :=
  ⟨by simp [intCells], .inr ⟨w.heap.size, l.length, (intCells l).toArray, rfl, Nat.le_refl _, heap_alloc_new w _, Nat.le_refl _, hm, by simp [intCells], by rw [Nat.mul_one]; exact List.take_of_length_le (by simp [intCells])⟩⟩

section
variable {w w' : World} {B : Nat} {g : Gr} {mate : Nat → Option Nat} {f : Fo}
/-- Where route stands. -/
def RtAt (w : World) (g : Gr) (mate : Nat → Option Nat) (f : Fo) (t : Nat) (l : List Nat) (k : Nat) (v1 v5 : Value) (wr : World) : Prop :=
  ∃ pre cur rest, l = pre ++ cur :: rest ∧ rest.length ≤ k ∧ v1 = .int .i64 (cur : Nat) ∧ Alt g mate f.next t (cur :: rest) ∧ Ints wr w.heap.size v5 (pre ++ [cur]) ∧ Below w.heap.size w wr

set_option maxRecDepth 100000 in
set_option maxHeartbeats 1000000 in
theorem route_any (h : FAt w B g mate f) {v t : Nat} {l : List Nat} (ha : Alt g mate f.next t l) (ht : mate t = none) (hv : l.head? = some v) (hl : l.length ≤ 24) (h24 : ∀ x ∈ l, x < 24) :
    Calls Tryz.prog 111 #[.pointer (some ⟨B, 0, none⟩), .int .i64 v] w fun e w' => ∃ rv, e = .returned rv ∧ Ints w' w.heap.size rv l ∧ Below w.heap.size w w' := by
  obtain ⟨i0, hi, hz0, hz1, hz2⟩ := info_parts Tryz.infoInt
  have HF : Hid (FAt w B g mate f) := h
  have HA : Hid (Alt g mate f.next t l) := ha
  have HT : Hid (mate t = none) := ht
  have H24 : Hid (∀ x ∈ l, x < 24) := h24
  have HI0 : Hid (Ints (w.alloc (.cells #[.int .i64 (v : Int)] 3)) w.heap.size (.slice (some ⟨w.heap.size, 0, none⟩) 1 1) [v]) := ints_fresh w [v] (by unfold maxLen; simp)
  have HB0 : Hid (Below w.heap.size w (w.alloc (.cells #[.int .i64 (v : Int)] 3))) := (Below.refl _ w).alloc (Nat.le_refl _) _
  have HV : Hid (∃ rest, l = v :: rest) := by
    cases l with
    | nil => cases hv
    | cons a r =>
      simp at hv
      exact ⟨r, by rw [hv]⟩
  clear h ha ht h24 hv
  go_enter Tryz.func111, Tryz.ntmps111
  go_wp2_with fail
  go_loopg [1, 5] 24 (fun k v1 v5 wr => RtAt w g mate f t l k v1 v5 wr)
  case atStart =>
    obtain ⟨r, hr⟩ := HV.out
    refine ⟨[], v, r, by rw [hr]; rfl, ?_, rfl, by rw [← hr]; exact HA.out, HI0.out, HB0.out⟩
    rw [hr] at hl
    simp at hl
    omega
  case round =>
    obtain ⟨pre, cur, rest, hsp, hk, rfl, halt, hints, hbel⟩ := hrel
    have hcur : cur < 24 := H24.out cur (by rw [hsp]; simp)
    have c24 : (cur : Int) < 24 := by omega
    have hF := HF.out.below hbel
    have cm := hF.mate cur hcur
    obtain ⟨ro, rc, hrs⟩ := hints.shape
    rw [show (pre ++ [cur]).length = pre.length + 1 by simp] at hrs
    subst hrs
    have HIN : Hid (Ints wr w.heap.size (.slice ro (pre.length + 1) rc) (pre ++ [cur])) := hints
    have HBE : Hid (Below w.heap.size w wr) := hbel
    have HSP : Hid (l = pre ++ cur :: rest) := hsp
    have hpl : pre.length + rest.length + 1 ≤ 24 := by rw [hsp] at hl; simp at hl; omega
    clear HI0 HB0 hints hbel hsp
    match rest, halt, hk, HSP, hpl with
    | [], halt, hk, HSP, hpl =>
      have e : cur = t := halt
      have emc : mate cur = none := by rw [e]; exact HT.out
      rw [emc] at cm
      simp only [mi] at cm
      clear e emc halt hF
      go_wp2_with fail
      go_ret
      exact ⟨_, rfl, by rw [HSP.out]; exact HIN.out, HBE.out⟩
    | [m], halt, hk, HSP, hpl => exact absurd halt.2.2.1 (by simp)
    | m :: y :: r, halt, hk, HSP, hpl =>
      obtain ⟨a1, a2, a3, a4⟩ := halt
      have ey : y = f.next m := by simpa using a3
      have hm24 : m < 24 := H24.out m (by rw [HSP.out]; simp)
      have m24 : (m : Int) < 24 := by omega
      have cn := hF.next m hm24
      rw [← ey] at cn
      rw [a1] at cm
      simp only [mi] at cm
      have tne : ((m : Int) != -1) = true := by simp
      have HALT : Hid (Alt g mate f.next t (y :: r)) := a4
      have hws : w.heap.size ≤ wr.heap.size := HBE.out.size
      have HN2 : Hid (∀ t, ∀ j u, [Value.int .i64 (m : Int), .int .i64 (y : Int)][j]? = some u → (wr.alloc (.cells #[.int .i64 (m : Int), .int .i64 (y : Int)] t)).cell? ((⟨wr.heap.size, 0, none⟩ : Addr).add j) = some u) := fun t => cells2 wr _ _ t
      have HINA : Hid (∀ ob, (wr.alloc ob).ownsRow w.heap.size 3 1 (.slice ro (pre.length + 1) rc) (pre.length + 1) (intCells (pre ++ [cur]))) := fun ob => by
        have := HIN.out.alloc ob
        rw [show (pre ++ [cur]).length = pre.length + 1 by simp] at this
        exact this
      clear hF a1 a2 a3 a4 ey
      go_wp2_with (at_builtin; go_must (refine wpList_append_mine rfl (.tmp 30) (.tmp 33) 25 rfl w.heap.size 3 i0 (.int .i64 0) 1 8 Tryz.underlying25 hi hz0 hz1 hz2 rfl (by decide) (.slice ro (pre.length + 1) rc) (pre.length + 1) (intCells (pre ++ [cur])) rfl (by exact HINA.out _) ⟨wr.heap.size, 0, none⟩ 2 2 [.int .i64 (m : Int), .int .i64 (y : Int)] rfl rfl (by exact HN2.out _) (by intro u hu; simp at hu; rcases hu with rfl | rfl <;> rfl) (by unfold maxLen; omega) (by omega) (by simp; omega) ?_))
      intro v' w2 ho hg hkk
      have HI2 : Hid (Ints w2 w.heap.size v' ((pre ++ [cur, m]) ++ [y])) := by
        unfold Hid Ints
        have e1 : ((pre ++ [cur, m]) ++ [y]).length = pre.length + 1 + 2 := by simp
        have e2 : intCells ((pre ++ [cur, m]) ++ [y]) = intCells (pre ++ [cur]) ++ [.int .i64 (m : Int), .int .i64 (y : Int)] := by simp [intCells]
        rw [e1, e2]
        exact ho
      have HB2 : Hid (Below w.heap.size w w2) := (HBE.out.alloc hws _).grown hg (by simp; omega) (fun k hk => (HIN.out.lt k hk).1)
      clear ho hg hkk
      go_wp2_with fail
      go_roundg (r.length)
      case measure => simp at hk; omega
      case rel => exact ⟨pre ++ [cur, m], y, r, by rw [HSP.out]; simp, Nat.le_refl _, rfl, HALT.out, HI2.out, HB2.out⟩

/-- Where turn stands. -/
def TnAt (w : World) (B : Nat) (g : Gr) (mate : Nat → Option Nat) (f : Fo) (base : Nat) (sv : Value) (L : List Nat) (b : Nat) (k : Nat) (v2 v6 : Value) (wr : World) : Prop :=
  ∃ pre rest b' nx, L = pre ++ rest ∧ rest.length ≤ k ∧ v6 = .int .i64 (pre.length : Nat) ∧ v2 = .int .i64 (b' : Nat) ∧ turn nx rest b' = turn f.next L b ∧ FAt wr B g mate { f with next := nx } ∧ Ints wr base sv L ∧ (∀ k, sv.ownBlock = some k → ¬ FMine wr B k) ∧ FFr B w wr

set_option maxRecDepth 100000 in
set_option maxHeartbeats 1000000 in
theorem turn_any (h : FAt w B g mate f) {base : Nat} {sv : Value} {L : List Nat} (hs : Ints w base sv L) (hnm : ∀ k, sv.ownBlock = some k → ¬ FMine w B k) (hL : L.length ≤ 24) (h24 : ∀ x ∈ L, x < 24) (b : Nat) :
    Calls Tryz.prog 144 #[.pointer (some ⟨B, 0, none⟩), sv, .int .i64 b] w fun e w' => e = .returned (.tuple #[]) ∧ FAt w' B g mate { f with next := turn f.next L b } ∧ FFr B w w' := by
  obtain ⟨so, sc, hss⟩ := hs.shape
  subst hss
  have HST : Hid (TnAt w B g mate f base (.slice so L.length sc) L b 24 (.int .i64 (b : Nat)) (.int .i64 (0 : Nat)) w) := ⟨[], L, b, f.next, rfl, hL, rfl, rfl, rfl, h, hs, hnm, FFr.refl B w⟩
  have H24 : Hid (∀ x ∈ L, x < 24) := h24
  clear h hs hnm h24
  go_enter Tryz.func144, Tryz.ntmps144
  go_wp2_with fail
  go_loopg [2, 6] 24 (fun k v2 v6 wr => TnAt w B g mate f base (.slice so L.length sc) L b k v2 v6 wr)
  case atStart => exact HST.out
  case round =>
    obtain ⟨pre, rest, b', nx, hsp, hk, rfl, rfl, hturn, hF, hints, hnm, hfr⟩ := hrel
    clear HST
    have HF : Hid (FAt wr B g mate { f with next := nx }) := hF
    have HIN : Hid (Ints wr base (.slice so L.length sc) L) := hints
    have HNM : Hid (∀ k, (Value.slice so L.length sc).ownBlock = some k → ¬ FMine wr B k) := hnm
    have HFR : Hid (FFr B w wr) := hfr
    have HSP : Hid (L = pre ++ rest) := hsp
    have HTU : Hid (turn nx rest b' = turn f.next L b) := hturn
    have hpl : pre.length + rest.length = L.length := by rw [hsp]; simp
    clear hF hints hnm hfr hsp hturn
    match rest, hk, HSP, HTU, hpl with
    | [], hk, HSP, HTU, hpl =>
      simp at hpl
      have hc : ¬ ((pre.length : Int) + 1 < (L.length : Int)) := by omega
      go_wp2_with fail
      go_end0
      refine ⟨rfl, ?_, HFR.out⟩
      have e : turn f.next L b = nx := HTU.out.symm
      rw [e]
      exact HF.out
    | [x], hk, HSP, HTU, hpl =>
      simp at hpl
      have hc : ¬ ((pre.length : Int) + 1 < (L.length : Int)) := by omega
      go_wp2_with fail
      go_end0
      refine ⟨rfl, ?_, HFR.out⟩
      have e : turn f.next L b = nx := HTU.out.symm
      rw [e]
      exact HF.out
    | x :: m :: r, hk, HSP, HTU, hpl =>
      simp at hpl
      have hc : ((pre.length : Int) + 1 < (L.length : Int)) := by omega
      have hc0 : ((pre.length : Int) < (L.length : Int)) := by omega
      have gx : L[pre.length]? = some x := by rw [HSP.out]; simp
      have gm : L[pre.length + 1]? = some m := by rw [HSP.out]; simp
      have hx24 := H24.out x (List.mem_of_getElem? gx)
      have hm24 := H24.out m (List.mem_of_getElem? gm)
      have x24 : (x : Int) < 24 := by omega
      obtain ⟨gg, cap, es, _, hgl, cx⟩ := HIN.out.at gx
      obtain ⟨gg', cap', es', _, _, cm⟩ := HIN.out.at gm
      simp only [Value.slice.injEq, true_and] at es es'
      obtain ⟨rfl, rfl⟩ := es
      obtain ⟨e1, _⟩ := es'
      simp only [Option.some.injEq, Addr.mk.injEq, and_true] at e1
      subst e1
      have hgB : gg ≠ B := fun e => HNM.out gg rfl (.inl e)
      have cn := HF.out.next x hx24
      simp only at cn
      have fn := HF.out.free (625 + x)
      have hB := HF.out.lt
      have HF2 : Hid (∀ n, FAt ((wr.setCell ⟨B, 625 + x, none⟩ (.int .i64 (b' : Nat))).drewN n) B g mate { f with next := setAt nx x b' }) := fun n => (HF.out.setNext hx24 b').drewN n
      have HI2 : Hid (∀ n, Ints ((wr.setCell ⟨B, 625 + x, none⟩ (.int .i64 (b' : Nat))).drewN n) base (.slice (some ⟨gg, 0, none⟩) L.length sc) L) := fun n => ownsRow_same HIN.out fun k hk => by
        show ((wr.setCell ⟨B, 625 + x, none⟩ (.int .i64 (b' : Nat)))).heap[k]? = _
        exact Below.heap_setCell wr _ _ k (fun e => HNM.out k hk (.inl e))
      have HR2 : Hid (∀ n, FFr B w ((wr.setCell ⟨B, 625 + x, none⟩ (.int .i64 (b' : Nat))).drewN n)) := fun n => (HFR.out.set (by omega) _).drewN n
      have HM2 : Hid (∀ n k, (Value.slice (some ⟨gg, 0, none⟩) L.length sc).ownBlock = some k → ¬ FMine ((wr.setCell ⟨B, 625 + x, none⟩ (.int .i64 (b' : Nat))).drewN n) B k) := fun n k hk hm => HNM.out k hk (by
        have h9 : FMine (wr.setCell ⟨B, 625 + x, none⟩ (.int .i64 (b' : Nat))) B k := hm
        unfold FMine at h9 ⊢
        rw [cell_set_ne (by omega)] at h9
        exact h9)
      have HT2 : Hid (turn (setAt nx x b') r m = turn f.next L b) := HTU.out
      clear gx gm
      go_wp2_with fail
      go_region
      all_goals
        go_wp2_with fail
        go_roundg (r.length)
        case measure => simp at hk; omega
        case rel => exact ⟨pre ++ [x, m], r, m, setAt nx x b', by rw [HSP.out]; simp, Nat.le_refl _, by simp, rfl, HT2.out, HF2.out 1, HI2.out 1, HM2.out 1, HR2.out 1⟩
end
def ringCells (r : Nat → Bool) : List Value := (List.range 24).map fun x => .bool (r x)
theorem ringCells_len (r : Nat → Bool) : (ringCells r).length = 24 := by simp [ringCells]
theorem ringCells_get (r : Nat → Bool) {x : Nat} (hx : x < 24) : (ringCells r)[x]? = some (.bool (r x)) := by simp [ringCells, hx]
theorem ringCells_one (r : Nat → Bool) : ∀ v ∈ ringCells r, v.oneCell' = true := by
  intro v hv
  obtain ⟨x, _, rfl⟩ := List.mem_map.1 hv
  rfl

theorem Tryz.sizeRing : (Tryz.prog.info? 110).map (·.size) = some 24 := by kernel_rfl
theorem Tryz.infoBool : (Tryz.prog.info? 4).map (fun i => (i.zero, i.size, i.bytes)) = some (some (.bool false), 1, 1) := by kernel_rfl

theorem size_bool (w : World) : (sizeOf 4).run Tryz.prog w = .ok 1 w := by
  obtain ⟨i, hi, _, h1, _⟩ := info_parts Tryz.infoBool
  simp [sizeOf, typeInfo, hi, h1]

theorem run_equal_ring (w : World) (d : Nat) (r s : Nat → Bool) : (Op.equalIn (d + 2) 110 (.agg (ringCells r).toArray) (.agg (ringCells s).toArray)).run Tryz.prog w = .ok (ringEq r s) w := by
  unfold ringEq
  rw [List.range_eq_range', Op.equalIn]
  simp only [Sem.run_bind, run_underlying Tryz.underlying110, Result.andThen_ok, size_bool, Std.Legacy.Range.forIn_eq_forIn_range', Std.Legacy.Range.size, Nat.sub_zero, Nat.add_sub_cancel, Nat.div_one]
  have hl : ∀ i ∈ List.range' 0 24 1, i < 24 := fun i hi => by simpa using (List.mem_range'_1.1 hi).2
  generalize List.range' 0 24 1 = l at hl ⊢
  induction l with
  | nil => simp
  | cons i l ih =>
    have hi : i < 24 := hl i (by simp)
    have px : ∀ q : Nat → Bool, (Go.part 4 (ringCells q).toArray (i * 1)).run Tryz.prog w = .ok (.bool (q i)) w := fun q => by
      simp [Go.part, isAgg, run_underlying Tryz.underlying4, ringCells_get q hi]
    have pe : (Op.equalIn (d + 1) 4 (.bool (r i)) (.bool (s i))).run Tryz.prog w = .ok (r i == s i) w := run_equalIn_bool' w d 4 _ _ Tryz.underlying4
    simp only [List.forIn_cons, Sem.run_bind, px, pe, Result.andThen_ok, List.all_cons]
    cases hb : (r i == s i)
    · simp
    · simp only [Bool.not_true, Bool.false_eq_true, if_false, Sem.run_pure, Result.andThen_ok, Bool.true_and]
      exact ih fun j hj => hl j (by simp [hj])

theorem ownsRow_pre {w : World} {base : Nat} {e : TypeId} {size g n n' cap : Nat} {xs' : List Value} (h : w.ownsRow base e size (.slice (some ⟨g, 0, none⟩) n' cap) n' xs') (hn : n ≤ n') : w.ownsRow base e size (.slice (some ⟨g, 0, none⟩) n cap) n (xs'.take (n * size)) := by
  have hm : n * size ≤ n' * size := Nat.mul_le_mul_right _ hn
  rcases h.2 with ⟨h0, _⟩ | ⟨g', cap', cur, hv, hb, hg, hnc, hcm, hcs, ht⟩
  · cases h0
  · cases hv
    refine ⟨by rw [List.length_take, h.1]; omega, .inr ⟨g, cap, cur, rfl, hb, hg, by omega, hcm, hcs, ?_⟩⟩
    rw [← ht, List.take_take, Nat.min_eq_left hm]

theorem Ints.cap {w : World} {base g cap : Nat} {l : List Nat} (h : Ints w base (.slice (some ⟨g, 0, none⟩) l.length cap) l) : l.length ≤ cap ∧ cap ≤ maxLen := by
  rcases h.2 with ⟨h0, _⟩ | ⟨g', cap', cur, hv, hb, hg, hnc, hcm, hcs, ht⟩
  · cases h0
  · cases hv
    exact ⟨hnc, hcm⟩

theorem Ints.take {w : World} {base g cap : Nat} {l : List Nat} (h : Ints w base (.slice (some ⟨g, 0, none⟩) l.length cap) l) {i : Nat} (hi : i ≤ l.length) : Ints w base (.slice (some ⟨g, 0, none⟩) i cap) (l.take i) := by
  unfold Ints at h ⊢
  have := ownsRow_pre h hi
  have e1 : (l.take i).length = i := by rw [List.length_take]; omega
  have e2 : intCells (l.take i) = (intCells l).take (i * 1) := by rw [Nat.mul_one]; unfold intCells; rw [List.map_take]
  rw [e1, e2]
  exact this

theorem takeWhile_at {p : Nat → Bool} : ∀ {l : List Nat} {i : Nat} {x : Nat}, l[i]? = some x → p x = false → (∀ (j : Nat) y, j < i → l[j]? = some y → p y = true) → l.takeWhile p = l.take i
  | [], _, _, h, _, _ => by simp at h
  | a :: l, 0, x, h, hx, _ => by
    simp at h
    subst h
    simp [hx]
  | a :: l, i + 1, x, h, hx, hb => by
    have ha := hb 0 a (by omega) rfl
    rw [List.takeWhile_cons_of_pos ha, List.take_succ_cons, takeWhile_at (by simpa using h) hx fun j y hj hy => hb (j + 1) y (by omega) (by simpa using hy)]

theorem takeWhile_full {p : Nat → Bool} : ∀ {l : List Nat}, (∀ (j : Nat) y, l[j]? = some y → p y = true) → l.takeWhile p = l
  | [], _ => rfl
  | a :: l, hb => by
    rw [List.takeWhile_cons_of_pos (hb 0 a rfl), takeWhile_full fun j y hy => hb (j + 1) y (by simpa using hy)]

section
variable {w w' : World} {B : Nat} {g : Gr} {mate : Nat → Option Nat} {f : Fo}
theorem FAt.rangeRing (h : FAt w B g mate f) {v : Nat} (hv : v < 24) : w.rangeAt B (49 + v * 24) (ringCells (f.ring v)) := by
  intro j u hj
  have hj24 : j < 24 := by
    have := (List.getElem?_eq_some_iff.1 hj).1
    simpa [ringCells_len] using this
  rw [ringCells_get _ hj24] at hj
  cases hj
  exact h.ring v j hv hj24

theorem load_ring {wx : World} {b o : Nat} {r : Nat → Bool} (h : wx.rangeAt b o (ringCells r)) : (Instr.loadAt 110 (.pointer (some ⟨b, o, none⟩))).run Tryz.prog wx = .ok (.agg (ringCells r).toArray) wx :=
  run_loadAt_mid wx b o 110 (ringCells r) _ h Tryz.underlying110 rfl (by rw [Tryz.sizeRing, ringCells_len])

theorem range_alloc (w : World) (r : Nat → Bool) (t : TypeId) : (w.alloc (.cells (ringCells r).toArray t)).rangeAt w.heap.size 0 (ringCells r) := by
  intro j u hj
  rw [Nat.zero_add, World.cell?_alloc_new]
  simpa using hj

theorem quiet_load {P : Program} {ops : Array Oper} {C : World → Prop} {Q : Act → Prop} {a : Act} {o : Oper} {rest : List Oper} {ty : TypeId} {x : Operand} {v : Value} (hw : Region.wanted o (yielded ops a.tmps) = true) (ho : o.op = .load ty x) (hl : ∀ w, C w → (Instr.loadAt ty (a.eval x)).run P w = .ok v w) (hr : wpQuiet P ops C Q rest (a.put o.dst v)) : wpQuiet P ops C Q (o :: rest) a := by
  refine wpQuiet_step fun K hK => ?_
  rw [if_pos hw]
  refine ⟨v, fun wx hC => ?_, hK _ hr⟩
  unfold Oper.quietAt execOp
  rw [ho]
  simp only [Sem.run_bind, hl wx hC, Result.andThen_ok, Sem.run_pure, Oper.quietUpon, and_self]

theorem takeWhile_take {p : Nat → Bool} : ∀ (l : List Nat), l.takeWhile p = l.take (l.takeWhile p).length
  | [] => rfl
  | a :: l => by
    cases h : p a
    · simp [h]
    · rw [List.takeWhile_cons_of_pos h, List.length_cons, List.take_succ_cons, ← takeWhile_take l]

theorem belowF_len (T : Nat → Bool) (l : List Nat) : (belowF f T l).length ≤ l.length := by
  unfold belowF
  have := congrArg List.length (takeWhile_take (p := fun x => !ringEq (f.ring x) T) l)
  rw [List.length_take] at this
  omega

theorem belowF_sub {T : Nat → Bool} {l : List Nat} {x : Nat} (h : x ∈ belowF f T l) : x ∈ l := by
  unfold belowF at h
  rw [takeWhile_take] at h
  exact List.mem_of_mem_take h

theorem Ints.below {base : Nat} {so : Option Addr} {sc : Nat} {l : List Nat} (hs : Ints w base (.slice so l.length sc) l) (T : Nat → Bool) : Ints w base (.slice so (belowF f T l).length sc) (belowF f T l) := by
  rcases hs.2 with ⟨h0, h1⟩ | ⟨g', cap', cur, hv, hb, hg, hnc, hcm, hcs, ht⟩
  · have e : l = [] := List.eq_nil_of_length_eq_zero h1
    subst e
    exact hs
  · have e : so = some ⟨g', 0, none⟩ := by injection hv
    subst e
    have := hs.take (belowF_len (f := f) T l)
    rw [show l.take (belowF f T l).length = belowF f T l from (takeWhile_take l).symm] at this
    exact this

set_option maxRecDepth 100000 in
set_option maxHeartbeats 1000000 in
theorem below_any (h : FAt w B g mate f) (T : Nat → Bool) {base : Nat} {so : Option Addr} {sc : Nat} {l : List Nat} (hs : Ints w base (.slice so l.length sc) l) (hl : l.length ≤ 24) (h24 : ∀ x ∈ l, x < 24) :
    Calls Tryz.prog 141 #[.pointer (some ⟨B, 0, none⟩), .agg (ringCells T).toArray, .slice so l.length sc] w fun e w' => e = .returned (.slice so (belowF f T l).length sc) ∧ Below w.heap.size w w' := by
  have HF : Hid (FAt w B g mate f) := h
  have HS : Hid (Ints w base (.slice so l.length sc) l) := hs
  have H24 : Hid (∀ x ∈ l, x < 24) := h24
  have HB1 : Hid (Below w.heap.size w (w.alloc (.cells (ringCells T).toArray 110))) := (Below.refl _ w).alloc (Nat.le_refl _) _
  clear h hs h24
  go_enter Tryz.func141, Tryz.ntmps141
  have HR1 : Hid ((w.alloc (.cells (ringCells T).toArray 110)).rangeAt w.heap.size 0 (ringCells T)) := range_alloc w T _
  go_wp2_with fail
  go_loopg [11] (l.length + 1) (fun k vi wr => ∃ i : Nat, i ≤ l.length ∧ l.length - i ≤ k ∧ vi = .int .i64 i ∧ (∀ (j : Nat) y, j < i → l[j]? = some y → ringEq (f.ring y) T = false) ∧ Below w.heap.size w wr ∧ wr.rangeAt w.heap.size 0 (ringCells T))
  case atStart => exact ⟨0, by omega, by omega, rfl, by intro j y hj; omega, HB1.out, HR1.out⟩
  case round =>
    obtain ⟨i, hi, hk, rfl, hno, hbel, hbox⟩ := hrel
    have HNO : Hid (∀ (j : Nat) y, j < i → l[j]? = some y → ringEq (f.ring y) T = false) := hno
    have HBE : Hid (Below w.heap.size w wr) := hbel
    have HBX : Hid (wr.rangeAt w.heap.size 0 (ringCells T)) := hbox
    have HSr : Hid (Ints wr base (.slice so l.length sc) l) := ownsRow_same HS.out fun k hk => hbel.block k (HS.out.lt k hk).2
    have HFr : Hid (FAt wr B g mate f) := HF.out.below hbel
    clear HB1 HR1 hno hbel hbox
    by_cases hlt : i < l.length
    · have hlt' : (i : Int) < (l.length : Int) := by omega
      have gi := List.getElem?_eq_getElem hlt
      generalize l[i] = x at gi
      have hx24 := H24.out x (List.mem_of_getElem? gi)
      have x24 : (x : Int) < 24 := by omega
      obtain ⟨gg, cap, es, hbg, hgl, cx⟩ := HSr.out.at gi
      simp only [Value.slice.injEq, true_and] at es
      obtain ⟨rfl, rfl⟩ := es
      have hcap := HSr.out.cap
      have hl1 : ∀ n, (Instr.loadAt 110 (.pointer (some ⟨B, 49 + x * 24, none⟩))).run Tryz.prog (wr.drewN n) = .ok (.agg (ringCells (f.ring x)).toArray) (wr.drewN n) := fun n => load_ring ((HFr.out.drewN n).rangeRing hx24)
      have hl2 : ∀ n, (Instr.loadAt 110 (.pointer (some ⟨w.heap.size, 0, none⟩))).run Tryz.prog (wr.drewN n) = .ok (.agg (ringCells T).toArray) (wr.drewN n) := fun n => load_ring (show (wr.drewN n).rangeAt w.heap.size 0 (ringCells T) from HBX.out)
      have heq : ∀ (wx : World) r s, (Op.equalIn 10000 110 (.agg (ringCells r).toArray) (.agg (ringCells s).toArray)).run Tryz.prog wx = .ok (ringEq r s) wx := fun wx r s => run_equal_ring wx 9998 r s
      have HG : Hid (l[i]? = some x) := gi
      have HB2 : Hid (∀ n, Below w.heap.size w (wr.drewN n)) := fun n => below_drewN HBE.out n
      have HX2 : Hid (∀ n, (wr.drewN n).rangeAt w.heap.size 0 (ringCells T)) := fun n => HBX.out
      have HS2 : Hid (∀ n, Ints (wr.drewN n) base (.slice (some ⟨gg, 0, none⟩) i sc) (l.take i)) := fun n => ownsRow_same (HSr.out.take (Nat.le_of_lt hlt)) fun _ _ => rfl
      clear gi
      cases hre : ringEq (f.ring x) T
      · go_wp2_with fail
        refine wp_region_quiet_lit (by kernel_rfl) (by kernel_rfl) ?_
        quiet_step (fail)
        quiet_step (fail)
        quiet_step (fail)
        quiet_step (fail)
        quiet_step (fail)
        refine quiet_load (v := .agg (ringCells (f.ring x)).toArray) (by kernel_rfl) rfl (fun wx hC => by obtain ⟨n, rfl⟩ := hC; exact hl1 n) ?_
        try simp only [Act.put, List.setIfInBounds_toArray, List.set_cons_zero, List.set_cons_succ]
        refine quiet_load (v := .agg (ringCells T).toArray) (by kernel_rfl) rfl (fun wx hC => by obtain ⟨n, rfl⟩ := hC; exact hl2 n) ?_
        try simp only [Act.put, List.setIfInBounds_toArray, List.set_cons_zero, List.set_cons_succ]
        quiet_step (fail)
        refine wpQuiet_nil ?_
        intro _ hw'
        obtain ⟨nq, hw''⟩ := hw'
        subst hw''
        go_wp2_with fail
        go_roundg (l.length - (i + 1))
        case measure => omega
        case rel =>
          refine ⟨i + 1, by omega, Nat.le_refl _, by go_num, ?_, HB2.out _, HX2.out _⟩
          intro j y hj hy
          by_cases e : j = i
          · subst e
            rw [HG.out] at hy
            cases hy
            exact hre
          · exact HNO.out j y (by omega) hy
      · have HT : Hid (belowF f T l = l.take i) := takeWhile_at HG.out (by rw [hre]; rfl) fun j y hj hy => by rw [HNO.out j y hj hy]; rfl
        go_wp2_with fail
        refine wp_region_quiet_lit (by kernel_rfl) (by kernel_rfl) ?_
        quiet_step (fail)
        quiet_step (fail)
        quiet_step (fail)
        quiet_step (fail)
        quiet_step (fail)
        refine quiet_load (v := .agg (ringCells (f.ring x)).toArray) (by kernel_rfl) rfl (fun wx hC => by obtain ⟨n, rfl⟩ := hC; exact hl1 n) ?_
        try simp only [Act.put, List.setIfInBounds_toArray, List.set_cons_zero, List.set_cons_succ]
        refine quiet_load (v := .agg (ringCells T).toArray) (by kernel_rfl) rfl (fun wx hC => by obtain ⟨n, rfl⟩ := hC; exact hl2 n) ?_
        try simp only [Act.put, List.setIfInBounds_toArray, List.set_cons_zero, List.set_cons_succ]
        quiet_step (fail)
        refine wpQuiet_nil ?_
        intro _ hw'
        obtain ⟨nq, hw''⟩ := hw'
        subst hw''
        go_wp2_with fail
        go_ret
        exact ⟨by rw [HT.out, List.length_take, Nat.min_eq_left (Nat.le_of_lt hlt)]; rfl, HB2.out _⟩
    · have hlt' : ¬ (i : Int) < (l.length : Int) := by omega
      have HT : Hid (belowF f T l = l) := takeWhile_full fun j y hy => by
        have hj := (List.getElem?_eq_some_iff.1 hy).1
        rw [HNO.out j y (by omega) hy]
        rfl
      go_wp2_with fail
      go_ret
      exact ⟨by rw [HT.out]; rfl, HBE.out⟩
end
theorem alloc_ring (w : World) : (Instr.alloc 110 true (.tuple #[])).run Tryz.prog w = .ok (.pointer (some ⟨w.heap.size, 0, none⟩)) (w.alloc (.cells (ringCells fun _ => false).toArray 110)) := by kernel_rfl
theorem ring_there (w : World) (r : Nat → Bool) (t : TypeId) : (w.alloc (.cells (ringCells r).toArray t)).there w.heap.size 0 24 := by
  intro j hj
  rw [Nat.zero_add]
  refine ⟨?_, by simp⟩
  rw [World.cell?_alloc_new]
  simp [ringCells_len, hj]

theorem ring_stored {wx : World} {L : Nat} (r : Nat → Bool) (ht : wx.there L 0 24) : (loadVar 110 ⟨L, 0, none⟩).run Tryz.prog (wx.setCells L 0 (ringCells r)) = .ok (.agg (ringCells r).toArray) (wx.setCells L 0 (ringCells r)) :=
  run_loadVar_mid _ L 0 _ (ringCells r) _ (World.rangeAt_setCells_same wx L 0 (ringCells r) (by rw [ringCells_len]; exact ht)) Tryz.underlying110 rfl (by rw [ringCells_len]; exact Tryz.sizeRing)

theorem ring_one (r : Nat → Bool) : (ringCells r).toArray.all (·.oneCell') = true := all_oneCell_toArray (ringCells_one r)
theorem ring_size (r : Nat → Bool) : (ringCells r).toArray.size = 24 := by simp [ringCells_len]

theorem below_cells {B b : Nat} {a : World} (hb : B ≤ b) : ∀ (vs : List Value) (o : Nat) (w : World), Below B a w → Below B a (w.setCells b o vs)
  | [], _, _, h => h
  | v :: r, o, _, h => below_cells hb r (o + 1) _ (h.setCell hb v)

theorem find_at {p : Nat → Bool} : ∀ {l : List Nat} {i : Nat} {x : Nat}, l[i]? = some x → p x = true → (∀ (j : Nat) y, j < i → l[j]? = some y → p y = false) → l.find? p = some x
  | [], _, _, h, _, _ => by simp at h
  | a :: l, 0, x, h, hx, _ => by
    simp at h
    subst h
    simp [hx]
  | a :: l, i + 1, x, h, hx, hb => by
    have ha := hb 0 a (by omega) rfl
    rw [List.find?_cons_of_neg (by simp [ha])]
    exact find_at (by simpa using h) hx fun j y hj hy => hb (j + 1) y (by omega) (by simpa using hy)

section
variable {w w' : World} {B : Nat} {g : Gr} {mate : Nat → Option Nat} {f : Fo}
set_option maxRecDepth 100000 in
set_option maxHeartbeats 1000000 in
theorem meeting_any (h : FAt w B g mate f) {base base' : Nat} {sv tv : Value} {l r : List Nat} (hs : Ints w base sv l) (hl : l.length ≤ 24) (h24 : ∀ x ∈ l, x < 24) (ht : Ints w base' tv r) (hr : r.length ≤ 24) (hr24 : ∀ x ∈ r, x < 24) :
    Calls Tryz.prog 140 #[.pointer (some ⟨B, 0, none⟩), sv, tv] w fun e w' => e = .returned (.agg (ringCells (meetingF f l r)).toArray) ∧ Below w.heap.size w w' := by
  obtain ⟨so, sc, hss⟩ := hs.shape
  subst hss
  obtain ⟨tz, tc, htt⟩ := ht.shape
  subst htt
  have HF : Hid (FAt w B g mate f) := h
  have HS : Hid (Ints w base (.slice so l.length sc) l) := hs
  have HTT : Hid (Ints w base' (.slice tz r.length tc) r) := ht
  have H24 : Hid (∀ x ∈ l, x < 24) := h24
  have HR24 : Hid (∀ x ∈ r, x < 24) := hr24
  have HB1 : Hid (Below w.heap.size w (w.alloc (.cells (ringCells fun _ => false).toArray 110))) := (Below.refl _ w).alloc (Nat.le_refl _) _
  have HR1 : Hid ((w.alloc (.cells (ringCells fun _ => false).toArray 110)).there w.heap.size 0 24) := ring_there w _ _
  clear h hs ht h24 hr24
  go_enter Tryz.func140, Tryz.ntmps140
  go_wp2_with (refine wpList_alloc rfl 110 rfl _ _ (alloc_ring _) ?_; simp only [Act.put, List.setIfInBounds_toArray, List.set_cons_zero, List.set_cons_succ])
  go_loopg [13] (l.length + 1) (fun k vi wr => ∃ i : Nat, i ≤ l.length ∧ l.length - i ≤ k ∧ vi = .int .i64 i ∧ (∀ (j : Nat) y, j < i → l[j]? = some y → (r.any fun z => ringEq (f.ring y) (f.ring z)) = false) ∧ Below w.heap.size w wr ∧ wr.there w.heap.size 0 24)
  case atStart => exact ⟨0, by omega, by omega, rfl, by intro j y hj; omega, HB1.out, HR1.out⟩
  case round =>
    obtain ⟨i, hi, hk, rfl, hno, hbel, hbox⟩ := hrel
    have HNO : Hid (∀ (j : Nat) y, j < i → l[j]? = some y → (r.any fun z => ringEq (f.ring y) (f.ring z)) = false) := hno
    have HBE : Hid (Below w.heap.size w wr) := hbel
    have HBX : Hid (wr.there w.heap.size 0 24) := hbox
    have HSr : Hid (Ints wr base (.slice so l.length sc) l) := ownsRow_same HS.out fun k hk => hbel.block k (HS.out.lt k hk).2
    clear HB1 HR1 hno hbel hbox
    by_cases hlt : i < l.length
    · have hlt' : (i : Int) < (l.length : Int) := by omega
      have gi := List.getElem?_eq_getElem hlt
      generalize l[i] = x at gi
      have hx24 := H24.out x (List.mem_of_getElem? gi)
      have x24 : (x : Int) < 24 := by omega
      obtain ⟨gg, cap, es, hbg, hgl, cx⟩ := HSr.out.at gi
      simp only [Value.slice.injEq, true_and] at es
      obtain ⟨rfl, rfl⟩ := es
      have HG : Hid (l[i]? = some x) := gi
      clear gi
      go_wp2_with fail
      go_loopg [19] (r.length + 1) (fun k vj wq => ∃ j : Nat, j ≤ r.length ∧ r.length - j ≤ k ∧ vj = .int .i64 j ∧ (∀ (k : Nat) y, k < j → r[k]? = some y → ringEq (f.ring x) (f.ring y) = false) ∧ Below w.heap.size w wq ∧ wq.there w.heap.size 0 24)
      case atStart => exact ⟨0, by omega, by omega, rfl, by intro j y hj; omega, HBE.out, HBX.out⟩
      case round =>
        obtain ⟨j, hj, hkj, rfl, hnj, hbj, hxj⟩ := hrel
        have HNJ : Hid (∀ (k : Nat) y, k < j → r[k]? = some y → ringEq (f.ring x) (f.ring y) = false) := hnj
        have HBJ : Hid (Below w.heap.size w wr) := hbj
        have HXJ : Hid (wr.there w.heap.size 0 24) := hxj
        have HSr' : Hid (Ints wr base (.slice (some ⟨gg, 0, none⟩) l.length sc) l) := ownsRow_same HS.out fun k hk => hbj.block k (HS.out.lt k hk).2
        have HTr : Hid (Ints wr base' (.slice tz r.length tc) r) := ownsRow_same HTT.out fun k hk => hbj.block k (HTT.out.lt k hk).2
        have HFr : Hid (FAt wr B g mate f) := HF.out.below hbj
        clear hnj hbj hxj
        by_cases hlj : j < r.length
        · have hlj' : (j : Int) < (r.length : Int) := by omega
          have gj := List.getElem?_eq_getElem hlj
          generalize r[j] = y at gj
          have hy24 := HR24.out y (List.mem_of_getElem? gj)
          have y24 : (y : Int) < 24 := by omega
          obtain ⟨gt, cat, et, hbt, htl, cy⟩ := HTr.out.at gj
          simp only [Value.slice.injEq, true_and] at et
          obtain ⟨rfl, rfl⟩ := et
          have hl1 : ∀ n, (Instr.loadAt 110 (.pointer (some ⟨B, 49 + x * 24, none⟩))).run Tryz.prog (wr.drewN n) = .ok (.agg (ringCells (f.ring x)).toArray) (wr.drewN n) := fun n => load_ring ((HFr.out.drewN n).rangeRing hx24)
          have hl2 : ∀ n, (Instr.loadAt 110 (.pointer (some ⟨B, 49 + y * 24, none⟩))).run Tryz.prog (wr.drewN n) = .ok (.agg (ringCells (f.ring y)).toArray) (wr.drewN n) := fun n => load_ring ((HFr.out.drewN n).rangeRing hy24)
          have heq : ∀ (wx : World) r s, (Op.equalIn 10000 110 (.agg (ringCells r).toArray) (.agg (ringCells s).toArray)).run Tryz.prog wx = .ok (ringEq r s) wx := fun wx r s => run_equal_ring wx 9998 r s
          have HGJ : Hid (r[j]? = some y) := gj
          have HB2 : Hid (∀ n, Below w.heap.size w (wr.drewN n)) := fun n => below_drewN HBJ.out n
          have HX2 : Hid (∀ n, (wr.drewN n).there w.heap.size 0 24) := fun n => HXJ.out
          have HRG : Hid (∀ n, (wr.drewN n).rangeAt B (49 + x * 24) (ringCells (f.ring x))) := fun n => (HFr.out.drewN n).rangeRing hx24
          clear gj
          cases hre : ringEq (f.ring x) (f.ring y)
          · go_wp2_with fail
            refine wp_region_quiet_lit (by kernel_rfl) (by kernel_rfl) ?_
            quiet_step (fail)
            quiet_step (fail)
            quiet_step (fail)
            quiet_step (fail)
            quiet_step (fail)
            refine quiet_load (v := .agg (ringCells (f.ring x)).toArray) (by kernel_rfl) rfl (fun wx hC => by obtain ⟨n, rfl⟩ := hC; exact hl1 n) ?_
            try simp only [Act.put, List.setIfInBounds_toArray, List.set_cons_zero, List.set_cons_succ]
            quiet_step (fail)
            quiet_step (fail)
            quiet_step (fail)
            quiet_step (fail)
            quiet_step (fail)
            refine quiet_load (v := .agg (ringCells (f.ring y)).toArray) (by kernel_rfl) rfl (fun wx hC => by obtain ⟨n, rfl⟩ := hC; exact hl2 n) ?_
            try simp only [Act.put, List.setIfInBounds_toArray, List.set_cons_zero, List.set_cons_succ]
            quiet_step (fail)
            refine wpQuiet_nil ?_
            intro _ hw'
            obtain ⟨nq, hw''⟩ := hw'
            subst hw''
            go_wp2_with fail
            go_roundg (r.length - (j + 1))
            case measure => omega
            case rel =>
              refine ⟨j + 1, by omega, Nat.le_refl _, by go_num, ?_, HB2.out _, HX2.out _⟩
              intro k z hk hz
              by_cases e : k = j
              · subst e
                rw [HGJ.out] at hz
                cases hz
                exact hre
              · exact HNJ.out k z (by omega) hz
          · have HT : Hid (meetingF f l r = f.ring x) := by
              unfold meetingF
              have : l.find? (fun x => r.any fun y => ringEq (f.ring x) (f.ring y)) = some x := find_at HG.out (List.any_eq_true.2 ⟨y, List.mem_of_getElem? HGJ.out, hre⟩) HNO.out
              rw [this]
              exact rfl
            go_wp2_with fail
            refine wp_region_quiet_lit (by kernel_rfl) (by kernel_rfl) ?_
            quiet_step (fail)
            quiet_step (fail)
            quiet_step (fail)
            quiet_step (fail)
            quiet_step (fail)
            refine quiet_load (v := .agg (ringCells (f.ring x)).toArray) (by kernel_rfl) rfl (fun wx hC => by obtain ⟨n, rfl⟩ := hC; exact hl1 n) ?_
            try simp only [Act.put, List.setIfInBounds_toArray, List.set_cons_zero, List.set_cons_succ]
            quiet_step (fail)
            quiet_step (fail)
            quiet_step (fail)
            quiet_step (fail)
            quiet_step (fail)
            refine quiet_load (v := .agg (ringCells (f.ring y)).toArray) (by kernel_rfl) rfl (fun wx hC => by obtain ⟨n, rfl⟩ := hC; exact hl2 n) ?_
            try simp only [Act.put, List.setIfInBounds_toArray, List.set_cons_zero, List.set_cons_succ]
            quiet_step (fail)
            refine wpQuiet_nil ?_
            intro _ hw'
            obtain ⟨nq, hw''⟩ := hw'
            subst hw''
            go_wp2_with (first | (refine wpList_load_mid rfl 110 (.tmp 40) rfl B (49 + x * 24) (by simp [Act.eval]) (ringCells (f.ring x)) _ (HRG.out _) Tryz.underlying110 rfl (by rw [Tryz.sizeRing, ringCells_len]) ?_; simp only [Act.put, List.setIfInBounds_toArray, List.set_cons_zero, List.set_cons_succ]) | (refine wpList_store_mid rfl 110 (.tmp 6) (.tmp 41) rfl w.heap.size 0 (ringCells (f.ring x)).toArray (by simp [Act.eval]) (by rfl) (by rw [ring_size]; exact HX2.out _) (by rw [ring_size]; exact Tryz.sizeRing) (ring_one _) ?_; simp only [Act.put]))
            have HLD := ring_stored (f.ring x) (HX2.out nq)
            refine bodyPost_ret (v := .agg (ringCells (f.ring x)).toArray) ?_ rfl ⟨by rw [HT.out], below_cells (Nat.le_refl _) _ _ _ (HB2.out _)⟩
            simp [results, Tryz.results140, asAddr, HLD]
        · have hlj' : ¬ (j : Int) < (r.length : Int) := by omega
          have HNX : Hid ((r.any fun z => ringEq (f.ring x) (f.ring z)) = false) := List.any_eq_false.2 fun z hz => by
            obtain ⟨k, hk⟩ := List.getElem?_of_mem hz
            have hkl := (List.getElem?_eq_some_iff.1 hk).1
            rw [HNJ.out k z (by omega) hk]
            simp
          go_wp2_with fail
          go_roundg (l.length - (i + 1))
          case measure => omega
          case rel =>
            refine ⟨i + 1, by omega, Nat.le_refl _, by go_num, ?_, HBJ.out, HXJ.out⟩
            intro k z hk hz
            by_cases e : k = i
            · subst e
              rw [HG.out] at hz
              cases hz
              exact HNX.out
            · exact HNO.out k z (by omega) hz
    · have hlt' : ¬ (i : Int) < (l.length : Int) := by omega
      have HT : Hid (meetingF f l r = fun _ => false) := by
        unfold meetingF
        have : l.find? (fun x => r.any fun y => ringEq (f.ring x) (f.ring y)) = none := List.find?_eq_none.2 fun y hy => by
          obtain ⟨j, hj⟩ := List.getElem?_of_mem hy
          have hjl := (List.getElem?_eq_some_iff.1 hj).1
          rw [HNO.out j y (by omega) hj]
          simp
        rw [this]
        exact rfl
      go_wp2_with (first | (refine wpList_store_mid rfl 110 (.tmp 6) (.tmp 44) rfl w.heap.size 0 (ringCells fun _ => false).toArray (by simp [Act.eval]) (by rfl) (by rw [ring_size]; exact HBX.out) (by rw [ring_size]; exact Tryz.sizeRing) (ring_one _) ?_; simp only [Act.put]))
      have HLD := ring_stored (fun _ => false) HBX.out
      refine bodyPost_ret (v := .agg (ringCells fun _ => false).toArray) ?_ rfl ⟨by rw [HT.out], below_cells (Nat.le_refl _) _ _ _ HBE.out⟩
      simp [results, Tryz.results140, asAddr, HLD]
end
theorem ringCells_congr {r s : Nat → Bool} (h : ∀ x, x < 24 → r x = s x) : ringCells r = ringCells s := by
  unfold ringCells
  exact List.map_congr_left fun x hx => by rw [h x (List.mem_range.1 hx)]

theorem run_index_ring (w : World) (r : Nat → Bool) {i : Nat} (hi : i < 24) : (Instr.index 110 (.agg (ringCells r).toArray) (.int .i64 (i : Int))).run Tryz.prog w = .ok (.bool (r i)) w := by
  have h1 : (i : Int) < ((24 : Nat) : Int) := by omega
  have h0 : (0 : Int) ≤ (i : Int) := by omega
  have px : (Go.part 4 (ringCells r).toArray (i * 1)).run Tryz.prog w = .ok (.bool (r i)) w := by
    simp [Go.part, isAgg, run_underlying Tryz.underlying4, ringCells_get r hi]
  unfold Instr.index
  simp only [asIntOf, Sem.run_bind, Sem.run_pure, Result.andThen_ok, run_underlying Tryz.underlying110]
  rw [if_pos ⟨h0, h1⟩]
  simp only [Sem.run_bind, size_bool, Result.andThen_ok, Int.toNat_natCast, px]

/-- Where with stands: its own box holds 'cur', the result's cells are there. -/
structure WiAt (A : Nat) (w wr : World) (cur : Nat → Bool) : Prop where
  below : Below A w wr
  box : wr.rangeAt A 0 (ringCells cur)
  thr : wr.there A 0 24
  res : wr.there (A + 2) 0 24

theorem WiAt.start (w : World) (r o : Nat → Bool) (t : TypeId) : WiAt w.heap.size w (((w.alloc (.cells (ringCells r).toArray t)).alloc (.cells (ringCells o).toArray t)).alloc (.cells (ringCells fun _ => false).toArray t)) r := by
  have h1 : (w.alloc (.cells (ringCells r).toArray t)).heap.size = w.heap.size + 1 := by simp
  have h2 : ((w.alloc (.cells (ringCells r).toArray t)).alloc (.cells (ringCells o).toArray t)).heap.size = w.heap.size + 2 := by simp
  refine ⟨(((Below.refl _ w).alloc (Nat.le_refl _) _).alloc (by omega) _).alloc (by omega) _, World.rangeAt_alloc (World.rangeAt_alloc (range_alloc w r t) _) _, ?_, ?_⟩
  · exact World.there_alloc (World.there_alloc (ring_there w r t) _) _
  · rw [← h2]
    exact ring_there _ _ _

theorem WiAt.set {A : Nat} {w wr : World} {cur cur' : Nat → Bool} (h : WiAt A w wr cur) {i : Nat} (hi : i < 24) (b : Bool) (h1 : cur' i = b) (h2 : ∀ x, x ≠ i → cur' x = cur x) : WiAt A w (wr.setCell ⟨A, i, none⟩ (.bool b)) cur' := by
  refine ⟨h.below.setCell (Nat.le_refl _) _, ?_, World.there_setCells h.thr A i [.bool b], World.there_setCells h.res A i [.bool b]⟩
  intro j v hj
  have hj24 : j < 24 := by
    have := (List.getElem?_eq_some_iff.1 hj).1
    simpa [ringCells_len] using this
  rw [ringCells_get _ hj24] at hj
  cases hj
  by_cases e : j = i
  · subst e
    have := (h.thr j hj24).1
    rw [Nat.zero_add] at this ⊢
    rw [World.cell?_setCell_same' _ _ _ this, h1]
  · rw [Nat.zero_add, World.cell?_setCell_other (w := wr) (a := ⟨A, i, none⟩) (b := ⟨A, j, none⟩) (v := .bool b) (by intro e'; injection e' with _ e'; exact e e'.symm), h2 j e]
    have := h.box j _ (ringCells_get cur hj24)
    rwa [Nat.zero_add] at this

theorem WiAt.cell {A : Nat} {w wr : World} {cur : Nat → Bool} (h : WiAt A w wr cur) {i : Nat} (hi : i < 24) : wr.cell? ⟨A, i, none⟩ = some (.bool (cur i)) ∧ wr.frozen? ⟨A, i, none⟩ = false := by
  have := h.box i _ (ringCells_get cur hi)
  have t := (h.thr i hi).2
  rw [Nat.zero_add] at this t
  exact ⟨this, t⟩

set_option maxRecDepth 100000 in
set_option maxHeartbeats 1000000 in
theorem with_any (w : World) (r o : Nat → Bool) :
    Calls Tryz.prog 143 #[.agg (ringCells r).toArray, .agg (ringCells o).toArray] w fun e w' => e = .returned (.agg (ringCells fun x => r x || o x).toArray) ∧ Below w.heap.size w w' := by
  have HST : Hid (WiAt w.heap.size w (((w.alloc (.cells (ringCells r).toArray 110)).alloc (.cells (ringCells o).toArray 110)).alloc (.cells (ringCells fun _ => false).toArray 110)) r) := WiAt.start w r o _
  have HOT : Hid ((((w.alloc (.cells (ringCells r).toArray 110)).alloc (.cells (ringCells o).toArray 110)).alloc (.cells (ringCells fun _ => false).toArray 110)).rangeAt (w.heap.size + 1) 0 (ringCells o)) := by
    refine World.rangeAt_alloc ?_ _
    have h1 : (w.alloc (.cells (ringCells r).toArray 110)).heap.size = w.heap.size + 1 := by simp
    rw [← h1]
    exact range_alloc _ _ _
  go_enter Tryz.func143, Tryz.ntmps143
  go_wp2_with (first | (refine wpList_alloc rfl 110 rfl _ _ (alloc_ring _) ?_; simp only [Act.put, List.setIfInBounds_toArray, List.set_cons_zero, List.set_cons_succ]) | (refine wpList_load_mid rfl 110 (.tmp 3) rfl (w.heap.size + 1) 0 (by simp [Act.eval]) (ringCells o) _ HOT.out Tryz.underlying110 rfl (by rw [Tryz.sizeRing, ringCells_len]) ?_; simp only [Act.put, List.setIfInBounds_toArray, List.set_cons_zero, List.set_cons_succ]))
  go_loopg [8] 25 (fun k vi wr => ∃ i : Nat, i ≤ 24 ∧ 24 - i ≤ k ∧ vi = .int .i64 i ∧ WiAt w.heap.size w wr (fun x => r x || (decide (x < i) && o x)))
  case atStart =>
    refine ⟨0, by omega, by omega, rfl, ?_⟩
    have e : (fun x => r x || (decide (x < 0) && o x)) = r := by funext x; simp
    rw [e]
    exact HST.out
  case round =>
    obtain ⟨i, hi, hk, rfl, hat⟩ := hrel
    have HAT : Hid (WiAt w.heap.size w wr (fun x => r x || (decide (x < i) && o x))) := hat
    clear HST HOT hat
    by_cases hlt : i < 24
    · have hlt' : (i : Int) < (24 : Int) := by omega
      have cc := HAT.out.cell hlt
      simp only [Nat.lt_irrefl, decide_false, Bool.false_and, Bool.or_false] at cc
      obtain ⟨ci, fi⟩ := cc
      have oi : ∀ wx, (Instr.index 110 (.agg (ringCells o).toArray) (.int .i64 (i : Int))).run Tryz.prog wx = .ok (.bool (o i)) wx := fun wx => run_index_ring wx o hlt
      cases hri : r i
      · rw [hri] at ci
        have HAN : Hid (WiAt w.heap.size w (wr.setCell ⟨w.heap.size, i, none⟩ (.bool (o i))) (fun x => r x || (decide (x < i + 1) && o x))) := HAT.out.set hlt _ (by simp [hri]) (fun x hx => by simp only [show (x < i + 1) = (x < i) from propext ⟨fun h => by omega, fun h => by omega⟩])
        go_wp2_with fail
        go_roundg (24 - (i + 1))
        case measure => omega
        case rel => exact ⟨i + 1, by omega, Nat.le_refl _, by go_num, HAN.out⟩
      · rw [hri] at ci
        have HAN : Hid (WiAt w.heap.size w (wr.setCell ⟨w.heap.size, i, none⟩ (.bool true)) (fun x => r x || (decide (x < i + 1) && o x))) := HAT.out.set hlt _ (by simp [hri]) (fun x hx => by simp only [show (x < i + 1) = (x < i) from propext ⟨fun h => by omega, fun h => by omega⟩])
        go_wp2_with fail
        go_roundg (24 - (i + 1))
        case measure => omega
        case rel => exact ⟨i + 1, by omega, Nat.le_refl _, by go_num, HAN.out⟩
    · have hlt' : ¬ (i : Int) < (24 : Int) := by omega
      have HE : Hid (ringCells (fun x => r x || (decide (x < i) && o x)) = ringCells (fun x => r x || o x)) := ringCells_congr fun x hx => by simp [show x < i by omega]
      have HBX : Hid (wr.rangeAt w.heap.size 0 (ringCells (fun x => r x || o x))) := by
        have := HAT.out.box
        rw [HE.out] at this
        exact this
      go_wp2_with (first | (refine wpList_load_mid rfl 110 (.tmp 2) rfl w.heap.size 0 (by simp [Act.eval]) (ringCells (fun x => r x || o x)) _ HBX.out Tryz.underlying110 rfl (by rw [Tryz.sizeRing, ringCells_len]) ?_; simp only [Act.put, List.setIfInBounds_toArray, List.set_cons_zero, List.set_cons_succ]) | (refine wpList_store_mid rfl 110 (.tmp 4) (.tmp 21) rfl (w.heap.size + 2) 0 (ringCells (fun x => r x || o x)).toArray (by simp [Act.eval]) (by rfl) (by rw [ring_size]; exact HAT.out.res) (by rw [ring_size]; exact Tryz.sizeRing) (ring_one _) ?_; simp only [Act.put]))
      have HLD := ring_stored (fun x => r x || o x) HAT.out.res
      refine bodyPost_ret (v := .agg (ringCells (fun x => r x || o x)).toArray) ?_ rfl ⟨rfl, below_cells (by omega) _ _ _ HAT.out.below⟩
      simp [results, Tryz.results143, asAddr, HLD]
end Go.Proofs.YtcabaecbmkgclaaGreatDoor.Mg
