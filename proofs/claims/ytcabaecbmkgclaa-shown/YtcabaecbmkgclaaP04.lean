/-
  What the forest's grow does.
  What the forest's barrier and the matching's flip do.
  The matching by itself: its block; what flip does.
  What the matching's pairs does.
  The graph of a list of edges; the most pairs by trying; no more than the search found, and no fewer.
  Pieces named by their least number: what stands while names go down along edges.
  What is seen of the pairs and of the barrier.
  What pick does: which of n things a raw number speaks of.
-/
import Derived.Test.YtcabaecbmkgclaaP03
import Derived.OwnWalk

namespace Go.Proofs.Ytcabaecbmkgclaa.Mg
open Go.RowKit Mt

section
variable {w w' : World} {B : Nat} {g : Gr} {mate : Nat → Option Nat} {f : Fo} {h : Gh}

/-- What grow hands back. -/
def GwIs (w : World) (B : Nat) (g : Gr) (mate : Nat → Option Nat) (e : Ending) (w' : World) : Prop :=
  FFr B w w' ∧ ((e = .returned (.tuple #[.slice none 0 0, .bool false]) ∧ ∃ f' h', FAt w' B g mate f' ∧ Inv g mate f' h' ∧ Mt.Shut g f') ∨
    ∃ p, Aug g mate p ∧ ∃ rv, e = .returned (.tuple #[rv, .bool true]) ∧ Ints w' w.heap.size rv p)

/-- Where grow stands: at the i-th of its queue, at number c. -/
structure GwAt (w : World) (B : Nat) (g : Gr) (mate : Nat → Option Nat) (i c : Nat) (f : Fo) (h : Gh) (wr : World) : Prop where
  fo : FAt wr B g mate f
  inv : Inv g mate f h
  seen : Seen g f i c
  fr : FFr B w wr

theorem FAt.queueAt (hA : FAt w B g mate f) {i v : Nat} (hi : f.queue[i]? = some v) : ∃ gq cq, w.cell? ⟨B, 697, none⟩ = some (.slice (some ⟨gq, 0, none⟩) f.queue.length cq) ∧ w.cell? ⟨gq, i, none⟩ = some (.int .i64 v) := by
  obtain ⟨qv, hc, hI, _⟩ := hA.queue
  obtain ⟨gq, cq, rfl, _, _, hx⟩ := hI.at hi
  exact ⟨gq, cq, hc, hx⟩

theorem FAt.queueLen (hA : FAt w B g mate f) : ∃ so cq, w.cell? ⟨B, 697, none⟩ = some (.slice so f.queue.length cq) := by
  obtain ⟨qv, hc, hI, _⟩ := hA.queue
  obtain ⟨so, cq, rfl⟩ := hI.shape
  exact ⟨so, cq, hc⟩

set_option maxRecDepth 100000 in
set_option maxHeartbeats 1000000 in
theorem grow_any (hA : FAt w B g mate f) (G : GrOk g) (M : MtOk g mate) (I : Inv g mate f h) :
    Calls Try.prog 17 #[.pointer (some ⟨B, 0, none⟩)] w fun e w' => GwIs w B g mate e w' := by
  have hn := G.n24
  have HST : Hid (GwAt w B g mate 0 0 f h w) := ⟨hA, I, seen_start, FFr.refl B w⟩
  have HG : Hid (GrOk g ∧ MtOk g mate) := ⟨G, M⟩
  clear hA G M I
  go_enter Try.func17, Try.ntmps17
  go_wp2_with fail
  go_loopg [4] 26 (fun k v4 wr => ∃ (i : Nat) (f : Fo) (h : Gh), i ≤ f.queue.length ∧ 25 - i ≤ k ∧ v4 = .int .i64 i ∧ GwAt w B g mate i 0 f h wr)
  case atStart => exact ⟨0, f, h, by omega, by omega, rfl, HST.out⟩
  case round =>
    clear HST
    obtain ⟨i, f, h, hi, hk, rfl, hat⟩ := hrel
    have hql : f.queue.length ≤ 24 := by have := hat.inv.qlen; omega
    have HAT : Hid (GwAt w B g mate i 0 f h wr) := hat
    by_cases hlt : i < f.queue.length
    · have hlt' : (i : Int) < (f.queue.length : Int) := by omega
      have gi := List.getElem?_eq_getElem hlt
      generalize f.queue[i] = v at gi
      obtain ⟨gq, cq, c697, cx⟩ := hat.fo.queueAt gi
      have cn := hat.fo.n
      have HV : Hid (f.queue[i]? = some v) := gi
      clear gi hat
      go_wp2_with fail
      have hv24 : v < 24 := by have := HAT.out.inv.olt v ((HAT.out.inv.q v).1 (List.mem_of_getElem? HV.out)); omega
      go_loopg [30] 26 (fun k v30 wr => ∃ (c : Nat) (f : Fo) (h : Gh), c ≤ g.n ∧ 25 - c ≤ k ∧ v30 = .int .i64 c ∧ f.queue[i]? = some v ∧ GwAt w B g mate i c f h wr)
      case atStart => exact ⟨0, f, h, by omega, by omega, rfl, HV.out, HAT.out⟩
      case round =>
        clear HAT HV c697 cx cn hlt hlt' hql hi
        obtain ⟨c, f, h, hc, hkc, rfl, hqi, hat⟩ := hrel
        have HQ : Hid (f.queue[i]? = some v) := hqi
        have HAT : Hid (GwAt w B g mate i c f h wr) := hat
        have HIL : Hid (i < f.queue.length ∧ f.queue.length ≤ 24) := ⟨(List.getElem?_eq_some_iff.1 hqi).1, by have := hat.inv.qlen; omega⟩
        have HVO : Hid (f.outer v = true) := (hat.inv.q v).1 (List.mem_of_getElem? hqi)
        clear hat hqi
        by_cases hcn : c < g.n
        · have hcn' : (c : Int) < (g.n : Int) := by omega
          have HJ := joined_any HAT.out.fo hv24 (show c < 24 by omega)
          cases hadj : g.adj v c
          · rw [hadj] at HJ
            go_wp2_with fail
            refine HJ.mono ?_
            rintro e w2 ⟨rfl, rfl⟩
            go_wp2_with fail
            go_roundg (25 - (c + 1))
            case measure => omega
            case rel => exact ⟨c + 1, f, h, by omega, by omega, by go_num, HQ.out, ⟨HAT.out.fo, HAT.out.inv, seen_skip HG.out.1 HQ.out hadj HAT.out.seen, HAT.out.fr⟩⟩
          · rw [hadj] at HJ
            have HFL := follow_any HAT.out.fo HG.out.1 HG.out.2 HAT.out.inv HVO.out hadj
            have HOK := follow_ok HG.out.1 HG.out.2 HAT.out.inv HVO.out hadj
            have HOK' : Hid _ := HOK
            clear HOK
            go_wp2_with fail
            refine HJ.mono ?_
            rintro e w2 ⟨rfl, rfl⟩
            go_wp2_with fail
            refine HFL.mono ?_
            rintro e w2 ⟨hf2, hcase⟩
            rcases hcase with ⟨hno, rfl, hA2⟩ | ⟨p, hp, rv, rfl, hI2, hB2⟩
            · have HN : Hid (∃ h', GwAt w B g mate i (c + 1) (followF mate f v c).2 h' w2 ∧ (followF mate f v c).2.queue[i]? = some v) := by
                rcases HOK'.out with ⟨p, hp, _⟩ | ⟨_, ⟨h', hI'⟩, hgr, hin, hri⟩
                · rw [hp] at hno
                  cases hno
                · obtain ⟨q, hq⟩ := hgr.queue
                  exact ⟨h', ⟨hA2, hI', seen_step HAT.out.inv hI' hgr HQ.out hin hri HAT.out.seen, HAT.out.fr.trans hf2⟩, by rw [hq, List.getElem?_append_left HIL.out.1]; exact HQ.out⟩
              clear hno hA2 hf2 HFL HJ
              go_wp2_with fail
              go_roundg (25 - (c + 1))
              case measure => omega
              case rel =>
                obtain ⟨h', hg', hq'⟩ := HN.out
                exact ⟨c + 1, _, h', by omega, by omega, by go_num, hq', hg'⟩
            · have HE : Hid (GwIs w B g mate (.returned (.tuple #[rv, .bool true])) w2) := by
                refine ⟨HAT.out.fr.trans hf2, .inr ⟨p, ?_, rv, rfl, ownsRow_mono hI2 HAT.out.fr.size⟩⟩
                rcases HOK'.out with ⟨p', hp', ha⟩ | ⟨hp', _⟩
                · rw [hp'] at hp
                  cases hp
                  exact ha
                · rw [hp'] at hp
                  cases hp
              clear hp hI2 hB2 hf2 HFL HJ
              go_wp2_with fail
              refine bodyPost_ret (v := .tuple #[rv, .bool true]) ?_ rfl HE.out
              simp [results, Try.results17]
        · have hcn' : ¬ (c : Int) < (g.n : Int) := by omega
          have ec : c = g.n := by omega
          have hi24 : i < 24 := by have := HIL.out; omega
          subst ec
          go_wp2_with fail
          go_roundg (25 - (i + 1))
          case measure => have := HIL.out; omega
          case rel => exact ⟨i + 1, f, h, HIL.out.1, Nat.le_refl _, by go_num, ⟨HAT.out.fo, HAT.out.inv, seen_row HG.out.1 HAT.out.seen, HAT.out.fr⟩⟩
    · have hlt' : ¬ (i : Int) < (f.queue.length : Int) := by omega
      obtain ⟨so, cq, c697⟩ := hat.fo.queueLen
      have HE : Hid (GwIs w B g mate (.returned (.tuple #[.slice none 0 0, .bool false])) wr) := ⟨hat.fr, .inl ⟨rfl, f, h, hat.fo, hat.inv, seen_end hat.inv (by omega) hat.seen⟩⟩
      clear hat
      go_wp2_with fail
      refine bodyPost_ret (v := .tuple #[.slice none 0 0, .bool false]) ?_ rfl HE.out
      simp [results, Try.results17]
end
end Go.Proofs.Ytcabaecbmkgclaa.Mg

namespace Go.Proofs.Ytcabaecbmkgclaa.Mg
open Go.RowKit Mt

section
variable {w w' : World} {B : Nat} {g : Gr} {mate : Nat → Option Nat} {f : Fo}

theorem filter_yes {p : Nat → Bool} {c : Nat} (h : p c = true) : (List.range (c + 1)).filter p = (List.range c).filter p ++ [c] := by rw [List.range_succ, List.filter_append]; simp [h]
theorem filter_no {p : Nat → Bool} {c : Nat} (h : p c = false) : (List.range (c + 1)).filter p = (List.range c).filter p := by rw [List.range_succ, List.filter_append]; simp [h]
theorem filter_len (p : Nat → Bool) (c : Nat) : ((List.range c).filter p).length ≤ c := by
  have := List.length_filter_le p (List.range c)
  simpa using this

set_option maxRecDepth 100000 in
set_option maxHeartbeats 1000000 in
theorem barrier_any (hA : FAt w B g mate f) (hn : g.n ≤ 24) :
    Calls Try.prog 19 #[.pointer (some ⟨B, 0, none⟩)] w fun e w' => ∃ rv, e = .returned rv ∧ Ints w' w.heap.size rv (barF g.n f) ∧ Below w.heap.size w w' := by
  obtain ⟨i0, hi, hz0, hz1, hz2⟩ := info_parts Try.infoInt
  have HF : Hid (FAt w B g mate f) := hA
  have cn := hA.n
  clear hA
  go_enter Try.func19, Try.ntmps19
  go_wp2_with fail
  go_loopg [3, 10] 26 (fun k v3 v10 wr => ∃ c : Nat, c ≤ g.n ∧ 25 - c ≤ k ∧ v10 = .int .i64 c ∧ Ints wr w.heap.size v3 ((List.range c).filter (bar f)) ∧ Below w.heap.size w wr)
  case atStart => exact ⟨0, by omega, by omega, rfl, Ints.nil _ _, Below.refl _ _⟩
  case round =>
    obtain ⟨c, hc, hk, rfl, hI, hb⟩ := hrel
    have HI : Hid (Ints wr w.heap.size _ ((List.range c).filter (bar f))) := hI
    have HB : Hid (Below w.heap.size w wr) := hb
    have hA := HF.out.below hb
    have hws := hb.size
    have hlen := filter_len (bar f) c
    clear cn
    by_cases hcn : c < g.n
    · have hcn' : (c : Int) < (g.n : Int) := by omega
      have c24 : (c : Int) < 24 := by omega
      have ci := hA.inner c (by omega)
      have co := hA.outer c (by omega)
      obtain ⟨so, sc, hss⟩ := hI.shape
      subst hss
      clear hA hb hI
      cases hin : f.inner c
      · rw [hin] at ci
        have HN : Hid ((List.range (c + 1)).filter (bar f) = (List.range c).filter (bar f)) := filter_no (by unfold bar; simp [hin])
        go_wp2_with fail
        go_roundg (25 - (c + 1))
        case measure => omega
        case rel => exact ⟨c + 1, by omega, Nat.le_refl _, by go_num, by rw [HN.out]; exact HI.out, HB.out⟩
      · rw [hin] at ci
        cases hou : f.outer c
        · rw [hou] at co
          have HN : Hid ((List.range (c + 1)).filter (bar f) = (List.range c).filter (bar f) ++ [c]) := filter_yes (by unfold bar; simp [hin, hou])
          have HINA : Hid (∀ ob, (wr.alloc ob).ownsRow w.heap.size 3 1 (.slice so ((List.range c).filter (bar f)).length sc) ((List.range c).filter (bar f)).length (intCells ((List.range c).filter (bar f)))) := fun ob => HI.out.alloc ob
          have HN1 : Hid (∀ t, ∀ j u, [Value.int .i64 (c : Int)][j]? = some u → (wr.alloc (.cells #[.int .i64 (c : Int)] t)).cell? ((⟨wr.heap.size, 0, none⟩ : Addr).add j) = some u) := fun t j u hj => by
            rw [Addr.add_mid, Nat.zero_add, World.cell?_alloc_new]
            simpa using hj
          generalize hq : (List.range c).filter (bar f) = q at *
          go_wp2_with (at_builtin; go_must (refine wpList_append_mine rfl (.tmp 28) (.tmp 30) 22 rfl w.heap.size 3 i0 (.int .i64 0) 1 8 Try.underlying22 hi hz0 hz1 hz2 rfl (by decide) (.slice so q.length sc) q.length (intCells q) rfl (by exact HINA.out _) ⟨wr.heap.size, 0, none⟩ 1 1 [.int .i64 (c : Int)] rfl rfl (by exact HN1.out _) (by intro u hu; simp at hu; rcases hu with rfl; rfl) (by unfold maxLen; omega) (by omega) (by simp; omega) ?_))
          intro v' w2 ho hg hkk
          have HI2 : Hid (Ints w2 w.heap.size v' (q ++ [c])) := by
            unfold Hid Ints
            have e1 : (q ++ [c]).length = q.length + 1 := by simp
            have e2 : intCells (q ++ [c]) = intCells q ++ [.int .i64 (c : Int)] := by simp [intCells]
            rw [e1, e2]
            exact ho
          have HB2 : Hid (Below w.heap.size w w2) := (HB.out.alloc hws _).grown hg (by simp; omega) (fun k hk => (HI.out.lt k hk).1)
          clear ho hg hkk
          go_wp2_with fail
          go_roundg (25 - (c + 1))
          case measure => omega
          case rel => exact ⟨c + 1, by omega, Nat.le_refl _, by go_num, by rw [HN.out]; exact HI2.out, HB2.out⟩
        · rw [hou] at co
          have HN : Hid ((List.range (c + 1)).filter (bar f) = (List.range c).filter (bar f)) := filter_no (by unfold bar; simp [hin, hou])
          go_wp2_with fail
          go_roundg (25 - (c + 1))
          case measure => omega
          case rel => exact ⟨c + 1, by omega, Nat.le_refl _, by go_num, by rw [HN.out]; exact HI.out, HB.out⟩
    · have hcn' : ¬ (c : Int) < (g.n : Int) := by omega
      have ec : c = g.n := by omega
      subst ec
      clear hA hb hI
      go_wp2_with fail
      go_ret
      exact ⟨_, rfl, HI.out, HB.out⟩
end
end Go.Proofs.Ytcabaecbmkgclaa.Mg

namespace Go.Proofs.Ytcabaecbmkgclaa.Mg
open Go.RowKit Mt

/-- A matching lies in block M. -/
structure MAt (w : World) (M : Nat) (g : Gr) (mate : Nat → Option Nat) : Prop where
  near : ∀ k, k < 24 → ∃ m : Nat, w.cell? ⟨M, k, none⟩ = some (.int .u32 m) ∧ m < 4294967296 ∧ ∀ j, j < 24 → m.testBit j = g.adj k j
  n : w.cell? ⟨M, 24, none⟩ = some (.int .i64 g.n)
  mate : ∀ k, k < 24 → w.cell? ⟨M, 25 + k, none⟩ = some (.int .i64 (mi (mate k)))
  free : ∀ i, w.frozen? ⟨M, i, none⟩ = false

/-- Nothing but block M has turned, and there may be new blocks. -/
structure MFr (M : Nat) (w w' : World) : Prop where
  os : w'.os = w.os
  tape : w'.tape = w.tape
  output : w'.output = w.output
  size : w.heap.size ≤ w'.heap.size
  block : ∀ k, k < w.heap.size → k ≠ M → w'.heap[k]? = w.heap[k]?

section
variable {w w' : World} {M : Nat} {g : Gr} {mate : Nat → Option Nat}

theorem MAt.lt (h : MAt w M g mate) : M < w.heap.size := World.block_lt_of_cell? w ⟨M, 24, none⟩ h.n

theorem MAt.same (h : MAt w M g mate) (hs : w'.heap[M]? = w.heap[M]?) : MAt w' M g mate := by
  have hc : ∀ i, w'.cell? ⟨M, i, none⟩ = w.cell? ⟨M, i, none⟩ := fun i => World.cell?_of_block hs
  have hf : ∀ i, w'.frozen? ⟨M, i, none⟩ = w.frozen? ⟨M, i, none⟩ := fun i => by simp [World.frozen?, hs]
  exact ⟨fun k hk => by rw [hc]; exact h.near k hk, by rw [hc]; exact h.n, fun k hk => by rw [hc]; exact h.mate k hk, fun i => by rw [hf]; exact h.free i⟩

theorem MFr.refl (M : Nat) (w : World) : MFr M w w := ⟨rfl, rfl, rfl, Nat.le_refl _, fun _ _ _ => rfl⟩
theorem MFr.trans {a b c : World} (h : MFr M a b) (k : MFr M b c) : MFr M a c :=
  ⟨k.os.trans h.os, k.tape.trans h.tape, k.output.trans h.output, Nat.le_trans h.size k.size, fun i hi hm => (k.block i (Nat.lt_of_lt_of_le hi h.size) hm).trans (h.block i hi hm)⟩
theorem MFr.of_below (h : Below w.heap.size w w') : MFr M w w' := ⟨h.os, h.tape, h.output, h.size, fun k hk _ => h.block k hk⟩
theorem MFr.set {a : World} (h : MFr M a w) (i : Nat) (u : Value) : MFr M a (w.setCell ⟨M, i, none⟩ u) :=
  ⟨h.os, h.tape, h.output, by simpa using h.size, fun k hk hn => by rw [Below.heap_setCell w _ u k hn]; exact h.block k hk hn⟩
theorem MFr.drew {a : World} (h : MFr M a w) : MFr M a w.drew := ⟨h.os, h.tape, h.output, h.size, h.block⟩
theorem MFr.drewN {a : World} (h : MFr M a w) (n : Nat) : MFr M a (w.drewN n) := ⟨h.os, h.tape, h.output, h.size, h.block⟩

theorem MAt.set (h : MAt w M g mate) {a : Nat} (ha : a < 24) (b : Nat) : MAt (w.setCell ⟨M, 25 + a, none⟩ (.int .i64 (b : Int))) M g (setAt mate a (some b)) := by
  have hc : ∀ j, j ≠ 25 + a → (w.setCell ⟨M, 25 + a, none⟩ (.int .i64 (b : Int))).cell? ⟨M, j, none⟩ = w.cell? ⟨M, j, none⟩ := fun j hj => cell_set_ne (fun e => hj e.symm) _
  refine ⟨fun k hk => by rw [hc _ (by omega)]; exact h.near k hk, by rw [hc _ (by omega)]; exact h.n, ?_, fun j => by rw [World.frozen?_setCell]; exact h.free j⟩
  intro k hk
  by_cases e : k = a
  · subst e
    rw [World.cell?_setCell_same w _ _ (h.mate k hk)]
    simp [setAt, mi]
  · rw [hc _ (by omega)]
    simp only [setAt, if_neg e]
    exact h.mate k hk

/-- Where flip stands. -/
def MfAt (w : World) (M : Nat) (g : Gr) (mate : Nat → Option Nat) (base : Nat) (pv : Value) (p : List Nat) (k : Nat) (v4 : Value) (wr : World) : Prop :=
  ∃ pre rest mt, p = pre ++ rest ∧ rest.length < k ∧ v4 = .int .i64 (pre.length : Nat) ∧ Mt.flip mt rest = Mt.flip mate p ∧ MAt wr M g mt ∧ Ints wr base pv p ∧ MFr M w wr

set_option maxRecDepth 100000 in
set_option maxHeartbeats 1000000 in
theorem flip_any (hA : MAt w M g mate) {base : Nat} {pv : Value} {p : List Nat} (hp : Ints w base pv p) (hpm : pv.ownBlock ≠ some M) (hl : p.length ≤ 48) (h24 : ∀ x ∈ p, x < 24) (hnd : p.Nodup) :
    Calls Try.prog 20 #[.pointer (some ⟨M, 0, none⟩), pv] w fun e w' => e = .returned (.tuple #[]) ∧ MAt w' M g (Mt.flip mate p) ∧ MFr M w w' := by
  obtain ⟨so, sc, hss⟩ := hp.shape
  subst hss
  have HST : Hid (MfAt w M g mate base (.slice so p.length sc) p 49 (.int .i64 (0 : Nat)) w) := ⟨[], p, mate, rfl, by omega, rfl, rfl, hA, hp, MFr.refl M w⟩
  have H24 : Hid (∀ x ∈ p, x < 24) := h24
  have HND : Hid p.Nodup := hnd
  have HPM : Hid ((Value.slice so p.length sc).ownBlock ≠ some M) := hpm
  clear hA hp hpm h24 hnd
  go_enter Try.func20, Try.ntmps20
  go_wp2_with fail
  go_loopg [4] 49 (fun k v4 wr => MfAt w M g mate base (.slice so p.length sc) p k v4 wr)
  case atStart => exact HST.out
  case round =>
    clear HST
    obtain ⟨pre, rest, mt, hsp, hk, rfl, hfl, hA, hI, hfr⟩ := hrel
    have HA : Hid (MAt wr M g mt) := hA
    have HI : Hid (Ints wr base (.slice so p.length sc) p) := hI
    have HFR : Hid (MFr M w wr) := hfr
    have hpl : p.length = pre.length + rest.length := by rw [hsp, List.length_append]
    have HSP : Hid (p = pre ++ rest) := hsp
    have HFL : Hid (Mt.flip mt rest = Mt.flip mate p) := hfl
    clear hsp hfl hfr
    match rest, hk, hpl, HSP, HFL with
    | [], hk, hpl, HSP, HFL =>
      have hlt' : ¬ ((pre.length : Int) + 1 < (p.length : Int)) := by simp at hpl; omega
      have HE : Hid (MAt wr M g (Mt.flip mate p)) := by rw [← HFL.out]; exact HA.out
      clear hA hI
      go_wp2_with fail
      go_end0
      exact ⟨rfl, HE.out, HFR.out⟩
    | [z], hk, hpl, HSP, HFL =>
      have hlt' : ¬ ((pre.length : Int) + 1 < (p.length : Int)) := by simp at hpl; omega
      have HE : Hid (MAt wr M g (Mt.flip mate p)) := by rw [← HFL.out]; exact HA.out
      clear hA hI
      go_wp2_with fail
      go_end0
      exact ⟨rfl, HE.out, HFR.out⟩
    | a :: b :: l, hk, hpl, HSP, HFL =>
      have hlt' : ((pre.length : Int) + 1 < (p.length : Int)) := by simp at hpl; omega
      have ga : p[pre.length]? = some a := by rw [HSP.out]; simp
      have gb : p[pre.length + 1]? = some b := by rw [HSP.out]; simp
      have ha24 := H24.out a (List.mem_of_getElem? ga)
      have hb24 := H24.out b (List.mem_of_getElem? gb)
      have a24 : (a : Int) < 24 := by omega
      have b24 : (b : Int) < 24 := by omega
      have hab : a ≠ b := by
        rintro rfl
        have := HND.out
        rw [HSP.out] at this
        have := (List.nodup_append.1 this).2.1
        simp at this
      obtain ⟨gg, cap, es, hbg, hgl, ca⟩ := hI.at ga
      simp only [Value.slice.injEq, true_and] at es
      obtain ⟨rfl, rfl⟩ := es
      obtain ⟨gg', cap', es, _, _, cb⟩ := hI.at gb
      have egg : gg' = gg := by injection es with e1; injection e1 with e1; injection e1 with e1; exact e1.symm
      subst egg
      have ma := hA.mate a ha24
      have mb := hA.mate b hb24
      have fa := hA.free (25 + a)
      have fb := hA.free (25 + b)
      have hpre : (pre.length : Int) < (p.length : Int) := by omega
      clear hA hI es ga gb
      go_wp2_with fail
      go_quiet (fail)
      go_wp2_with fail
      go_region
      have HA2 : Hid (MAt (((wr.drewN (nq + 1)).setCell ⟨M, 25 + a, none⟩ (.int .i64 (b : Int))).setCell ⟨M, 25 + b, none⟩ (.int .i64 (a : Int))) M g (setAt (setAt mt a (some b)) b (some a))) := ((HA.out.same (w' := wr.drewN (nq + 1)) rfl).set ha24 b).set hb24 a
      have HF2 : Hid (MFr M w (((wr.drewN (nq + 1)).setCell ⟨M, 25 + a, none⟩ (.int .i64 (b : Int))).setCell ⟨M, 25 + b, none⟩ (.int .i64 (a : Int)))) := ((HFR.out.drewN (nq + 1)).set _ _).set _ _
      have HI2 : Hid (Ints (((wr.drewN (nq + 1)).setCell ⟨M, 25 + a, none⟩ (.int .i64 (b : Int))).setCell ⟨M, 25 + b, none⟩ (.int .i64 (a : Int))) base (.slice (some ⟨gg', 0, none⟩) p.length sc) p) := ownsRow_same HI.out fun k hk => by
        have hkM : k ≠ M := fun e => HPM.out (by rw [hk, e])
        rw [Below.heap_setCell _ _ _ k hkM, Below.heap_setCell _ _ _ k hkM]
        rfl
      generalize ((wr.drewN (nq + 1)).setCell ⟨M, 25 + a, none⟩ (.int .i64 (b : Int))).setCell ⟨M, 25 + b, none⟩ (.int .i64 (a : Int)) = w2 at HA2 HF2 HI2 ⊢
      clear ca cb ma mb fa fb
      go_wp2_with fail
      go_roundg (l.length + 1)
      case measure => simp at hk; omega
      case rel => exact ⟨pre ++ [a, b], l, setAt (setAt mt a (some b)) b (some a), by rw [HSP.out]; simp, by omega, by simp, HFL.out, HA2.out, HI2.out, HF2.out⟩
end
end Go.Proofs.Ytcabaecbmkgclaa.Mg

namespace Go.Proofs.Ytcabaecbmkgclaa.Mg
open Go.RowKit Mt

theorem Try.infoPair2 : (Try.prog.info? 30).map (fun i => (i.zero, i.size, i.bytes)) = some (some (.agg #[.int .i64 0, .int .i64 0]), 2, 16) := by kernel_rfl

def pairCells (l : List (Nat × Nat)) : List Value := l.flatMap fun p => [.int .i64 (p.1 : Int), .int .i64 (p.2 : Int)]
theorem pairCells_len (l : List (Nat × Nat)) : (pairCells l).length = l.length * 2 := by
  induction l with
  | nil => rfl
  | cons a l ih => simp [pairCells] at ih ⊢; omega
theorem pairCells_append (l r : List (Nat × Nat)) : pairCells (l ++ r) = pairCells l ++ pairCells r := by simp [pairCells]

/-- A list of pairs of the call's own. -/
def Prs (w : World) (base : Nat) (v : Value) (l : List (Nat × Nat)) : Prop := w.ownsRow base 30 2 v l.length (pairCells l)

theorem Prs.nil (w : World) (base : Nat) : Prs w base (.slice none 0 0) [] := ⟨rfl, .inl ⟨rfl, rfl⟩⟩

section
variable {w w' : World} {M : Nat} {g : Gr} {mate : Nat → Option Nat}

def prOf (mate : Nat → Option Nat) (c : Nat) : List (Nat × Nat) := ((List.range c).filter fun v => (mate v).isSome && decide (v < mateOf mate v)).map fun v => (v, mateOf mate v)

theorem prOf_len (mate : Nat → Option Nat) (c : Nat) : (prOf mate c).length ≤ c := by
  unfold prOf
  rw [List.length_map]
  exact filter_len _ c

theorem prOf_no {c : Nat} (h : ((mate c).isSome && decide (c < mateOf mate c)) = false) : prOf mate (c + 1) = prOf mate c := by
  unfold prOf
  rw [filter_no h]

theorem prOf_yes {c m : Nat} (h : mate c = some m) (hc : c < m) : prOf mate (c + 1) = prOf mate c ++ [(c, m)] := by
  unfold prOf
  have e : mateOf mate c = m := by unfold mateOf; rw [h]; rfl
  rw [filter_yes (by rw [e, h]; simp [hc]), List.map_append]
  simp [e]

set_option maxRecDepth 100000 in
set_option maxHeartbeats 1000000 in
theorem pairs_any (hA : MAt w M g mate) (hn : g.n ≤ 24) :
    Calls Try.prog 18 #[.pointer (some ⟨M, 0, none⟩)] w fun e w' => ∃ rv, e = .returned rv ∧ Prs w' w.heap.size rv (pairsF g.n mate) ∧ Below w.heap.size w w' := by
  obtain ⟨i0, hi, hz0, hz1, hz2⟩ := info_parts Try.infoPair2
  have HF : Hid (MAt w M g mate) := hA
  have cn := hA.n
  clear hA
  go_enter Try.func18, Try.ntmps18
  go_wp2_with fail
  go_loopg [3, 9] 26 (fun k v3 v9 wr => ∃ c : Nat, c ≤ g.n ∧ 25 - c ≤ k ∧ v9 = .int .i64 c ∧ Prs wr w.heap.size v3 (prOf mate c) ∧ Below w.heap.size w wr)
  case atStart => exact ⟨0, by omega, by omega, rfl, Prs.nil _ _, Below.refl _ _⟩
  case round =>
    obtain ⟨c, hc, hk, rfl, hI, hb⟩ := hrel
    have HI : Hid (Prs wr w.heap.size _ (prOf mate c)) := hI
    have HB : Hid (Below w.heap.size w wr) := hb
    have hA := HF.out.same (w' := wr) (hb.block M HF.out.lt)
    have hws := hb.size
    have hlen := prOf_len mate c
    clear cn
    by_cases hcn : c < g.n
    · have hcn' : (c : Int) < (g.n : Int) := by omega
      have c24 : (c : Int) < 24 := by omega
      have cm := hA.mate c (by omega)
      obtain ⟨so, sc, hss⟩ := ownsRow_shape hI
      subst hss
      clear hA hb hI
      cases hm : mate c with
      | none =>
        rw [hm] at cm
        simp only [mi] at cm
        have hg' : ¬ ((-1 : Int) > (c : Int)) := by omega
        have HN : Hid (prOf mate (c + 1) = prOf mate c) := prOf_no (by rw [hm]; rfl)
        go_wp2_with fail
        go_roundg (25 - (c + 1))
        case measure => omega
        case rel => exact ⟨c + 1, by omega, Nat.le_refl _, by go_num, by rw [HN.out]; exact HI.out, HB.out⟩
      | some m =>
        rw [hm] at cm
        simp only [mi] at cm
        by_cases hcm : c < m
        · have hg' : (m : Int) > (c : Int) := by omega
          have HN : Hid (prOf mate (c + 1) = prOf mate c ++ [(c, m)]) := prOf_yes hm hcm
          have HINA : Hid (∀ ob, (wr.alloc ob).ownsRow w.heap.size 30 2 (.slice so (prOf mate c).length sc) (prOf mate c).length (pairCells (prOf mate c))) := fun ob => World.ownsRow.alloc HI.out ob
          have HN1 : Hid (∀ t, ∀ j u, [Value.int .i64 (c : Int), .int .i64 (m : Int)][j]? = some u → (wr.alloc (.cells #[.int .i64 (c : Int), .int .i64 (m : Int)] t)).cell? ((⟨wr.heap.size, 0, none⟩ : Addr).add j) = some u) := fun t => cells2 wr _ _ t
          generalize hq : prOf mate c = q at *
          go_wp2_with (at_builtin; go_must (refine wpList_append_mine rfl (.tmp 20) (.tmp 29) 24 rfl w.heap.size 30 i0 (.agg #[.int .i64 0, .int .i64 0]) 2 16 Try.underlying24 hi hz0 hz1 hz2 rfl (by decide) (.slice so q.length sc) q.length (pairCells q) rfl (by exact HINA.out _) ⟨wr.heap.size, 0, none⟩ 1 1 [.int .i64 (c : Int), .int .i64 (m : Int)] rfl rfl (by exact HN1.out _) (by intro u hu; simp at hu; rcases hu with rfl | rfl <;> rfl) (by unfold maxLen; omega) (by omega) (by simp; omega) ?_))
          intro v' w2 ho hg hkk
          have HI2 : Hid (Prs w2 w.heap.size v' (q ++ [(c, m)])) := by
            unfold Hid Prs
            have e1 : (q ++ [(c, m)]).length = q.length + 1 := by simp
            have e2 : pairCells (q ++ [(c, m)]) = pairCells q ++ [.int .i64 (c : Int), .int .i64 (m : Int)] := by rw [pairCells_append]; rfl
            rw [e1, e2]
            exact ho
          have HB2 : Hid (Below w.heap.size w w2) := (HB.out.alloc hws _).grown hg (by simp; omega) (fun k hk => (HI.out.lt k hk).1)
          clear ho hg hkk
          go_wp2_with fail
          go_roundg (25 - (c + 1))
          case measure => omega
          case rel => exact ⟨c + 1, by omega, Nat.le_refl _, by go_num, by rw [HN.out]; exact HI2.out, HB2.out⟩
        · have hg' : ¬ ((m : Int) > (c : Int)) := by omega
          have HN : Hid (prOf mate (c + 1) = prOf mate c) := prOf_no (by unfold mateOf; rw [hm]; simp; omega)
          go_wp2_with fail
          go_roundg (25 - (c + 1))
          case measure => omega
          case rel => exact ⟨c + 1, by omega, Nat.le_refl _, by go_num, by rw [HN.out]; exact HI.out, HB.out⟩
    · have hcn' : ¬ (c : Int) < (g.n : Int) := by omega
      have ec : c = g.n := by omega
      subst ec
      clear hA hb hI
      go_wp2_with fail
      go_ret
      exact ⟨_, rfl, HI.out, HB.out⟩
end
end Go.Proofs.Ytcabaecbmkgclaa.Mg

namespace Go.Proofs.Ytcabaecbmkgclaa.Mt

/-- Is there an edge? -/
def adjL (l : List (Nat × Nat)) (a b : Nat) : Bool := l.any fun p => (p.1 == a && p.2 == b) || (p.1 == b && p.2 == a)

theorem adjL_iff {l : List (Nat × Nat)} {a b : Nat} : adjL l a b = true ↔ (a, b) ∈ l ∨ (b, a) ∈ l := by
  unfold adjL
  rw [List.any_eq_true]
  constructor
  · rintro ⟨⟨x, y⟩, hm, h⟩
    simp only [Bool.or_eq_true, Bool.and_eq_true, beq_iff_eq] at h
    rcases h with ⟨rfl, rfl⟩ | ⟨rfl, rfl⟩
    · exact .inl hm
    · exact .inr hm
  · rintro (h | h)
    · exact ⟨_, h, by simp⟩
    · exact ⟨_, h, by simp⟩

def grL (n : Nat) (l : List (Nat × Nat)) : Gr := ⟨n, adjL l⟩

/-- All edges are between two of n numbers. -/
def EdOk (n : Nat) (l : List (Nat × Nat)) : Prop := ∀ p ∈ l, p.1 < n ∧ p.2 < n ∧ p.1 ≠ p.2

theorem adjL_sym (l : List (Nat × Nat)) (a b : Nat) : adjL l a b = adjL l b a := by
  rw [Bool.eq_iff_iff, adjL_iff, adjL_iff, Or.comm]

theorem EdOk.gr {n : Nat} {l : List (Nat × Nat)} (h : EdOk n l) (hn : n ≤ 24) : GrOk (grL n l) := by
  refine ⟨hn, fun a b hab => ?_, fun a b hab => ?_, fun a => ?_⟩
  · rcases adjL_iff.1 hab with k | k
    · exact ⟨(h _ k).1, (h _ k).2.1⟩
    · exact ⟨(h _ k).2.1, (h _ k).1⟩
  · show adjL l b a = true
    rw [adjL_sym]
    exact hab
  · cases hc : (grL n l).adj a a
    · rfl
    · rcases adjL_iff.1 hc with k | k <;> exact absurd rfl (h _ k).2.2

theorem EdOk.tail {n : Nat} {e : Nat × Nat} {l : List (Nat × Nat)} (h : EdOk n (e :: l)) : EdOk n l := fun p hp => h p (List.mem_cons_of_mem _ hp)

/-- How many pairs, by trying, of the numbers that are not used. -/
def mostF : List (Nat × Nat) → (Nat → Bool) → Nat
  | [], _ => 0
  | e :: l, u => if u e.1 || u e.2 then mostF l u else max (1 + mostF l (setAt (setAt u e.1 true) e.2 true)) (mostF l u)

theorem mostF_tail (e : Nat × Nat) (l : List (Nat × Nat)) (u : Nat → Bool) : mostF l u ≤ mostF (e :: l) u := by
  rw [mostF]
  split
  · exact Nat.le_refl _
  · exact Nat.le_max_right _ _

theorem mostF_len : ∀ (l : List (Nat × Nat)) (u : Nat → Bool), mostF l u ≤ l.length
  | [], _ => Nat.le_refl _
  | e :: l, u => by
    rw [mostF]
    have h1 := mostF_len l u
    have h2 := mostF_len l (setAt (setAt u e.1 true) e.2 true)
    simp only [List.length_cons]
    split <;> omega

theorem cnt_two {n a b : Nat} (ha : a < n) (hb : b < n) (hab : a ≠ b) {p q : Nat → Bool} (pa : p a = true) (pb : p b = true) (qa : q a = false) (qb : q b = false) (h : ∀ x, x ≠ a → x ≠ b → q x = p x) : cnt n p = cnt n q + 2 := by
  rw [cnt_one ha p pa, cnt_one hb (fun k => p k && !(k == a)) (by simp [pb, Ne.symm hab])]
  rw [cnt_congr (q := q)]
  intro k _
  by_cases e1 : k = a
  · subst e1
    simp [qa]
  · by_cases e2 : k = b
    · subst e2
      simp [qb]
    · rw [h k e1 e2, beq_false_of_ne e1, beq_false_of_ne e2]
      simp

theorem most_reached {n : Nat} : ∀ (l : List (Nat × Nat)) (u : Nat → Bool), EdOk n l → ∃ m2, MtOk (grL n l) m2 ∧ (∀ x, u x = true → m2 x = none) ∧ cnt n (fun x => (m2 x).isNone) + 2 * mostF l u = n
  | [], u, _ => ⟨fun _ => none, ⟨fun _ _ h => (by cases h), fun _ _ h => (by cases h)⟩, fun _ _ => rfl, by
      show cnt n (fun _ => true) + 2 * 0 = n
      rw [cnt_all]
      rfl⟩
  | e :: l, u, h => by
    have up : ∀ a b, (grL n l).adj a b = true → (grL n (e :: l)).adj a b = true := fun a b hab => by
      rcases adjL_iff.1 hab with k | k
      · exact adjL_iff.2 (.inl (List.mem_cons_of_mem _ k))
      · exact adjL_iff.2 (.inr (List.mem_cons_of_mem _ k))
    by_cases hc : mostF (e :: l) u = mostF l u
    · obtain ⟨m2, M, hu, hcn⟩ := most_reached l u h.tail
      exact ⟨m2, ⟨fun a b hab => up a b (M.adj a b hab), M.back⟩, hu, by rw [hc]; exact hcn⟩
    · have hf : (u e.1 || u e.2) = false := by
        cases hx : u e.1 || u e.2
        · rfl
        · rw [mostF, if_pos hx] at hc
          exact absurd rfl hc
      have hmx : mostF (e :: l) u = 1 + mostF l (setAt (setAt u e.1 true) e.2 true) := by
        rw [mostF, if_neg (by rw [hf]; simp)] at hc ⊢
        omega
      obtain ⟨h1, h2, h3⟩ := h e (List.mem_cons_self ..)
      obtain ⟨m2, M, hu, hcn⟩ := most_reached l (setAt (setAt u e.1 true) e.2 true) h.tail
      have ma : m2 e.1 = none := hu e.1 (by simp [setAt])
      have mb : m2 e.2 = none := hu e.2 (by simp [setAt])
      simp only [Bool.or_eq_false_iff] at hf
      refine ⟨setAt (setAt m2 e.1 (some e.2)) e.2 (some e.1), ⟨?_, ?_⟩, ?_, ?_⟩
      · intro a b hab
        simp only [setAt] at hab
        split at hab
        · rename_i ea
          simp only [Option.some.injEq] at hab
          subst hab ea
          exact adjL_iff.2 (.inr (List.mem_cons_self ..))
        · split at hab
          · rename_i ea
            simp only [Option.some.injEq] at hab
            subst hab ea
            exact adjL_iff.2 (.inl (List.mem_cons_self ..))
          · exact up a b (M.adj a b hab)
      · intro a b hab
        simp only [setAt] at hab ⊢
        by_cases ea : a = e.2
        · rw [if_pos ea] at hab
          simp only [Option.some.injEq] at hab
          subst hab
          rw [if_neg h3, if_pos rfl, ea]
        · rw [if_neg ea] at hab
          by_cases ea1 : a = e.1
          · rw [if_pos ea1] at hab
            simp only [Option.some.injEq] at hab
            subst hab
            rw [if_pos rfl, ea1]
          · rw [if_neg ea1] at hab
            have hb := M.back a b hab
            rw [if_neg (fun k => by rw [k, mb] at hb; cases hb), if_neg (fun k => by rw [k, ma] at hb; cases hb)]
            exact hb
      · intro x hx
        have x2 : x ≠ e.2 := fun k => by rw [k, hf.2] at hx; cases hx
        have x1 : x ≠ e.1 := fun k => by rw [k, hf.1] at hx; cases hx
        simp only [setAt, if_neg x1, if_neg x2]
        exact hu x (by simp [setAt, x1, x2, hx])
      · have := cnt_two h1 h2 h3 (p := fun x => (m2 x).isNone) (q := fun x => (setAt (setAt m2 e.1 (some e.2)) e.2 (some e.1) x).isNone) (by simp [ma]) (by simp [mb]) (by simp [setAt, h3]) (by simp [setAt]) (fun x k1 k2 => by simp [setAt, k1, k2])
        rw [hmx]
        omega

theorem most_bound {n : Nat} : ∀ (l : List (Nat × Nat)) (u : Nat → Bool) (m : Nat → Option Nat), EdOk n l → MtOk (grL n l) m → (∀ x, u x = true → m x = none) → n ≤ cnt n (fun x => (m x).isNone) + 2 * mostF l u
  | [], u, m, _, M, _ => by
    have : cnt n (fun x => (m x).isNone) = n := by
      rw [cnt_congr (q := fun _ => true), cnt_all]
      intro k _
      cases hm : m k with
      | none => rfl
      | some b =>
        have := M.adj k b hm
        simp [grL, adjL] at this
    omega
  | e :: l, u, m, h, M, hu => by
    obtain ⟨h1, h2, h3⟩ := h e (List.mem_cons_self ..)
    have down : ∀ x y, m x = some y → ¬ (x = e.1 ∧ y = e.2) → ¬ (x = e.2 ∧ y = e.1) → (grL n l).adj x y = true := fun x y hxy k1 k2 => by
      rcases adjL_iff.1 (M.adj x y hxy) with k | k
      · rcases List.mem_cons.1 k with k | k
        · exact absurd ⟨congrArg Prod.fst k, congrArg Prod.snd k⟩ k1
        · exact adjL_iff.2 (.inl k)
      · rcases List.mem_cons.1 k with k | k
        · exact absurd ⟨congrArg Prod.snd k, congrArg Prod.fst k⟩ k2
        · exact adjL_iff.2 (.inr k)
    by_cases hm : m e.1 = some e.2
    · have hb := M.back _ _ hm
      have f1 : u e.1 = false := by
        cases k : u e.1
        · rfl
        · rw [hu _ k] at hm; cases hm
      have f2 : u e.2 = false := by
        cases k : u e.2
        · rfl
        · rw [hu _ k] at hb; cases hb
      have hmx : 1 + mostF l (setAt (setAt u e.1 true) e.2 true) ≤ mostF (e :: l) u := by
        rw [mostF, if_neg (by rw [f1, f2]; simp)]
        exact Nat.le_max_left _ _
      have ih := most_bound l (setAt (setAt u e.1 true) e.2 true) (setAt (setAt m e.1 none) e.2 none) h.tail ⟨?_, ?_⟩ ?_
      · have := cnt_two h1 h2 h3 (p := fun x => (setAt (setAt m e.1 none) e.2 none x).isNone) (q := fun x => (m x).isNone) (by simp [setAt]) (by simp [setAt]) (by simp [hm]) (by simp [hb]) (fun x k1 k2 => by simp [setAt, k1, k2])
        omega
      · intro a b hab
        simp only [setAt] at hab
        split at hab
        · cases hab
        · split at hab
          · cases hab
          · rename_i k2 k1
            exact down a b hab (fun k => k1 k.1) (fun k => k2 k.1)
      · intro a b hab
        simp only [setAt] at hab ⊢
        split at hab
        · cases hab
        · split at hab
          · cases hab
          · rename_i k2 k1
            have hb' := M.back a b hab
            rw [if_neg (fun k => by rw [k, hb] at hb'; cases hb'; exact k1 rfl), if_neg (fun k => by rw [k, hm] at hb'; cases hb'; exact k2 rfl)]
            exact hb'
      · intro x hx
        simp only [setAt] at hx ⊢
        split
        · rfl
        · split
          · rfl
          · rename_i k2 k1
            rw [if_neg k2, if_neg k1] at hx
            exact hu x hx
    · have ih := most_bound l u m h.tail ⟨fun x y hxy => down x y hxy (fun k => hm (by rw [← k.1, hxy, k.2])) (fun k => hm (by rw [← k.2, M.back x y hxy, k.1])), M.back⟩ hu
      have := mostF_tail e l u
      omega

/-- The search's pairs are as many as there are by trying. -/
theorem Best.most {n : Nat} {l : List (Nat × Nat)} {mate : Nat → Option Nat} {f : Fo} {h : Gh} (E : EdOk n l) (hn : n ≤ 24) (b : Best (grL n l) mate f h) : (pairsF n mate).length = mostF l fun _ => false := by
  obtain ⟨m2, M2, _, hc⟩ := most_reached l (fun _ => false) E
  have h1 := no_more (E.gr hn) b.m b.inv b.shut M2
  have h2 := most_bound l (fun _ => false) mate E b.m (fun _ h => by cases h)
  have h3 := pairs_count (E.gr hn) b.m
  have e1 : (pairsF n mate).length = cnt n (fun v => (mate v).isSome && decide (v < mateOf mate v)) := by
    unfold pairsF
    rw [List.length_map, cnt_len]
  simp only [grL] at h1 h3
  omega
end Go.Proofs.Ytcabaecbmkgclaa.Mt

namespace Go.Proofs.Ytcabaecbmkgclaa.Mt

structure Nm (n : Nat) (l : List (Nat × Nat)) (out : Nat → Bool) (name : Nat → Nat) : Prop where
  le : ∀ k, k < n → name k ≤ k
  free : ∀ k, k < n → out k = false → out (name k) = false
  hang : ∀ k, k < n → out k = false → ∀ P : Nat → Prop, (∀ x y, P x → adjL l x y = true → out y = false → P y) → (P k ↔ P (name k))

theorem Nm.start (n : Nat) (l : List (Nat × Nat)) (out : Nat → Bool) : Nm n l out fun k => k := ⟨fun _ _ => Nat.le_refl _, fun _ _ h => h, fun _ _ _ _ _ => Iff.rfl⟩

def named (name : Nat → Nat) (a b : Nat) : Nat → Nat := setAt (setAt name a (min (name a) (name b))) b (min (name a) (name b))

theorem Nm.step {n : Nat} {l : List (Nat × Nat)} {out : Nat → Bool} {name : Nat → Nat} (h : Nm n l out name) {a b : Nat} (hab : (a, b) ∈ l) (ha : a < n) (hb : b < n) (oa : out a = false) (ob : out b = false) (hne : name a ≠ name b) : Nm n l out (named name a b) := by
  have one : ∀ k, k < n → out k = false → (named name a b k = name k ∨ ((k = a ∨ k = b) ∧ (named name a b k = name a ∨ named name a b k = name b) ∧ named name a b k ≤ name k)) := by
    intro k hk ok
    unfold named
    simp only [setAt]
    by_cases e : k = b
    · subst e
      rw [if_pos rfl]
      refine .inr ⟨.inr rfl, ?_, Nat.min_le_right _ _⟩
      omega
    · rw [if_neg e]
      by_cases e1 : k = a
      · subst e1
        rw [if_pos rfl]
        refine .inr ⟨.inl rfl, ?_, Nat.min_le_left _ _⟩
        omega
      · rw [if_neg e1]
        exact .inl rfl
  refine ⟨?_, ?_, ?_⟩
  · intro k hk
    have hl := h.le
    unfold named
    simp only [setAt]
    have h1 := hl a ha
    have h2 := hl b hb
    have h3 := hl k hk
    split
    · subst_vars; omega
    · split
      · subst_vars; omega
      · exact h3
  · intro k hk ok
    rcases one k hk ok with e | ⟨_, e | e, _⟩
    · rw [e]; exact h.free k hk ok
    · rw [e]; exact h.free a ha oa
    · rw [e]; exact h.free b hb ob
  · intro k hk ok P hP
    have pab : P a ↔ P b := ⟨fun k => hP a b k (adjL_iff.2 (.inl hab)) ob, fun k => hP b a k (adjL_iff.2 (.inr hab)) oa⟩
    have pa := h.hang a ha oa P hP
    have pb := h.hang b hb ob P hP
    rcases one k hk ok with e | ⟨hk', e, _⟩
    · rw [e]; exact h.hang k hk ok P hP
    · have e' : P (named name a b k) ↔ P a := by
        rcases e with e | e
        · rw [e]; exact pa.symm
        · rw [e]; exact pb.symm.trans pab.symm
      rcases hk' with rfl | rfl
      · exact e'.symm
      · exact pab.symm.trans e'.symm

theorem total_set {n : Nat} (f : Nat → Nat) {k : Nat} (hk : k < n) (v : Nat) : total n (setAt f k v) + f k = total n f + v := by
  induction n with
  | zero => omega
  | succ n ih =>
    rw [total, total]
    by_cases e : k = n
    · subst e
      have : total k (setAt f k v) = total k f := by
        have key : ∀ m, m ≤ k → total m (setAt f k v) = total m f := by
          intro m
          induction m with
          | zero => intro _; rfl
          | succ m ihm =>
            intro hm
            rw [total, total, ihm (by omega)]
            have : setAt f k v m = f m := by unfold setAt; rw [if_neg (by omega)]
            rw [this]
        exact key k (Nat.le_refl _)
      rw [this]
      have : setAt f k v k = v := by unfold setAt; rw [if_pos rfl]
      rw [this]
      omega
    · have := ih (by omega)
      have : setAt f k v n = f n := by unfold setAt; rw [if_neg (fun h => e h.symm)]
      omega

theorem named_less {n : Nat} {name : Nat → Nat} {a b : Nat} (ha : a < n) (hb : b < n) (hne : name a ≠ name b) : total n (named name a b) < total n name := by
  have hab : b ≠ a := by rintro rfl; exact hne rfl
  have h1 := total_set name ha (min (name a) (name b))
  have h2 := total_set (setAt name a (min (name a) (name b))) hb (min (name a) (name b))
  have h3 : setAt name a (min (name a) (name b)) b = name b := by unfold setAt; rw [if_neg hab]
  rw [h3] at h2
  unfold named
  omega

theorem total_le {n m : Nat} {f : Nat → Nat} (h : ∀ k, k < n → f k ≤ m) : total n f ≤ n * m := by
  induction n with
  | zero => exact Nat.zero_le _
  | succ n ih =>
    rw [total, Nat.succ_mul]
    have h1 := ih fun k hk => h k (by omega)
    have h2 := h n (by omega)
    omega

theorem total_ids {n : Nat} (hn : n ≤ 24) : total n (fun k => k) ≤ 576 := by
  have := total_le (n := n) (m := 24) (f := fun k => k) fun k hk => by omega
  have : n * 24 ≤ 24 * 24 := Nat.mul_le_mul_right _ hn
  omega

theorem Nm.naming {n : Nat} {l : List (Nat × Nat)} {out : Nat → Bool} {name : Nat → Nat} (h : Nm n l out name) (he : ∀ p ∈ l, out p.1 = false → out p.2 = false → name p.1 = name p.2) : Naming (grL n l) out name := by
  refine ⟨fun k hk => Nat.lt_of_le_of_lt (h.le k hk) hk, fun a b hab oa ob => ?_, fun P a b ha hb oa ob e hP pa => ?_⟩
  · rcases adjL_iff.1 hab with k | k
    · exact he _ k oa ob
    · exact (he _ k ob oa).symm
  · have h1 := (h.hang a ha oa P hP).1 pa
    rw [e] at h1
    exact (h.hang b hb ob P hP).2 h1

/-- What is seen does not ask of more than which are out. -/
theorem Naming.congr {g : Gr} {out out' : Nat → Bool} {name : Nat → Nat} (h : Naming g out name) (G : GrOk g) (he : ∀ k, k < g.n → out' k = out k) : Naming g out' name := by
  refine ⟨h.lt, fun a b hab oa ob => ?_, fun P a b ha hb oa ob e hP pa => ?_⟩
  · obtain ⟨h1, h2⟩ := G.lt a b hab
    exact h.edge a b hab (by rw [← he a h1]; exact oa) (by rw [← he b h2]; exact ob)
  · exact h.hang P a b ha hb (by rw [← he a ha]; exact oa) (by rw [← he b hb]; exact ob) e (fun x y px hxy oy => hP x y px hxy (by rw [he y (G.lt x y hxy).2]; exact oy)) pa
end Go.Proofs.Ytcabaecbmkgclaa.Mt

namespace Go.Proofs.Ytcabaecbmkgclaa.Mt

section
variable {g : Gr} {mate : Nat → Option Nat} {f : Fo} {h : Gh} {n : Nat}

theorem pairsF_mem {p : Nat × Nat} (hp : p ∈ pairsF n mate) : mate p.1 = some p.2 ∧ p.1 < p.2 ∧ p.1 < n := by
  unfold pairsF at hp
  obtain ⟨v, hv, rfl⟩ := List.mem_map.1 hp
  obtain ⟨h1, h2⟩ := List.mem_filter.1 hv
  simp only [Bool.and_eq_true, decide_eq_true_eq] at h2
  obtain ⟨m, hm⟩ := Option.isSome_iff_exists.1 h2.1
  have e : mateOf mate v = m := by unfold mateOf; rw [hm]; rfl
  rw [e] at h2
  exact ⟨by rw [e]; exact hm, by rw [e]; exact h2.2, List.mem_range.1 h1⟩

theorem filter_rising (n : Nat) (p : Nat → Bool) : ((List.range n).filter p).Pairwise (· < ·) := List.Pairwise.filter _ List.pairwise_lt_range

theorem pairsF_rising : (pairsF n mate).Pairwise fun a b => a.1 < b.1 := by
  unfold pairsF
  rw [List.pairwise_map]
  exact filter_rising n _

theorem barF_rising (n : Nat) (f : Fo) : (barF n f).Pairwise (· < ·) := filter_rising n _

theorem barF_mem {x : Nat} : x ∈ barF n f ↔ x < n ∧ bar f x = true := by
  unfold barF
  rw [List.mem_filter, List.mem_range]

theorem pairwise_get {α : Type} {R : α → α → Prop} {l : List α} (h : l.Pairwise R) {i j : Nat} (hij : i < j) {a b : α} (ha : l[i]? = some a) (hb : l[j]? = some b) : R a b := by
  obtain ⟨hi, rfl⟩ := List.getElem?_eq_some_iff.1 ha
  obtain ⟨hj, rfl⟩ := List.getElem?_eq_some_iff.1 hb
  exact List.pairwise_iff_getElem.1 h i j hi hj hij

def usedBy (l : List (Nat × Nat)) (x : Nat) : Bool := l.any fun p => p.1 == x || p.2 == x

theorem usedBy_snoc (l : List (Nat × Nat)) (p : Nat × Nat) : usedBy (l ++ [p]) = setAt (setAt (usedBy l) p.1 true) p.2 true := by
  funext x
  unfold usedBy setAt
  rw [List.any_append]
  by_cases e2 : x = p.2
  · subst e2
    simp
  · by_cases e1 : x = p.1
    · subst e1
      simp
    · rw [if_neg e2, if_neg e1]
      have k1 : (p.1 == x) = false := by simp; exact fun k => e1 k.symm
      have k2 : (p.2 == x) = false := by simp; exact fun k => e2 k.symm
      simp [k1, k2]

theorem take_snoc {α : Type} {l : List α} {i : Nat} {a : α} (h : l[i]? = some a) : l.take (i + 1) = l.take i ++ [a] := by
  rw [List.take_add_one, h]
  rfl

/-- Neither number of a pair was in an earlier one. -/
theorem pairs_apart (M : MtOk g mate) {i : Nat} {a b : Nat} (hi : (pairsF n mate)[i]? = some (a, b)) : usedBy ((pairsF n mate).take i) a = false ∧ usedBy ((pairsF n mate).take i) b = false := by
  obtain ⟨h1, h2, h3⟩ := pairsF_mem (List.mem_of_getElem? hi)
  simp only at h1 h2 h3
  have key : ∀ p ∈ (pairsF n mate).take i, p.1 < a ∧ mate p.1 = some p.2 ∧ p.1 < p.2 := by
    intro p hp
    obtain ⟨j, hj⟩ := List.mem_iff_getElem?.1 hp
    have hji : j < i := by
      have := (List.getElem?_eq_some_iff.1 hj).1
      rw [List.length_take] at this
      omega
    rw [List.getElem?_take_of_lt hji] at hj
    obtain ⟨k1, k2, _⟩ := pairsF_mem (List.mem_of_getElem? hj)
    exact ⟨pairwise_get pairsF_rising hji hj hi, k1, k2⟩
  have hb := M.back a b h1
  constructor
  · cases hc : usedBy ((pairsF n mate).take i) a
    · rfl
    · obtain ⟨p, hp, hx⟩ := List.any_eq_true.1 hc
      obtain ⟨k1, k2, k3⟩ := key p hp
      simp only [Bool.or_eq_true, beq_iff_eq] at hx
      rcases hx with hx | hx
      · omega
      · rw [hx] at k2
        have := M.back _ _ k2
        rw [h1] at this
        simp only [Option.some.injEq] at this
        omega
  · cases hc : usedBy ((pairsF n mate).take i) b
    · rfl
    · obtain ⟨p, hp, hx⟩ := List.any_eq_true.1 hc
      obtain ⟨k1, k2, k3⟩ := key p hp
      simp only [Bool.or_eq_true, beq_iff_eq] at hx
      rcases hx with hx | hx
      · omega
      · rw [hx] at k2
        have := M.back _ _ k2
        rw [hb] at this
        simp only [Option.some.injEq] at this
        omega

def outBy (l : List Nat) (x : Nat) : Bool := l.any fun y => y == x

theorem outBy_snoc (l : List Nat) (p : Nat) : outBy (l ++ [p]) = setAt (outBy l) p true := by
  funext x
  unfold outBy setAt
  rw [List.any_append]
  by_cases e : x = p
  · subst e
    simp
  · rw [if_neg e]
    have k1 : (p == x) = false := by simp; exact fun k => e k.symm
    simp [k1]

theorem outBy_bar {x : Nat} (hx : x < n) : outBy (barF n f) x = bar f x := by
  rw [Bool.eq_iff_iff]
  unfold outBy
  rw [List.any_eq_true]
  constructor
  · rintro ⟨y, hy, e⟩
    rw [beq_iff_eq] at e
    subst e
    exact (barF_mem.1 hy).2
  · intro hb
    exact ⟨x, barF_mem.2 ⟨hx, hb⟩, by simp⟩

theorem bar_apart {i x : Nat} (hi : (barF n f)[i]? = some x) : outBy ((barF n f).take i) x = false := by
  cases hc : outBy ((barF n f).take i) x
  · rfl
  · obtain ⟨y, hy, hx⟩ := List.any_eq_true.1 hc
    rw [beq_iff_eq] at hx
    subst hx
    obtain ⟨j, hj⟩ := List.mem_iff_getElem?.1 hy
    have hji : j < i := by
      have := (List.getElem?_eq_some_iff.1 hj).1
      rw [List.length_take] at this
      omega
    rw [List.getElem?_take_of_lt hji] at hj
    have := pairwise_get (barF_rising n f) hji hj hi
    omega

theorem total_congr {n : Nat} {f g : Nat → Nat} (h : ∀ k, k < n → f k = g k) : total n f = total n g := by
  induction n with
  | zero => rfl
  | succ n ih => rw [total, total, ih fun k hk => h k (by omega), h n (by omega)]
end
end Go.Proofs.Ytcabaecbmkgclaa.Mt

namespace Go.Proofs.Ytcabaecbmkgclaa.Kp
open Go.RowKit Mt Mg

def pickF (c : Int) (n : Nat) : Nat := (if c < 0 then -(c + 1) else c).toNat % n

theorem pickF_lt (c : Int) {n : Nat} (hn : 0 < n) : pickF c n < n := Nat.mod_lt _ hn

def In64 (c : Int) : Prop := -9223372036854775808 ≤ c ∧ c ≤ 9223372036854775807

theorem rem_nat {x : Int} (hx : 0 ≤ x) (n : Nat) : Int.tmod x (n : Int) = ((x.toNat % n : Nat) : Int) := by
  obtain ⟨m, rfl⟩ := Int.eq_ofNat_of_zero_le hx
  rfl

set_option maxRecDepth 100000 in
theorem pick_any (w : World) (c : Int) (n : Nat) (hn : 0 < n) (hn2 : n ≤ 1000) (hc : In64 c) :
    Calls Try.prog 5 #[.int .i64 c, .int .i64 (n : Int)] w fun e w' => e = .returned (.int .i64 (pickF c n : Nat)) ∧ w' = w := by
  obtain ⟨hc1, hc2⟩ := hc
  have hn0 : ((n : Int) = 0) = False := by simp; omega
  have hnb : ((n : Int) == 0) = false := by simp; omega
  have hnm : ((n : Int) = -1) = False := by simp
  by_cases h : c < 0
  · have HP : Hid (pickF c n = (-(c + 1)).toNat % n) := by unfold Hid pickF; rw [if_pos h]
    have hr := rem_nat (x := -(c + 1)) (by omega) n
    have hlt : (-(c + 1)).toNat % n < n := Nat.mod_lt _ hn
    generalize (-(c + 1)).toNat % n = r at *
    go_enter Try.func5, Try.ntmps5
    go_wp2_with fail
    go_ret
    exact ⟨by rw [HP.out]; rfl, rfl⟩
  · have HP : Hid (pickF c n = c.toNat % n) := by unfold Hid pickF; rw [if_neg h]
    have hr := rem_nat (x := c) (by omega) n
    have hlt : c.toNat % n < n := Nat.mod_lt _ hn
    generalize c.toNat % n = r at *
    go_enter Try.func5, Try.ntmps5
    go_wp2_with fail
    go_ret
    exact ⟨by rw [HP.out]; rfl, rfl⟩

/-- The edges that raw numbers speak of. -/
def edgesF (n : Nat) : List Int → List (Nat × Nat)
  | x :: y :: r => if n ≤ 1 then [] else (pickF x n, if pickF x n ≤ pickF y (n - 1) then pickF y (n - 1) + 1 else pickF y (n - 1)) :: edgesF n r
  | _ => []

theorem edgesF_len (n : Nat) : ∀ raw, (edgesF n raw).length * 2 ≤ raw.length
  | [] => Nat.le_refl _
  | [_] => by simp [edgesF]
  | x :: y :: r => by
    have := edgesF_len n r
    rw [edgesF]
    split
    · simp
    · simp only [List.length_cons]
      omega

theorem edgesF_ok (n : Nat) : ∀ raw, EdOk n (edgesF n raw)
  | [] => fun p hp => by simp [edgesF] at hp
  | [_] => fun p hp => by simp [edgesF] at hp
  | x :: y :: r => by
    intro p hp
    rw [edgesF] at hp
    split at hp
    · cases hp
    · rename_i hn
      rcases List.mem_cons.1 hp with rfl | hp
      · have h1 := pickF_lt x (n := n) (by omega)
        have h2 := pickF_lt y (n := n - 1) (by omega)
        simp only
        split <;> (refine ⟨by omega, by omega, by omega⟩)
      · exact edgesF_ok n r p hp

/-- A list of raw numbers that is read. -/
def IRd (w : World) (v : Value) (raw : List Int) : Prop := ∃ so cap, v = .slice so raw.length cap ∧ ∀ i x, raw[i]? = some x → ∃ a, so = some a ∧ w.cell? (a.add i) = some (.int .i64 x)

theorem IRd.below {w w' : World} {v : Value} {raw : List Int} (h : IRd w v raw) (hb : Below w.heap.size w w') : IRd w' v raw := by
  obtain ⟨so, cap, rfl, hx⟩ := h
  refine ⟨so, cap, rfl, fun i x hi => ?_⟩
  obtain ⟨a, rfl, hc⟩ := hx i x hi
  exact ⟨a, rfl, (hb.cell (World.block_lt_of_cell? w _ hc)).trans hc⟩

theorem ird_below {w w' : World} {v : Value} {raw : List Int} (h : IRd w v raw) (hb : Below w.heap.size w w') : IRd w' v raw := h.below hb

set_option maxRecDepth 100000 in
set_option maxHeartbeats 1000000 in
theorem edges_any (w : World) {v : Value} {raw : List Int} (h : IRd w v raw) (n : Nat) (hn2 : n ≤ 1000) (hr : raw.length * 8 ≤ 140737488355328) (h64 : ∀ x ∈ raw, In64 x) :
    Calls Try.prog 6 #[v, .int .i64 (n : Int)] w fun e w' => ∃ rv, e = .returned rv ∧ Prs w' w.heap.size rv (edgesF n raw) ∧ Below w.heap.size w w' := by
  obtain ⟨i0, hi, hz0, hz1, hz2⟩ := info_parts Try.infoPair2
  have HR : Hid (IRd w v raw) := h
  obtain ⟨so, cap, hv, hcc⟩ := h
  clear hcc
  subst hv
  have H64 : Hid (∀ x ∈ raw, In64 x) := h64
  clear h64
  go_enter Try.func6, Try.ntmps6
  go_wp2_with fail
  go_loopg [5, 6] (raw.length + 1) (fun k v5 v6 wr => ∃ (pre rest : List Int) (out : List (Nat × Nat)), raw = pre ++ rest ∧ rest.length < k ∧ v6 = .int .i64 (pre.length : Nat) ∧ out ++ edgesF n rest = edgesF n raw ∧ out.length * 2 ≤ pre.length ∧ Prs wr w.heap.size v5 out ∧ Below w.heap.size w wr)
  case atStart => exact ⟨[], raw, [], rfl, by omega, rfl, rfl, Nat.le_refl _, Prs.nil _ _, Below.refl _ _⟩
  case round =>
    obtain ⟨pre, rest, out, hsp, hk, rfl, hout, hol, hI, hb⟩ := hrel
    have HSP : Hid (raw = pre ++ rest) := hsp
    have HOUT : Hid (out ++ edgesF n rest = edgesF n raw) := hout
    have HI : Hid (Prs wr w.heap.size _ out) := hI
    have HB : Hid (Below w.heap.size w wr) := hb
    have HPL : Hid (raw.length = pre.length + rest.length) := by unfold Hid; rw [hsp, List.length_append]
    have hws := hb.size
    have hpre' : (pre.length : Int) ≤ (raw.length : Int) := by have := HPL.out; omega
    obtain ⟨oo, oc, hss⟩ := ownsRow_shape hI
    subst hss
    clear hsp hout hb hI
    match rest, hk, HPL, HSP, HOUT with
    | [], hk, HPL, HSP, HOUT =>
      have hlt' : ¬ ((pre.length : Int) + 1 < (raw.length : Int)) := by have hpl := HPL.out; simp at hpl; omega
      have HE : Hid (out = edgesF n raw) := by have := HOUT.out; (unfold Hid; simpa [edgesF] using this)
      go_wp2_with fail
      go_ret
      exact ⟨_, rfl, by rw [← HE.out]; exact HI.out, HB.out⟩
    | [z], hk, HPL, HSP, HOUT =>
      have hlt' : ¬ ((pre.length : Int) + 1 < (raw.length : Int)) := by have hpl := HPL.out; simp at hpl; omega
      have HE : Hid (out = edgesF n raw) := by have := HOUT.out; (unfold Hid; simpa [edgesF] using this)
      go_wp2_with fail
      go_ret
      exact ⟨_, rfl, by rw [← HE.out]; exact HI.out, HB.out⟩
    | x :: y :: l, hk, HPL, HSP, HOUT =>
      have hlt' : ((pre.length : Int) + 1 < (raw.length : Int)) := by have hpl := HPL.out; simp at hpl; omega
      by_cases hn1 : n ≤ 1
      · have hn1' : ¬ ((n : Int) > 1) := by omega
        have HE : Hid (out = edgesF n raw) := by have := HOUT.out; rw [edgesF, if_pos hn1, List.append_nil] at this; exact this
        go_wp2_with fail
        go_ret
        exact ⟨_, rfl, by rw [← HE.out]; exact HI.out, HB.out⟩
      · have hn1' : ((n : Int) > 1) := by omega
        have gx : raw[pre.length]? = some x := by rw [HSP.out]; simp
        have gy : raw[pre.length + 1]? = some y := by rw [HSP.out]; simp
        obtain ⟨so', cap', ev, hcell⟩ := ird_below HR.out HB.out
        simp only [Value.slice.injEq, true_and] at ev
        obtain ⟨rfl, rfl⟩ := ev
        obtain ⟨ad, rfl, cx⟩ := hcell _ _ gx
        obtain ⟨ad', ea, cy⟩ := hcell _ _ gy
        cases ea
        have P1 := pick_any wr x n (by omega) hn2 (H64.out x (List.mem_of_getElem? gx))
        have P2 := pick_any wr y (n - 1) (by omega) (by omega) (H64.out y (List.mem_of_getElem? gy))
        rw [show ((n - 1 : Nat) : Int) = (n : Int) - 1 by omega] at P2
        have HN : Hid (edgesF n (x :: y :: l) = (pickF x n, if pickF x n ≤ pickF y (n - 1) then pickF y (n - 1) + 1 else pickF y (n - 1)) :: edgesF n l) := by unfold Hid; rw [edgesF, if_neg hn1]
        have a1 := pickF_lt x (n := n) (by omega)
        have a2 := pickF_lt y (n := n - 1) (by omega)
        generalize pickF x n = a at *
        generalize pickF y (n - 1) = b at *
        have cy2 : wr.cell? ⟨ad.block, ad.off + (pre.length + 1), none⟩ = some (.int .i64 y) := by
          rw [← cy]
          rfl
        clear hcell gx gy
        have hpre : (pre.length : Int) < (raw.length : Int) := by omega
        have HOL : Hid (out.length * 16 + 16 ≤ 140737488355328) := by unfold Hid; have hpl := HPL.out; simp at hpl; omega
        have HINA : Hid (∀ ob, (wr.alloc ob).ownsRow w.heap.size 30 2 (.slice oo out.length oc) out.length (pairCells out)) := fun ob => World.ownsRow.alloc HI.out ob
        by_cases hab : a ≤ b
        · have hab' : (b : Int) ≥ (a : Int) := by omega
          have HN1 : Hid (∀ t, ∀ j u, [Value.int .i64 (a : Int), .int .i64 ((b : Int) + 1)][j]? = some u → (wr.alloc (.cells #[.int .i64 (a : Int), .int .i64 ((b : Int) + 1)] t)).cell? ((⟨wr.heap.size, 0, none⟩ : Addr).add j) = some u) := fun t => cells2 wr _ _ t
          have HNN : Hid (edgesF n (x :: y :: l) = (a, b + 1) :: edgesF n l) := by have := HN.out; rw [if_pos hab] at this; exact this
          clear HN
          go_wp2_with fail
          refine P1.mono ?_
          rintro e w2 ⟨rfl, rfl⟩
          go_wp2_with fail
          refine P2.mono ?_
          rintro e w2 ⟨rfl, rfl⟩
          clear P1 P2
          go_wp2_with (at_builtin; go_must (refine wpList_append_mine rfl (.tmp 39) (.tmp 43) 24 rfl w.heap.size 30 i0 (.agg #[.int .i64 0, .int .i64 0]) 2 16 Try.underlying24 hi hz0 hz1 hz2 rfl (by decide) (.slice oo out.length oc) out.length (pairCells out) rfl (by exact HINA.out _) ⟨w2.heap.size, 0, none⟩ 1 1 [.int .i64 (a : Int), .int .i64 ((b : Int) + 1)] rfl rfl (by exact HN1.out _) (by intro u hu; simp at hu; rcases hu with rfl | rfl <;> rfl) (by have := HOL.out; unfold maxLen; omega) (by have := HOL.out; omega) (by simp; omega) ?_))
          intro v' w3 ho hg hkk
          have HI2 : Hid (Prs w3 w.heap.size v' (out ++ [(a, b + 1)])) := by
            unfold Hid Prs
            have e1 : (out ++ [(a, b + 1)]).length = out.length + 1 := by simp
            have e2 : pairCells (out ++ [(a, b + 1)]) = pairCells out ++ [.int .i64 (a : Int), .int .i64 ((b : Int) + 1)] := by rw [pairCells_append]; simp [pairCells]
            rw [e1, e2]
            exact ho
          have HB2 : Hid (Below w.heap.size w w3) := (HB.out.alloc hws _).grown hg (by simp; omega) (fun k hk => (HI.out.lt k hk).1)
          clear ho hg hkk
          go_wp2_with fail
          go_roundg (l.length + 1)
          case measure => simp at hk; omega
          case rel => exact ⟨pre ++ [x, y], l, out ++ [(a, b + 1)], by rw [HSP.out]; simp, by omega, by simp, by rw [← HOUT.out, HNN.out]; simp, by simp; omega, HI2.out, HB2.out⟩
        · have hab' : ¬ ((b : Int) ≥ (a : Int)) := by omega
          have HN1 : Hid (∀ t, ∀ j u, [Value.int .i64 (a : Int), .int .i64 (b : Int)][j]? = some u → (wr.alloc (.cells #[.int .i64 (a : Int), .int .i64 (b : Int)] t)).cell? ((⟨wr.heap.size, 0, none⟩ : Addr).add j) = some u) := fun t => cells2 wr _ _ t
          have HNN : Hid (edgesF n (x :: y :: l) = (a, b) :: edgesF n l) := by have := HN.out; rw [if_neg hab] at this; exact this
          clear HN
          go_wp2_with fail
          refine P1.mono ?_
          rintro e w2 ⟨rfl, rfl⟩
          go_wp2_with fail
          refine P2.mono ?_
          rintro e w2 ⟨rfl, rfl⟩
          clear P1 P2
          go_wp2_with (at_builtin; go_must (refine wpList_append_mine rfl (.tmp 39) (.tmp 43) 24 rfl w.heap.size 30 i0 (.agg #[.int .i64 0, .int .i64 0]) 2 16 Try.underlying24 hi hz0 hz1 hz2 rfl (by decide) (.slice oo out.length oc) out.length (pairCells out) rfl (by exact HINA.out _) ⟨w2.heap.size, 0, none⟩ 1 1 [.int .i64 (a : Int), .int .i64 (b : Int)] rfl rfl (by exact HN1.out _) (by intro u hu; simp at hu; rcases hu with rfl | rfl <;> rfl) (by have := HOL.out; unfold maxLen; omega) (by have := HOL.out; omega) (by simp; omega) ?_))
          intro v' w3 ho hg hkk
          have HI2 : Hid (Prs w3 w.heap.size v' (out ++ [(a, b)])) := by
            unfold Hid Prs
            have e1 : (out ++ [(a, b)]).length = out.length + 1 := by simp
            have e2 : pairCells (out ++ [(a, b)]) = pairCells out ++ [.int .i64 (a : Int), .int .i64 (b : Int)] := by rw [pairCells_append]; rfl
            rw [e1, e2]
            exact ho
          have HB2 : Hid (Below w.heap.size w w3) := (HB.out.alloc hws _).grown hg (by simp; omega) (fun k hk => (HI.out.lt k hk).1)
          clear ho hg hkk
          go_wp2_with fail
          go_roundg (l.length + 1)
          case measure => simp at hk; omega
          case rel => exact ⟨pre ++ [x, y], l, out ++ [(a, b)], by rw [HSP.out]; simp, by omega, by simp, by rw [← HOUT.out, HNN.out]; simp, by simp; omega, HI2.out, HB2.out⟩
end Go.Proofs.Ytcabaecbmkgclaa.Kp
