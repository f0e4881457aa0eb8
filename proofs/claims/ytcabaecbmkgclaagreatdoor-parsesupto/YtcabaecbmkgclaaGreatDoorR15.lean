/-
  The document's ring.
-/
import Derived.Test.YtcabaecbmkgclaaGreatDoorR14
namespace Go.Proofs.YtcabaecbmkgclaaGreatDoor
open Go.RowKit Bz
theorem ropnCells_len (o : ROpn) : (ropnCells o).length = 4 := rfl
theorem ropn_len (l : List ROpn) : (l.flatMap ropnCells).length = l.length * 4 := by
  induction l with
  | nil => rfl
  | cons a r ih => rw [List.flatMap_cons, List.length_append, ih, ropnCells_len, List.length_cons]; omega
theorem ropn_one (l : List ROpn) : ∀ u ∈ l.flatMap ropnCells, u.oneCell' = true := by
  intro u hu
  obtain ⟨o, _, ho⟩ := List.mem_flatMap.1 hu
  simp [ropnCells] at ho
  rcases ho with rfl | rfl | rfl | rfl <;> rfl

theorem Tryz.infoOpen : (Tryz.prog.info? 166).map (fun i => (i.zero, i.size, i.bytes)) = some (some (.agg #[.int .i64 0, .int .i64 0, .int .i64 0, .int .u8 0]), 4, 32) := by kernel_rfl

section
variable {w : World} {B : Nat} {s : ByteArray} {p : RSt}
theorem RRd.openAt (h : RRd w B s p) {k : Nat} {x : ROpn} (hk : p.opens[k]? = some x) : ∃ g cap, w.cell? ⟨B, 6, none⟩ = some (.slice (some ⟨g, 0, none⟩) p.opens.length cap) ∧ p.opens.length ≤ cap ∧
    w.cell? ⟨g, k * 4, none⟩ = some (.int .i64 x.num) ∧ w.cell? ⟨g, k * 4 + 1, none⟩ = some (.int .i64 x.atom) ∧ w.cell? ⟨g, k * 4 + 2, none⟩ = some (.int .i64 x.place) ∧ w.cell? ⟨g, k * 4 + 3, none⟩ = some (.int .u8 x.sign) ∧ g < w.heap.size ∧
    ∀ j, j < p.opens.length * 4 → w.cell? ⟨g, j, none⟩ = (p.opens.flatMap ropnCells)[j]? := by
  obtain ⟨v, hv, ho⟩ := h.opens
  have hl : k < p.opens.length := (List.getElem?_eq_some_iff.1 hk).1
  have hcap : ∀ g cap, v = .slice (some ⟨g, 0, none⟩) p.opens.length cap → p.opens.length ≤ cap := by
    intro g cap hv
    rcases ho.2 with ⟨rfl, _⟩ | ⟨g', cap', cur, rfl, _, _, h1, h2, h3, _⟩
    · cases hv
    · simp only [Value.slice.injEq] at hv
      omega
  obtain ⟨g, cap, rfl, h1, h2, h3, h4⟩ := ownsRow_at ho (by omega)
  refine ⟨g, cap, hv, hcap g cap rfl, ?_, ?_, ?_, ?_, h2, h3⟩
  · have := flatMap_get ropnCells 4 ropnCells_len _ k 0 x hk (by omega)
    rw [Nat.add_zero] at this
    rw [h3 (k * 4) (by omega), this]
    rfl
  · rw [h3 (k * 4 + 1) (by omega), flatMap_get ropnCells 4 ropnCells_len _ k 1 x hk (by omega)]
    rfl
  · rw [h3 (k * 4 + 2) (by omega), flatMap_get ropnCells 4 ropnCells_len _ k 2 x hk (by omega)]
    rfl
  · rw [h3 (k * 4 + 3) (by omega), flatMap_get ropnCells 4 ropnCells_len _ k 3 x hk (by omega)]
    rfl

theorem rcloses_opens (q : RSt) (o : ROpn) (k : Nat) (sign : Int) (start : Nat) : (rcloses q o k sign start).opens = q.opens := by
  unfold rcloses RSt.fails
  repeat' split
  all_goals rfl

theorem ownsRow_cast {w : World} {b : Nat} {t : TypeId} {z n n' : Nat} {v : Value} {xs xs' : List Value} (h : w.ownsRow b t z v n xs) (hn : n = n') (hx : xs = xs') : w.ownsRow b t z v n' xs' := by subst hn hx; exact h

def RRingPost (w : World) (B : Nat) (s : ByteArray) (p : RSt) (k : Nat) (sign : Int) (e : Ending) (w' : World) : Prop :=
  e = .returned (.tuple #[]) ∧ RFr B w w' ∧
  match ringNumber s p.pos with
  | .error er => er.1 = 2 ∧ ∃ q', RRd w' B s q' ∧ q'.e = er.1 ∧ q'.place = er.2
  | .ok (n, j) => (∃ i o, p.opens[i]? = some o ∧ o.num = n ∧ RRd w' B s { rcloses { p with pos := j } o k sign p.pos with opens := p.opens.take i ++ p.opens.drop (i + 1) }) ∨
      ((∀ x ∈ p.opens, x.num ≠ n) ∧ RRd w' B s { p with pos := j, opens := p.opens ++ [⟨n, k, p.pos, sign⟩] })

theorem RRingPost.err {w' : World} {k : Nat} {sign : Int} {e : Ending} {er : Int × Int} {q' : RSt} (h : ringNumber s p.pos = .error er) (h2 : er.1 = 2) (he : e = .returned (.tuple #[])) (hr : RRd w' B s q') (hq : q'.e = er.1) (hp : q'.place = er.2) (hf : RFr B w w') : RRingPost w B s p k sign e w' := by
  refine ⟨he, hf, ?_⟩
  rw [h]
  exact ⟨h2, q', hr, hq, hp⟩

/-- The number is read. -/
def NumAt (w : World) (B : Nat) (s : ByteArray) (p : RSt) (v : Value) (wc : World) : Prop :=
  ∃ n j : Nat, ringNumber s p.pos = .ok (n, j) ∧ j ≤ s.size ∧ n < 100 ∧ v = .int .i64 n ∧ RRd wc B s { p with pos := j } ∧ RFr B w wc

set_option maxRecDepth 100000 in
set_option maxHeartbeats 4000000 in
theorem rring_any (h : RRd w B s p) (he : p.e = 0) (hs : s.size ≤ 160) (hp : p.pos ≤ s.size) (k : Nat) (sign : Int) (hk : k < p.atoms.length) (hc : startsRing (byteAt s p.pos) = true) (hl : p.bonds.length ≤ 200) (hol : p.opens.length ≤ 200)
    (hoa : ∀ x ∈ p.opens, x.atom < p.atoms.length) :
    Calls Tryz.prog 96 #[.pointer (some ⟨B, 0, none⟩), .int .i64 k, .int .u8 sign] w (RRingPost w B s p k sign) := by
  have hB := h.lt
  have q1 := h.pos
  have R0 := rnext_ok h he
  have HPo : Hid (∀ x ∈ p.opens, x.atom < p.atoms.length) := hoa
  clear hoa
  go_enter Tryz.func96, Tryz.ntmps96
  go_wp2_with fail
  refine R0.mono ?_
  rintro e w1 ⟨rfl, k1, rfl⟩
  have hr1 := h.drewN k1
  have hf1 := (RFr.refl B w).drewN k1
  clear R0 q1
  generalize World.drewN _ _ = w1 at *
  go_upto_if 20 with fail
  go_cut [7] (fun v wc => NumAt w B s p v wc)
  case first =>
    by_cases h37 : byteAt s p.pos = 37
    · have t37 : (byteAt s p.pos == 37) = true := by simpa using h37
      have hlt := byte_lt h37 (by decide)
      have c1 := hr1.pos
      have f1 := hr1.free 1
      have hr2 := hr1.setPos (p.pos + 1) (.int .i64 ((p.pos : Int) + 1)) (by go_num)
      have hf2 := hf1.setPos (.int .i64 ((p.pos : Int) + 1))
      have R2 := rnext_ok hr2 he
      simp only at R2
      have b0 := byteAt_nonneg s (p.pos + 1)
      have b1 := byteAt_le s (p.pos + 1)
      have D2 := fun w' : World => rdigit_any w' (byteAt s (p.pos + 1))
      have H37 : Hid _ := h37
      rw [h37]
      clear h37 t37 hr1 hf1
      go_wp2_with fail
      refine wp_loop_rounds 3 ?_
      rw [rounds_succ]
      go_wp2_with fail
      refine R2.mono ?_
      rintro e w3 ⟨rfl, k3, rfl⟩
      have hr3 := hr2.drewN k3
      have hf3 := hf2.drewN k3
      clear R2 hr2 hf2 c1 f1
      generalize World.drewN _ _ = w3 at *
      cases hd : isDigit (byteAt s (p.pos + 1))
      · have HN : Hid (ringNumber s p.pos = .error (2, ((p.pos + 1 : Nat) : Int))) := by unfold Hid ringNumber; rw [if_pos H37.out, if_neg (by rw [hd]; decide)]; rfl
        rw [hd] at D2
        have c1 := hr3.pos
        have RF := rfail_any hr3 2 ((p.pos + 1 : Nat) : Int)
        simp only at c1
        clear hd
        generalize byteAt s (p.pos + 1) = c at *
        go_wp2_with fail
        refine (D2 _).mono ?_
        rintro e w4 ⟨rfl, rfl⟩
        go_wp2_with fail
        refine RF.mono ?_
        rintro e w5 ⟨rfl, hr5, hf5⟩
        go_wp2_with fail
        refine bodyPost_ret (results_none rfl _ _ _) rfl ?_
        unfold RSt.fails at hr5
        rw [if_pos he] at hr5
        exact RRingPost.err HN.out rfl rfl hr5 rfl rfl (hf3.trans hf5)
      · have hdd := (isDigit_iff _).1 hd
        have hlt2 := lt_of_byteAt (s := s) (i := p.pos + 1) (by omega)
        have HD1 : Hid _ := hd
        rw [hd] at D2
        have c1 := hr3.pos
        have f1 := hr3.free 1
        simp only at c1
        have hr4 := hr3.setPos (p.pos + 2) (.int .i64 ((p.pos : Int) + 1 + 1)) (by go_num)
        have hf4 := hf3.setPos (.int .i64 ((p.pos : Int) + 1 + 1))
        have R4 := rnext_ok hr4 he
        simp only at R4
        have D3 := fun w' : World => rdigit_any w' (byteAt s (p.pos + 2))
        have b2 := byteAt_nonneg s (p.pos + 2)
        have b3 := byteAt_le s (p.pos + 2)
        clear hd
        obtain ⟨hd1, hd2⟩ := hdd
        have HC : Hid (byteAt s (p.pos + 1) = byteAt s (p.pos + 1)) := rfl
        go_wp2_with fail
        refine (D2 _).mono ?_
        rintro e w4 ⟨rfl, rfl⟩
        go_wp2_with fail
        rw [rounds_succ]
        go_wp2_with fail
        refine R4.mono ?_
        rintro e w5 ⟨rfl, k5, rfl⟩
        have hr5 := hr4.drewN k5
        have hf5 := hf4.drewN k5
        clear R4 hr4 hf4 c1 f1
        generalize World.drewN _ _ = w5 at *
        cases hd : isDigit (byteAt s (p.pos + 2))
        · have HN : Hid (ringNumber s p.pos = .error (2, ((p.pos + 2 : Nat) : Int))) := by unfold Hid ringNumber; rw [if_pos H37.out, if_pos HD1.out, if_neg (by rw [hd]; decide)]; rfl
          rw [hd] at D3
          have c1 := hr5.pos
          have RF := rfail_any hr5 2 ((p.pos + 2 : Nat) : Int)
          simp only at c1
          clear hd
          generalize byteAt s (p.pos + 2) = c at *
          go_wp2_with fail
          refine (D3 _).mono ?_
          rintro e w4 ⟨rfl, rfl⟩
          go_wp2_with fail
          refine RF.mono ?_
          rintro e w6 ⟨rfl, hr6, hf6⟩
          go_wp2_with fail
          refine bodyPost_ret (results_none rfl _ _ _) rfl ?_
          unfold RSt.fails at hr6
          rw [if_pos he] at hr6
          exact RRingPost.err HN.out rfl rfl hr6 rfl rfl (hf5.trans hf6)
        · have hdd := (isDigit_iff _).1 hd
          have hlt3 := lt_of_byteAt (s := s) (i := p.pos + 2) (by omega)
          have HN : Hid (ringNumber s p.pos = .ok ((10 * (byteAt s (p.pos + 1) - 48) + (byteAt s (p.pos + 2) - 48)).toNat, p.pos + 3)) := by unfold Hid ringNumber; rw [if_pos H37.out, if_pos HD1.out, if_pos hd]
          rw [hd] at D3
          have c1 := hr5.pos
          have f1 := hr5.free 1
          simp only at c1
          have hr6 := hr5.setPos (p.pos + 3) (.int .i64 ((p.pos : Int) + 2 + 1)) (by go_num)
          have hf6 := hf5.setPos (.int .i64 ((p.pos : Int) + 2 + 1))
          clear hd HC
          obtain ⟨hd3, hd4⟩ := hdd
          generalize byteAt s (p.pos + 1) = cc at *
          generalize byteAt s (p.pos + 2) = cd at *
          go_wp2_with fail
          refine (D3 _).mono ?_
          rintro e w4 ⟨rfl, rfl⟩
          go_wp2_with fail
          rw [rounds_succ]
          go_wp2_with fail
          go_meet
          case rel => exact ⟨_, _, HN.out, by omega, by omega, congrArg (Value.int .i64) (by omega), hr6, hf6⟩
    · have hd : isDigit (byteAt s p.pos) = true := by
        unfold startsRing at hc
        have t37 : (byteAt s p.pos == 37) = false := by simpa using h37
        rw [t37, Bool.false_or] at hc
        exact hc
      have t37 : (byteAt s p.pos == 37) = false := by simpa using h37
      have hdd := (isDigit_iff _).1 hd
      have hlt := lt_of_byteAt (s := s) (i := p.pos) (by omega)
      have HN : Hid (ringNumber s p.pos = .ok ((byteAt s p.pos - 48).toNat, p.pos + 1)) := by unfold Hid ringNumber; rw [if_neg h37, if_pos hd]
      have R2 := rnext_ok hr1 he
      clear h37 hd hc
      obtain ⟨hd1, hd2⟩ := hdd
      generalize byteAt s p.pos = cc at *
      go_wp2_with fail
      refine R2.mono ?_
      rintro e w3 ⟨rfl, k3, rfl⟩
      have hr3 := hr1.drewN k3
      have hf3 := hf1.drewN k3
      clear R2 hr1 hf1
      generalize World.drewN _ _ = w3 at *
      have c1 := hr3.pos
      have f1 := hr3.free 1
      have hr4 := hr3.setPos (p.pos + 1) (.int .i64 ((p.pos : Int) + 1)) (by go_num)
      have hf4 := hf3.setPos (.int .i64 ((p.pos : Int) + 1))
      go_wp2_with fail
      go_meet
      case rel => exact ⟨_, _, HN.out, by omega, by omega, congrArg (Value.int .i64) (by omega), hr4, hf4⟩
  case rest =>
    obtain ⟨n, j, hn, hj, hn100, rfl, hr2, hf2⟩ := hcut
    have HN : Hid _ := hn
    have HR2 : Hid (RRd wc B s { p with pos := j }) := hr2
    have HF2 : Hid (RFr B w wc) := hf2
    obtain ⟨i0, hi0, hz0, hz1, hz2⟩ := info_parts Tryz.infoOpen
    clear hr1 hf1 hn hc hr2 hf2
    go_wp2_with fail
    go_loopg [11] (p.opens.length + 1) (fun k vi wr => ∃ i : Nat, i ≤ p.opens.length ∧ p.opens.length - i ≤ k ∧ vi = .int .i64 i ∧ Below wc.heap.size wc wr ∧ ∀ (m : Nat) x, m < i → p.opens[m]? = some x → x.num ≠ n)
    case atStart => exact ⟨0, by omega, by omega, rfl, Below.refl _ _, by intro j x hj; omega⟩
    case round =>
      obtain ⟨i, hi, hkk, rfl, hb, hall⟩ := hrel
      have HA : Hid _ := hall
      clear hall
      have hr := HR2.out.below hb
      have HFr : Hid (RFr B w wr) := HF2.out.below HR2.out.lt hb
      obtain ⟨v, hv, ho⟩ := hr.opens
      obtain ⟨ao, cap, rfl⟩ := ownsRow_shape ho
      have HO : Hid (wr.ownsRow (B + 1) 166 4 (.slice ao p.opens.length cap) p.opens.length (p.opens.flatMap ropnCells)) := ho
      have HR : Hid (RRd wr B s { p with pos := j }) := hr
      have HBe : Hid (Below wc.heap.size wc wr) := hb
      have hsz := hb.size
      simp only at hv
      clear hb ho
      by_cases hlt : i < p.opens.length
      · have hlt' : (i : Int) < (p.opens.length : Int) := by omega
        have gx := List.getElem?_eq_getElem hlt
        generalize p.opens[i] = x at gx
        obtain ⟨g, cap', c3, hcap, ca, cb, cc, cd, hg, hcells⟩ := HR.out.openAt gx
        simp only at c3 hcap
        rw [hv] at c3
        simp only [Option.some.injEq, Value.slice.injEq] at c3
        obtain ⟨rfl, _, rfl⟩ := c3
        have HG : Hid _ := gx
        have HCe : Hid (∀ j, j < p.opens.length * 4 → wr.cell? ⟨g, j, none⟩ = (p.opens.flatMap ropnCells)[j]?) := hcells
        clear gx hr hcells
        by_cases hnn : x.num = n
        · subst hnn
          have hne : ((x.num : Int) != (x.num : Int)) = false := by simp
          have hBr := HR.out.lt
          have hxa := HPo.out x (List.mem_of_getElem? HG.out)
          have HRC : Hid (∀ w', Below wr.heap.size wr w' → Calls Tryz.prog 124 #[.pointer (some ⟨B, 0, none⟩), .agg #[.int .i64 x.num, .int .i64 x.atom, .int .i64 x.place, .int .u8 x.sign], .int .i64 k, .int .u8 sign, .int .i64 p.pos] w' fun e w'' => e = .returned (.tuple #[]) ∧ RRd w'' B s (rcloses { p with pos := j } x k sign p.pos) ∧ RFr B wr w'') := by
            intro w' hb
            refine (rcloses_any (HR.out.below hb) x k sign p.pos hxa hk (by omega) hl).mono ?_
            rintro e w'' ⟨rfl, h1, h2⟩
            exact ⟨rfl, h1, ((RFr.refl B wr).below hBr hb).trans h2⟩
          go_wp2_with fail
          refine (HRC.out _ ?hbelow).mono ?_
          case hbelow => repeat (first | with_reducible exact Below.refl _ _ | with_reducible refine Below.setCell ?_ (Nat.le_refl _) _ | with_reducible refine Below.alloc ?_ (Nat.le_refl _) _)
          rintro e w3 ⟨rfl, hr3, hf3⟩
          have hf3' := HFr.out.trans hf3
          have hop := rcloses_opens { p with pos := j } x k sign p.pos
          have HQ : Hid (rcloses { p with pos := j } x k sign p.pos = rcloses { p with pos := j } x k sign p.pos) := rfl
          generalize hq : rcloses { p with pos := j } x k sign p.pos = q3 at hr3 hop
          have Hq : Hid _ := hq
          clear HRC HQ hq hf3 ca cb cc cd hg
          have gx3 : q3.opens[i]? = some x := by rw [hop]; exact HG.out
          obtain ⟨g3, cap3, c6, hcap3, _, _, _, _, hg3, hcells3⟩ := hr3.openAt gx3
          rw [hop] at c6 hcap3 hcells3
          have c6 : w3.cell? ⟨B, 6, none⟩ = some (.slice (some ⟨g3, 0, none⟩) p.opens.length cap3) := c6
          have hcap3 : p.opens.length ≤ cap3 := hcap3
          have HR3 : Hid (RRd w3 B s q3) := hr3
          have HF3 : Hid (RFr B w w3) := hf3'
          have HC3 : Hid (∀ j, j < p.opens.length * 4 → w3.cell? ⟨g3, j, none⟩ = (p.opens.flatMap ropnCells)[j]?) := hcells3
          have HOP : Hid (q3.opens = p.opens) := hop
          have hB3 := hr3.lt
          have f6 := hr3.free 6
          clear hr3 hf3' hcells3 gx3 hop
          have hic : (i : Int) ≤ (cap3 : Int) := by omega
          have hic2 : (i : Int) + 1 ≤ (p.opens.length : Int) := by omega
          have hic3 : (p.opens.length : Int) ≤ (cap3 : Int) := by omega
          have hfl : (p.opens.take i).length = i := by rw [List.length_take]; omega
          have hfd : (p.opens.drop (i + 1)).length = p.opens.length - (i + 1) := by rw [List.length_drop]
          go_wp2_with (at_builtin; go_must (refine wpList_append_mine rfl (.tmp 94) (.tmp 100) 160 rfl w3.heap.size 166 i0 (.agg #[.int .i64 0, .int .i64 0, .int .i64 0, .int .u8 0]) 4 32 Tryz.underlying160 hi0 hz0 hz1 hz2 rfl (by decide) (.slice none 0 0) 0 [] rfl (World.ownsRow_nil w3 _ _ _) ⟨g3, 0, none⟩ i cap3 ((p.opens.take i).flatMap ropnCells) rfl ?d1 ?d2 (ropn_one _) ?d3 ?d4 ?d5 ?_))
          case d1 => rw [ropn_len, hfl]
          case d2 =>
            intro m u hm
            rw [Addr.add_lit, Nat.zero_add]
            have hm4 : m < i * 4 := by have := (List.getElem?_eq_some_iff.1 hm).1; rw [ropn_len, hfl] at this; exact this
            rw [HC3.out m (by omega), ← hm]
            conv => lhs; rw [← List.take_append_drop i p.opens, List.flatMap_append]
            rw [List.getElem?_append_left (by rw [ropn_len, hfl]; exact hm4)]
          case d3 => unfold maxLen; omega
          case d4 => omega
          case d5 => exact Nat.le_refl _
          intro v1 w4 ho4 hg4 hk4
          have hb4 : Below w3.heap.size w3 w4 := (Below.refl _ _).grown hg4 (Nat.le_refl _) (by intro k hk; simp [Value.ownBlock] at hk)
          have c6' : w4.cell? ⟨B, 6, none⟩ = some (.slice (some ⟨g3, 0, none⟩) p.opens.length cap3) := by rw [hb4.cell hB3]; exact c6
          have f6' : w4.frozen? ⟨B, 6, none⟩ = false := by rw [hb4.frozen hB3]; exact f6
          obtain ⟨a4, cap4, hv4⟩ := ownsRow_shape ho4
          subst hv4
          have HO4 : Hid (w4.ownsRow w3.heap.size 166 4 (.slice a4 i cap4) i ((p.opens.take i).flatMap ropnCells)) := ho4
          have HB4 : Hid (Below w3.heap.size w3 w4) := hb4
          have HC6 : Hid (w3.cell? ⟨B, 6, none⟩ = some (.slice (some ⟨g3, 0, none⟩) p.opens.length cap3)) := c6
          have HK4 : Hid (∀ m, (Value.slice a4 i cap4).ownBlock = some m → w3.heap.size ≤ m) := fun m hm => (hk4 m hm).elim (fun e => by simp [Value.ownBlock] at e) id
          have hg3' := hg3
          clear ho4 hb4 hk4 hg4 c6 f6
          by_cases hz : cap3 = i + 1
          · subst hz
            have hlen : p.opens.length = i + 1 := by omega
            go_wp2_with (at_builtin; go_must (refine wpList_append_mine rfl (.tmp 103) (.tmp 110) 160 rfl w3.heap.size 166 i0 (.agg #[.int .i64 0, .int .i64 0, .int .i64 0, .int .u8 0]) 4 32 Tryz.underlying160 hi0 hz0 hz1 hz2 rfl (by decide) (.slice a4 i cap4) i ((p.opens.take i).flatMap ropnCells) rfl HO4.out ⟨g3, 0, none⟩ 0 0 [] rfl rfl ?e1 ?e2 ?e3 ?e4 ?e5 ?_))
            case e1 => intro m u hm; simp at hm
            case e2 => intro u hu; simp at hu
            case e3 => unfold maxLen; omega
            case e4 => omega
            case e5 => exact HB4.out.size
            intro v2 w5 ho5 hg5 hk5
            have hb5 : Below w3.heap.size w3 w5 := HB4.out.grown hg5 HB4.out.size HK4.out
            obtain ⟨a5, cap5, hv5⟩ := ownsRow_shape ho5
            have X := (HR3.out.rl).addOpen (p.opens.take i ++ p.opens.drop (i + 1)) HC6.out v2 (by rw [List.length_append, hfl, hfd, List.flatMap_append]; exact ownsRow_mono (ownsRow_cast ho5 (by omega) (by first | rfl | (rw [show p.opens.drop (i + 1) = [] from List.drop_eq_nil_of_le (by omega)]; simp))) (by omega)) ⟨hb5.os, hb5.tape, hb5.output, hb5.size, fun k hk _ => hb5.block k hk⟩ (fun m hm => .inr ((hk5 m hm).elim (fun e => HK4.out m e) (fun e => Nat.le_trans HB4.out.size e)))
            have c6'' : w5.cell? ⟨B, 6, none⟩ = some (.slice (some ⟨g3, 0, none⟩) p.opens.length (i + 1)) := by rw [hb5.cell hB3]; exact HC6.out
            have f6'' : w5.frozen? ⟨B, 6, none⟩ = false := by rw [hb5.frozen hB3]; exact HR3.out.free 6
            subst hv5
            have HX : Hid _ := X
            clear X ho5 hg5 hk5 hb5 c6' f6'
            go_wp2_with fail
            refine bodyPost_ret (results_none rfl _ _ _) rfl ?_
            refine ⟨rfl, HF3.out.trans HX.out.2, ?_⟩
            rw [HN.out]
            exact .inl ⟨i, x, HG.out, rfl, by rw [Hq.out]; exact RL.rrd (p := { q3 with opens := p.opens.take i ++ p.opens.drop (i + 1) }) HX.out.1⟩
          · have hz' : ¬ cap3 - (i + 1) = 0 := by omega
            go_wp2_with (at_builtin; go_must (refine wpList_append_mine rfl (.tmp 103) (.tmp 110) 160 rfl w3.heap.size 166 i0 (.agg #[.int .i64 0, .int .i64 0, .int .i64 0, .int .u8 0]) 4 32 Tryz.underlying160 hi0 hz0 hz1 hz2 rfl (by decide) (.slice a4 i cap4) i ((p.opens.take i).flatMap ropnCells) rfl HO4.out _ (p.opens.length - (i + 1)) _ ((p.opens.drop (i + 1)).flatMap ropnCells) rfl ?e0 ?e1 (ropn_one _) ?e3 ?e4 ?e5 ?_))
            case e0 => rw [ropn_len, hfd]
            case e1 =>
              intro m u hm
              have hm4 : m < (p.opens.length - (i + 1)) * 4 := by have := (List.getElem?_eq_some_iff.1 hm).1; rw [ropn_len, hfd] at this; exact this
              have hfl1 : (p.opens.take (i + 1)).length = i + 1 := by rw [List.length_take]; omega
              rw [Addr.add_lit, HB4.out.cell hg3', HC3.out _ (by omega), ← hm]
              conv => lhs; rw [← List.take_append_drop (i + 1) p.opens, List.flatMap_append]
              rw [List.getElem?_append_right (by rw [ropn_len, hfl1]; omega), ropn_len, hfl1]
              congr 1
              omega
            case e3 => unfold maxLen; omega
            case e4 => omega
            case e5 => exact HB4.out.size
            intro v2 w5 ho5 hg5 hk5
            have hb5 : Below w3.heap.size w3 w5 := HB4.out.grown hg5 HB4.out.size HK4.out
            obtain ⟨a5, cap5, hv5⟩ := ownsRow_shape ho5
            have X := (HR3.out.rl).addOpen (p.opens.take i ++ p.opens.drop (i + 1)) HC6.out v2 (by rw [List.length_append, hfl, hfd, List.flatMap_append]; exact ownsRow_mono (ownsRow_cast ho5 (by omega) (by rfl)) (by omega)) ⟨hb5.os, hb5.tape, hb5.output, hb5.size, fun k hk _ => hb5.block k hk⟩ (fun m hm => .inr ((hk5 m hm).elim (fun e => HK4.out m e) (fun e => Nat.le_trans HB4.out.size e)))
            have c6'' : w5.cell? ⟨B, 6, none⟩ = some (.slice (some ⟨g3, 0, none⟩) p.opens.length cap3) := by rw [hb5.cell hB3]; exact HC6.out
            have f6'' : w5.frozen? ⟨B, 6, none⟩ = false := by rw [hb5.frozen hB3]; exact HR3.out.free 6
            subst hv5
            have HX : Hid _ := X
            clear X ho5 hg5 hk5 hb5 c6' f6'
            go_wp2_with fail
            refine bodyPost_ret (results_none rfl _ _ _) rfl ?_
            refine ⟨rfl, HF3.out.trans HX.out.2, ?_⟩
            rw [HN.out]
            exact .inl ⟨i, x, HG.out, rfl, by rw [Hq.out]; exact RL.rrd (p := { q3 with opens := p.opens.take i ++ p.opens.drop (i + 1) }) HX.out.1⟩
        · have hne : ((x.num : Int) != (n : Int)) = true := by simp; omega
          have HNN : Hid (x.num ≠ n) := hnn
          clear hnn
          go_wp2_with fail
          go_roundg (p.opens.length - (i + 1))
          case measure => omega
          case rel =>
            refine ⟨i + 1, by omega, Nat.le_refl _, by go_num, by repeat (first | with_reducible exact HBe.out | with_reducible refine Below.setCell ?_ hsz _ | with_reducible refine Below.alloc ?_ hsz _), ?_⟩
            intro m y hm hy
            by_cases e : m = i
            · subst e
              rw [HG.out] at hy
              cases hy
              exact HNN.out
            · exact HA.out m y (by omega) hy
      · have hlt' : ¬ (i : Int) < (p.opens.length : Int) := by omega
        have HAll : Hid (∀ x ∈ p.opens, x.num ≠ n) := by
          intro x hx
          obtain ⟨m, hm⟩ := List.getElem?_of_mem hx
          exact HA.out m x (by have := (List.getElem?_eq_some_iff.1 hm).1; omega) hm
        have hBr := HR.out.lt
        have hv2 : Hid (∀ o', (wr.alloc o').cell? ⟨B, 6, none⟩ = some (.slice ao p.opens.length cap)) := by
          intro o'
          rw [World.cell?_alloc_lt _ _ _ hBr]; exact hv
        clear hr
        go_wp2_with (at_builtin; go_must (refine wpList_append_mine rfl (.tmp 118) (.tmp 124) 160 rfl (B + 1) 166 i0 (.agg #[.int .i64 0, .int .i64 0, .int .i64 0, .int .u8 0]) 4 32 Tryz.underlying160 hi0 hz0 hz1 hz2 rfl (by decide) (.slice ao p.opens.length cap) p.opens.length (p.opens.flatMap ropnCells) rfl (by exact HO.out.alloc _) ⟨wr.heap.size, 0, none⟩ 1 1 (ropnCells ⟨n, k, p.pos, sign⟩) rfl rfl ?c1 ?c2 ?c3 ?c4 ?c5 ?_))
        case c1 =>
          intro j u hj
          exact hj
        case c2 => intro u hu; simp [ropnCells] at hu; rcases hu with rfl | rfl | rfl | rfl <;> rfl
        case c3 => unfold maxLen; omega
        case c4 => omega
        case c5 => omega
        intro v' w2 ho hg hk'
        have hk' : ∀ m, v'.ownBlock = some m → (Value.slice ao p.opens.length cap).ownBlock = some m ∨ (wr.alloc (.cells #[.int .i64 n, .int .i64 (k : Nat), .int .i64 p.pos, .int .u8 sign] 166)).heap.size ≤ m := by simpa using hk'
        obtain ⟨ao', cap', rfl⟩ := ownsRow_shape ho
        have X := ((HR.out.rl).alloc _).addOpen (p.opens ++ [⟨n, k, p.pos, sign⟩]) (hv2.out _) _ (by rw [List.length_append, List.flatMap_append]; exact ho) hg hk'
        obtain ⟨c6, f6, _⟩ := ((HR.out.rl).alloc _).grew (j := 6) (by omega) (by omega) (hv2.out _) _ hg hk'
        have c6' := (c6 6).trans (hv2.out _)
        have f6' := f6 6
        have HX : Hid _ := X
        clear X c6 f6 hk' ho hg
        go_wp2_with fail
        go_end0
        refine ⟨rfl, (HFr.out.alloc hBr _).trans HX.out.2, ?_⟩
        rw [HN.out]
        exact .inr ⟨HAll.out, RL.rrd (p := { p with pos := j, opens := p.opens ++ [⟨n, k, p.pos, sign⟩] }) HX.out.1⟩
end
end Go.Proofs.YtcabaecbmkgclaaGreatDoor
