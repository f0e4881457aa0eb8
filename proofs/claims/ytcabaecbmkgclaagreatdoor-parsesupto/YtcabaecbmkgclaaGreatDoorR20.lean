/-
  The document's Parse gives the plain reader's answer.
-/
import Derived.Test.YtcabaecbmkgclaaGreatDoorR19
namespace Go.Proofs.YtcabaecbmkgclaaGreatDoor
open Go.RowKit Bz
def txtR (s : ByteArray) : R St := match Bz.chain s (s.size + 1) ⟨0, 0, -1⟩ Bz.start with
  | .error e => .error e
  | .ok p => if p.pos < s.size then .error (2, (p.pos : Int)) else .ok p

def rngR (s : ByteArray) : R St := match txtR s with
  | .error e => .error e
  | .ok p => if leftmost p.rings s.size 100 < s.size then .error (4, (leftmost p.rings s.size 100 : Int)) else .ok p

def endR (p : St) : R (List Atm × List Bnd) := match firstWrong p.bonds 0 (p.atoms.mapIdx (withHydrogens p.bonds)) with
  | some a => .error (6, (a.pl : Int))
  | none => .ok (p.atoms.mapIdx (withHydrogens p.bonds), p.bonds)

theorem parse_rng {s : ByteArray} (hs : s.size ≤ 160) : Bz.parse s = match rngR s with
  | .error e => .error e
  | .ok p => endR p := by
  unfold Bz.parse rngR txtR endR
  rw [if_neg (by omega)]
  cases hc : Bz.chain s (s.size + 1) ⟨0, 0, -1⟩ Bz.start with
  | error e => rfl
  | ok p =>
    simp only []
    by_cases h1 : p.pos < s.size
    · rw [if_pos h1, if_pos h1]
    · rw [if_neg h1, if_neg h1]
      simp only []
      by_cases h2 : leftmost p.rings s.size 100 < s.size
      · rw [if_pos h2, if_pos h2]
      · rw [if_neg h2, if_neg h2]
        rfl

theorem parse_bad {s : ByteArray} (hs : s.size ≤ 160) {er : Int × Int} (h : rngR s = .error er) : Bz.parse s = .error er := by rw [parse_rng hs, h]
theorem parse_end {s : ByteArray} (hs : s.size ≤ 160) {p : St} (h : rngR s = .ok p) : Bz.parse s = endR p := by rw [parse_rng hs, h]
theorem rng_bad {s : ByteArray} {er : Int × Int} (h : txtR s = .error er) : rngR s = .error er := by unfold rngR; rw [h]

def Top (w : World) (B : Nat) (s : ByteArray) (r : R St) : Prop := (∃ p q, r = .ok p ∧ RRd w B s q ∧ RTie s q p ∧ Ok s p ∧ 0 < p.atoms.length) ∨ ∃ er, r = .error er ∧ RErr w B er
def Txt (w : World) (B : Nat) (s : ByteArray) (b : Bool) : Prop := (b = true ∧ ∃ p q, RRd w B s q ∧ RTie s q p ∧ txtR s = .error (2, (p.pos : Int))) ∨ (b = false ∧ Top w B s (txtR s))
def Rng (w : World) (B : Nat) (s : ByteArray) (b : Bool) : Prop := (b = true ∧ ∃ p q, RRd w B s q ∧ RTie s q p ∧ Ok s p ∧ txtR s = .ok p ∧ q.opens ≠ []) ∨ (b = false ∧ Top w B s (rngR s))
/-- The loop over the atoms stands at the i-th. -/
def Loop (w : World) (B : Nat) (s : ByteArray) (i : Nat) : Prop :=
  (∃ p q, rngR s = .ok p ∧ RRd w B s { q with atoms := hyTo p.bonds p.atoms i } ∧ RTie s q p ∧ Ok s p ∧ 0 < p.atoms.length ∧ i ≤ p.atoms.length ∧ ∀ (j : Nat) a, j < i → (p.atoms.mapIdx (withHydrogens p.bonds))[j]? = some a → Bz.wrong p.bonds j a = false) ∨
  ∃ er, Bz.parse s = .error er ∧ RErr w B er

section
variable {w : World} {B : Nat} {s : ByteArray}
theorem chain_top {e : Ending} {w' : World} (h : RChPost w B s (Bz.chain s (s.size + 1) ⟨0, 0, -1⟩ Bz.start) e w') :
    e = .returned (.tuple #[]) ∧ RFr B w w' ∧ ((∃ p q, RRd w' B s q ∧ RTie s q p ∧ p.pos < s.size ∧ txtR s = .error (2, (p.pos : Int))) ∨ (∃ p q, RRd w' B s q ∧ RTie s q p ∧ ¬ p.pos < s.size ∧ Ok s p ∧ 0 < p.atoms.length ∧ txtR s = .ok p) ∨ ∃ er, RErr w' B er ∧ txtR s = .error er) := by
  obtain ⟨h1, h2, h3⟩ := h
  refine ⟨h1, h2, ?_⟩
  unfold txtR
  cases hc : Bz.chain s (s.size + 1) ⟨0, 0, -1⟩ Bz.start with
  | error er =>
    rw [hc] at h3
    rcases h3 with h3 | ⟨p, rfl, ⟨q, hr, ht⟩, hp, _⟩
    · exact .inr (.inr ⟨er, h3, rfl⟩)
    · exact .inl ⟨p, q, hr, ht, hp, rfl⟩
  | ok p =>
    rw [hc] at h3
    obtain ⟨q, hr, ht⟩ := h3
    simp only []
    by_cases hp : p.pos < s.size
    · exact .inl ⟨p, q, hr, ht, hp, by rw [if_pos hp]⟩
    · exact .inr (.inl ⟨p, q, hr, ht, hp, (chain_wf s (s.size + 1) _ _ _ (start_ok s) (.inl rfl) hc).1, chain_ne hc (start_ok s), by rw [if_neg hp]⟩)
end
/-- The result's cell and the empty molecule stand as they stood. -/
structure RHeld (w wc : World) : Prop where
  r0 : wc.cell? ⟨w.heap.size, 0, none⟩ = some (.slice none 0 0)
  r1 : wc.cell? ⟨w.heap.size, 1, none⟩ = some (.slice none 0 0)
  n0 : wc.cell? ⟨w.heap.size + 1, 0, none⟩ = some (.slice none 0 0)
  n1 : wc.cell? ⟨w.heap.size + 1, 1, none⟩ = some (.slice none 0 0)
  f0 : wc.frozen? ⟨w.heap.size, 0, none⟩ = false
  f1 : wc.frozen? ⟨w.heap.size, 1, none⟩ = false
  b : Below w.heap.size w wc

theorem RHeld.step {w wc wd : World} (h : RHeld w wc) (k : Below (w.heap.size + 2) wc wd) : RHeld w wd :=
  ⟨(k.cell (p := ⟨w.heap.size, 0, none⟩) (by simp)).trans h.r0, (k.cell (p := ⟨w.heap.size, 1, none⟩) (by simp)).trans h.r1, (k.cell (p := ⟨w.heap.size + 1, 0, none⟩) (by simp)).trans h.n0, (k.cell (p := ⟨w.heap.size + 1, 1, none⟩) (by simp)).trans h.n1,
    (k.frozen (p := ⟨w.heap.size, 0, none⟩) (by simp)).trans h.f0, (k.frozen (p := ⟨w.heap.size, 1, none⟩) (by simp)).trans h.f1, h.b.trans (k.mono (by omega))⟩

theorem RHeld.fr {w wc wd : World} {s : ByteArray} {q : RSt} (h : RHeld w wc) (hr : RRd wc (w.heap.size + 2) s q) (k : RFr (w.heap.size + 2) wc wd) : RHeld w wd := h.step (k.keeps hr (Nat.le_refl _))

theorem RHeld.lt {w wc : World} {s : ByteArray} {q : RSt} (hr : RRd wc (w.heap.size + 2) s q) : w.heap.size + 2 ≤ wc.heap.size := by have := hr.lt; omega

theorem rheld_new (w : World) (s : ByteArray) : RHeld w (((w.alloc (.cells #[.slice none 0 0, .slice none 0 0] 39)).alloc (.cells #[.slice none 0 0, .slice none 0 0] 39)).alloc (.cells #[.string s, .int .i64 0, .slice none 0 0, .slice none 0 0, .slice none 0 0, .slice none 0 0, .slice none 0 0, .int .i64 0, .int .i64 0] 162)) := by
  refine ⟨?_, ?_, ?_, ?_, ?_, ?_, (((Below.refl _ w).alloc (Nat.le_refl _) _).alloc (by simp) _).alloc (by simp; omega) _⟩ <;> simp [go_sem]

theorem with_same (l : List Bnd) (i : Nat) (a : Atm) : (withHydrogens l i a).el = a.el ∧ (withHydrogens l i a).aro = a.aro ∧ (withHydrogens l i a).ch = a.ch ∧ (withHydrogens l i a).pl = a.pl ∧ (withHydrogens l i a).br = a.br := by
  unfold withHydrogens
  split <;> exact ⟨rfl, rfl, rfl, rfl, rfl⟩

theorem with_hy {s : ByteArray} {q : RSt} {p : St} (ht : RTie s q p) (ho : Ok s p) (hs : s.size ≤ 160) {i : Nat} {a : Atm} (gi : p.atoms[i]? = some a) : 0 ≤ (withHydrogens p.bonds i a).hy ∧ (withHydrogens p.bonds i a).hy ≤ 9 := by
  have hm := List.mem_of_getElem? gi
  unfold withHydrogens
  cases hb : a.br
  · simp only [Bool.false_eq_true, if_false]
    rw [← rhyd_implied ((ht.chs a hm).2 hb)]
    exact rhyd_bd (sum_bound ho hs i).1
  · simp only [if_true]
    exact ho.hys a hm

theorem hyTo_with {l : List Bnd} {ats : List Atm} {i : Nat} {a : Atm} (gi : ats[i]? = some a) : (hyTo l ats (i + 1))[i]? = some (withHydrogens l i a) := by
  rw [hyTo_get, gi]
  simp

/-- The cell of a row of one-cell elements. -/
theorem row_one {w : World} {base : Nat} {e : TypeId} {v : Value} {n : Nat} {xs : List Value} (h : w.ownsRow base e 1 v n xs) {i : Nat} (hi : i < n) : ∃ g cap, v = .slice (some ⟨g, 0, none⟩) n cap ∧ g < w.heap.size ∧ w.cell? ⟨g, i, none⟩ = xs[i]? := by
  obtain ⟨g, cap, rfl, h1, h2, h3, h4⟩ := ownsRow_at h (by omega)
  exact ⟨g, cap, rfl, h2, h3 i (by omega)⟩

section
set_option maxRecDepth 100000 in
set_option maxHeartbeats 4000000 in
theorem rparse_any (s : ByteArray) (w : World) : Calls Tryz.prog 43 #[.string s] w (ParseIs s w) := by
  by_cases hs : s.size ≤ 160
  · have hs' : ¬ ((160 : Int) < (s.size : Int)) := by omega
    have HN : Hid (RRd (((w.alloc (.cells #[.slice none 0 0, .slice none 0 0] 39)).alloc (.cells #[.slice none 0 0, .slice none 0 0] 39)).alloc (.cells #[.string s, .int .i64 0, .slice none 0 0, .slice none 0 0, .slice none 0 0, .slice none 0 0, .slice none 0 0, .int .i64 0, .int .i64 0] 162)) (w.heap.size + 2) s ⟨0, [], [], [], 0, 0⟩) := by
      have := rrd_new ((w.alloc (.cells #[.slice none 0 0, .slice none 0 0] 39)).alloc (.cells #[.slice none 0 0, .slice none 0 0] 39)) s
      rw [show ((w.alloc (.cells #[.slice none 0 0, .slice none 0 0] 39)).alloc (.cells #[.slice none 0 0, .slice none 0 0] 39)).heap.size = w.heap.size + 2 by simp] at this
      exact this
    have HH : Hid (RHeld w (((w.alloc (.cells #[.slice none 0 0, .slice none 0 0] 39)).alloc (.cells #[.slice none 0 0, .slice none 0 0] 39)).alloc (.cells #[.string s, .int .i64 0, .slice none 0 0, .slice none 0 0, .slice none 0 0, .slice none 0 0, .slice none 0 0, .int .i64 0, .int .i64 0] 162))) := rheld_new w s
    have HC := rchain_any hs (s.size + 1) _ (w.heap.size + 2) ⟨0, 0, -1⟩ Bz.start 0 ⟨_, HN.out, rtie_start s⟩ (start_ok s) (.inl rfl) (by simp [Bz.start]) (by intro e; cases e)
    go_enter Tryz.func43, Tryz.ntmps43
    go_wp2_with fail
    refine HC.mono ?_
    rintro e w1 hpost
    obtain ⟨rfl, hf, hx⟩ := chain_top hpost
    have HH1 : Hid (RHeld w w1) := HH.out.fr HN.out hf
    have HX : Hid ((∃ p q, RRd w1 (w.heap.size + 2) s q ∧ RTie s q p ∧ p.pos < s.size ∧ txtR s = .error (2, (p.pos : Int))) ∨ (∃ p q, RRd w1 (w.heap.size + 2) s q ∧ RTie s q p ∧ ¬ p.pos < s.size ∧ Ok s p ∧ 0 < p.atoms.length ∧ txtR s = .ok p) ∨ ∃ er, RErr w1 (w.heap.size + 2) er ∧ txtR s = .error er) := hx
    clear HC hpost hf hx HH HN
    go_upto_region 6 with fail
    go_cut [35] from 22 to 34 (fun v wc => ∃ b, v = .bool b ∧ Txt wc (w.heap.size + 2) s b ∧ RHeld w wc)
    case first =>
      rcases HX.out with ⟨p, q, hr, ht, hp, htx⟩ | ⟨p, q, hr, ht, hp, ho, hne, htx⟩ | ⟨er, hr, htx⟩
      · have c7 := hr.err
        have c1 := hr.pos
        rw [ht.e] at c7
        rw [ht.pos] at c1
        have hp' : (p.pos : Int) < (s.size : Int) := by omega
        have HT : Hid (Txt w1 (w.heap.size + 2) s true) := .inl ⟨rfl, p, q, hr, ht, htx⟩
        clear hr ht htx HX
        go_wp2_with fail
        go_meet
        case rel => exact ⟨true, rfl, HT.out, HH1.out⟩
      · have c7 := hr.err
        have c1 := hr.pos
        rw [ht.e] at c7
        rw [ht.pos] at c1
        have hp' : ¬ (p.pos : Int) < (s.size : Int) := by omega
        have HT : Hid (Txt w1 (w.heap.size + 2) s false) := .inr ⟨rfl, .inl ⟨p, q, htx, hr, ht, ho, hne⟩⟩
        clear hr ht htx HX ho
        go_wp2_with fail
        go_meet
        case rel => exact ⟨false, rfl, HT.out, HH1.out⟩
      · have c7 := hr.err
        have hnz := hr.nz
        have e7 : (er.1 == 0) = false := by simpa using hnz
        have HT : Hid (Txt w1 (w.heap.size + 2) s false) := .inr ⟨rfl, .inr ⟨er, htx, hr⟩⟩
        clear hr htx HX
        go_wp2_with fail
        go_meet
        case rel => exact ⟨false, rfl, HT.out, HH1.out⟩
    case rest =>
      obtain ⟨b, rfl, hT, hH⟩ := hcut
      have HT : Hid (Txt wc (w.heap.size + 2) s b) := hT
      have HHc : Hid (RHeld w wc) := hH
      clear hT hH HX HH1
      go_upto_if 35 with fail
      go_cut [41] from 36 to 40 (fun _ wc => Top wc (w.heap.size + 2) s (txtR s) ∧ RHeld w wc)
      case first =>
        cases b
        · obtain ⟨hb, _⟩ | ⟨_, hT⟩ := HT.out
          · cases hb
          · have HTT : Hid (Top wc (w.heap.size + 2) s (txtR s)) := hT
            clear hT HT
            go_wp2_with fail
            go_meet
            case rel => exact ⟨HTT.out, HHc.out⟩
        · obtain ⟨_, p, q, hr, ht, htx⟩ | ⟨hb, _⟩ := HT.out
          · have c1 := hr.pos
            rw [ht.pos] at c1
            have RF := rfail_st ⟨q, hr, ht⟩ 2 (p.pos : Int) (by decide)
            have HR : Hid (RRd wc (w.heap.size + 2) s q) := hr
            have HTX : Hid (txtR s = .error (2, (p.pos : Int))) := htx
            clear HT hr ht htx
            go_wp2_with fail
            refine RF.mono ?_
            rintro e w2 ⟨rfl, he2, hf2⟩
            have HE : Hid (RErr w2 (w.heap.size + 2) (2, (p.pos : Int))) := he2
            have HH2 : Hid (RHeld w w2) := HHc.out.fr HR.out hf2
            clear he2 hf2 RF
            go_wp2_with fail
            go_meet
            case rel => exact ⟨.inr ⟨_, HTX.out, HE.out⟩, HH2.out⟩
          · cases hb
      case rest =>
        obtain ⟨hT, hH⟩ := hcut
        clear HT HHc
        have HT : Hid (Top wc (w.heap.size + 2) s (txtR s)) := hT
        have HHc : Hid (RHeld w wc) := hH
        clear hT hH
        go_upto_region 8 with fail
        go_cut [54] from 42 to 53 (fun v wc => ∃ b, v = .bool b ∧ Rng wc (w.heap.size + 2) s b ∧ RHeld w wc)
        case first =>
          rcases HT.out with ⟨p, q, htx, hr, ht, ho, hne⟩ | ⟨er, htx, hr⟩
          · have c7 := hr.err
            rw [ht.e] at c7
            obtain ⟨vo, c6, hov⟩ := hr.opens
            obtain ⟨oo, oc, hos⟩ := ownsRow_shape hov
            subst hos
            by_cases hop : q.opens = []
            · have HD : Hid (decide (0 < q.opens.length) = false) := by unfold Hid; rw [hop]; rfl
              have HR : Hid (Rng wc (w.heap.size + 2) s false) := by
                refine .inr ⟨rfl, .inl ⟨p, q, ?_, hr, ht, ho, hne⟩⟩
                unfold rngR
                rw [htx]
                simp only
                rw [leftmost_none ht hop, if_neg (Nat.lt_irrefl _)]
              clear hr ht ho hov htx HT hop
              go_wp2_with fail
              go_meet
              case rel => exact ⟨false, by rw [HD.out], HR.out, HHc.out⟩
            · have HD : Hid (decide (0 < q.opens.length) = true) := by unfold Hid; exact decide_eq_true (List.length_pos_iff.2 hop)
              have HR : Hid (Rng wc (w.heap.size + 2) s true) := .inl ⟨rfl, p, q, hr, ht, ho, htx, hop⟩
              clear hr ht ho hov htx HT hop
              go_wp2_with fail
              go_meet
              case rel => exact ⟨true, by rw [HD.out], HR.out, HHc.out⟩
          · have c7 := hr.err
            have e7 : (er.1 == 0) = false := by simpa using hr.nz
            have HR : Hid (Rng wc (w.heap.size + 2) s false) := .inr ⟨rfl, .inr ⟨er, rng_bad htx, hr⟩⟩
            clear hr htx HT
            go_wp2_with fail
            go_meet
            case rel => exact ⟨false, rfl, HR.out, HHc.out⟩
        case rest =>
          obtain ⟨b, rfl, hT, hH⟩ := hcut
          clear HT HHc
          have HT : Hid (Rng wc (w.heap.size + 2) s b) := hT
          have HHc : Hid (RHeld w wc) := hH
          clear hT hH
          go_upto_if 54 with fail
          go_cut [83] from 55 to 82 (fun _ wc => Top wc (w.heap.size + 2) s (rngR s) ∧ RHeld w wc)
          case first =>
            cases b
            · obtain ⟨hb, _⟩ | ⟨_, hT⟩ := HT.out
              · cases hb
              · have HTT : Hid (Top wc (w.heap.size + 2) s (rngR s)) := hT
                clear hT HT
                go_wp2_with fail
                go_meet
                case rel => exact ⟨HTT.out, HHc.out⟩
            · obtain ⟨_, p, q, hr, ht, ho, htx, hop⟩ | ⟨hb, _⟩ := HT.out
              · have hL : 0 < q.opens.length := List.length_pos_iff.2 hop
                have hcnt := ht.count
                have hpn := ht.nums
                obtain ⟨g, cap, c6, _, _, _, c2, _, hgl, _⟩ := hr.openAt (List.getElem?_eq_getElem hL)
                simp only [Nat.zero_mul, Nat.zero_add] at c2
                have HR : Hid (RRd wc (w.heap.size + 2) s q) := hr
                have HTi : Hid (RTie s q p) := ht
                have HTX : Hid (txtR s = .ok p) := htx
                have HL0 : Hid (∃ x ∈ q.opens, x.place = q.opens[0].place) := ⟨_, List.getElem_mem hL, rfl⟩
                have hlb : q.opens.length ≤ 160 := by have := ho.pos; omega
                generalize q.opens[0].place = m0 at c2 HL0
                clear HT hr ht ho htx hop hpn hcnt
                go_wp2_with fail
                go_loopg [7, 8] (q.opens.length + 1) (fun k v7 v8 wr => ∃ j m : Nat, j ≤ q.opens.length ∧ q.opens.length - j ≤ k ∧ v8 = .int .i64 j ∧ v7 = .int .i64 m ∧ (∀ (i : Nat) x, i < j → q.opens[i]? = some x → m ≤ x.place) ∧ (∃ x ∈ q.opens, x.place = m) ∧ wr = wc)
                case atStart => exact ⟨0, m0, by omega, by omega, rfl, rfl, by intro i x hi; omega, HL0.out, rfl⟩
                case round =>
                  obtain ⟨j, m, hj, hk, rfl, rfl, hmin, hin, rfl⟩ := hrel
                  have HMIN : Hid (∀ (i : Nat) x, i < j → q.opens[i]? = some x → m ≤ x.place) := hmin
                  have HIN : Hid (∃ x ∈ q.opens, x.place = m) := hin
                  clear hmin hin c2
                  by_cases hlt : j < q.opens.length
                  · have hlt' : (j : Int) < (q.opens.length : Int) := by omega
                    have gj := List.getElem?_eq_getElem hlt
                    obtain ⟨g2, cap2, e6, _, _, _, d2, _, _, _⟩ := HR.out.openAt gj
                    rw [c6] at e6
                    simp only [Option.some.injEq, Value.slice.injEq, Addr.mk.injEq, and_true, true_and] at e6
                    obtain ⟨rfl, rfl⟩ := e6
                    have HGJ : Hid (q.opens[j]? = some q.opens[j]) := gj
                    generalize hx : q.opens[j] = x at d2 HGJ
                    have HXM : Hid (x ∈ q.opens) := List.mem_of_getElem? HGJ.out
                    clear gj hx
                    by_cases hmp : ¬ (x.place : Int) < (m : Int)
                    · go_wp2_with fail
                      go_roundg (q.opens.length - (j + 1))
                      case measure => omega
                      case rel =>
                        refine ⟨j + 1, m, by omega, Nat.le_refl _, by go_num, rfl, ?_, HIN.out, rfl⟩
                        intro i y hi hy
                        by_cases e : i = j
                        · subst e
                          rw [HGJ.out] at hy
                          cases hy
                          omega
                        · exact HMIN.out i y (by omega) hy
                    · have hmp2 : (x.place : Int) < (m : Int) := by omega
                      clear hmp
                      go_wp2_with fail
                      go_roundg (q.opens.length - (j + 1))
                      case measure => omega
                      case rel =>
                        refine ⟨j + 1, x.place, by omega, Nat.le_refl _, by go_num, rfl, ?_, ⟨x, HXM.out, rfl⟩, rfl⟩
                        intro i y hi hy
                        by_cases e : i = j
                        · subst e
                          rw [HGJ.out] at hy
                          cases hy
                          exact Nat.le_refl _
                        · have := HMIN.out i y (by omega) hy
                          omega
                  · have hlt' : ¬ (j : Int) < (q.opens.length : Int) := by omega
                    have HLM : Hid (leftmost p.rings s.size 100 = m ∧ m < s.size) := leftmost_is HTi.out (by
                      intro x hx
                      obtain ⟨i, hi, e⟩ := List.getElem_of_mem hx
                      exact HMIN.out i x (by omega) (by rw [List.getElem?_eq_getElem hi, e])) HIN.out
                    have RF := rfail_st ⟨q, HR.out, HTi.out⟩ 4 (m : Int) (by decide)
                    clear HMIN HIN
                    go_wp2_with fail
                    refine RF.mono ?_
                    rintro e w2 ⟨rfl, he2, hf2⟩
                    have HE : Hid (RErr w2 (w.heap.size + 2) (4, (m : Int))) := he2
                    have HH2 : Hid (RHeld w w2) := HHc.out.fr HR.out hf2
                    have HRG : Hid (rngR s = .error (4, (m : Int))) := by
                      unfold Hid rngR
                      rw [HTX.out]
                      simp only
                      rw [HLM.out.1, if_pos HLM.out.2]
                    clear he2 hf2 RF
                    go_wp2_with fail
                    go_meet
                    case rel => exact ⟨.inr ⟨_, HRG.out, HE.out⟩, HH2.out⟩
              · cases hb
          case rest =>
            obtain ⟨hT, hH⟩ := hcut
            clear HT HHc
            have HT : Hid (Top wc (w.heap.size + 2) s (rngR s)) := hT
            have HHc : Hid (RHeld w wc) := hH
            clear hT hH
            go_wp2_with fail
            go_loopg [9] 26 (fun k vi wr => ∃ i : Nat, i ≤ 24 ∧ 25 - i ≤ k ∧ vi = .int .i64 i ∧ Loop wr (w.heap.size + 2) s i ∧ RHeld w wr)
            case atStart =>
              refine ⟨0, by omega, by omega, rfl, ?_, HHc.out⟩
              rcases HT.out with ⟨p, q, htx, hr, ht, ho, hne⟩ | ⟨er, htx, hr⟩
              · refine .inl ⟨p, q, htx, ?_, ht, ho, hne, Nat.zero_le _, by intro j a hj; omega⟩
                rw [hyTo_zero, ← ht.atoms]
                exact hr
              · exact .inr ⟨er, parse_bad hs htx, hr⟩
            case round =>
              obtain ⟨i, hi, hk, rfl, hLoop, hH⟩ := hrel
              clear HT HHc
              have HHr : Hid (RHeld w wr) := hH
              clear hH
              rcases hLoop with ⟨p, q, hrg, hr, ht, ho, hne, hil, hgood⟩ | ⟨er, hpe, hr⟩
              · have hbl : p.bonds.length ≤ 160 := by have := ho.bonds; have := ho.pos; omega
                have h24 := ho.atoms
                have c7 := hr.err
                simp only [ht.e] at c7
                obtain ⟨va, c2, hoa⟩ := hr.atoms
                obtain ⟨vb, c3, hob⟩ := hr.bonds
                simp only [hyTo_len, ht.bonds] at hoa hob
                obtain ⟨ob, cb, hos⟩ := ownsRow_shape hob
                subst hos
                by_cases hlt : i < p.atoms.length
                · have hlt' : (i : Int) < (p.atoms.length : Int) := by omega
                  have gi := List.getElem?_eq_getElem hlt
                  generalize p.atoms[i] = a at gi
                  have hat : (hyTo p.bonds p.atoms i)[i]? = some a := (hyTo_at _ _ _).trans gi
                  obtain ⟨g, cap, hva, hg, a0, a1, a2, a3⟩ := atomAt (ats := hyTo p.bonds p.atoms i) (by rw [hyTo_len]; exact hoa) hat
                  rw [hyTo_len] at hva
                  subst hva
                  obtain ⟨v5, c5, ho5⟩ := hr.brs
                  simp only [hyTo_len] at ho5
                  obtain ⟨g5, cap5, hv5, hg5, d5⟩ := row_one ho5 hlt
                  subst hv5
                  rw [List.getElem?_map, hat] at d5
                  simp only [Option.map_some] at d5
                  have HR : Hid (RRd wr (w.heap.size + 2) s { q with atoms := hyTo p.bonds p.atoms i }) := hr
                  have HTi : Hid (RTie s q p) := ht
                  have HOk : Hid (Ok s p) := ho
                  have HRG : Hid (rngR s = .ok p) := hrg
                  have HGO : Hid (∀ (j : Nat) a, j < i → (p.atoms.mapIdx (withHydrogens p.bonds))[j]? = some a → Bz.wrong p.bonds j a = false) := hgood
                  have HGI : Hid (p.atoms[i]? = some a) := gi
                  have HOA : Hid (wr.ownsRow (w.heap.size + 2 + 1) 50 4 (.slice (some ⟨g, 0, none⟩) p.atoms.length cap) p.atoms.length ((hyTo p.bonds p.atoms i).flatMap plainCells)) := hoa
                  have HOB : Hid (wr.ownsRow (w.heap.size + 2 + 1) 46 3 (.slice ob p.bonds.length cb) p.bonds.length (p.bonds.flatMap bndCells)) := hob
                  have HAT : Hid ((hyTo p.bonds p.atoms i)[i]? = some a) := hat
                  have fz : wr.frozen? ⟨g, i * 4 + 3, none⟩ = false := by
                    obtain ⟨g2, _, e2, _, _, _, hf2⟩ := ownsRow_at hoa (by omega)
                    simp only [Value.slice.injEq, Option.some.injEq, Addr.mk.injEq, and_true, true_and] at e2
                    rw [e2.1]
                    exact hf2 _
                  clear hr ht ho hrg hgood gi hoa hob hat ho5
                  go_upto_if 108 with fail
                  go_cut [10] from 84 to 149 (fun v wc => ∃ okb, v = .bool okb ∧ RRd wc (w.heap.size + 2) s { q with atoms := hyTo p.bonds p.atoms (i + 1) } ∧ (okb = false → Bz.wrong p.bonds i (withHydrogens p.bonds i a) = true) ∧ RHeld w wc)
                  case first =>
                    cases hbr : a.br
                    · rw [hbr] at d5
                      have HBr : Hid (a.br = false) := hbr
                      have hsu : 0 ≤ Bz.sum p.bonds i ∧ Bz.sum p.bonds i ≤ 1000 := sum_bound HOk.out hs i
                      have HHY : Hid (∀ wx, Below wr.heap.size wr wx → Calls Tryz.prog 73 #[.agg #[.slice (some ⟨g, 0, none⟩) p.atoms.length cap, .slice ob p.bonds.length cb], .int .i64 i] wx fun e w' => e = .returned (.tuple #[.int .i64 (rhyd a (Bz.sum p.bonds i)).1, .bool (rhyd a (Bz.sum p.bonds i)).2]) ∧ Below wr.heap.size wr w' ∧ w'.cell? ⟨w.heap.size + 2, 2, none⟩ = some (.slice (some ⟨g, 0, none⟩) p.atoms.length cap) ∧ w'.cell? ⟨w.heap.size + 2, 3, none⟩ = some (.slice ob p.bonds.length cb) ∧ w'.cell? ⟨g, i * 4 + 3, none⟩ = some (.int .i64 a.hy) ∧ w'.frozen? ⟨g, i * 4 + 3, none⟩ = false) := by
                        intro wx hwx
                        have h1 := ownsRow_same HOA.out fun k hk => hwx.block k (HOA.out.lt k hk).2
                        have h2 := ownsRow_same HOB.out fun k hk => hwx.block k (HOB.out.lt k hk).2
                        have h3 := rhyd_any (ats := hyTo p.bonds p.atoms i) (by rw [hyTo_len]; exact h1) h2 i a HAT.out (by omega) HOk.out.ords
                        refine h3.mono ?_
                        rintro e w' ⟨he, hb⟩
                        have hb' : Below wr.heap.size wr w' := hwx.trans (hb.mono hwx.size)
                        have hB := HR.out.lt
                        exact ⟨he, hb', (hb'.cell (p := ⟨w.heap.size + 2, 2, none⟩) hB).trans c2, (hb'.cell (p := ⟨w.heap.size + 2, 3, none⟩) hB).trans c3, (hb'.cell (p := ⟨g, i * 4 + 3, none⟩) hg).trans a3, (hb'.frozen (p := ⟨g, i * 4 + 3, none⟩) hg).trans fz⟩
                      have hgB : w.heap.size + 2 < g := by have := (HOA.out.lt g rfl).1; omega
                      have HFN : Hid (∀ w', Below wr.heap.size wr w' → RRd (w'.setCell ⟨g, i * 4 + 3, none⟩ (.int .i64 (rhyd a (Bz.sum p.bonds i)).1)) (w.heap.size + 2) s { q with atoms := hyTo p.bonds p.atoms (i + 1) } ∧ RHeld w (w'.setCell ⟨g, i * 4 + 3, none⟩ (.int .i64 (rhyd a (Bz.sum p.bonds i)).1))) := by
                        intro w' hb
                        have hB := HR.out.lt
                        have h1 := (HR.out.below hb).setHy (i := i) (a := a) HAT.out (g := g) (cap := cap) (by simp only [hyTo_len]; exact (hb.cell (p := ⟨w.heap.size + 2, 2, none⟩) hB).trans c2) (rhyd a (Bz.sum p.bonds i)).1
                        have h2 := hyTo_set p.bonds p.atoms i a HGI.out HBr.out
                        rw [← rhyd_implied ((HTi.out.chs a (List.mem_of_getElem? HGI.out)).2 HBr.out)] at h2
                        rw [h2]
                        exact ⟨h1, HHr.out.step ((hb.mono (by omega)).setCell (p := ⟨g, i * 4 + 3, none⟩) (by simp only; omega) _)⟩
                      have HNO : Hid ((rhyd a (Bz.sum p.bonds i)).2 = false → Bz.wrong p.bonds i (withHydrogens p.bonds i a) = true) := by
                        intro h2
                        have h3 := rhyd_no ((HTi.out.chs a (List.mem_of_getElem? HGI.out)).2 HBr.out) h2
                        unfold withHydrogens
                        rw [HBr.out]
                        exact h3
                      clear hbr
                      generalize rhyd a (Bz.sum p.bonds i) = rh at HHY HFN HNO
                      obtain ⟨rx, ry⟩ := rh
                      simp only at HHY HFN HNO
                      go_wp2_with fail
                      go_region_with (go_at_call 73; refine (HHY.out _ (Below.refl _ _).drew).mono ?_; rintro e w' ⟨rfl, hb, i0, i1, i2, i3⟩)
                      all_goals
                        have HFN2 : Hid _ := HFN.out w' hb
                        clear hb
                        go_simp
                        go_wp2_with fail
                        go_meet
                        case rel => exact ⟨ry, rfl, HFN2.out.1, HNO.out, HFN2.out.2⟩
                    · rw [hbr] at d5
                      have HE : Hid (hyTo p.bonds p.atoms (i + 1) = hyTo p.bonds p.atoms i) := hyTo_br _ _ _ a HGI.out hbr
                      clear hbr
                      go_wp2_with fail
                      go_meet
                      case rel => exact ⟨true, rfl, by rw [HE.out]; exact HR.out, (fun e => by cases e), HHr.out⟩
                  case rest =>
                    obtain ⟨okb, rfl, hr2, hno, hH2⟩ := hcut
                    have HR2 : Hid (RRd wc (w.heap.size + 2) s { q with atoms := hyTo p.bonds p.atoms (i + 1) }) := hr2
                    have HNO : Hid (okb = false → Bz.wrong p.bonds i (withHydrogens p.bonds i a) = true) := hno
                    have HH2 : Hid (RHeld w wc) := hH2
                    obtain ⟨va, e2, hoa⟩ := hr2.atoms
                    obtain ⟨vb, e3, hob⟩ := hr2.bonds
                    simp only [hyTo_len, HTi.out.bonds] at hoa hob
                    obtain ⟨oa2, ca2, hsa⟩ := ownsRow_shape hoa
                    obtain ⟨ob2, cb2, hsb⟩ := ownsRow_shape hob
                    subst hsa hsb
                    obtain ⟨v4, e4, ho4⟩ := hr2.ats
                    simp only [hyTo_len] at ho4
                    obtain ⟨g4, cap4, hv4, hg4, d4⟩ := row_one ho4 hlt
                    subst hv4
                    rw [List.getElem?_map, hyTo_with HGI.out] at d4
                    simp only [Option.map_some, (with_same p.bonds i a).2.2.2.1] at d4
                    have hws := with_same p.bonds i a
                    have hmem := List.mem_of_getElem? HGI.out
                    have RC := rcand_any (ats := hyTo p.bonds p.atoms (i + 1)) (by rw [hyTo_len]; exact hoa) hob i (withHydrogens p.bonds i a) (hyTo_with HGI.out) (by omega) HOk.out.ords (by rw [hws.2.2.1]; exact (HTi.out.chs a hmem).1) (with_hy HTi.out HOk.out hs HGI.out) (by rw [hws.1, hws.2.1, hws.2.2.1]; exact HOk.out.aros a hmem)
                    have HBlt : Hid (w.heap.size + 2 < wc.heap.size) := hr2.lt
                    clear hr2 hno hH2 hoa hob ho4 hws hmem HHr c7 c2 c3 a0 a1 a2 a3 c5 d5 fz HOA HOB HAT hg hg5
                    go_wp2_with fail
                    refine RC.mono ?_
                    rintro e w3 ⟨⟨cb3, rfl⟩, hb3⟩
                    have HR3 : Hid (RRd w3 (w.heap.size + 2) s { q with atoms := hyTo p.bonds p.atoms (i + 1) }) := HR2.out.below hb3
                    have HH3 : Hid (RHeld w w3) := HH2.out.step (hb3.mono (by have := HBlt.out; omega))
                    have k4 := (hb3.cell (p := ⟨w.heap.size + 2, 4, none⟩) HBlt.out).trans e4
                    have l4 := (hb3.cell (p := ⟨g4, i, none⟩) hg4).trans d4
                    clear RC hb3 HR2 HH2 e2 e3 e4 d4 HBlt
                    cases hwr : Bz.wrong p.bonds i (withHydrogens p.bonds i a)
                    · have hok : okb = true := by
                        cases okb
                        · have := HNO.out rfl
                          rw [hwr] at this
                          cases this
                        · rfl
                      subst hok
                      have HLP : Hid (Loop w3 (w.heap.size + 2) s (i + 1)) := by
                        refine .inl ⟨p, q, HRG.out, HR3.out, HTi.out, HOk.out, hne, hlt, ?_⟩
                        intro j b hj hb
                        by_cases e : j = i
                        · subst e
                          rw [List.getElem?_mapIdx, HGI.out] at hb
                          simp only [Option.map_some, Option.some.injEq] at hb
                          subst hb
                          exact hwr
                        · exact HGO.out j b (by omega) hb
                      clear hwr k4 l4
                      simp only [Bool.not_false]
                      go_wp2_with fail
                      go_roundg (25 - (i + 1))
                      case measure => omega
                      case rel => exact ⟨i + 1, by omega, Nat.le_refl _, by go_num, HLP.out, HH3.out⟩
                    · have HPE : Hid (Bz.parse s = .error (6, (a.pl : Int))) := by
                        unfold Hid
                        rw [parse_end hs HRG.out]
                        unfold endR
                        have := rfirst_at p.bonds (p.atoms.mapIdx (withHydrogens p.bonds)) 0 i (withHydrogens p.bonds i a) (by rw [List.getElem?_mapIdx, HGI.out]; rfl) (by rw [Nat.zero_add]; exact hwr) (by
                          intro j b hj hb
                          rw [Nat.zero_add]
                          exact HGO.out j b hj hb)
                        rw [this]
                        simp only [(with_same p.bonds i a).2.2.2.1]
                      have RF := rfail_any HR3.out 6 (a.pl : Int)
                      clear hwr
                      simp only [Bool.not_true]
                      have hor : ∀ b : Bool, (!b || true) = true := by intro b; cases b <;> rfl
                      cases okb
                      all_goals
                        go_wp2_with fail
                        refine RF.mono ?_
                        rintro e w4 ⟨rfl, hr4, hf4⟩
                        have HE4 : Hid (RErr w4 (w.heap.size + 2) (6, (a.pl : Int))) := by
                          unfold RSt.fails at hr4
                          rw [if_pos (by simp only; exact HTi.out.e)] at hr4
                          exact hr4.wrong rfl rfl (by simp)
                        have HH4 : Hid (RHeld w w4) := HH3.out.fr HR3.out hf4
                        clear hr4 hf4 RF
                        go_wp2_with fail
                        go_roundg (25 - (i + 1))
                        case measure => omega
                        case rel => exact ⟨i + 1, by omega, Nat.le_refl _, by go_num, .inr ⟨_, HPE.out, HE4.out⟩, HH4.out⟩
                · have hlt' : ¬ (i : Int) < (p.atoms.length : Int) := by omega
                  have hin : i = p.atoms.length := by omega
                  obtain ⟨oa, ca, hos⟩ := ownsRow_shape hoa
                  subst hos
                  have r0 := HHr.out.r0
                  have r1 := HHr.out.r1
                  have f0 := HHr.out.f0
                  have f1 := HHr.out.f1
                  have HBL : Hid (Below w.heap.size w wr) := HHr.out.b
                  have HPE : Hid (Bz.parse s = .ok (p.atoms.mapIdx (withHydrogens p.bonds), p.bonds)) := by
                    unfold Hid
                    rw [parse_end hs hrg]
                    unfold endR
                    rw [rfirst_none p.bonds (p.atoms.mapIdx (withHydrogens p.bonds)) 0 (by
                      intro j b hb
                      rw [Nat.zero_add]
                      exact hgood j b (by have := (List.getElem?_eq_some_iff.1 hb).1; simp at this; omega) hb)]
                  have hlen : (p.atoms.mapIdx (withHydrogens p.bonds)).length = p.atoms.length := by simp
                  rw [hin, hyTo_all] at hoa
                  have n0 : (Value.slice oa p.atoms.length ca).ownBlock ≠ some w.heap.size := fun e => by have := (hoa.lt _ e).1; omega
                  have n1 : (Value.slice ob p.bonds.length cb).ownBlock ≠ some w.heap.size := fun e => by have := (hob.lt _ e).1; omega
                  have HFA : Hid (((wr.setCell ⟨w.heap.size, 0, none⟩ (.slice oa p.atoms.length ca)).setCell ⟨w.heap.size, 1, none⟩ (.slice ob p.bonds.length cb)).ownsRow w.heap.size 50 4 (.slice oa p.atoms.length ca) (p.atoms.mapIdx (withHydrogens p.bonds)).length ((p.atoms.mapIdx (withHydrogens p.bonds)).flatMap plainCells)) := by
                    unfold Hid
                    rw [hlen]
                    exact ownsRow_mono (ownsRow_setCell_other (ownsRow_setCell_other hoa n0 _) n0 _) (by omega)
                  have HFB : Hid (((wr.setCell ⟨w.heap.size, 0, none⟩ (.slice oa p.atoms.length ca)).setCell ⟨w.heap.size, 1, none⟩ (.slice ob p.bonds.length cb)).ownsRow w.heap.size 46 3 (.slice ob p.bonds.length cb) p.bonds.length (p.bonds.flatMap bndCells)) :=
                    ownsRow_mono (ownsRow_setCell_other (ownsRow_setCell_other hob n1 _) n1 _) (by omega)
                  have HFC : Hid (Below w.heap.size w ((wr.setCell ⟨w.heap.size, 0, none⟩ (.slice oa p.atoms.length ca)).setCell ⟨w.heap.size, 1, none⟩ (.slice ob p.bonds.length cb))) :=
                    (HBL.out.setCell (p := ⟨w.heap.size, 0, none⟩) (Nat.le_refl _) _).setCell (p := ⟨w.heap.size, 1, none⟩) (Nat.le_refl _) _
                  have HN1 : Hid (0 < (p.atoms.mapIdx (withHydrogens p.bonds)).length ∧ (p.atoms.mapIdx (withHydrogens p.bonds)).length ≤ 24) := by
                    unfold Hid
                    rw [hlen]
                    exact ⟨hne, h24⟩
                  clear hr ht ho hrg hgood hoa hob n0 n1 hlen hin HHr
                  go_wp2_with fail
                  refine bodyPost_ret (v := .tuple #[.agg #[.slice oa p.atoms.length ca, .slice ob p.bonds.length cb], .int .i64 0, .int .i64 0]) ?_ rfl (.good _ _ _ _ HPE.out rfl HFA.out HFB.out HFC.out HN1.out.1 HN1.out.2 hbl)
                  simp only [results, Tryz.results43]
                  go_simp
              · have c7 := hr.err
                have c8 := hr.plc
                have e7 : (er.1 == 0) = false := by simpa using hr.nz
                have e7' : (er.1 != 0) = true := by simpa using hr.nz
                obtain ⟨va, n, xs, c2, hoa⟩ := hr.atoms
                obtain ⟨oa, ca, hos⟩ := ownsRow_shape hoa
                subst hos
                have r0 := HHr.out.r0
                have r1 := HHr.out.r1
                have n0 := HHr.out.n0
                have n1 := HHr.out.n1
                have f0 := HHr.out.f0
                have f1 := HHr.out.f1
                have HBL : Hid (Below w.heap.size w wr) := HHr.out.b
                have HPE : Hid (Bz.parse s = .error er) := hpe
                clear hr hoa hpe HHr hi hk
                by_cases hlt : (i : Int) < (n : Int)
                all_goals
                  go_wp2_with fail
                  go_region
                  all_goals
                    go_wp2_with fail
                    refine bodyPost_ret (v := .tuple #[.agg #[.slice none 0 0, .slice none 0 0], .int .i64 er.1, .int .i64 er.2]) ?_ rfl (.bad er HPE.out rfl (Below.drew ((HBL.out.setCell (p := ⟨w.heap.size, 0, none⟩) (Nat.le_refl _) _).setCell (p := ⟨w.heap.size, 1, none⟩) (Nat.le_refl _) _)))
                    simp only [results, Tryz.results43]
                    go_simp
  · have hs' : (160 : Int) < (s.size : Int) := by omega
    have HP : Hid (Bz.parse s = .error (1, 0)) := by unfold Hid Bz.parse; rw [if_pos (by omega)]
    go_enter Tryz.func43, Tryz.ntmps43
    go_wp2_with fail
    refine bodyPost_ret (v := .tuple #[.agg #[.slice none 0 0, .slice none 0 0], .int .i64 1, .int .i64 0]) ?_ rfl (.bad (1, 0) HP.out rfl (by repeat (first | with_reducible exact Below.refl _ _ | with_reducible refine below_drewN ?_ _ | with_reducible refine Below.drew ?_ | with_reducible refine Below.setCell ?_ (by simp) _ | with_reducible refine Below.alloc ?_ (by simp; try omega) _)))
    simp only [results, Tryz.results43]
    go_simp
end
end Go.Proofs.YtcabaecbmkgclaaGreatDoor
