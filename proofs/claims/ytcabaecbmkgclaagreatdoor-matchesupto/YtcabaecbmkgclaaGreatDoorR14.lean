/-
  The document's bound and closes.
  The document's closes.
-/
import Derived.Test.YtcabaecbmkgclaaGreatDoorR13
import Derived.Deep.LoopGhost
import Derived.Deep.RegionHeldLaw
import Derived.Deep.RegionLaw
namespace Go.Proofs.YtcabaecbmkgclaaGreatDoor
open Go.RowKit Bz
def bndHit (a b : Nat) (x : Bnd) : Bool := (x.a == a && x.b == b) || (x.a == b && x.b == a)

theorem bndHit_int (a b : Nat) (x : Bnd) : bndHit a b x = (((x.a : Int) == (a : Int) && (x.b : Int) == (b : Int)) || ((x.a : Int) == (b : Int) && (x.b : Int) == (a : Int))) := by
  have h : ∀ m n : Nat, (m == n) = ((m : Int) == (n : Int)) := by intro m n; rw [Bool.eq_iff_iff]; simp; omega
  unfold bndHit
  rw [h, h, h, h]

theorem bonded_true {l : List Bnd} {a b i : Nat} {x : Bnd} (hi : l[i]? = some x) (h : bndHit a b x = true) : bonded l a b = true :=
  List.any_eq_true.2 ⟨x, List.mem_of_getElem? hi, h⟩
theorem bonded_false {l : List Bnd} {a b : Nat} (h : ∀ (i : Nat) x, l[i]? = some x → bndHit a b x = false) : bonded l a b = false := by
  unfold bonded
  rw [List.any_eq_false]
  intro x hx
  obtain ⟨i, hi⟩ := List.getElem?_of_mem hx
  have := h i x hi
  unfold bndHit at this
  rw [this]; decide

section
variable {w : World} {B : Nat} {s : ByteArray} {p : RSt}
theorem RRd.bondAt (h : RRd w B s p) {k : Nat} {x : Bnd} (hk : p.bonds[k]? = some x) : ∃ g cap, w.cell? ⟨B, 3, none⟩ = some (.slice (some ⟨g, 0, none⟩) p.bonds.length cap) ∧
    w.cell? ⟨g, k * 3, none⟩ = some (.int .i64 x.a) ∧ w.cell? ⟨g, k * 3 + 1, none⟩ = some (.int .i64 x.b) ∧ w.cell? ⟨g, k * 3 + 2, none⟩ = some (.int .i64 x.o) ∧ g < w.heap.size := by
  obtain ⟨v, hv, ho⟩ := h.bonds
  have hl : k < p.bonds.length := (List.getElem?_eq_some_iff.1 hk).1
  obtain ⟨g, cap, rfl, h1, h2, h3, h4⟩ := ownsRow_at ho (by omega)
  refine ⟨g, cap, hv, ?_, ?_, ?_, h2⟩
  · have := flatMap_get bndCells 3 bndCells_len _ k 0 x hk (by omega)
    rw [Nat.add_zero] at this
    rw [h3 (k * 3) (by omega), this]
    rfl
  · rw [h3 (k * 3 + 1) (by omega), flatMap_get bndCells 3 bndCells_len _ k 1 x hk (by omega)]
    rfl
  · rw [h3 (k * 3 + 2) (by omega), flatMap_get bndCells 3 bndCells_len _ k 2 x hk (by omega)]
    rfl

set_option maxRecDepth 100000 in
set_option maxHeartbeats 2000000 in
theorem rbound_any (h : RRd w B s p) (a b : Nat) (hl : p.bonds.length ≤ 1000) :
    Calls Tryz.prog 149 #[.pointer (some ⟨B, 0, none⟩), .int .i64 a, .int .i64 b] w fun e w' => e = .returned (.bool (bonded p.bonds a b)) ∧ Below w.heap.size w w' := by
  have HH : Hid _ := h
  clear h
  go_enter Tryz.func149, Tryz.ntmps149
  go_wp2_with fail
  go_loopg [7] (p.bonds.length + 1) (fun k vi wr => ∃ i : Nat, i ≤ p.bonds.length ∧ p.bonds.length - i ≤ k ∧ vi = .int .i64 i ∧ Below w.heap.size w wr ∧ ∀ (j : Nat) x, j < i → p.bonds[j]? = some x → bndHit a b x = false)
  case atStart => exact ⟨0, by omega, by omega, rfl, Below.refl _ _, by intro j x hj; omega⟩
  case round =>
    rename_i wr
    obtain ⟨i, hi, hk, rfl, hb, hall⟩ := hrel
    have HA : Hid _ := hall
    clear hall
    have hr := HH.out.below hb
    obtain ⟨v, hv, ho⟩ := hr.bonds
    obtain ⟨ao, cap, rfl⟩ := ownsRow_shape ho
    have HBe : Hid _ := hb
    have hsz := hb.size
    clear hb ho
    by_cases hlt : i < p.bonds.length
    · have hlt' : (i : Int) < (p.bonds.length : Int) := by omega
      have gx := List.getElem?_eq_getElem hlt
      generalize p.bonds[i] = x at gx
      obtain ⟨g, cap', c3, ca, cb, co, hg⟩ := hr.bondAt gx
      rw [hv] at c3
      simp only [Option.some.injEq, Value.slice.injEq] at c3
      obtain ⟨rfl, _, rfl⟩ := c3
      have HG : Hid _ := gx
      have HB : Hid _ := bndHit_int a b x
      clear gx hr
      cases e1 : ((x.a : Int) == (a : Int)) <;> cases e2 : ((x.b : Int) == (b : Int)) <;> cases e3 : ((x.a : Int) == (b : Int)) <;> cases e4 : ((x.b : Int) == (a : Int))
      all_goals
        rw [e1, e2, e3, e4] at HB
        go_wp2_with fail
        first
        | (go_ret
           exact ⟨ret_bool (bonded_true HG.out HB.out).symm, by repeat (first | with_reducible exact HBe.out | with_reducible refine Below.setCell ?_ hsz _ | with_reducible refine Below.alloc ?_ hsz _)⟩)
        | (go_roundg (p.bonds.length - (i + 1))
           case measure => omega
           case rel =>
             refine ⟨i + 1, by omega, Nat.le_refl _, by go_num, by repeat (first | with_reducible exact HBe.out | with_reducible refine Below.setCell ?_ hsz _ | with_reducible refine Below.alloc ?_ hsz _), ?_⟩
             intro j y hj hy
             by_cases e : j = i
             · subst e
               rw [HG.out] at hy
               cases hy
               exact HB.out
             · exact HA.out j y (by omega) hy)
    · have hlt' : ¬ (i : Int) < (p.bonds.length : Int) := by omega
      have HC : Hid (bonded p.bonds a b = false) := bonded_false fun j x hx => HA.out j x (by have := (List.getElem?_eq_some_iff.1 hx).1; omega) hx
      go_wp2_with fail
      go_ret
      exact ⟨ret_bool HC.out.symm, HBe.out⟩
end
section
variable {w : World} {B : Nat} {s : ByteArray} {p : RSt}
def rsmall (q : RSt) (a b : Nat) : Bool := (q.atoms[a]?).any (·.aro) && (q.atoms[b]?).any (·.aro)

/-- A ring is closed. -/
def rcloses (q : RSt) (o : ROpn) (k : Nat) (sign : Int) (start : Nat) : RSt :=
  if sign = 58 ∧ rsmall q o.atom k = false then q.fails 3 ((start : Int) - 1)
  else if sign = 0 ∧ o.sign = 58 ∧ rsmall q o.atom k = false then q.fails 3 start
  else if o.atom = k ∨ bonded q.bonds o.atom k = true ∨ (sign ≠ 0 ∧ o.sign ≠ 0 ∧ sign ≠ o.sign) then q.fails 4 start
  else { q with bonds := q.bonds ++ [⟨o.atom, k, rorder q (if sign = 0 then o.sign else sign) o.atom k, start⟩] }

def ropnV (o : ROpn) : Value := .agg #[.int .i64 o.num, .int .i64 o.atom, .int .i64 o.place, .int .u8 o.sign]

/-- The reader, and a ring number in its box. -/
structure AtO (w0 w : World) (B : Nat) (s : ByteArray) (p : RSt) (L : Nat) (o : ROpn) : Prop where
  rd : RRd w B s p
  c0 : w.cell? ⟨L, 0, none⟩ = some (.int .i64 o.num)
  c1 : w.cell? ⟨L, 1, none⟩ = some (.int .i64 o.atom)
  c2 : w.cell? ⟨L, 2, none⟩ = some (.int .i64 o.place)
  c3 : w.cell? ⟨L, 3, none⟩ = some (.int .u8 o.sign)
  nm : ¬ RMine w B L
  fr : RFr B w0 w

theorem AtO.lt {w0 : World} {L : Nat} {o : ROpn} (h : AtO w0 w B s p L o) : L < w.heap.size := World.block_lt_of_cell? w ⟨L, 0, none⟩ h.c0
theorem AtO.step {w0 w1 : World} {q : RSt} {L : Nat} {o : ROpn} (h : AtO w0 w B s p L o) (hr : RRd w1 B s q) (hf : RFr B w w1) : AtO w0 w1 B s q L o :=
  ⟨hr, by rw [hf.cell h.lt h.nm]; exact h.c0, by rw [hf.cell h.lt h.nm]; exact h.c1, by rw [hf.cell h.lt h.nm]; exact h.c2, by rw [hf.cell h.lt h.nm]; exact h.c3, fun e => h.nm (hf.mine L h.lt e), h.fr.trans hf⟩
theorem AtO.drewN {w0 : World} {L : Nat} {o : ROpn} (h : AtO w0 w B s p L o) (n : Nat) : AtO w0 (w.drewN n) B s p L o := h.step (h.rd.drewN n) ((RFr.refl B w).drewN n)
theorem AtO.below {w0 w1 : World} {L : Nat} {o : ROpn} (h : AtO w0 w B s p L o) (hb : Below w.heap.size w w1) : AtO w0 w1 B s p L o := h.step (h.rd.below hb) ((RFr.refl B w).below h.rd.lt hb)
theorem AtO.mk0 (h : RRd w B s p) (o : ROpn) (t : TypeId) : AtO w (w.alloc (.cells #[.int .i64 o.num, .int .i64 o.atom, .int .i64 o.place, .int .u8 o.sign] t)) B s p w.heap.size o := by
  refine ⟨h.alloc _, ?_, ?_, ?_, ?_, h.notMine _, (RFr.refl B w).alloc h.lt _⟩
  · simp [go_sem]
  · simp [go_sem]
  · simp [go_sem]
  · simp [go_sem]

set_option maxRecDepth 100000 in
set_option maxHeartbeats 4000000 in
theorem rcloses_any (h : RRd w B s p) (o : ROpn) (k : Nat) (sign : Int) (start : Nat) (hoa : o.atom < p.atoms.length) (hk : k < p.atoms.length) (hst : start ≤ 160) (hl : p.bonds.length ≤ 200) :
    Calls Tryz.prog 124 #[.pointer (some ⟨B, 0, none⟩), ropnV o, .int .i64 k, .int .u8 sign, .int .i64 start] w fun e w' => e = .returned (.tuple #[]) ∧ RRd w' B s (rcloses p o k sign start) ∧ RFr B w w' := by
  have hB := h.lt
  have A0 := AtO.mk0 h o 166
  obtain ⟨i0, hi, hz0, hz1, hz2⟩ := info_parts Tryz.infoBond
  have HR : Hid (rcloses p o k sign start = if sign = 58 ∧ rsmall p o.atom k = false then p.fails 3 ((start : Int) - 1)
    else if sign = 0 ∧ o.sign = 58 ∧ rsmall p o.atom k = false then p.fails 3 start
    else if o.atom = k ∨ bonded p.bonds o.atom k = true ∨ (sign ≠ 0 ∧ o.sign ≠ 0 ∧ sign ≠ o.sign) then p.fails 4 start
    else { p with bonds := p.bonds ++ [⟨o.atom, k, rorder p (if sign = 0 then o.sign else sign) o.atom k, start⟩] }) := rfl
  have gx := List.getElem?_eq_getElem hoa
  have gy := List.getElem?_eq_getElem hk
  generalize p.atoms[o.atom] = x at gx
  generalize p.atoms[k] = y at gy
  have hoi : (o.atom : Int) < (p.atoms.length : Int) := by omega
  have hki : (k : Int) < (p.atoms.length : Int) := by omega
  unfold ropnV
  go_enter Tryz.func124, Tryz.ntmps124
  go_upto_region 1 with fail
  go_cut [10] (fun v wc => v = .bool (rsmall p o.atom k) ∧ AtO w wc B s p w.heap.size o)
  case first =>
    have HS : Hid (rsmall p o.atom k = (x.aro && y.aro)) := by unfold Hid rsmall; rw [gx, gy]; rfl
    obtain ⟨g, cap, c2, ca, hg⟩ := A0.rd.aroAt gx
    obtain ⟨g', cap', c2', cb, hg'⟩ := A0.rd.aroAt gy
    rw [c2] at c2'
    simp only [Option.some.injEq, Value.slice.injEq, Addr.mk.injEq, and_true, true_and] at c2'
    obtain ⟨rfl, rfl⟩ := c2'
    have o1 := A0.c1
    clear gx gy
    generalize World.alloc _ _ = w1 at *
    cases hx : x.aro
    · rw [hx] at ca HS
      go_quiet (fail)
      go_wp2_with fail
      go_meet
      case rel => exact ⟨by rw [HS.out]; rfl, A0.drewN _⟩
    · cases hy : y.aro
      · rw [hx] at ca HS
        rw [hy] at cb HS
        go_quiet (fail)
        go_wp2_with fail
        go_meet
        case rel => exact ⟨by rw [HS.out]; rfl, A0.drewN _⟩
      · rw [hx] at ca HS
        rw [hy] at cb HS
        go_quiet (fail)
        go_wp2_with fail
        go_meet
        case rel => exact ⟨by rw [HS.out]; rfl, A0.drewN _⟩
  case rest =>
    obtain ⟨rfl, A1⟩ := hcut
    clear A0
    generalize rsmall p o.atom k = sm at *
    go_upto_region 2 with fail
    go_cut [38] (fun v wc => v = .bool (decide (sign = 58 ∧ sm = false)) ∧ AtO w wc B s p w.heap.size o)
    case first =>
      cases e1 : (sign == 58)
      · have HV : Hid (decide (sign = 58 ∧ sm = false) = false) := by unfold Hid; simp at e1; simp [e1]
        go_wp2_with fail
        go_meet
        case rel => exact ⟨by rw [HV.out], A1⟩
      · cases sm
        · have HV : Hid (decide (sign = 58 ∧ false = false) = true) := by unfold Hid; simp at e1; simp [e1]
          go_wp2_with fail
          go_meet
          case rel => exact ⟨by rw [HV.out], A1⟩
        · have HV : Hid (decide (sign = 58 ∧ true = false) = false) := by unfold Hid; simp
          go_wp2_with fail
          go_meet
          case rel => exact ⟨by rw [HV.out], A1⟩
    case rest =>
      clear A1
      obtain ⟨rfl, A1⟩ := hcut
      by_cases hA : sign = 58 ∧ sm = false
      · rw [if_pos hA] at HR
        rw [decide_eq_true hA]
        have RF := rfail_any A1.rd 3 ((start : Int) - 1)
        clear hA
        go_wp2_with fail
        refine RF.mono ?_
        rintro e w2 ⟨rfl, hr2, hf2⟩
        go_wp2_with fail
        refine bodyPost_ret (results_none rfl _ _ _) rfl ?_
        exact ⟨rfl, by rw [HR.out]; exact hr2, A1.fr.trans hf2⟩
      · rw [if_neg hA] at HR
        rw [decide_eq_false hA]
        clear hA
        have o1 := A1.c1
        have o3 := A1.c3
        go_upto_region 4 with fail
        go_cut [53] (fun v wc => v = .bool (decide (sign = 0 ∧ o.sign = 58 ∧ sm = false)) ∧ AtO w wc B s p w.heap.size o)
        case first =>
          cases e1 : (sign == 0)
          · have HV : Hid (decide (sign = 0 ∧ o.sign = 58 ∧ sm = false) = false) := by unfold Hid; simp at e1; simp [e1]
            go_wp2_with fail
            go_meet
            case rel => exact ⟨by rw [HV.out], A1⟩
          · cases e2 : (o.sign == 58)
            · have HV : Hid (decide (sign = 0 ∧ o.sign = 58 ∧ sm = false) = false) := by unfold Hid; simp at e2; simp [e2]
              go_wp2_with fail
              go_meet
              case rel => exact ⟨by rw [HV.out], A1⟩
            · cases sm
              · have HV : Hid (decide (sign = 0 ∧ o.sign = 58 ∧ false = false) = true) := by unfold Hid; simp at e1 e2; simp [e1, e2]
                go_wp2_with fail
                go_meet
                case rel => exact ⟨by rw [HV.out], A1⟩
              · have HV : Hid (decide (sign = 0 ∧ o.sign = 58 ∧ true = false) = false) := by unfold Hid; simp
                go_wp2_with fail
                go_meet
                case rel => exact ⟨by rw [HV.out], A1⟩
        case rest =>
          clear A1 o1 o3
          obtain ⟨rfl, A1⟩ := hcut
          by_cases hA : sign = 0 ∧ o.sign = 58 ∧ sm = false
          · rw [if_pos hA] at HR
            rw [decide_eq_true hA]
            have RF := rfail_any A1.rd 3 (start : Int)
            clear hA
            go_wp2_with fail
            refine RF.mono ?_
            rintro e w2 ⟨rfl, hr2, hf2⟩
            go_wp2_with fail
            refine bodyPost_ret (results_none rfl _ _ _) rfl ?_
            exact ⟨rfl, by rw [HR.out]; exact hr2, A1.fr.trans hf2⟩
          · rw [if_neg hA] at HR
            rw [decide_eq_false hA]
            clear hA
            have RB := rbound_any A1.rd o.atom k (by omega)
            have o1 := A1.c1
            go_wp2_with fail
            refine RB.mono ?_
            rintro e w2 ⟨rfl, hb2⟩
            have A2 := A1.below hb2
            clear A1 hb2 RB o1
            generalize bonded p.bonds o.atom k = has at *
            have o1 := A2.c1
            have o3 := A2.c3
            go_upto_region 7 with fail
            go_cut [83] (fun v wc => v = .bool (decide (o.atom = k ∨ has = true ∨ (sign ≠ 0 ∧ o.sign ≠ 0 ∧ sign ≠ o.sign))) ∧ AtO w wc B s p w.heap.size o)
            case first =>
              have hi : ((o.atom : Int) == (k : Int)) = decide (o.atom = k) := by rw [Bool.eq_iff_iff]; simp; omega
              cases e1 : ((o.atom : Int) == (k : Int))
              · have h1 : ¬ o.atom = k := by rw [hi] at e1; simpa using e1
                cases has
                · cases e2 : (sign != 0)
                  · have HV : Hid (decide (o.atom = k ∨ false = true ∨ (sign ≠ 0 ∧ o.sign ≠ 0 ∧ sign ≠ o.sign)) = false) := by unfold Hid; simp at e2; simp [h1, e2]
                    go_wp2_with fail
                    go_meet
                    case rel => exact ⟨by rw [HV.out], A2⟩
                  · cases e3 : (o.sign != 0)
                    · have HV : Hid (decide (o.atom = k ∨ false = true ∨ (sign ≠ 0 ∧ o.sign ≠ 0 ∧ sign ≠ o.sign)) = false) := by unfold Hid; simp at e3; simp [h1, e3]
                      go_wp2_with fail
                      go_meet
                      case rel => exact ⟨by rw [HV.out], A2⟩
                    · have HV : Hid (decide (o.atom = k ∨ false = true ∨ (sign ≠ 0 ∧ o.sign ≠ 0 ∧ sign ≠ o.sign)) = (sign != o.sign)) := by unfold Hid; simp at e2 e3; simp [h1, e2, e3]; rw [Bool.eq_iff_iff]; simp
                      go_wp2_with fail
                      go_meet
                      case rel => exact ⟨by rw [HV.out], A2⟩
                · have HV : Hid (decide (o.atom = k ∨ true = true ∨ (sign ≠ 0 ∧ o.sign ≠ 0 ∧ sign ≠ o.sign)) = true) := by unfold Hid; simp
                  go_wp2_with fail
                  go_meet
                  case rel => exact ⟨by rw [HV.out], A2⟩
              · have h1 : o.atom = k := by rw [hi] at e1; simpa using e1
                have HV : Hid (decide (o.atom = k ∨ has = true ∨ (sign ≠ 0 ∧ o.sign ≠ 0 ∧ sign ≠ o.sign)) = true) := by unfold Hid; simp [h1]
                go_wp2_with fail
                go_meet
                case rel => exact ⟨by rw [HV.out], A2⟩
            case rest =>
              clear A2 o1 o3
              obtain ⟨rfl, A2⟩ := hcut
              by_cases hA : o.atom = k ∨ has = true ∨ (sign ≠ 0 ∧ o.sign ≠ 0 ∧ sign ≠ o.sign)
              · rw [if_pos hA] at HR
                rw [decide_eq_true hA]
                have RF := rfail_any A2.rd 4 (start : Int)
                clear hA
                go_wp2_with fail
                refine RF.mono ?_
                rintro e w2 ⟨rfl, hr2, hf2⟩
                go_wp2_with fail
                refine bodyPost_ret (results_none rfl _ _ _) rfl ?_
                exact ⟨rfl, by rw [HR.out]; exact hr2, A2.fr.trans hf2⟩
              · rw [if_neg hA] at HR
                rw [decide_eq_false hA]
                clear hA
                have o3 := A2.c3
                go_upto_if 88 with fail
                go_cut [3] (fun v wc => v = .int .u8 (if sign = 0 then o.sign else sign) ∧ AtO w wc B s p w.heap.size o)
                case first =>
                  by_cases h0 : sign = 0
                  · subst h0
                    go_wp2_with fail
                    go_meet
                    case rel => exact ⟨rfl, A2⟩
                  · have e0 : (sign == 0) = false := by simpa using h0
                    have HV : Hid ((if sign = 0 then o.sign else sign) = sign) := if_neg h0
                    clear h0
                    go_wp2_with fail
                    go_meet
                    case rel => exact ⟨by rw [HV.out], A2⟩
                case rest =>
                  clear A2 o3
                  obtain ⟨rfl, A3⟩ := hcut
                  generalize (if sign = 0 then o.sign else sign) = m at *
                  have HO : Hid (∀ w', RRd w' B s p → Calls Tryz.prog 122 #[.pointer (some ⟨B, 0, none⟩), .int .i64 o.atom, .int .i64 k, .int .u8 m] w' fun e w'' => e = .returned (.int .i64 (rorder p m o.atom k)) ∧ w'' = w') := fun w' h' => rorder_any h' o.atom k m x y gx gy
                  have hrd := A3.rd
                  obtain ⟨av, hav, oa⟩ := hrd.bonds
                  have o1 := A3.c1
                  have hfr := A3.fr
                  have f3 := hrd.free 3
                  have hBs := hrd.lt
                  have hnm := A3.nm
                  have hlM := A3.lt
                  have hMB : w.heap.size ≠ B := fun e => hnm (.inl e)
                  clear A3 gx gy
                  generalize rorder p m o.atom k = od at *
                  have hnews : Hid (∀ (t : TypeId), ∀ j u, (bndCells ⟨o.atom, k, od, start⟩)[j]? = some u → ((wc.drew).alloc (.cells #[.int .i64 o.atom, .int .i64 k, .int .i64 od] t)).cell? ((⟨wc.heap.size, 0, none⟩ : Addr).add j) = some u) := by
                    intro t j u hj
                    have hadd : (⟨wc.heap.size, 0, none⟩ : Addr).add j = ⟨wc.heap.size, j, none⟩ := by unfold Addr.add; split <;> simp_all
                    rw [hadd]
                    simpa [bndCells, go_sem] using hj
                  have h1c : Hid (∀ u ∈ bndCells ⟨o.atom, k, od, start⟩, u.oneCell' = true) := by
                    intro u hu
                    simp [bndCells] at hu
                    rcases hu with rfl | rfl | rfl <;> rfl
                  have HAV : Hid (∀ o', ((wc.drew).alloc o').cell? ⟨B, 3, none⟩ = some av) := by
                    intro o'
                    rw [World.cell?_alloc_lt _ _ _ (by simpa using hBs)]; exact hav
                  have HSO : Hid (∀ o' w2, ((wc.drew).alloc o').grownBy w2 av.ownBlock → w2.cell? ⟨w.heap.size, 1, none⟩ = some (.int .i64 o.atom)) := by
                    intro o' w2 hg
                    rw [World.cell?_of_block (w := (wc.drew).alloc o') (hg.block _ (by simpa using Nat.lt_succ_of_lt hlM) (fun e => hnm (.inr ⟨3, av, by omega, by omega, hav, e.symm⟩)))]
                    rw [World.cell?_alloc_lt _ _ _ (by simpa using hlM)]; exact o1
                  have HRD : Hid (RRd wc B s p) := hrd
                  have HOA : Hid (wc.ownsRow (B + 1) 46 3 av p.bonds.length (p.bonds.flatMap bndCells)) := oa
                  have HFR : Hid (RFr B w wc) := hfr
                  clear hrd oa hfr
                  go_wp2_with fail
                  go_region_law (first | (refine step_append_mine rfl (.tmp 96) (.tmp 107) 37 rfl (B + 1) 46 i0 (.agg #[.int .i64 0, .int .i64 0, .int .i64 0]) 3 24 Tryz.underlying37 hi hz0 hz1 hz2 rfl (by decide) av p.bonds.length (p.bonds.flatMap bndCells) rfl (by exact (HOA.out.drew).alloc _) ⟨wc.heap.size, 0, none⟩ 1 1 (bndCells ⟨o.atom, k, od, start⟩) rfl rfl (by exact hnews.out _) h1c.out (by unfold maxLen; omega) (by omega) (by simp; omega) ?_; intro v' w2 ho hg hk; obtain ⟨ao, cap, hv'⟩ := ownsRow_shape ho; subst hv'; have X := ((HRD.out.drew.rl).alloc _).addBond (p.bonds ++ [⟨o.atom, k, od, start⟩]) (HAV.out _) _ (by rw [List.length_append, List.flatMap_append]; exact ho) hg hk; obtain ⟨c3, f3', _⟩ := ((HRD.out.drew.rl).alloc _).grew (j := 3) (by omega) (by omega) (HAV.out _) _ hg hk; have f3x := f3' 3; have c3x := (c3 3).trans (HAV.out _)) | (go_simp; go_at_call 122; refine (HO.out _ (by first | with_reducible exact HRD.out.drew | with_reducible exact HRD.out.drew.alloc _)).mono ?_; rintro e w' ⟨rfl, rfl⟩))
                  all_goals
                    go_wp2_with fail
                    go_end0
                    exact ⟨rfl, by rw [HR.out]; exact (RL.rrd (p := { p with bonds := p.bonds ++ [⟨o.atom, k, od, start⟩] }) X.1), HFR.out.trans (((RFr.refl B wc).drew.alloc (by simpa using hBs) _).trans X.2)⟩
end
end Go.Proofs.YtcabaecbmkgclaaGreatDoor
