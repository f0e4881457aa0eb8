/-
  The document's bound and closes.
-/
import Derived.Test.YtcabaecbmkgclaaGreatDoorP07
import Derived.Deep.LoopGhost

namespace Go.Proofs.YtcabaecbmkgclaaGreatDoor
open Go.RowKit Bz

def bndHit (a b : Nat) (x : Bnd) : Bool := (x.a == a && x.b == b) || (x.a == b && x.b == a)

theorem bndHit_int (a b : Nat) (x : Bnd) : bndHit a b x = (((x.a : Int) == (a : Int) && (x.b : Int) == (b : Int)) || ((x.a : Int) == (b : Int) && (x.b : Int) == (a : Int))) := by
  have h : ∀ m n : Nat, (m == n) = ((m : Int) == (n : Int)) := by intro m n; rw [Bool.eq_iff_iff]; simp; omega
  unfold bndHit
  rw [h, h, h, h]

theorem bonded_true {l : List Bnd} {a b i : Nat} {x : Bnd} (hi : l[i]? = some x) (h : bndHit a b x = true) : bonded l a b = true :=
  List.any_eq_true.2 ⟨x, List.mem_of_getElem? hi, h⟩
theorem bonded_false {l : List Bnd} {a b : Nat} (h : ∀ (i : Nat) x, l[i]? = some x → bndHit a b x = false) : bonded l a b = false := by
  unfold bonded
  rw [List.any_eq_false]
  intro x hx
  obtain ⟨i, hi⟩ := List.getElem?_of_mem hx
  have := h i x hi
  unfold bndHit at this
  rw [this]; decide


section
variable {w : World} {B : Nat} {s : ByteArray} {p : RSt}

theorem RRd.bondAt (h : RRd w B s p) {k : Nat} {x : Bnd} (hk : p.bonds[k]? = some x) : ∃ g cap, w.cell? ⟨B, 3, none⟩ = some (.slice (some ⟨g, 0, none⟩) p.bonds.length cap) ∧
    w.cell? ⟨g, k * 3, none⟩ = some (.int .i64 x.a) ∧ w.cell? ⟨g, k * 3 + 1, none⟩ = some (.int .i64 x.b) ∧ w.cell? ⟨g, k * 3 + 2, none⟩ = some (.int .i64 x.o) ∧ g < w.heap.size := by
  obtain ⟨v, hv, ho⟩ := h.bonds
  have hl : k < p.bonds.length := (List.getElem?_eq_some_iff.1 hk).1
  obtain ⟨g, cap, rfl, h1, h2, h3, h4⟩ := ownsRow_at ho (by omega)
  refine ⟨g, cap, hv, ?_, ?_, ?_, h2⟩
  · have := flatMap_get bndCells 3 bndCells_len _ k 0 x hk (by omega)
    rw [Nat.add_zero] at this
    rw [h3 (k * 3) (by omega), this]
    rfl
  · rw [h3 (k * 3 + 1) (by omega), flatMap_get bndCells 3 bndCells_len _ k 1 x hk (by omega)]
    rfl
  · rw [h3 (k * 3 + 2) (by omega), flatMap_get bndCells 3 bndCells_len _ k 2 x hk (by omega)]
    rfl

set_option maxRecDepth 100000 in
set_option maxHeartbeats 2000000 in
theorem rbound_any (h : RRd w B s p) (a b : Nat) (hl : p.bonds.length ≤ 1000) :
    Calls Tryz.prog 149 #[.pointer (some ⟨B, 0, none⟩), .int .i64 a, .int .i64 b] w fun e w' => e = .returned (.bool (bonded p.bonds a b)) ∧ Below w.heap.size w w' := by
  have HH : Hid _ := h
  clear h
  go_enter Tryz.func149, Tryz.ntmps149
  go_wp2_with fail
  go_loopg [7] (p.bonds.length + 1) (fun k vi wr => ∃ i : Nat, i ≤ p.bonds.length ∧ p.bonds.length - i ≤ k ∧ vi = .int .i64 i ∧ Below w.heap.size w wr ∧ ∀ (j : Nat) x, j < i → p.bonds[j]? = some x → bndHit a b x = false)
  case atStart => exact ⟨0, by omega, by omega, rfl, Below.refl _ _, by intro j x hj; omega⟩
  case round =>
    rename_i wr
    obtain ⟨i, hi, hk, rfl, hb, hall⟩ := hrel
    have HA : Hid _ := hall
    clear hall
    have hr := HH.out.below hb
    obtain ⟨v, hv, ho⟩ := hr.bonds
    obtain ⟨ao, cap, rfl⟩ := ownsRow_shape ho
    have HBe : Hid _ := hb
    have hsz := hb.size
    clear hb ho
    by_cases hlt : i < p.bonds.length
    · have hlt' : (i : Int) < (p.bonds.length : Int) := by omega
      have gx := List.getElem?_eq_getElem hlt
      generalize p.bonds[i] = x at gx
      obtain ⟨g, cap', c3, ca, cb, co, hg⟩ := hr.bondAt gx
      rw [hv] at c3
      simp only [Option.some.injEq, Value.slice.injEq] at c3
      obtain ⟨rfl, _, rfl⟩ := c3
      have HG : Hid _ := gx
      have HB : Hid _ := bndHit_int a b x
      clear gx hr
      cases e1 : ((x.a : Int) == (a : Int)) <;> cases e2 : ((x.b : Int) == (b : Int)) <;> cases e3 : ((x.a : Int) == (b : Int)) <;> cases e4 : ((x.b : Int) == (a : Int))
      all_goals
        rw [e1, e2, e3, e4] at HB
        go_wp2_with fail
        first
        | (go_ret
           exact ⟨ret_bool (bonded_true HG.out HB.out).symm, by repeat (first | with_reducible exact HBe.out | with_reducible refine Below.setCell ?_ hsz _ | with_reducible refine Below.alloc ?_ hsz _)⟩)
        | (go_roundg (p.bonds.length - (i + 1))
           case measure => omega
           case rel =>
             refine ⟨i + 1, by omega, Nat.le_refl _, by go_num, by repeat (first | with_reducible exact HBe.out | with_reducible refine Below.setCell ?_ hsz _ | with_reducible refine Below.alloc ?_ hsz _), ?_⟩
             intro j y hj hy
             by_cases e : j = i
             · subst e
               rw [HG.out] at hy
               cases hy
               exact HB.out
             · exact HA.out j y (by omega) hy)
    · have hlt' : ¬ (i : Int) < (p.bonds.length : Int) := by omega
      have HC : Hid (bonded p.bonds a b = false) := bonded_false fun j x hx => HA.out j x (by have := (List.getElem?_eq_some_iff.1 hx).1; omega) hx
      go_wp2_with fail
      go_ret
      exact ⟨ret_bool HC.out.symm, HBe.out⟩
end
end Go.Proofs.YtcabaecbmkgclaaGreatDoor
