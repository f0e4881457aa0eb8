/-
  What holds of every state that the plain reader comes to.
  What the molecule's Sum and filled do.
  What valencesOf, missing, Contains, impliedHydrogens and firstValence do.
  What Index, Contains, firstValence, impliedHydrogens, filled, candidate and finished do.
  What branch does, by what chain does.
-/
import Derived.Test.YtcabaecbmkgclaaGreatDoorR05
import Derived.Deep.LoopGhost
namespace Go.Proofs.YtcabaecbmkgclaaGreatDoor
open Go.RowKit Bz
structure Ok (s : ByteArray) (p : St) : Prop where
  pos : p.pos ≤ s.size
  atoms : p.atoms.length ≤ 24
  bonds : p.bonds.length ≤ p.pos
  rings : ∀ n o, p.rings n = some o → ∃ fa : Nat, o.hung.atom = fa ∧ fa < p.atoms.length
  ords : ∀ b ∈ p.bonds, 1 ≤ b.o ∧ b.o ≤ 4
  hys : ∀ a ∈ p.atoms, 0 ≤ a.hy ∧ a.hy ≤ 9
  aros : ∀ a ∈ p.atoms, a.aro = true → valences a.el a.ch ≠ []

def HungOk (g : Hung) (p : St) : Prop := g.atom = -1 ∨ ∃ fa : Nat, g.atom = fa ∧ fa < p.atoms.length

theorem bondEnd_wf {s : ByteArray} {a : Nat} {p q : St} {g : Hung} (h : bondEnd s a p = .ok (g, q)) (o : Ok s p) (ha : a < p.atoms.length) : Ok s q ∧ HungOk g q ∧ q.atoms = p.atoms ∧ p.pos ≤ q.pos := by
  obtain ⟨h1, h2, h3, h4, h5, h6⟩ := bondEnd_ok h o.pos
  refine ⟨⟨h5, by rw [h1]; exact o.atoms, by rw [h2]; have := o.bonds; omega, by rw [h3, h1]; exact o.rings, by rw [h2]; exact o.ords, by rw [h1]; exact o.hys, by rw [h1]; exact o.aros⟩, .inr ⟨a, h6, by rw [h1]; exact ha⟩, h1, h4⟩

theorem link_wf {s : ByteArray} {a : Nat} {p q : St} {g : Hung} (h : link s a p = .ok (g, q)) (o : Ok s p) (ha : a < p.atoms.length) : Ok s q ∧ HungOk g q ∧ q.atoms = p.atoms ∧ p.pos ≤ q.pos := by
  unfold link at h
  split at h
  · rename_i e
    simp only [Except.ok.injEq, Prod.mk.injEq] at h
    obtain ⟨rfl, rfl⟩ := h
    have := byte_lt e (by decide)
    exact ⟨⟨by simp; omega, o.atoms, by have := o.bonds; simp; omega, o.rings, o.ords, o.hys, o.aros⟩, .inl rfl, rfl, by simp⟩
  · exact bondEnd_wf h o ha

theorem bracket_pos {s : ByteArray} {i : Nat} {x : Int × Int × Nat} (h : bracket s i = .ok x) : i < x.2.2 ∧ x.2.2 ≤ s.size := by
  unfold bracket at h
  simp only at h
  split at h
  · rename_i e
    simp only [Except.ok.injEq] at h
    subst h
    have h1 := byte_lt e (by decide)
    have h2 : i ≤ (hydro s i).2 := by
      unfold hydro
      split
      · split <;> simp
      · simp
    have h3 : (hydro s i).2 ≤ (charge s (hydro s i).2).2 := by
      unfold charge
      split
      · simp
      · split <;> simp
    simp only
    omega
  · cases h

theorem head_pos {s : ByteArray} {p : St} {g : Hung} {a : Atm} {j : Nat} (h : atomHead s g p = .ok (a, j)) : p.pos < j ∧ j ≤ s.size := by
  unfold atomHead at h
  split at h
  · split at h <;> cases h
  · rename_i el ar n he
    have hp := element_pos he
    have hi : p.pos ≤ (if (byteAt s p.pos == 91) = true then p.pos + 1 else p.pos) := by split <;> omega
    split at h
    · cases h
    · split at h
      · cases h
      · split at h
        · cases h
        · rename_i ch hy j' hb
          simp only [Except.ok.injEq, Prod.mk.injEq] at h
          obtain ⟨_, rfl⟩ := h
          split at hb
          · have := bracket_pos hb
            simp only at this
            omega
          · simp only [Except.ok.injEq, Prod.mk.injEq] at hb
            omega

theorem bracket_hy {s : ByteArray} {i : Nat} {x : Int × Int × Nat} (h : bracket s i = .ok x) : 0 ≤ x.2.1 ∧ x.2.1 ≤ 9 := by
  unfold bracket at h
  simp only at h
  split at h
  · simp only [Except.ok.injEq] at h
    subst h
    simp only
    unfold hydro
    split
    · split
      · rename_i e; simp only; omega
      · simp
    · simp
  · cases h

theorem valences_ne (el : ByteArray) (ch : Int) (h : el ≠ ⟨#[66]⟩) : valences el ch ≠ [] := by
  unfold valences
  simp only
  rw [if_neg h]
  repeat' split
  all_goals simp

theorem element_aro {s : ByteArray} {i n : Nat} {el : ByteArray} (ch : Int) (h : element s i = some (el, true, n)) : valences el ch ≠ [] := by
  unfold element at h
  simp only at h
  split at h
  · simp at h
  · split at h
    · simp at h
    · split at h
      · simp at h
      · split at h
        · rename_i e
          simp only [Option.some.injEq, Prod.mk.injEq, true_and] at h
          obtain ⟨rfl, _⟩ := h
          rcases e with e | e | e | e | e
          all_goals
            rw [e]
            exact valences_ne _ _ (by decide)
        · cases h

theorem head_info {s : ByteArray} {p : St} {g : Hung} {a : Atm} {j : Nat} (h : atomHead s g p = .ok (a, j)) : (0 ≤ a.hy ∧ a.hy ≤ 9) ∧ (a.aro = true → valences a.el a.ch ≠ []) := by
  unfold atomHead at h
  split at h
  · split at h <;> cases h
  · rename_i el ar n he
    split at h
    · cases h
    · split at h
      · cases h
      · split at h
        · cases h
        · rename_i ch hy j' hb
          simp only [Except.ok.injEq, Prod.mk.injEq] at h
          obtain ⟨rfl, rfl⟩ := h
          refine ⟨?_, fun e => ?_⟩
          · split at hb
            · exact bracket_hy hb
            · simp only [Except.ok.injEq, Prod.mk.injEq] at hb
              simp only
              omega
          · simp only at e ⊢
            subst e
            exact element_aro ch he

theorem order_bd (p : St) (m a b : Int) : 1 ≤ order p m a b ∧ order p m a b ≤ 4 := by
  unfold order
  split
  · omega
  · split
    · omega
    · split
      · omega
      · split
        · omega
        · split <;> omega

theorem atom_wf {s : ByteArray} {p q : St} {g : Hung} {k : Nat} (h : atom s g p = .ok (k, q)) (o : Ok s p) : Ok s q ∧ k < q.atoms.length ∧ p.pos < q.pos ∧ p.atoms.length ≤ q.atoms.length := by
  rw [atom_eq] at h
  cases hh : atomHead s g p with
  | error e => rw [hh] at h; cases h
  | ok x =>
    obtain ⟨a, j⟩ := x
    rw [hh] at h
    simp only [Except.ok.injEq] at h
    have hr := head_room hh o.atoms
    have hj := head_pos hh
    have hb := o.bonds
    obtain ⟨i1, i2⟩ := head_info hh
    unfold atomTail at h
    simp only [Prod.mk.injEq] at h
    obtain ⟨rfl, rfl⟩ := h
    have hri : ∀ n o', p.rings n = some o' → ∃ fa : Nat, o'.hung.atom = fa ∧ fa < (p.atoms ++ [a]).length := by
      intro n o' ho
      obtain ⟨fa, h1, h2⟩ := o.rings n o' ho
      exact ⟨fa, h1, by simp; omega⟩
    have hhy : ∀ x ∈ p.atoms ++ [a], 0 ≤ x.hy ∧ x.hy ≤ 9 := by
      intro x hx
      rcases List.mem_append.1 hx with hx | hx
      · exact o.hys x hx
      · simp at hx; subst hx; exact i1
    have har : ∀ x ∈ p.atoms ++ [a], x.aro = true → valences x.el x.ch ≠ [] := by
      intro x hx
      rcases List.mem_append.1 hx with hx | hx
      · exact o.aros x hx
      · simp at hx; subst hx; exact i2
    split
    · exact ⟨⟨hj.2, by simp; omega, by simp; omega, hri, o.ords, hhy, har⟩, by simp, hj.1, by simp⟩
    · refine ⟨⟨hj.2, by simp [Bz.bind]; omega, by simp [Bz.bind]; omega, hri, ?_, hhy, har⟩, by simp [Bz.bind], by simp [Bz.bind]; omega, by simp [Bz.bind]⟩
      intro b hb'
      simp only [Bz.bind] at hb'
      rcases List.mem_append.1 hb' with hb' | hb'
      · exact o.ords b hb'
      · simp only [List.mem_singleton] at hb'; subst hb'; exact order_bd _ _ _ _

theorem ring_wf {s : ByteArray} {a : Nat} {p q : St} (h : ring s a p = .ok q) (o : Ok s p) (ha : a < p.atoms.length) : Ok s q ∧ p.pos < q.pos ∧ p.atoms.length ≤ q.atoms.length := by
  unfold ring at h
  split at h
  · cases h
  · rename_i g p1 hbe
    obtain ⟨o1, hg, ha1, hp1⟩ := bondEnd_wf hbe o ha
    split at h
    · cases h
    · rename_i n j hrn
      obtain ⟨h1, h2⟩ := ringNumber_pos hrn
      have hb := o1.bonds
      split at h
      · simp only [Except.ok.injEq] at h
        subst h
        refine ⟨⟨h2, o1.atoms, by simp; omega, ?_, o1.ords, o1.hys, o1.aros⟩, by simp; omega, by simp [ha1]⟩
        intro m o' ho
        simp only [setRing] at ho
        split at ho
        · simp only [Option.some.injEq] at ho
          subst ho
          rcases hg with hg | hg
          · obtain ⟨_, _, _, _, _, h6⟩ := bondEnd_ok hbe o.pos
            rw [h6] at hg; omega
          · exact hg
        · exact o1.rings m o' ho
      · unfold closeRing at h
        simp only at h
        split at h
        · cases h
        · split at h
          · cases h
          · split at h
            · cases h
            · simp only [Except.ok.injEq] at h
              subst h
              refine ⟨⟨h2, o1.atoms, by simp [Bz.bind]; omega, ?_, ?_, o1.hys, o1.aros⟩, by simp [Bz.bind]; omega, by simp [Bz.bind, ha1]⟩
              · intro m o' ho
                simp only [Bz.bind, setRing] at ho
                split at ho
                · cases ho
                · exact o1.rings m o' ho
              · intro b hb'
                simp only [Bz.bind] at hb'
                rcases List.mem_append.1 hb' with hb' | hb'
                · exact o1.ords b hb'
                · simp only [List.mem_singleton] at hb'; subst hb'; exact order_bd _ _ _ _

theorem ringsOf_wf {s : ByteArray} {a : Nat} : ∀ (n : Nat) {p q : St}, ringsOf s a n p = .ok q → Ok s p → a < p.atoms.length → Ok s q ∧ p.pos ≤ q.pos ∧ p.atoms.length ≤ q.atoms.length
  | 0, p, q, h, o, _ => by simp only [ringsOf, Except.ok.injEq] at h; subst h; exact ⟨o, Nat.le_refl _, Nat.le_refl _⟩
  | n + 1, p, q, h, o, ha => by
    unfold ringsOf at h
    split at h
    · split at h
      · cases h
      · rename_i p1 hr
        obtain ⟨o1, h1, h2⟩ := ring_wf hr o ha
        obtain ⟨o2, h3, h4⟩ := ringsOf_wf n h o1 (by omega)
        exact ⟨o2, by omega, by omega⟩
    · simp only [Except.ok.injEq] at h; subst h; exact ⟨o, Nat.le_refl _, Nat.le_refl _⟩

def ChainOk (s : ByteArray) (c : Hung → St → R St) : Prop := ∀ g q q', Ok s q → HungOk g q → c g q = .ok q' → Ok s q' ∧ q.pos < q'.pos ∧ q.atoms.length ≤ q'.atoms.length

theorem Ok.step {s : ByteArray} {p : St} (o : Ok s p) (h : p.pos < s.size) : Ok s { p with pos := p.pos + 1 } := ⟨by simp; omega, o.atoms, by have := o.bonds; simp; omega, o.rings, o.ords, o.hys, o.aros⟩

theorem branch_wf {s : ByteArray} {c : Hung → St → R St} (hc : ChainOk s c) {a : Nat} {p q : St} (h : branch s c a p = .ok q) (o : Ok s p) (ha : a < p.atoms.length) : Ok s q ∧ p.pos < q.pos ∧ p.atoms.length ≤ q.atoms.length := by
  unfold branch at h
  split at h
  · cases h
  · rename_i g p1 hl
    obtain ⟨o1, hg, ha1, hp1⟩ := link_wf hl o ha
    split at h
    · cases h
    · rename_i p2 hch
      obtain ⟨o2, h1, h2⟩ := hc g p1 p2 o1 hg hch
      split at h
      · rename_i e
        simp only [Except.ok.injEq] at h
        subst h
        exact ⟨o2.step (byte_lt e (by decide)), by simp; omega, by simp; rw [← ha1]; exact h2⟩
      · cases h

theorem branches_wf {s : ByteArray} {c : Hung → St → R St} (hc : ChainOk s c) {a : Nat} : ∀ (n : Nat) {p q : St}, branches s c a n p = .ok q → Ok s p → a < p.atoms.length → Ok s q ∧ p.pos ≤ q.pos ∧ p.atoms.length ≤ q.atoms.length
  | 0, p, q, h, o, _ => by simp only [branches, Except.ok.injEq] at h; subst h; exact ⟨o, Nat.le_refl _, Nat.le_refl _⟩
  | n + 1, p, q, h, o, ha => by
    unfold branches at h
    split at h
    · rename_i e
      split at h
      · cases h
      · rename_i p1 hr
        obtain ⟨o1, h1, h2⟩ := branch_wf hc hr (o.step (byte_lt e (by decide))) ha
        simp only at h1 h2
        obtain ⟨o2, h3, h4⟩ := branches_wf hc n h o1 (by omega)
        exact ⟨o2, by omega, by omega⟩
    · simp only [Except.ok.injEq] at h; subst h; exact ⟨o, Nat.le_refl _, Nat.le_refl _⟩

theorem knot_wf {s : ByteArray} {c : Hung → St → R St} (hc : ChainOk s c) {g : Hung} {p q : St} {k : Nat} (h : knot s c g p = .ok (k, q)) (o : Ok s p) : Ok s q ∧ k < q.atoms.length ∧ p.pos < q.pos ∧ p.atoms.length ≤ q.atoms.length := by
  unfold knot at h
  split at h
  · cases h
  · rename_i k1 p1 ha
    obtain ⟨o1, h1, h2, h3⟩ := atom_wf ha o
    split at h
    · cases h
    · rename_i p2 hr
      obtain ⟨o2, h4, h5⟩ := ringsOf_wf _ hr o1 h1
      split at h
      · cases h
      · rename_i p3 hb
        obtain ⟨o3, h6, h7⟩ := branches_wf hc _ hb o2 (by omega)
        simp only [Except.ok.injEq, Prod.mk.injEq] at h
        obtain ⟨rfl, rfl⟩ := h
        exact ⟨o3, by omega, by omega, by omega⟩

theorem linkedKnot_wf {s : ByteArray} {c : Hung → St → R St} (hc : ChainOk s c) {a : Nat} {p q : St} {k : Nat} (h : linkedKnot s c a p = .ok (k, q)) (o : Ok s p) (ha : a < p.atoms.length) : Ok s q ∧ k < q.atoms.length ∧ p.pos < q.pos ∧ p.atoms.length ≤ q.atoms.length := by
  unfold linkedKnot at h
  split at h
  · cases h
  · rename_i g p1 hl
    obtain ⟨o1, hg, ha1, hp1⟩ := link_wf hl o ha
    obtain ⟨o2, h1, h2, h3⟩ := knot_wf hc h o1
    exact ⟨o2, h1, by omega, by rw [← ha1]; exact h3⟩

theorem linked_wf {s : ByteArray} {c : Hung → St → R St} (hc : ChainOk s c) : ∀ (n : Nat) {a : Nat} {p q : St}, Bz.linked s c n a p = .ok q → Ok s p → a < p.atoms.length → Ok s q ∧ p.pos ≤ q.pos ∧ p.atoms.length ≤ q.atoms.length
  | 0, a, p, q, h, o, _ => by simp only [Bz.linked, Except.ok.injEq] at h; subst h; exact ⟨o, Nat.le_refl _, Nat.le_refl _⟩
  | n + 1, a, p, q, h, o, ha => by
    unfold Bz.linked at h
    split at h
    · split at h
      · cases h
      · rename_i k1 p1 hr
        obtain ⟨o1, h1, h2, h3⟩ := linkedKnot_wf hc hr o ha
        obtain ⟨o2, h4, h5⟩ := linked_wf hc n h o1 h1
        exact ⟨o2, by omega, by omega⟩
    · simp only [Except.ok.injEq] at h; subst h; exact ⟨o, Nat.le_refl _, Nat.le_refl _⟩

theorem chain_wf (s : ByteArray) : ∀ n, ChainOk s (chain s n)
  | 0 => by intro g q q' _ _ h; simp [chain] at h
  | n + 1 => by
    intro g q q' o _ h
    unfold chain at h
    split at h
    · cases h
    · rename_i k p1 hk
      obtain ⟨o1, h1, h2, h3⟩ := knot_wf (chain_wf s n) hk o
      obtain ⟨o2, h4, h5⟩ := linked_wf (chain_wf s n) _ h o1 h1
      exact ⟨o2, by omega, by omega⟩

def part (a : Nat) (b : Bnd) : Int := if b.a = a ∨ b.b = a then (if b.o = 4 then 1 else b.o) else 0

theorem sum_take (l : List Bnd) (a k : Nat) (h : k < l.length) : Bz.sum (l.take (k + 1)) a = Bz.sum (l.take k) a + part a l[k] := by
  unfold Bz.sum
  rw [List.take_succ_eq_append_getElem h, List.map_append, List.sum_append]
  simp [part]

theorem part_bd (a : Nat) (b : Bnd) (h : 1 ≤ b.o ∧ b.o ≤ 4) : 0 ≤ part a b ∧ part a b ≤ 4 := by
  unfold part
  split
  · split <;> omega
  · omega

theorem sum_bd (l : List Bnd) (a : Nat) (h : ∀ b ∈ l, 1 ≤ b.o ∧ b.o ≤ 4) : ∀ k, k ≤ l.length → 0 ≤ Bz.sum (l.take k) a ∧ Bz.sum (l.take k) a ≤ 4 * k
  | 0, _ => by simp [Bz.sum]
  | k + 1, hk => by
    rw [sum_take l a k (by omega)]
    have h1 := sum_bd l a h k (by omega)
    have h2 := part_bd a l[k] (h _ (List.getElem_mem _))
    omega

section
variable {w : World} {B : Nat} {s : ByteArray} {p : St}
theorem Rd.bondsLen (h : Rd w B s p) : ∃ ao cap, w.cell? ⟨B, 27, none⟩ = some (.slice ao p.bonds.length cap) := by
  obtain ⟨v, hv, ho⟩ := h.bonds
  obtain ⟨ao, cap, rfl⟩ := ownsRow_shape ho
  exact ⟨ao, cap, hv⟩

/-- One round. -/
def SumAt (w : World) (l : List Bnd) (a : Nat) (k : Nat) (vs vi : Value) (wr : World) : Prop :=
  ∃ i : Nat, i ≤ l.length ∧ l.length - i ≤ k ∧ vi = .int .i64 i ∧ vs = .int .i64 (Bz.sum (l.take i) a) ∧ Below w.heap.size w wr

set_option maxRecDepth 100000 in
set_option maxHeartbeats 2000000 in
theorem sum_any (h : Rd w B s p) (a : Nat) (hb : p.bonds.length ≤ 1000) (ho : ∀ b ∈ p.bonds, 1 ≤ b.o ∧ b.o ≤ 4) :
    Calls Tryz.prog 84 #[.pointer (some ⟨B, 2, none⟩), .int .i64 a] w fun e w' => e = .returned (.int .i64 (Bz.sum p.bonds a)) ∧ Below w.heap.size w w' := by
  have hsb := sum_bd p.bonds a ho
  by_cases hl : p.bonds.length = 0
  · obtain ⟨ao, cap, hc⟩ := h.bondsLen
    rw [hl] at hc
    have he : Hid (Bz.sum p.bonds a = 0) := by unfold Hid; rw [List.eq_nil_of_length_eq_zero hl]; rfl
    clear hsb hl ho
    go_enter Tryz.func84, Tryz.ntmps84
    go_wp2_with fail
    refine wp_loop_rounds 1 ?_
    rw [rounds_succ]
    go_wp2_with fail
    go_ret
    exact ⟨ret_int he.out.symm, Below.refl _ _⟩
  · obtain ⟨g, cap, hv, hc, _, hBg, hgl⟩ := h.bondsAt (by omega)
    have HC : Hid _ := hc
    have HO : Hid _ := ho
    have HS : Hid _ := hsb
    clear hc ho hsb
    go_enter Tryz.func84, Tryz.ntmps84
    go_wp2_with fail
    go_loopg [5, 13] (p.bonds.length + 1) (fun k vs vi wr => SumAt w p.bonds a k vs vi wr)
    case atStart => exact ⟨0, by omega, by omega, rfl, by simp [Bz.sum], Below.refl _ _⟩
    case round =>
      obtain ⟨i, hi, hk, rfl, rfl, hbel⟩ := hrel
      by_cases hlt : i < p.bonds.length
      · have hsi := HS.out i hi
        have hst := sum_take p.bonds a i hlt
        have hbo := HO.out p.bonds[i] (List.getElem_mem _)
        have gi := List.getElem?_eq_getElem hlt
        have c0 := (hbel.cell (p := ⟨g, i * 4, none⟩) hgl).trans (HC.out i _ 0 _ gi rfl)
        have c1 := (hbel.cell (p := ⟨g, i * 4 + 1, none⟩) hgl).trans (HC.out i _ 1 _ gi rfl)
        have c2 := (hbel.cell (p := ⟨g, i * 4 + 2, none⟩) hgl).trans (HC.out i _ 2 _ gi rfl)
        have c3 := (hbel.cell (p := ⟨g, i * 4 + 3, none⟩) hgl).trans (HC.out i _ 3 _ gi rfl)
        have hsz := hbel.size
        have hlt' : (i : Int) < (p.bonds.length : Int) := by omega
        generalize p.bonds[i] = b at *
        obtain ⟨ba, bb, bo, bpl⟩ := b
        simp only at c0 c1 c2 c3 hbo
        have HST : Hid _ := hst
        clear hst gi
        generalize Bz.sum (p.bonds.take i) a = sm at *
        have t4 : (bo == 4) = true ∨ (bo == 4) = false := by cases (bo == 4) <;> simp
        have fin : ∀ wx, Below w.heap.size w wx → ∀ u : Int, u = sm + part a ⟨ba, bb, bo, bpl⟩ → SumAt w p.bonds a (p.bonds.length - (i + 1)) (.int .i64 u) (.int .i64 ((i : Int) + 1)) wx := by
          intro wx hx u hu
          exact ⟨i + 1, by omega, Nat.le_refl _, by go_num, by rw [HST.out, hu], hx⟩
        have FIN : Hid _ := fin
        clear fin
        by_cases hin : ba = a ∨ bb = a
        · have tin : ((ba : Int) != (a : Int)) = false ∨ ((ba : Int) != (a : Int)) = true ∧ ((bb : Int) != (a : Int)) = false := by
            by_cases e : ba = a
            · left; simp [e]
            · right
              have e2 : bb = a := by omega
              exact ⟨by simp; omega, by simp [e2]⟩
          have HP : Hid (part a ⟨ba, bb, bo, bpl⟩ = if bo = 4 then 1 else bo) := by unfold Hid part; rw [if_pos hin]
          clear hin
          rcases t4 with t4 | t4
          · have hp : Hid (part a ⟨ba, bb, bo, bpl⟩ = 1) := by unfold Hid; rw [HP.out, if_pos (by simpa using t4)]
            rcases tin with tin | ⟨tin, tin2⟩
            all_goals
              go_wp2_with fail
              go_roundg (p.bonds.length - (i + 1))
              case measure => omega
              case rel => exact FIN.out _ (hbel.alloc hsz _) _ (by rw [hp.out])
          · have hp : Hid (part a ⟨ba, bb, bo, bpl⟩ = bo) := by unfold Hid; rw [HP.out, if_neg (by simpa using t4)]
            rcases tin with tin | ⟨tin, tin2⟩
            all_goals
              go_wp2_with fail
              go_roundg (p.bonds.length - (i + 1))
              case measure => omega
              case rel => exact FIN.out _ (hbel.alloc hsz _) _ (by rw [hp.out])
        · have hp : Hid (part a ⟨ba, bb, bo, bpl⟩ = 0) := by unfold Hid part; rw [if_neg hin]
          have tin : ((ba : Int) != (a : Int)) = true := by simp; omega
          have tin2 : ((bb : Int) != (a : Int)) = true := by simp; omega
          clear hin t4
          go_wp2_with fail
          go_roundg (p.bonds.length - (i + 1))
          case measure => omega
          case rel => exact FIN.out _ (hbel.alloc hsz _) _ (by rw [hp.out]; omega)
      · have hi' : i = p.bonds.length := by omega
        have he : Hid (Bz.sum (p.bonds.take i) a = Bz.sum p.bonds a) := by unfold Hid; rw [hi', List.take_length]
        have hlt' : ¬ (i : Int) < (p.bonds.length : Int) := by omega
        clear hi'
        go_wp2_with fail
        go_ret
        exact ⟨ret_int he.out, hbel⟩
end
/-- A list of numbers lies in memory. -/
def IntsAt (w : World) (v : Value) (l : List Int) : Prop :=
  (l = [] ∧ v = .slice none 0 0) ∨ ∃ g cap, v = .slice (some ⟨g, 0, none⟩) l.length cap ∧ ∀ j x, l[j]? = some x → w.cell? ⟨g, j, none⟩ = some (.int .i64 x)

def ValPost (w : World) (l : List Int) (e : Ending) (w' : World) : Prop := ∃ v, e = .returned v ∧ IntsAt w' v l ∧ Below w.heap.size w w'

theorem valences_pick (el : ByteArray) (ch : Int) : ∃ a b c : List Int, valences el ch = (if ch > 0 then b else if ch < 0 then c else a) ∧
    ((el = ⟨#[66]⟩ ∧ a = [3] ∧ b = [] ∧ c = [4]) ∨ (el = ⟨#[67]⟩ ∧ a = [4] ∧ b = [3] ∧ c = [3]) ∨ ((el = ⟨#[78]⟩ ∨ el = ⟨#[80]⟩) ∧ a = [3, 5] ∧ b = [4] ∧ c = [2]) ∨
     (el = ⟨#[79]⟩ ∧ a = [2] ∧ b = [3] ∧ c = [1]) ∨ (el = ⟨#[83]⟩ ∧ a = [2, 4, 6] ∧ b = [3, 5] ∧ c = [1]) ∨
     ((el ≠ ⟨#[66]⟩ ∧ el ≠ ⟨#[67]⟩ ∧ el ≠ ⟨#[78]⟩ ∧ el ≠ ⟨#[80]⟩ ∧ el ≠ ⟨#[79]⟩ ∧ el ≠ ⟨#[83]⟩) ∧ a = [1] ∧ b = [2] ∧ c = [0])) := by
  by_cases h1 : el = ⟨#[66]⟩
  · exact ⟨_, _, _, by unfold valences; rw [if_pos h1], .inl ⟨h1, rfl, rfl, rfl⟩⟩
  by_cases h2 : el = ⟨#[67]⟩
  · exact ⟨_, _, _, by unfold valences; simp only; rw [if_neg h1, if_pos h2], .inr (.inl ⟨h2, rfl, rfl, rfl⟩)⟩
  by_cases h3 : el = ⟨#[78]⟩ ∨ el = ⟨#[80]⟩
  · exact ⟨_, _, _, by unfold valences; simp only; rw [if_neg h1, if_neg h2, if_pos h3], .inr (.inr (.inl ⟨h3, rfl, rfl, rfl⟩))⟩
  by_cases h4 : el = ⟨#[79]⟩
  · exact ⟨_, _, _, by unfold valences; simp only; rw [if_neg h1, if_neg h2, if_neg h3, if_pos h4], .inr (.inr (.inr (.inl ⟨h4, rfl, rfl, rfl⟩)))⟩
  by_cases h5 : el = ⟨#[83]⟩
  · exact ⟨_, _, _, by unfold valences; simp only; rw [if_neg h1, if_neg h2, if_neg h3, if_neg h4, if_pos h5], .inr (.inr (.inr (.inr (.inl ⟨h5, rfl, rfl, rfl⟩))))⟩
  · exact ⟨_, _, _, by unfold valences; simp only; rw [if_neg h1, if_neg h2, if_neg h3, if_neg h4, if_neg h5], .inr (.inr (.inr (.inr (.inr ⟨⟨h1, h2, fun e => h3 (.inl e), fun e => h3 (.inr e), h4, h5⟩, rfl, rfl, rfl⟩))))⟩

/-- The charge's list. -/
def picked (ch : Int) (n p m : Value) : Value := if ch > 0 then p else if ch < 0 then m else n

set_option maxHeartbeats 400000 in
theorem byCharge_any (ch : Int) (an bn cn ap bp cp : Nat) (a b c : Option Addr) (w : World) :
    Calls Tryz.prog 110 #[.int .i64 ch, .slice a an ap, .slice b bn bp, .slice c cn cp] w fun e w' => e = .returned (picked ch (.slice a an ap) (.slice b bn bp) (.slice c cn cp)) ∧ w' = w := by
  by_cases h1 : 0 < ch
  · have e : picked ch (.slice a an ap) (.slice b bn bp) (.slice c cn cp) = .slice b bn bp := by unfold picked; rw [if_pos h1]
    rw [e]
    clear e
    go_enter Tryz.func110, Tryz.ntmps110
    go_wp2
    go_ret
    exact ⟨rfl, rfl⟩
  · by_cases h2 : ch < 0
    · have e : picked ch (.slice a an ap) (.slice b bn bp) (.slice c cn cp) = .slice c cn cp := by unfold picked; rw [if_neg h1, if_pos h2]
      rw [e]
      clear e
      go_enter Tryz.func110, Tryz.ntmps110
      go_wp2
      go_ret
      exact ⟨rfl, rfl⟩
    · have e : picked ch (.slice a an ap) (.slice b bn bp) (.slice c cn cp) = .slice a an ap := by unfold picked; rw [if_neg h1, if_neg h2]
      rw [e]
      clear e
      go_enter Tryz.func110, Tryz.ntmps110
      go_wp2
      go_ret
      exact ⟨rfl, rfl⟩

theorem picked_ints {w : World} {ch : Int} {n p m : Value} {a b c l : List Int} (hl : l = (if ch > 0 then b else if ch < 0 then c else a)) (hn : IntsAt w n a) (hp : IntsAt w p b) (hm : IntsAt w m c) : IntsAt w (picked ch n p m) l := by
  subst hl
  unfold picked
  split
  · exact hp
  · split
    · exact hm
    · exact hn

theorem intsAt_nil (w : World) : IntsAt w (.slice none 0 0) [] := .inl ⟨rfl, rfl⟩
theorem intsAt_mk {w : World} {g : Nat} {l : List Int} {cap : Nat} (h : ∀ j x, l[j]? = some x → w.cell? ⟨g, j, none⟩ = some (.int .i64 x)) : IntsAt w (.slice (some ⟨g, 0, none⟩) l.length cap) l := .inr ⟨g, cap, rfl, h⟩
theorem intsAt1 {w : World} {g : Nat} {x : Int} {cap : Nat} (h : w.cell? ⟨g, 0, none⟩ = some (.int .i64 x)) : IntsAt w (.slice (some ⟨g, 0, none⟩) 1 cap) [x] := intsAt_mk (l := [x]) (by
  intro j y hj
  match j, hj with
  | 0, hj => simp at hj; subst hj; exact h)
theorem intsAt2 {w : World} {g : Nat} {x y : Int} {cap : Nat} (h : w.cell? ⟨g, 0, none⟩ = some (.int .i64 x)) (h1 : w.cell? ⟨g, 1, none⟩ = some (.int .i64 y)) : IntsAt w (.slice (some ⟨g, 0, none⟩) 2 cap) [x, y] := intsAt_mk (l := [x, y]) (by
  intro j z hj
  match j, hj with
  | 0, hj => simp at hj; subst hj; exact h
  | 1, hj => simp at hj; subst hj; exact h1)
theorem intsAt3 {w : World} {g : Nat} {x y z : Int} {cap : Nat} (h : w.cell? ⟨g, 0, none⟩ = some (.int .i64 x)) (h1 : w.cell? ⟨g, 1, none⟩ = some (.int .i64 y)) (h2 : w.cell? ⟨g, 2, none⟩ = some (.int .i64 z)) : IntsAt w (.slice (some ⟨g, 0, none⟩) 3 cap) [x, y, z] := intsAt_mk (l := [x, y, z]) (by
  intro j u hj
  match j, hj with
  | 0, hj => simp at hj; subst hj; exact h
  | 1, hj => simp at hj; subst hj; exact h1
  | 2, hj => simp at hj; subst hj; exact h2)

theorem str_ne {el : ByteArray} {c : UInt8} (h : el ≠ ⟨#[c]⟩) : (el.toList == [c]) = false := by
  rw [ByteArray.toList_eq]
  simp
  intro e
  apply h
  cases el with
  | mk d => simp at e; rw [show d = #[c] from Array.toList_inj.1 e]

set_option maxRecDepth 100000 in
set_option maxHeartbeats 2000000 in
theorem valencesOf_any (el : ByteArray) (ch : Int) (w : World) : Calls Tryz.prog 85 #[.string el, .int .i64 ch] w (ValPost w (valences el ch)) := by
  obtain ⟨a, b, c, hl, hcase⟩ := valences_pick el ch
  have HL : Hid _ := hl
  clear hl
  rcases hcase with ⟨h, rfl, rfl, rfl⟩ | ⟨h, rfl, rfl, rfl⟩ | ⟨h | h, rfl, rfl, rfl⟩ | ⟨h, rfl, rfl, rfl⟩ | ⟨h, rfl, rfl, rfl⟩ | ⟨⟨h1, h2, h3, h4, h5, h6⟩, rfl, rfl, rfl⟩
  · subst h
    go_enter Tryz.func85, Tryz.ntmps85
    go_wp2_with fail
    refine (byCharge_any _ _ _ _ _ _ _ _ _ _ _).mono ?_
    rintro e w' ⟨rfl, rfl⟩
    go_wp2_with fail
    go_ret
    refine ⟨_, rfl, picked_ints HL.out (intsAt1 (by simp [go_sem])) (intsAt_nil _) (intsAt1 (by simp [go_sem])), ?_⟩
    exact (by repeat (first | with_reducible exact Below.refl _ _ | with_reducible refine below_drewN ?_ _ | with_reducible refine Below.drew ?_ | with_reducible refine Below.setCell ?_ (by simp) _ | with_reducible refine Below.alloc ?_ (by simp; try omega) _))
  · subst h
    go_enter Tryz.func85, Tryz.ntmps85
    go_wp2_with fail
    refine (byCharge_any _ _ _ _ _ _ _ _ _ _ _).mono ?_
    rintro e w' ⟨rfl, rfl⟩
    go_wp2_with fail
    go_ret
    refine ⟨_, rfl, picked_ints HL.out (intsAt1 (by simp [go_sem])) (intsAt1 (by simp [go_sem])) (intsAt1 (by simp [go_sem])), ?_⟩
    exact (by repeat (first | with_reducible exact Below.refl _ _ | with_reducible refine below_drewN ?_ _ | with_reducible refine Below.drew ?_ | with_reducible refine Below.setCell ?_ (by simp) _ | with_reducible refine Below.alloc ?_ (by simp; try omega) _))
  · subst h
    go_enter Tryz.func85, Tryz.ntmps85
    go_wp2_with fail
    refine (byCharge_any _ _ _ _ _ _ _ _ _ _ _).mono ?_
    rintro e w' ⟨rfl, rfl⟩
    go_wp2_with fail
    go_ret
    refine ⟨_, rfl, picked_ints HL.out (intsAt2 (by simp [go_sem]) (by simp [go_sem])) (intsAt1 (by simp [go_sem])) (intsAt1 (by simp [go_sem])), ?_⟩
    exact (by repeat (first | with_reducible exact Below.refl _ _ | with_reducible refine below_drewN ?_ _ | with_reducible refine Below.drew ?_ | with_reducible refine Below.setCell ?_ (by simp) _ | with_reducible refine Below.alloc ?_ (by simp; try omega) _))
  · subst h
    go_enter Tryz.func85, Tryz.ntmps85
    go_wp2_with fail
    refine (byCharge_any _ _ _ _ _ _ _ _ _ _ _).mono ?_
    rintro e w' ⟨rfl, rfl⟩
    go_wp2_with fail
    go_ret
    refine ⟨_, rfl, picked_ints HL.out (intsAt2 (by simp [go_sem]) (by simp [go_sem])) (intsAt1 (by simp [go_sem])) (intsAt1 (by simp [go_sem])), ?_⟩
    exact (by repeat (first | with_reducible exact Below.refl _ _ | with_reducible refine below_drewN ?_ _ | with_reducible refine Below.drew ?_ | with_reducible refine Below.setCell ?_ (by simp) _ | with_reducible refine Below.alloc ?_ (by simp; try omega) _))
  · subst h
    go_enter Tryz.func85, Tryz.ntmps85
    go_wp2_with fail
    refine (byCharge_any _ _ _ _ _ _ _ _ _ _ _).mono ?_
    rintro e w' ⟨rfl, rfl⟩
    go_wp2_with fail
    go_ret
    refine ⟨_, rfl, picked_ints HL.out (intsAt1 (by simp [go_sem])) (intsAt1 (by simp [go_sem])) (intsAt1 (by simp [go_sem])), ?_⟩
    exact (by repeat (first | with_reducible exact Below.refl _ _ | with_reducible refine below_drewN ?_ _ | with_reducible refine Below.drew ?_ | with_reducible refine Below.setCell ?_ (by simp) _ | with_reducible refine Below.alloc ?_ (by simp; try omega) _))
  · subst h
    go_enter Tryz.func85, Tryz.ntmps85
    go_wp2_with fail
    refine (byCharge_any _ _ _ _ _ _ _ _ _ _ _).mono ?_
    rintro e w' ⟨rfl, rfl⟩
    go_wp2_with fail
    go_ret
    refine ⟨_, rfl, picked_ints HL.out (intsAt3 (by simp [go_sem]) (by simp [go_sem]) (by simp [go_sem])) (intsAt2 (by simp [go_sem]) (by simp [go_sem])) (intsAt1 (by simp [go_sem])), ?_⟩
    exact (by repeat (first | with_reducible exact Below.refl _ _ | with_reducible refine below_drewN ?_ _ | with_reducible refine Below.drew ?_ | with_reducible refine Below.setCell ?_ (by simp) _ | with_reducible refine Below.alloc ?_ (by simp; try omega) _))
  · have t1 := str_ne h1
    have t2 := str_ne h2
    have t3 := str_ne h3
    have t4 := str_ne h4
    have t5 := str_ne h5
    have t6 := str_ne h6
    clear h1 h2 h3 h4 h5 h6
    go_enter Tryz.func85, Tryz.ntmps85
    go_wp2_with fail
    refine (byCharge_any _ _ _ _ _ _ _ _ _ _ _).mono ?_
    rintro e w' ⟨rfl, rfl⟩
    go_wp2_with fail
    go_ret
    refine ⟨_, rfl, picked_ints HL.out (intsAt1 (by simp [go_sem])) (intsAt1 (by simp [go_sem])) (intsAt1 (by simp [go_sem])), ?_⟩
    exact (by repeat (first | with_reducible exact Below.refl _ _ | with_reducible refine below_drewN ?_ _ | with_reducible refine Below.drew ?_ | with_reducible refine Below.setCell ?_ (by simp) _ | with_reducible refine Below.alloc ?_ (by simp; try omega) _))

theorem missing_cons (v : Int) (l : List Int) (n : Int) : missing (v :: l) n = if n ≤ v then v - n else missing l n := by
  unfold missing
  rw [List.find?_cons]
  by_cases h : n ≤ v <;> simp [h]

theorem intsAt_below {w w' : World} {v : Value} {l : List Int} (h : IntsAt w v l) (hb : Below w.heap.size w w') : IntsAt w' v l := by
  rcases h with ⟨rfl, rfl⟩ | ⟨g, cap, rfl, hc⟩
  · exact .inl ⟨rfl, rfl⟩
  · refine .inr ⟨g, cap, rfl, fun j x hj => ?_⟩
    have := hc j x hj
    rw [hb.cell (p := ⟨g, j, none⟩) (World.block_lt_of_cell? w _ this)]
    exact this

theorem drop_cons {l : List Int} {i : Nat} {x : Int} (h : l[i]? = some x) : l.drop i = x :: l.drop (i + 1) := by
  obtain ⟨h1, h2⟩ := List.getElem?_eq_some_iff.1 h
  rw [List.drop_eq_getElem_cons h1, h2]

set_option maxRecDepth 100000 in
set_option maxHeartbeats 2000000 in
theorem missing_any (w : World) (v : Value) (l : List Int) (n : Int) (hv : IntsAt w v l) (hl : l.length ≤ 10) (hn : 0 ≤ n ∧ n ≤ 100000) (hx : ∀ x ∈ l, 0 ≤ x ∧ x ≤ 9) :
    Calls Tryz.prog 137 #[v, .int .i64 n] w fun e w' => e = .returned (.int .i64 (missing l n)) ∧ w' = w := by
  rcases hv with ⟨rfl, rfl⟩ | ⟨g, cap, rfl, hc⟩
  · have he : Hid (missing [] n = 0) := rfl
    go_enter Tryz.func137, Tryz.ntmps137
    go_wp2_with fail
    refine wp_loop_rounds 1 ?_
    rw [rounds_succ]
    go_wp2_with fail
    go_ret
    exact ⟨ret_int he.out.symm, rfl⟩
  · have HC : Hid _ := hc
    have HX : Hid _ := hx
    clear hc hx
    go_enter Tryz.func137, Tryz.ntmps137
    go_wp2_with fail
    go_loopg [9] (l.length + 1) (fun k vi wr => ∃ i : Nat, i ≤ l.length ∧ l.length - i ≤ k ∧ vi = .int .i64 i ∧ missing l n = missing (l.drop i) n ∧ wr = w)
    case atStart => exact ⟨0, by omega, by omega, rfl, by simp, rfl⟩
    case round =>
      obtain ⟨i, hi, hk, rfl, hm, rfl⟩ := hrel
      have HM : Hid _ := hm
      clear hm
      by_cases hlt : i < l.length
      · have gi := List.getElem?_eq_getElem hlt
        have c0 := HC.out i _ gi
        have hxi := HX.out l[i] (List.getElem_mem _)
        have hd := drop_cons gi
        have hmc := missing_cons l[i] (l.drop (i + 1)) n
        rw [← hd] at hmc
        have HMC : Hid _ := HM.out.trans hmc
        have hlt' : (i : Int) < (l.length : Int) := by omega
        clear hd hmc gi
        generalize l[i] = x at *
        by_cases hxn : n ≤ x
        · rw [if_pos hxn] at HMC
          go_wp2_with fail
          go_ret
          exact ⟨ret_int HMC.out.symm, rfl⟩
        · rw [if_neg hxn] at HMC
          go_wp2_with fail
          go_roundg (l.length - (i + 1))
          case measure => omega
          case rel => exact ⟨i + 1, by omega, Nat.le_refl _, by go_num, HMC.out, rfl⟩
      · have hlt' : ¬ (i : Int) < (l.length : Int) := by omega
        have he : Hid (missing (l.drop i) n = 0) := by unfold Hid; rw [List.drop_eq_nil_of_le (by omega)]; rfl
        go_wp2_with fail
        go_ret
        exact ⟨ret_int (HM.out.trans he.out).symm, rfl⟩

def IdxOk (l : List Int) (n r : Int) : Prop := decide (0 ≤ r) = l.contains n

set_option maxRecDepth 100000 in
set_option maxHeartbeats 2000000 in
theorem index_any (w : World) (v : Value) (l : List Int) (n : Int) (hv : IntsAt w v l) (hl : l.length ≤ 10) :
    Calls Tryz.prog 158 #[v, .int .i64 n] w fun e w' => ∃ r : Int, e = .returned (.int .i64 r) ∧ IdxOk l n r ∧ w' = w := by
  rcases hv with ⟨rfl, rfl⟩ | ⟨g, cap, rfl, hc⟩
  · go_enter Tryz.func158, Tryz.ntmps158
    go_wp2_with fail
    refine wp_loop_rounds 1 ?_
    rw [rounds_succ]
    go_wp2_with fail
    go_ret
    exact ⟨-1, rfl, by unfold IdxOk; simp, rfl⟩
  · have HC : Hid _ := hc
    clear hc
    go_enter Tryz.func158, Tryz.ntmps158
    go_wp2_with fail
    go_loopg [8] (l.length + 1) (fun k vi wr => ∃ i : Nat, i ≤ l.length ∧ l.length - i ≤ k ∧ vi = .int .i64 i ∧ l.contains n = (l.drop i).contains n ∧ wr = w)
    case atStart => exact ⟨0, by omega, by omega, rfl, by simp, rfl⟩
    case round =>
      obtain ⟨i, hi, hk, rfl, hm, rfl⟩ := hrel
      have HM : Hid _ := hm
      clear hm
      by_cases hlt : i < l.length
      · have gi := List.getElem?_eq_getElem hlt
        have c0 := HC.out i _ gi
        have hd := drop_cons gi
        have hlt' : (i : Int) < (l.length : Int) := by omega
        have HD : Hid _ := hd
        clear hd gi
        generalize l[i] = x at *
        by_cases hxn : n = x
        · have tx : (n == x) = true := by simpa using hxn
          have he : Hid (l.contains n = true) := by unfold Hid; rw [HM.out, HD.out, hxn]; simp
          clear hxn
          go_wp2_with fail
          go_ret
          exact ⟨_, rfl, by unfold IdxOk; rw [he.out]; simp, rfl⟩
        · have tx : (n == x) = false := by simpa using hxn
          have he : Hid (l.contains n = (l.drop (i + 1)).contains n) := by unfold Hid; rw [HM.out, HD.out, List.contains_cons, tx, Bool.false_or]
          clear hxn
          go_wp2_with fail
          go_roundg (l.length - (i + 1))
          case measure => omega
          case rel => exact ⟨i + 1, by omega, Nat.le_refl _, by go_num, he.out, rfl⟩
      · have hlt' : ¬ (i : Int) < (l.length : Int) := by omega
        have he : Hid (l.contains n = false) := by unfold Hid; rw [HM.out, List.drop_eq_nil_of_le (by omega)]; rfl
        go_wp2_with fail
        go_ret
        exact ⟨-1, rfl, by unfold IdxOk; rw [he.out]; rfl, rfl⟩

set_option maxHeartbeats 400000 in
theorem contains_any (w : World) (v : Value) (l : List Int) (n : Int) (hv : IntsAt w v l) (hl : l.length ≤ 10) :
    Calls Tryz.prog 139 #[v, .int .i64 n] w fun e w' => e = .returned (.bool (l.contains n)) ∧ w' = w := by
  have hI := index_any w v l n hv hl
  go_enter Tryz.func139, Tryz.ntmps139
  go_wp2_with fail
  refine hI.mono ?_
  rintro e w' ⟨r, rfl, hr, rfl⟩
  have HR : Hid _ := hr
  clear hr
  go_wp2_with fail
  go_ret
  exact ⟨ret_bool HR.out, rfl⟩

def aV (a : Atm) : Value := .agg #[.string a.el, .bool a.aro, .int .i64 a.ch, .int .i64 a.hy]

theorem valences_len (el : ByteArray) (ch : Int) : (valences el ch).length ≤ 3 ∧ ∀ x ∈ valences el ch, 0 ≤ x ∧ x ≤ 9 := by
  obtain ⟨a, b, c, hl, hc⟩ := valences_pick el ch
  rw [hl]
  rcases hc with ⟨_, rfl, rfl, rfl⟩ | ⟨_, rfl, rfl, rfl⟩ | ⟨_, rfl, rfl, rfl⟩ | ⟨_, rfl, rfl, rfl⟩ | ⟨_, rfl, rfl, rfl⟩ | ⟨_, rfl, rfl, rfl⟩
  all_goals
    split
    · simp
    · split <;> simp

set_option maxHeartbeats 1000000 in
theorem firstValence_any (a : Atm) (x : Int) (r : List Int) (hx : valences a.el a.ch = x :: r) (w : World) :
    Calls Tryz.prog 61 #[aV a] w fun e w' => e = .returned (.int .i64 x) ∧ Below w.heap.size w w' := by
  unfold aV
  go_enter Tryz.func61, Tryz.ntmps61
  go_wp2_with fail
  refine (valencesOf_any _ _ _).mono ?_
  rintro e w1 ⟨v, rfl, hv, hb⟩
  rw [hx] at hv
  rcases hv with ⟨h, _⟩ | ⟨g, cap, rfl, hc⟩
  · cases h
  · have c0 := hc 0 x rfl
    have hl : (x :: r).length = r.length + 1 := rfl
    rw [hl]
    clear hx hc hl
    go_wp2_with fail
    go_ret
    exact ⟨rfl, ((Below.refl _ _).alloc (Nat.le_refl _) _).trans (hb.mono (by simp))⟩

set_option maxHeartbeats 1000000 in
theorem implied_any (a : Atm) (n : Int) (hn : 0 ≤ n ∧ n ≤ 100000) (w : World) :
    Calls Tryz.prog 108 #[aV a, .int .i64 n] w fun e w' => e = .returned (.int .i64 (implied a n)) ∧ Below w.heap.size w w' := by
  unfold aV
  cases ha : a.aro
  · have HI : Hid (implied a n = missing (valences a.el a.ch) n) := by unfold Hid implied; rw [ha]; rfl
    clear ha
    go_enter Tryz.func108, Tryz.ntmps108
    go_wp2_with fail
    refine (valencesOf_any _ _ _).mono ?_
    rintro e w1 ⟨v, rfl, hv, hb⟩
    have hM := missing_any w1 v _ n hv (by have := (valences_len a.el a.ch).1; omega) hn (valences_len a.el a.ch).2
    clear hv
    go_wp2_with fail
    refine hM.mono ?_
    rintro e w2 ⟨rfl, rfl⟩
    go_wp2_with fail
    go_ret
    exact ⟨ret_int HI.out.symm, ((Below.refl _ _).alloc (Nat.le_refl _) _).trans (hb.mono (by simp))⟩
  · obtain ⟨n0, n1⟩ := hn
    by_cases hc : a.el = ⟨#[67]⟩
    · have HI : Hid (implied a n = max (3 - n) 0) := by unfold Hid implied; rw [ha, if_pos rfl, if_pos hc]
      rw [hc]
      clear ha hc
      by_cases h3 : n ≤ 3
      · have e : Hid (max (3 - n) 0 = 3 - n) := by unfold Hid; omega
        go_enter Tryz.func108, Tryz.ntmps108
        go_wp2_with fail
        go_ret
        exact ⟨ret_int (HI.out.trans e.out).symm, (Below.refl _ _).alloc (Nat.le_refl _) _⟩
      · have e : Hid (max (3 - n) 0 = 0) := by unfold Hid; omega
        go_enter Tryz.func108, Tryz.ntmps108
        go_wp2_with fail
        go_ret
        exact ⟨ret_int (HI.out.trans e.out).symm, (Below.refl _ _).alloc (Nat.le_refl _) _⟩
    · have HI : Hid (implied a n = 0) := by unfold Hid implied; rw [ha, if_pos rfl, if_neg hc]
      have tc := str_ne hc
      clear ha hc
      go_enter Tryz.func108, Tryz.ntmps108
      go_wp2_with fail
      go_ret
      exact ⟨ret_int HI.out.symm, (Below.refl _ _).alloc (Nat.le_refl _) _⟩
def ChainW (s : ByteArray) (n : Nat) : Prop := ∀ (w : World) (B : Nat) (g : Hung) (p : St), Rd w B s p → Ok s p → HungOk g p → s.size - p.pos < n →
  Calls Tryz.prog 55 #[.pointer (some ⟨B, 0, none⟩), hungV g] w (StPost w B s (Bz.chain s n g p))

section
variable {w : World} {B : Nat} {s : ByteArray} {p : St}
theorem Wrong.alloc {w : World} {B : Nat} {e : Int × Int} (h : Wrong w B e) (o : Obj) : Wrong (w.alloc o) B e :=
  ⟨by rw [World.cell?_alloc_lt _ _ _ (World.block_lt_of_cell? w _ h.err)]; exact h.err, by rw [World.cell?_alloc_lt _ _ _ (World.block_lt_of_cell? w _ h.plc)]; exact h.plc⟩

set_option maxRecDepth 100000 in
set_option maxHeartbeats 2000000 in
theorem branch_any {n : Nat} (hC : ChainW s n) (hs : s.size ≤ 160) (h : Rd w B s p) (o : Ok s p) (a : Nat) (ha : a < p.atoms.length) (hn : s.size - p.pos < n) :
    Calls Tryz.prog 106 #[.pointer (some ⟨B, 0, none⟩), .int .i64 a] w (StPost w B s (Bz.branch s (Bz.chain s n) a p)) := by
  have hB := h.lt
  have hL := link_any h hs o.pos a ha o.atoms
  go_enter Tryz.func106, Tryz.ntmps106
  go_wp2_with fail
  refine hL.mono ?_
  rintro e w1 ⟨hm, hf1⟩
  clear hL
  cases hl : link s a p with
  | error er =>
    rw [hl] at hm
    obtain ⟨⟨g, rfl⟩, hw1⟩ := hm
    have HR : Hid (Bz.branch s (Bz.chain s n) a p = .error er) := by unfold Hid Bz.branch; rw [hl]
    clear hl
    unfold hungV
    go_wp2_with fail
    go_ret
    exact StPost.error HR.out rfl (hw1.alloc _) (hf1.allocL hB _)
  | ok x =>
    obtain ⟨g, q⟩ := x
    rw [hl] at hm
    obtain ⟨rfl, hr1⟩ := hm
    simp only at hr1
    obtain ⟨oq, hg, qa, qp⟩ := link_wf hl o ha
    have hCh := hC _ B g q (hr1.alloc (.cells #[.int .u8 g.mark, .int .i64 g.spot, .int .i64 g.atom] 92)) oq hg (by omega)
    unfold hungV at hCh
    have f1 := hf1.allocL hB (.cells #[.int .u8 g.mark, .int .i64 g.spot, .int .i64 g.atom] 92)
    have HL : Hid _ := hl
    clear hl
    unfold hungV
    go_wp2_with fail
    refine hCh.mono ?_
    rintro e w2 ⟨hm, hf2⟩
    clear hCh
    cases hc : Bz.chain s n g q with
    | error er =>
      rw [hc] at hm
      obtain ⟨rfl, hw2⟩ := hm
      have HR : Hid (Bz.branch s (Bz.chain s n) a p = .error er) := by unfold Hid Bz.branch; rw [HL.out]; simp only; rw [hc]
      clear hc
      go_wp2_with fail
      go_ret
      exact StPost.error HR.out rfl hw2 (f1.trans hf2)
    | ok r =>
      rw [hc] at hm
      obtain ⟨rfl, hr2⟩ := hm
      obtain ⟨o2, _, _⟩ := chain_wf s n g q r oq hg hc
      have HR : Hid (Bz.branch s (Bz.chain s n) a p = if byteAt s r.pos = 41 then .ok { r with pos := r.pos + 1 } else .error (2, (r.pos : Int))) := by unfold Hid Bz.branch; rw [HL.out]; simp only; rw [hc]
      have hT := take1 hr2 hs o2.pos 41 41 rfl (by decide)
      clear hc
      by_cases h41 : byteAt s r.pos = 41
      · simp only [h41, if_true, BEq.rfl] at hT
        rw [if_pos h41] at HR
        clear h41
        go_wp2_with fail
        refine hT.mono ?_
        rintro e w3 ⟨rfl, hr3, hf3⟩
        go_wp2_with fail
        go_ret
        exact StPost.ok HR.out rfl hr3 ((f1.trans hf2).trans hf3)
      · have t41 : (byteAt s r.pos == 41) = false := by simpa using h41
        simp only [h41, t41, if_false] at hT
        rw [if_neg h41] at HR
        clear h41 t41
        go_wp2_with fail
        refine hT.mono ?_
        rintro e w3 ⟨rfl, hr3, hf3⟩
        have q3 := hr3.pos
        go_wp2_with fail
        go_region_with (go_at_call 57; refine (fail_any hr3.drew _ _).mono ?_; rintro e w' ⟨rfl, hw, hf6⟩)
        all_goals
          go_wp2_with fail
          go_ret
          exact StPost.error HR.out rfl hw ((((f1.trans hf2).trans hf3).drew).trans hf6)

set_option maxRecDepth 100000 in
set_option maxHeartbeats 2000000 in
theorem linkedKnot_any {n : Nat} (hs : s.size ≤ 160) (h : Rd w B s p) (o : Ok s p) (a : Nat) (ha : a < p.atoms.length)
    (hK : ∀ (w : World) (g : Hung) (q : St), Rd w B s q → Ok s q → HungOk g q → p.pos ≤ q.pos → Calls Tryz.prog 79 #[.pointer (some ⟨B, 0, none⟩), hungV g] w (AtPost w B s (Bz.knot s (Bz.chain s n) g q))) :
    Calls Tryz.prog 81 #[.pointer (some ⟨B, 0, none⟩), .int .i64 a] w (AtPost w B s (Bz.linkedKnot s (Bz.chain s n) a p)) := by
  have hB := h.lt
  have hL := link_any h hs o.pos a ha o.atoms
  have HK : Hid _ := hK
  clear hK
  go_enter Tryz.func81, Tryz.ntmps81
  go_wp2_with fail
  refine hL.mono ?_
  rintro e w1 ⟨hm, hf1⟩
  clear hL
  cases hl : link s a p with
  | error er =>
    rw [hl] at hm
    obtain ⟨⟨g, rfl⟩, hw1⟩ := hm
    have HR : Hid (Bz.linkedKnot s (Bz.chain s n) a p = .error er) := by unfold Hid Bz.linkedKnot; rw [hl]
    clear hl
    unfold hungV
    go_wp2_with fail
    go_ret2
    exact AtPost.error 0 HR.out rfl (hw1.alloc _) (hf1.allocL hB _)
  | ok x =>
    obtain ⟨g, q⟩ := x
    rw [hl] at hm
    obtain ⟨rfl, hr1⟩ := hm
    simp only at hr1
    obtain ⟨oq, hg, qa, qp⟩ := link_wf hl o ha
    have hCh := HK.out _ g q (hr1.alloc (.cells #[.int .u8 g.mark, .int .i64 g.spot, .int .i64 g.atom] 92)) oq hg qp
    unfold hungV at hCh
    have f1 := hf1.allocL hB (.cells #[.int .u8 g.mark, .int .i64 g.spot, .int .i64 g.atom] 92)
    have HR : Hid (Bz.linkedKnot s (Bz.chain s n) a p = Bz.knot s (Bz.chain s n) g q) := by unfold Hid Bz.linkedKnot; rw [hl]
    clear hl
    unfold hungV
    go_wp2_with fail
    refine hCh.mono ?_
    rintro e w2 ⟨hm, hf2⟩
    clear hCh
    cases hc : Bz.knot s (Bz.chain s n) g q with
    | error er =>
      rw [hc] at hm HR
      obtain ⟨⟨v, rfl⟩, hw2⟩ := hm
      clear hc
      go_wp2_with fail
      go_ret2
      exact AtPost.error v HR.out rfl hw2 (f1.trans hf2)
    | ok r =>
      rw [hc] at hm HR
      obtain ⟨rfl, hr2⟩ := hm
      clear hc
      go_wp2_with fail
      go_ret2
      exact AtPost.ok (k := r.1) (q := r.2) HR.out rfl hr2 (f1.trans hf2)
end
end Go.Proofs.YtcabaecbmkgclaaGreatDoor
