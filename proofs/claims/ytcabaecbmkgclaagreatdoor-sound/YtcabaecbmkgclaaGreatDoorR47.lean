/-
  The text that is written is read as the same molecule, with its double bonds (no program).
  What Kekulize writes is what it set: the text read again, the sums of the orders.
  Sound: its helpers.
  Sound: the sum of an atom's orders.
  Sound: what is known of what was set, and of its text read again.
-/
import Derived.Test.YtcabaecbmkgclaaGreatDoorR44
import Derived.Test.YtcabaecbmkgclaaGreatDoorR46
import Derived.Deep.LoopGhost
namespace Go.Proofs.YtcabaecbmkgclaaGreatDoor.Kd
open Bz Mt
/-- How many bonds of an atom are made double. -/
def dAt (l : List Bnd) (d : Nat → Bool) (x : Nat) : Int := (l.map fun b => if (b.a = x ∨ b.b = x) ∧ b.o = 4 ∧ d b.pl = true then (1 : Int) else 0).sum

theorem sum_tri {l l' : List Bnd} {d : Nat → Bool} (h : l'.map tri = l.map (newT d)) (x : Nat) : sum l' x = sum l x + dAt l d x := by
  have e1 : sum l' x = ((l'.map tri).map fun t => if t.1 = x ∨ t.2.1 = x then (if t.2.2 = 4 then 1 else t.2.2) else 0).sum := by
    unfold sum
    rw [List.map_map]
    rfl
  rw [e1, h, List.map_map]
  clear h e1
  induction l with
  | nil => rfl
  | cons b l ih =>
    unfold sum dAt at *
    rw [List.map_cons, List.map_cons, List.map_cons, List.sum_cons, List.sum_cons, List.sum_cons, ih]
    have key : (if b.a = x ∨ b.b = x then (if newO d b.o b.pl = 4 then 1 else newO d b.o b.pl) else 0) = (if b.a = x ∨ b.b = x then (if b.o = 4 then 1 else b.o) else 0) + (if (b.a = x ∨ b.b = x) ∧ b.o = 4 ∧ d b.pl = true then (1 : Int) else 0) := by
      unfold newO
      by_cases h1 : b.a = x ∨ b.b = x
      · by_cases h2 : b.o = 4
        · cases h3 : d b.pl <;> simp [h1, h2]
        · simp [h1, h2]
      · simp [h1]
    show (if b.a = x ∨ b.b = x then (if newO d b.o b.pl = 4 then 1 else newO d b.o b.pl) else 0) + _ = _
    rw [key]
    omega

/-- An atom as it is read again. -/
theorem atom_again {l l' : List Bnd} {x : Nat} {a0 A0 : Atm} {D : Int} (hok : AtOk a0) (hA : pl0 A0 = un a0) (hs : sum l' x = sum l x + D)
    (hw : wrong l x (withHydrogens l x a0) = false)
    (hD : D = if ((withHydrogens l x a0).aro && (match valences (withHydrogens l x a0).el (withHydrogens l x a0).ch with | v :: _ => sum l x + (withHydrogens l x a0).hy == v - 1 | [] => false)) = true then 1 else 0) :
    pl0 (withHydrogens l' x A0) = un (withHydrogens l x a0) ∧ wrong l' x (withHydrogens l' x A0) = false := by
  obtain ⟨el, ar, ch, hy, pl, br⟩ := a0
  obtain ⟨EL, AR, CH, HY, PL, BR⟩ := A0
  unfold pl0 un at hA
  simp only [Atm.mk.injEq] at hA
  obtain ⟨rfl, rfl, rfl, rfl, _, rfl⟩ := hA
  have hch := hok.ch
  have hel := hok.el
  simp only at hch hel
  cases ar with
  | false =>
    have hD0 : D = 0 := by
      rw [hD]
      unfold withHydrogens
      cases BR <;> rfl
    rw [hD0, Int.add_zero] at hs
    unfold withHydrogens at hw ⊢
    cases BR with
    | true =>
      simp only [if_true] at hw ⊢
      refine ⟨rfl, Eq.trans ?_ hw⟩
      unfold wrong
      simp only [hs]
    | false =>
      simp only [Bool.false_eq_true, if_false] at hw ⊢
      refine ⟨?_, ?_⟩
      · unfold implied
        rw [hs]
        rfl
      · refine Eq.trans ?_ hw
        unfold wrong implied
        simp only [hs]
  | true =>
    cases BR with
    | true =>
      have e1 : withHydrogens l x ⟨EL, true, CH, HY, pl, true⟩ = ⟨EL, true, CH, HY, pl, true⟩ := rfl
      have e2 : withHydrogens l' x ⟨EL, false, CH, HY, PL, true⟩ = ⟨EL, false, CH, HY, PL, true⟩ := rfl
      rw [e1] at hw hD
      rw [e1, e2]
      refine ⟨rfl, ?_⟩
      unfold wrong at hw ⊢
      simp only [if_true, Bool.true_and, Bool.false_eq_true, if_false] at hw hD ⊢
      cases hv : valences EL CH with
      | nil => rw [hv] at hw; cases hw
      | cons v r =>
        rw [hv] at hw hD
        simp only [List.head?_cons] at hw hD
        have hc : sum l' x + HY = v := by
          rw [hs]
          by_cases h1 : sum l x + HY = v - 1
          · have hD1 : D = 1 := hD.trans (if_pos (by simpa using h1))
            omega
          · have h2 : (sum l x + HY == v - 1) = false := by simpa using h1
            have hD0 : D = 0 := hD.trans (if_neg (by rw [h2]; decide))
            rw [h2] at hw
            simp at hw
            omega
        rw [hc]
        simp
    | false =>
      have hc0 : CH = 0 := hch rfl
      subst hc0
      have e1 : withHydrogens l x ⟨EL, true, 0, HY, pl, false⟩ = ⟨EL, true, 0, implied ⟨EL, true, 0, HY, pl, false⟩ (sum l x), pl, false⟩ := rfl
      have e2 : withHydrogens l' x ⟨EL, false, 0, HY, PL, false⟩ = ⟨EL, false, 0, missing (valences EL 0) (sum l' x), PL, false⟩ := rfl
      have ei : implied ⟨EL, true, 0, HY, pl, false⟩ (sum l x) = if EL = ⟨#[67]⟩ then max (3 - sum l x) 0 else 0 := rfl
      rw [e1, ei] at hw hD
      rw [e1, e2, ei]
      unfold wrong at hw ⊢
      simp only [if_true, Bool.true_and, Bool.false_eq_true, if_false] at hw hD ⊢
      have fin : ∀ (v : Int) (r : List Int) (h : Int), valences EL 0 = v :: r → (if EL = ⟨#[67]⟩ then max (3 - sum l x) 0 else 0) = h → (sum l x + h = v - 1 → missing (v :: r) (sum l x + 1) = h) → (sum l x + h = v → missing (v :: r) (sum l x) = h) →
          pl0 ⟨EL, false, 0, missing (valences EL 0) (sum l' x), PL, false⟩ = un ⟨EL, true, 0, if EL = ⟨#[67]⟩ then max (3 - sum l x) 0 else 0, pl, false⟩ ∧ (!(valences EL 0).contains (sum l' x + missing (valences EL 0) (sum l' x))) = false := by
        intro v r h hv hh k1 k2
        rw [hv] at hw hD ⊢
        rw [hh] at hw hD ⊢
        simp only [List.head?_cons] at hw hD
        have hc : sum l' x + h = v ∧ missing (v :: r) (sum l' x) = h := by
          rw [hs]
          by_cases h1 : sum l x + h = v - 1
          · have hD1 : D = 1 := hD.trans (if_pos (by simpa using h1))
            rw [hD1]
            exact ⟨by omega, k1 h1⟩
          · have h2 : (sum l x + h == v - 1) = false := by simpa using h1
            have hD0 : D = 0 := hD.trans (if_neg (by rw [h2]; decide))
            rw [h2] at hw
            simp at hw
            rw [hD0, Int.add_zero]
            exact ⟨hw, k2 hw⟩
        rw [hc.2, hc.1]
        exact ⟨rfl, by simp⟩
      rcases hel rfl with rfl | rfl | rfl | rfl | rfl
      · refine fin 4 [] (max (3 - sum l x) 0) rfl rfl (fun h => ?_) (fun h => ?_)
        · unfold missing
          simp only [List.find?_cons]
          rw [decide_eq_true (by omega)]
          simp only
          omega
        · unfold missing
          simp only [List.find?_cons]
          rw [decide_eq_true (by omega)]
          simp only
          omega
      · refine fin 3 [5] 0 rfl rfl (fun h => ?_) (fun h => ?_)
        · rw [show sum l x + 1 = 3 by omega]; rfl
        · rw [show sum l x = 3 by omega]; rfl
      · refine fin 2 [] 0 rfl rfl (fun h => ?_) (fun h => ?_)
        · rw [show sum l x + 1 = 2 by omega]; rfl
        · rw [show sum l x = 2 by omega]; rfl
      · refine fin 3 [5] 0 rfl rfl (fun h => ?_) (fun h => ?_)
        · rw [show sum l x + 1 = 3 by omega]; rfl
        · rw [show sum l x = 3 by omega]; rfl
      · refine fin 2 [4, 6] 0 rfl rfl (fun h => ?_) (fun h => ?_)
        · rw [show sum l x + 1 = 2 by omega]; rfl
        · rw [show sum l x = 2 by omega]; rfl

/-- THE TEXT THAT IS WRITTEN IS THAT MOLECULE. -/
theorem wr_parse {s W : ByteArray} {q0 : St} {e : Bnd → Bool} (h : parse s = .ok (q0.atoms, q0.bonds)) (hW : Bz.Rest W 0 (wr0 (dOf q0.bonds e) s 0)) (hs : W.size ≤ 160)
    (hD : ∀ x, x < q0.atoms.length → dAt q0.bonds (dOf q0.bonds e) x = if cand q0 x = true then 1 else 0) :
    ∃ ats' l', parse W = .ok (ats', l') ∧ ats'.map pl0 = q0.atoms.map un ∧ l'.map tri = q0.bonds.map (newT (dOf q0.bonds e)) := by
  obtain ⟨q, c⟩ := came h
  obtain ⟨e1, g1⟩ := chain_lx _ _ _ _ c.run (lx0 s).lx
  have hok := chain_wf s (s.size + 1) _ _ _ (ok0 s) (.inl rfl) c.run
  have hqp : q.pos = s.size := Nat.le_antisymm hok.1.pos c.pos
  obtain ⟨nb, hb1, hb2⟩ := g1.ext
  obtain ⟨na, ha1, ha2⟩ := g1.ats
  have hb0 : q.bonds = nb := by rw [hb1]; rfl
  have ha0 : q.atoms = na := by rw [ha1]; rfl
  have C : Wc (dOf q0.bonds e) s := by
    refine ⟨by rw [← hqp]; exact e1, fun y hy => ?_⟩
    obtain ⟨b, hb, k1, _⟩ := dOf_mem.1 hy
    rw [c.bonds, hb0] at hb
    have := hb2 b hb
    rw [← k1]
    exact ⟨by omega, this.2.2⟩
  have hrem : Rem q0.bonds q := ⟨[], by rw [c.bonds]; simp, by simp⟩
  have hpre : Pre Bz.start := fun b hb => by simp [Bz.start] at hb
  have hst : dOf q0.bonds e 0 = false := (chain_a (e := e) _ _ _ _ c.run hpre (lx0 s).lx hrem).2.1 rfl
  obtain ⟨Q, w1, w2, w3, w4, w5⟩ := chain_w (W := W) C (s.size + 1) (W.size + 1) ⟨0, 0, -1⟩ ⟨0, 0, -1⟩ Bz.start Bz.start q c.run (by simp [Bz.start]) ⟨rfl, by show (0 : Int) = if dOf q0.bonds e 0 then 61 else m58 0; rw [hst]; rfl, .inl rfl⟩ ⟨rfl, rfl, fun k => .inl ⟨rfl, rfl⟩⟩ (by show Bz.Rest W 0 (wr1 (dOf q0.bonds e) s 0); rw [← wr0_no hst]; exact hW) (Nat.zero_le _) hpre (lx0 s).lx hrem
  have hend : W.size ≤ Q.pos := by
    rw [(wr_ge (by omega)).1] at w3
    exact w3.end
  have hQr : ∀ k, Q.rings k = none := fun k => by
    rcases w2.rings k with ⟨_, h⟩ | ⟨o, O, h, _⟩
    · exact h
    · rw [c.rings k] at h; cases h
  have hbd : Q.bonds.map tri = q0.bonds.map (newT (dOf q0.bonds e)) := by rw [w2.bonds, c.bonds]
  have each : ∀ x A0 a0, Q.atoms[x]? = some A0 → q.atoms[x]? = some a0 → pl0 (withHydrogens Q.bonds x A0) = un (withHydrogens q.bonds x a0) ∧ wrong Q.bonds x (withHydrogens Q.bonds x A0) = false := by
    intro x A0 a0 hA ha
    have hax : q0.atoms[x]? = some (withHydrogens q.bonds x a0) := by rw [c.atoms, List.getElem?_mapIdx, ha]; rfl
    have hlt : x < q0.atoms.length := (List.getElem?_eq_some_iff.1 hax).1
    refine atom_again (D := dAt q0.bonds (dOf q0.bonds e) x) (ha2 a0 ?_) ?_ ?_ ?_ ?_
    · rw [← ha0]; exact List.mem_of_getElem? ha
    · have h1 : (Q.atoms.map pl0)[x]? = some (pl0 A0) := by rw [List.getElem?_map, hA]; rfl
      rw [w2.atoms, List.getElem?_map, ha] at h1
      simp only [Option.map_some, Option.some.injEq] at h1
      exact h1.symm
    · rw [sum_tri hbd, c.bonds]
    · have := c.right x _ hax
      rw [c.bonds] at this
      exact this
    · rw [hD x hlt]
      unfold cand fill
      rw [hax, c.bonds]
      rfl
  have hlen : Q.atoms.length = q.atoms.length := w2.len
  refine ⟨Q.atoms.mapIdx (withHydrogens Q.bonds), Q.bonds, ?_, ?_, hbd⟩
  · unfold parse
    rw [if_neg (by omega), w1]
    simp only
    rw [if_neg (by omega), left_none hQr, if_neg (by omega), wrong_none (i := 0) fun j a hj => ?_]
    rw [List.getElem?_mapIdx] at hj
    cases hA : Q.atoms[j]? with
    | none => rw [hA] at hj; cases hj
    | some A0 =>
      rw [hA] at hj
      cases hj
      have hlt : j < q.atoms.length := by rw [← hlen]; exact (List.getElem?_eq_some_iff.1 hA).1
      rw [Nat.zero_add]
      exact (each j A0 _ hA (List.getElem?_eq_getElem hlt)).2
  · rw [c.atoms]
    apply List.ext_getElem?
    intro x
    rw [List.getElem?_map, List.getElem?_map, List.getElem?_mapIdx, List.getElem?_mapIdx]
    cases hA : Q.atoms[x]? with
    | none =>
      have : q.atoms[x]? = none := List.getElem?_eq_none (by rw [← hlen]; exact List.getElem?_eq_none_iff.1 hA)
      rw [this]
      rfl
    | some A0 =>
      have hlt : x < q.atoms.length := by rw [← hlen]; exact (List.getElem?_eq_some_iff.1 hA).1
      rw [List.getElem?_eq_getElem hlt]
      simp only [Option.map_some, Option.some.injEq]
      exact (each x A0 _ hA (List.getElem?_eq_getElem hlt)).1
end Go.Proofs.YtcabaecbmkgclaaGreatDoor.Kd
namespace Go.Proofs.YtcabaecbmkgclaaGreatDoor.Kd
open Bz Mt Cp
/-- Which bonds are made double. -/
def inP (P : List (Nat × Nat)) (b : Bnd) : Bool := decide ((b.a, b.b) ∈ P)

theorem wrR_congr {d d' : Nat → Bool} : ∀ (t : List UInt8) (x : Nat), (∀ y, x ≤ y → d y = d' y) → wrR d t x = wrR d' t x
  | [], _, _ => rfl
  | c :: t, x, h => by rw [wrR, wrR, h x (Nat.le_refl _), wrR_congr t (x + 1) fun y hy => h y (by omega)]

theorem wrR_none {d : Nat → Bool} : ∀ (t : List UInt8) (x : Nat), (∀ y, x ≤ y → d y = false) → wrR d t x = capL t
  | [], _, _ => rfl
  | c :: t, x, h => by
    rw [wrR, h x (Nat.le_refl _), wrR_none t (x + 1) fun y hy => h y (by omega), capL_cons]
    rfl

/-- Up to a place ahead of which nothing is put in. -/
theorem wrR_upto {d : Nat → Bool} : ∀ (k : Nat) (t : List UInt8) (x : Nat), k ≤ t.length → (∀ y, x ≤ y → y < x + k → d y = false) → wrR d t x = capL (t.take k) ++ wrR d (t.drop k) (x + k)
  | 0, t, x, _, _ => by simp [capL]
  | k + 1, [], x, h, _ => by simp at h
  | k + 1, c :: t, x, h, hd => by
    have ih := wrR_upto k t (x + 1) (by simpa using h) fun y h1 h2 => hd y (by omega) (by omega)
    rw [wrR, hd x (Nat.le_refl _) (by omega), ih, List.take_succ_cons, capL_cons, List.drop_succ_cons, show x + 1 + k = x + (k + 1) by omega]
    simp only [Bool.false_eq_true, if_false, List.nil_append, List.append_assoc]
    rfl

theorem dOf_cons (b : Bnd) (l : List Bnd) (e : Bnd → Bool) (x : Nat) : dOf (b :: l) e x = ((b.pl == x && (b.o == 4 && e b)) || dOf l e x) := rfl

theorem ord_two (P : List (Nat × Nat)) (b : Bnd) : (b.o = 4 ∧ ordN P b = 2) ↔ (b.o == 4 && inP P b) = true := by
  unfold ordN inP
  by_cases h : b.o = 4
  · by_cases hp : (b.a, b.b) ∈ P <;> simp [h, hp]
  · simp [h]

theorem wrGo_is (P : List (Nat × Nat)) (t : List UInt8) : ∀ (l : List Bnd) (f : Nat), l.Pairwise (fun x y => x.pl < y.pl) → (∀ b ∈ l, f ≤ b.pl ∧ b.pl < t.length) → wrGo t (l.map fun b => (b, ordN P b)) f = wrR (dOf l (inP P)) (t.drop f) f
  | [], f, _, _ => by
    rw [List.map_nil, wrGo, wrR_none]
    intro y _
    rfl
  | b :: l, f, hr, hb => by
    obtain ⟨h1, h2⟩ := List.pairwise_cons.1 hr
    have hbb := hb b (by simp)
    rw [List.map_cons, wrGo]
    by_cases hc : b.o = 4 ∧ ordN P b = 2
    · have hcb := (ord_two P b).1 hc
      rw [if_pos hc, wrGo_is P t l b.pl h2 fun c hm => ⟨Nat.le_of_lt (h1 c hm), (hb c (by simp [hm])).2⟩]
      have hno : ∀ y, f ≤ y → y < f + (b.pl - f) → dOf (b :: l) (inP P) y = false := fun y y1 y2 => by
        rw [dOf_cons]
        have : (b.pl == y) = false := by simp; omega
        rw [this, Bool.false_and, Bool.false_or]
        cases hd : dOf l (inP P) y
        · rfl
        · obtain ⟨c, hm, hpl, _⟩ := dOf_mem.1 hd
          have := h1 c hm
          omega
      rw [wrR_upto (d := dOf (b :: l) (inP P)) (b.pl - f) (t.drop f) f (by rw [List.length_drop]; omega) hno, List.drop_drop, show f + (b.pl - f) = b.pl by omega, List.append_assoc]
      congr 1
      have hdr : t.drop b.pl = t[b.pl]'hbb.2 :: t.drop (b.pl + 1) := List.drop_eq_getElem_cons hbb.2
      rw [hdr, wrR, wrR]
      have d1 : dOf (b :: l) (inP P) b.pl = true := by rw [dOf_cons, hcb]; simp
      have d2 : dOf l (inP P) b.pl = false := by
        cases hd : dOf l (inP P) b.pl
        · rfl
        · obtain ⟨c, hm, hpl, _⟩ := dOf_mem.1 hd
          have := h1 c hm
          omega
      have d3 : wrR (dOf l (inP P)) (t.drop (b.pl + 1)) (b.pl + 1) = wrR (dOf (b :: l) (inP P)) (t.drop (b.pl + 1)) (b.pl + 1) := wrR_congr _ _ fun y hy => by
        rw [dOf_cons]
        have : (b.pl == y) = false := by simp; omega
        rw [this, Bool.false_and, Bool.false_or]
      rw [d1, d2, d3]
      rfl
    · rw [if_neg hc, wrGo_is P t l f h2 fun c hm => hb c (by simp [hm])]
      refine wrR_congr _ _ fun y _ => ?_
      rw [dOf_cons]
      have : (b.o == 4 && inP P b) = false := by
        cases hx : (b.o == 4 && inP P b)
        · rfl
        · exact absurd ((ord_two P b).2 hx) hc
      rw [this, Bool.and_false, Bool.false_or]

theorem zip_map (l : List Bnd) (g : Bnd → Nat) : l.zip (l.map g) = l.map fun b => (b, g b) := by
  induction l with
  | nil => rfl
  | cons b l ih => rw [List.map_cons, List.zip_cons_cons, ih]; rfl

section
variable {q : St} {n pos : Nat} {mate : Nat → Option Nat} {f : Fo} {gh : Gh}
theorem pairs_iff {a b : Nat} : (a, b) ∈ pairsF n mate ↔ mate a = some b ∧ a < b ∧ a < n := by
  constructor
  · exact pairsF_mem
  · rintro ⟨h1, h2, h3⟩
    unfold pairsF
    rw [List.mem_map]
    have hm : mateOf mate a = b := by unfold mateOf; rw [h1]; rfl
    refine ⟨a, List.mem_filter.2 ⟨List.mem_range.2 h3, ?_⟩, by rw [hm]⟩
    rw [h1, hm]
    simp [h2]

/-- A bond is made double just if its place is one of those. -/
theorem d_place (en : En n q.bonds pos) (P : List (Nat × Nat)) {b : Bnd} (hb : b ∈ q.bonds) (h4 : b.o = 4) : dOf q.bonds (inP P) b.pl = inP P b := by
  have uniq : ∀ c ∈ q.bonds, c.pl = b.pl → c = b := by
    intro c hc he
    obtain ⟨i, hi, ei⟩ := List.getElem_of_mem hc
    obtain ⟨j, hj, ej⟩ := List.getElem_of_mem hb
    have hp := List.pairwise_iff_getElem.1 en.rise
    rcases Nat.lt_trichotomy i j with h | h | h
    · have := hp i j hi hj h
      rw [ei, ej] at this
      omega
    · subst h
      rw [← ei, ← ej]
    · have := hp j i hj hi h
      rw [ei, ej] at this
      omega
  rw [Bool.eq_iff_iff, dOf_mem]
  constructor
  · rintro ⟨c, hc, h1, _, h3⟩
    rw [← uniq c hc h1]
    exact h3
  · intro h
    exact ⟨b, hb, rfl, h4, h⟩

theorem new_ord (en : En n q.bonds pos) (P : List (Nat × Nat)) (hpos : ∀ b ∈ q.bonds, 1 ≤ b.o ∧ b.o ≤ 4) {b : Bnd} (hb : b ∈ q.bonds) : newO (dOf q.bonds (inP P)) b.o b.pl = (ordN P b : Int) := by
  unfold newO ordN
  by_cases h4 : b.o = 4
  · rw [if_pos h4, if_pos h4, d_place en P hb h4]
    unfold inP
    by_cases hp : (b.a, b.b) ∈ P <;> simp [hp]
  · rw [if_neg h4, if_neg h4]
    have := hpos b hb
    omega

/-- How many bonds of an atom are made double, as a list's length. -/
theorem dAt_len (en : En q.atoms.length q.bonds pos) (x : Nat) : dAt q.bonds (dOf q.bonds (inP (pairsF q.atoms.length mate))) x = ((q.bonds.filter fun b => decide ((b.a = x ∨ b.b = x) ∧ b.o = 4 ∧ (b.a, b.b) ∈ pairsF q.atoms.length mate)).length : Int) := by
  unfold dAt
  have key : ∀ l : List Bnd, (∀ b ∈ l, b ∈ q.bonds) → (l.map fun b => if (b.a = x ∨ b.b = x) ∧ b.o = 4 ∧ dOf q.bonds (inP (pairsF q.atoms.length mate)) b.pl = true then (1 : Int) else 0).sum = ((l.filter fun b => decide ((b.a = x ∨ b.b = x) ∧ b.o = 4 ∧ (b.a, b.b) ∈ pairsF q.atoms.length mate)).length : Int) := by
    intro l
    induction l with
    | nil => intro _; rfl
    | cons b l ih =>
      intro hl
      rw [List.map_cons, List.sum_cons, ih fun c hc => hl c (by simp [hc]), List.filter_cons]
      have hbm := hl b (by simp)
      have ec : ((b.a = x ∨ b.b = x) ∧ b.o = 4 ∧ dOf q.bonds (inP (pairsF q.atoms.length mate)) b.pl = true) ↔ ((b.a = x ∨ b.b = x) ∧ b.o = 4 ∧ (b.a, b.b) ∈ pairsF q.atoms.length mate) := by
        constructor
        · rintro ⟨h1, h2, h3⟩
          rw [d_place en _ hbm h2] at h3
          exact ⟨h1, h2, of_decide_eq_true h3⟩
        · rintro ⟨h1, h2, h3⟩
          exact ⟨h1, h2, by rw [d_place en _ hbm h2]; exact decide_eq_true h3⟩
      by_cases hc : (b.a = x ∨ b.b = x) ∧ b.o = 4 ∧ (b.a, b.b) ∈ pairsF q.atoms.length mate
      · rw [if_pos (ec.2 hc), if_pos (decide_eq_true hc), List.length_cons]
        omega
      · rw [if_neg (fun h => hc (ec.1 h)), if_neg (by simpa using hc)]
        omega
  exact key q.bonds fun _ h => h

/-- Of each candidate just one bond is made double, of another atom none. -/
theorem dAt_is (en : En q.atoms.length q.bonds pos) (hn : q.atoms.length ≤ 24) (hB : Best (grL q.atoms.length (candEdges q q.bonds)) mate f gh) (hd : ¬ 2 * (pairsF q.atoms.length mate).length < cnt q.atoms.length (cand q)) {x : Nat} (hx : x < q.atoms.length) :
    dAt q.bonds (dOf q.bonds (inP (pairsF q.atoms.length mate))) x = if cand q x = true then 1 else 0 := by
  have E := candEdges_ok en
  have all : ∀ i, i < q.atoms.length → cand q i = true → (mate i).isSome = true := by
    intro i hi hc
    have h1 : 2 * (pairsF q.atoms.length mate).length + cnt q.atoms.length (fun x => (mate x).isNone) = q.atoms.length := pairs_two (E.gr hn) hB.m
    have h2 := cnt_not q.atoms.length (fun x => (mate x).isNone)
    have h3 : cnt q.atoms.length (fun k => !(mate k).isNone) = cnt q.atoms.length (fun k => (mate k).isSome) := cnt_congr fun k _ => by cases mate k <;> rfl
    exact cnt_full (p := fun k => (mate k).isSome) (q := cand q) (fun k _ hk => mate_cand hB.m hk) (by omega) i hi hc
  have e1 := dAt_len (mate := mate) en x
  rw [e1]
  obtain ⟨F, hF⟩ : ∃ F, q.bonds.filter (fun b => decide ((b.a = x ∨ b.b = x) ∧ b.o = 4 ∧ (b.a, b.b) ∈ pairsF q.atoms.length mate)) = F := ⟨_, rfl⟩
  have mem : ∀ b ∈ F, b ∈ q.bonds ∧ (b.a = x ∨ b.b = x) ∧ mate b.a = some b.b ∧ b.a < b.b := by
    intro b hb
    rw [← hF, List.mem_filter] at hb
    obtain ⟨k1, k2, k3⟩ := of_decide_eq_true hb.2
    obtain ⟨m1, m2, _⟩ := pairs_iff.1 k3
    exact ⟨hb.1, k1, m1, m2⟩
  have dist : F.Pairwise fun x y => ¬ (x.a = y.a ∧ x.b = y.b) := by rw [← hF]; exact List.Pairwise.filter _ en.dist
  rw [hF]
  by_cases hc : cand q x = true
  · rw [if_pos hc]
    obtain ⟨y, hy⟩ := Option.isSome_iff_exists.1 (all x hx hc)
    have hyx := hB.m.back x y hy
    have hadj : adjL (candEdges q q.bonds) x y = true := hB.m.adj x y hy
    have hne : F ≠ [] := by
      have : ∃ b ∈ q.bonds, isEdge q b = true ∧ ((b.a = x ∧ b.b = y) ∨ (b.a = y ∧ b.b = x)) := by
        rcases adjL_iff.1 hadj with k | k
        · obtain ⟨b, h1, h2, h3, h4⟩ := candEdges_mem.1 k
          exact ⟨b, h1, h2, .inl ⟨h3, h4⟩⟩
        · obtain ⟨b, h1, h2, h3, h4⟩ := candEdges_mem.1 k
          exact ⟨b, h1, h2, .inr ⟨h3, h4⟩⟩
      obtain ⟨b, h1, h2, h3⟩ := this
      have hlt := en.ends b h1
      have h4 : b.o = 4 := by
        unfold isEdge at h2
        simp only [Bool.and_eq_true, beq_iff_eq] at h2
        exact h2.1
      have hin : b ∈ F := by
        rw [← hF, List.mem_filter]
        refine ⟨h1, decide_eq_true ⟨?_, h4, ?_⟩⟩
        · rcases h3 with h | h
          · exact .inl h.1
          · exact .inr h.2
        · refine pairs_iff.2 ⟨?_, hlt.1, by omega⟩
          rcases h3 with ⟨h5, h6⟩ | ⟨h5, h6⟩
          · rw [h5, h6]; exact hy
          · rw [h5, h6]; exact hyx
      intro h0
      rw [h0] at hin
      simp at hin
    have same : ∀ b ∈ F, ∀ c ∈ F, b.a = c.a ∧ b.b = c.b := by
      intro b hb c hc
      obtain ⟨_, b1, b2, b3⟩ := mem b hb
      obtain ⟨_, c1, c2, c3⟩ := mem c hc
      have hb' := hB.m.back _ _ b2
      have hc' := hB.m.back _ _ c2
      rcases b1 with b1 | b1 <;> rcases c1 with c1 | c1
      · rw [b1] at b2 ⊢; rw [c1] at c2 ⊢; rw [b2] at c2; exact ⟨rfl, Option.some.inj c2⟩
      · rw [b1] at b2; rw [c1] at hc'; rw [b2] at hc'; have := Option.some.inj hc'; omega
      · rw [b1] at hb'; rw [c1] at c2; rw [hb'] at c2; have := Option.some.inj c2; omega
      · rw [b1] at hb' ⊢; rw [c1] at hc' ⊢; rw [hb'] at hc'; exact ⟨Option.some.inj hc', rfl⟩
    match F, hne, same, dist with
    | [], h, _, _ => exact absurd rfl h
    | [b], _, _, _ => rfl
    | b :: c :: r, _, same, dist => exact absurd (same b (by simp) c (by simp)) ((List.pairwise_cons.1 dist).1 c (by simp))
  · rw [if_neg hc]
    match F, mem with
    | [], _ => rfl
    | b :: r, mem =>
      exfalso
      obtain ⟨_, b1, b2, _⟩ := mem b (by simp)
      have hb' := hB.m.back _ _ b2
      rcases b1 with b1 | b1
      · rw [b1] at b2
        exact hc (mate_cand hB.m (x := x) (by rw [b2]; rfl))
      · rw [b1] at hb'
        exact hc (mate_cand hB.m (x := x) (by rw [hb']; rfl))
end
/-- The text that is written, read again. -/
theorem again_parse {s : ByteArray} {q : St} {mate : Nat → Option Nat} {f : Fo} {gh : Gh} (h : Bz.parse s = .ok (q.atoms, q.bonds)) (en : En q.atoms.length q.bonds s.size) (hn : q.atoms.length ≤ 24) (hpos : ∀ b ∈ q.bonds, 1 ≤ b.o ∧ b.o ≤ 4) (hB : Best (grL q.atoms.length (candEdges q q.bonds)) mate f gh) (hd : ¬ 2 * (pairsF q.atoms.length mate).length < cnt q.atoms.length (cand q))
    {W : ByteArray} (hW : W.data.toList = wrL s.data.toList q.bonds (q.bonds.map (ordN (pairsF q.atoms.length mate)))) (hs : W.size ≤ 160) :
    ∃ ats' l', Bz.parse W = .ok (ats', l') ∧ ats'.map pl0 = q.atoms.map un ∧ l'.map tri = q.bonds.map fun b => (b.a, b.b, (ordN (pairsF q.atoms.length mate) b : Int)) := by
  have hrest : Bz.Rest W 0 (wr0 (dOf q.bonds (inP (pairsF q.atoms.length mate))) s 0) := by
    unfold Bz.Rest
    rw [List.drop_zero, hW]
    unfold wrL wr0
    rw [zip_map]
    exact wrGo_is _ _ q.bonds 0 en.rise fun b hb => ⟨Nat.zero_le _, by have := en.plt b hb; simpa using this⟩
  obtain ⟨ats', l', h1, h2, h3⟩ := wr_parse h hrest hs fun x hx => dAt_is en hn hB hd hx
  refine ⟨ats', l', h1, h2, h3.trans (List.map_congr_left fun b hb => ?_)⟩
  unfold newT
  rw [new_ord en _ hpos hb]
end Go.Proofs.YtcabaecbmkgclaaGreatDoor.Kd
namespace Go.Proofs.YtcabaecbmkgclaaGreatDoor.Kd
open Go.RowKit Bz Mt Mg Rf
/-- A bond of a molecule that came out. -/
theorem bond_at {w : World} {base : Nat} {vb : Value} {l : List Bnd} (h : w.ownsRow base 46 3 vb l.length (l.flatMap bndCells)) {k : Nat} {b : Bnd} (hk : l[k]? = some b) :
    ∃ g cap, vb = .slice (some ⟨g, 0, none⟩) l.length cap ∧ g < w.heap.size ∧ w.cell? ⟨g, k * 3, none⟩ = some (.int .i64 b.a) ∧ w.cell? ⟨g, k * 3 + 1, none⟩ = some (.int .i64 b.b) ∧ w.cell? ⟨g, k * 3 + 2, none⟩ = some (.int .i64 b.o) := by
  have hl : k < l.length := (List.getElem?_eq_some_iff.1 hk).1
  have bl : ∀ b : Bnd, (bndCells b).length = 3 := fun _ => rfl
  obtain ⟨g, cap, rfl, h1, h2, h3, h4⟩ := ownsRow_at h (by omega)
  have d0 := flatMap_get bndCells 3 bl _ k 0 b hk (by omega)
  rw [Nat.add_zero] at d0
  refine ⟨g, cap, rfl, h2, (h3 (k * 3) (by omega)).trans d0, ?_, ?_⟩
  · exact (h3 (k * 3 + 1) (by omega)).trans (flatMap_get bndCells 3 bl _ k 1 b hk (by omega))
  · exact (h3 (k * 3 + 2) (by omega)).trans (flatMap_get bndCells 3 bl _ k 2 b hk (by omega))

/-- The rows of a molecule that came out. -/
structure Rows2 (av bv : Value) (ats : List Atm) (l : List Bnd) (W : World) : Prop where
  a : ∃ base, W.ownsRow base 50 4 av ats.length (ats.flatMap plainCells)
  b : ∃ base, W.ownsRow base 46 3 bv l.length (l.flatMap bndCells)
theorem Rows2.on {av bv : Value} {ats : List Atm} {l : List Bnd} {W W' : World} (h : Rows2 av bv ats l W) (hb : Below W.heap.size W W') : Rows2 av bv ats l W' := by
  obtain ⟨⟨b1, h1⟩, ⟨b2, h2⟩⟩ := h
  exact ⟨⟨b1, ownsRow_same h1 fun k hk => hb.block k (h1.lt k hk).2⟩, ⟨b2, ownsRow_same h2 fun k hk => hb.block k (h2.lt k hk).2⟩⟩
theorem Rows2.grow {av bv : Value} {ats : List Atm} {l : List Bnd} {W : World} (h : Rows2 av bv ats l W) (o : Obj) : Rows2 av bv ats l (W.alloc o) := h.on ((Below.refl _ W).alloc (Nat.le_refl _) o)
theorem Rows2.drewN {av bv : Value} {ats : List Atm} {l : List Bnd} {W : World} (h : Rows2 av bv ats l W) (n : Nat) : Rows2 av bv ats l (W.drewN n) := by
  obtain ⟨⟨b1, h1⟩, ⟨b2, h2⟩⟩ := h
  exact ⟨⟨b1, ownsRow_same h1 fun _ _ => rfl⟩, ⟨b2, ownsRow_same h2 fun _ _ => rfl⟩⟩

/-- A molecule in a box, as a function holds its own copy. -/
structure MHold (w : World) (X : Nat) (av bv : Value) (ats : List Atm) (l : List Bnd) (W : World) : Prop where
  c0 : W.cell? ⟨X, 0, none⟩ = some av
  c1 : W.cell? ⟨X, 1, none⟩ = some bv
  rows : Rows2 av bv ats l W
  lt : X < W.heap.size
  below : Below w.heap.size w W
theorem MHold.on {w : World} {X : Nat} {av bv : Value} {ats : List Atm} {l : List Bnd} {W W' : World} (h : MHold w X av bv ats l W) (hb : Below W.heap.size W W') : MHold w X av bv ats l W' :=
  ⟨(hb.cell h.lt).trans h.c0, (hb.cell h.lt).trans h.c1, h.rows.on hb, Nat.lt_of_lt_of_le h.lt hb.size, h.below.trans (hb.mono h.below.size)⟩
theorem MHold.grow {w : World} {X : Nat} {av bv : Value} {ats : List Atm} {l : List Bnd} {W : World} (h : MHold w X av bv ats l W) (o : Obj) : MHold w X av bv ats l (W.alloc o) := h.on ((Below.refl _ W).alloc (Nat.le_refl _) o)
theorem MHold.drewN {w : World} {X : Nat} {av bv : Value} {ats : List Atm} {l : List Bnd} {W : World} (h : MHold w X av bv ats l W) (n : Nat) : MHold w X av bv ats l (W.drewN n) := ⟨h.c0, h.c1, h.rows.drewN n, h.lt, below_drewN h.below n⟩
theorem MHold.new {w : World} {av bv : Value} {ats : List Atm} {l : List Bnd} (h : Rows2 av bv ats l w) : MHold w w.heap.size av bv ats l (w.alloc (.cells #[av, bv] 39)) :=
  ⟨by simp, by simp, h.grow _, by simp, (Below.refl _ w).alloc (Nat.le_refl _) _⟩

set_option maxRecDepth 100000 in
set_option maxHeartbeats 4000000 in
theorem whole_any (w : World) {ao : Option Addr} {ac : Nat} {bo : Option Addr} {bc : Nat} {ats : List Atm} {l : List Bnd} (h : Rows2 (.slice ao ats.length ac) (.slice bo l.length bc) ats l w) (hl : l.length ≤ 160) (he : ∀ b ∈ l, b.a < b.b ∧ b.b < ats.length) :
    Calls Tryz.prog 17 #[.agg #[.slice ao ats.length ac, .slice bo l.length bc]] w fun e w' => e = .returned (.bool true) ∧ Below w.heap.size w w' := by
  have H0 : Hid (MHold w w.heap.size (.slice ao ats.length ac) (.slice bo l.length bc) ats l (w.alloc (.cells #[.slice ao ats.length ac, .slice bo l.length bc] 39))) := MHold.new h
  have HE : Hid (∀ b ∈ l, b.a < b.b ∧ b.b < ats.length) := he
  clear h he
  go_enter Tryz.func17, Tryz.ntmps17
  go_wp2_with fail
  go_loopg [3] (l.length + 1) (fun g v3 wr => ∃ i : Nat, i ≤ l.length ∧ l.length - i < g ∧ v3 = .int .i64 (i : Int) ∧ MHold w w.heap.size (.slice ao ats.length ac) (.slice bo l.length bc) ats l wr)
  case atStart => exact ⟨0, by omega, by omega, rfl, H0.out⟩
  case round =>
    obtain ⟨i, hi, hg, rfl, hS⟩ := hrel
    clear H0
    have HS : Hid (MHold w w.heap.size (.slice ao ats.length ac) (.slice bo l.length bc) ats l wr) := hS
    have c0 := hS.c0
    have c1 := hS.c1
    have hlt0 := hS.lt
    by_cases hlt : i < l.length
    · have hlt' : (i : Int) < (l.length : Int) := by omega
      obtain ⟨b, hb⟩ : ∃ b, l[i]? = some b := ⟨_, List.getElem?_eq_getElem hlt⟩
      have hends := HE.out b (List.mem_of_getElem? hb)
      obtain ⟨_, hrow⟩ := hS.rows.b
      obtain ⟨g, k1, e1, hg1, y0, y1, y2⟩ := bond_at hrow hb
      simp only [Value.slice.injEq, true_and] at e1
      obtain ⟨rfl, rfl⟩ := e1
      have HN : Hid (∀ o, MHold w w.heap.size (.slice ao ats.length ac) (.slice (some ⟨g, 0, none⟩) l.length bc) ats l (wr.alloc o)) := fun o => HS.out.grow o
      have c0' : ∀ o, (wr.alloc o).cell? ⟨w.heap.size, 0, none⟩ = some (.slice ao ats.length ac) := fun o => (HS.out.grow o).c0
      have t1 : ¬ ((b.a : Int) < 0) := by omega
      have t2 : ¬ ((b.b : Int) ≤ (b.a : Int)) := by omega
      have t3 : ¬ ((ats.length : Int) ≤ (b.b : Int)) := by omega
      clear hS hrow hb HS HE
      go_wp2_with fail
      go_roundg (l.length - i)
      case measure => omega
      case rel => exact ⟨i + 1, by omega, by omega, by go_num, HN.out _⟩
    · have hlt' : ¬ (i : Int) < (l.length : Int) := by omega
      clear hS
      go_wp2_with fail
      go_ret
      exact ⟨rfl, HS.out.below⟩
/-- The orders of the bonds at an atom. -/
def totS (z : List (Bnd × Nat)) (k : Nat) : Int := (z.map fun p => if p.1.a = k ∨ p.1.b = k then (p.2 : Int) else 0).sum

theorem totS_snoc (z : List (Bnd × Nat)) (p : Bnd × Nat) (k : Nat) : totS (z ++ [p]) k = totS z k + if p.1.a = k ∨ p.1.b = k then (p.2 : Int) else 0 := by
  unfold totS
  rw [List.map_append, List.sum_append]
  simp

theorem totS_bd (z : List (Bnd × Nat)) (k : Nat) (h : ∀ p ∈ z, p.2 ≤ 4) : 0 ≤ totS z k ∧ totS z k ≤ 4 * z.length := by
  induction z with
  | nil => exact ⟨Int.le_refl _, Int.le_refl _⟩
  | cons p z ih =>
    have h1 := ih fun q hq => h q (by simp [hq])
    have h2 := h p (by simp)
    unfold totS at h1 ⊢
    rw [List.map_cons, List.sum_cons, List.length_cons]
    split <;> omega

set_option maxRecDepth 100000 in
set_option maxHeartbeats 4000000 in
theorem total_any (w : World) {ao : Option Addr} {ac : Nat} {bo : Option Addr} {bc : Nat} {ats : List Atm} {l : List Bnd} (h : Rows2 (.slice ao ats.length ac) (.slice bo l.length bc) ats l w) (hl : l.length ≤ 160) {base : Nat} {oo : Option Addr} {oc : Nat} {os : List Nat} (ho : Ints w base (.slice oo os.length oc) os) (hol : os.length = l.length) (hob : ∀ x ∈ os, x ≤ 4) {k : Nat} {a : Atm} (hk : ats[k]? = some a) (hy : 0 ≤ a.hy ∧ a.hy ≤ 9) :
    Calls Tryz.prog 18 #[.agg #[.slice ao ats.length ac, .slice bo l.length bc], .slice oo os.length oc, .int .i64 (k : Int)] w fun e w' => e = .returned (.int .i64 (a.hy + totS (l.zip os) k)) ∧ Below w.heap.size w w' := by
  have H0 : Hid (MHold w w.heap.size (.slice ao ats.length ac) (.slice bo l.length bc) ats l (w.alloc (.cells #[.slice ao ats.length ac, .slice bo l.length bc] 39))) := MHold.new h
  have HO : Hid (Ints w base (.slice oo os.length oc) os) := ho
  have HOB : Hid (∀ x ∈ os, x ≤ 4) := hob
  have HOL : Hid (os.length = l.length) := hol
  have hzb : ∀ p ∈ l.zip os, p.2 ≤ 4 := fun p hp => hob p.2 (List.of_mem_zip (a := p.1) (b := p.2) hp).2
  have HZB : Hid (∀ i, 0 ≤ totS ((l.zip os).take i) k ∧ totS ((l.zip os).take i) k ≤ 640) := fun i => by
    have h1 := totS_bd ((l.zip os).take i) k fun p hp => hzb p (List.mem_of_mem_take hp)
    have h2 : ((l.zip os).take i).length ≤ l.length := by rw [List.length_take, List.length_zip]; omega
    omega
  have hkl : k < ats.length := (List.getElem?_eq_some_iff.1 hk).1
  have hkl' : (k : Int) < (ats.length : Int) := by omega
  have hA := (MHold.new h).rows.a
  obtain ⟨_, hrow⟩ := hA
  obtain ⟨ga, ka, ea, _, _, _, _, z3⟩ := atom_at hrow hk
  simp only [Value.slice.injEq, true_and] at ea
  obtain ⟨rfl, rfl⟩ := ea
  clear h ho hob hol hzb hrow
  go_enter Tryz.func18, Tryz.ntmps18
  go_wp2_with fail
  go_loopg [7, 8] (l.length + 1) (fun g v7 v8 wr => ∃ i : Nat, i ≤ l.length ∧ l.length - i < g ∧ v8 = .int .i64 (i : Int) ∧ v7 = .int .i64 (a.hy + totS ((l.zip os).take i) k) ∧ MHold w w.heap.size (.slice (some ⟨ga, 0, none⟩) ats.length ac) (.slice bo l.length bc) ats l wr)
  case atStart => exact ⟨0, by omega, by omega, rfl, by simp [totS], H0.out⟩
  case round =>
    obtain ⟨i, hi, hg, rfl, rfl, hS⟩ := hrel
    clear H0 z3
    have HS : Hid (MHold w w.heap.size (.slice (some ⟨ga, 0, none⟩) ats.length ac) (.slice bo l.length bc) ats l wr) := hS
    have c0 := hS.c0
    have c1 := hS.c1
    have zb := HZB.out i
    by_cases hlt : i < l.length
    · have hlt' : (i : Int) < (l.length : Int) := by omega
      obtain ⟨b, hb⟩ : ∃ b, l[i]? = some b := ⟨_, List.getElem?_eq_getElem hlt⟩
      obtain ⟨x, hx⟩ : ∃ x, os[i]? = some x := ⟨_, List.getElem?_eq_getElem (by rw [HOL.out]; exact hlt)⟩
      have hx4 := HOB.out x (List.mem_of_getElem? hx)
      have HNX : Hid (totS ((l.zip os).take (i + 1)) k = totS ((l.zip os).take i) k + if b.a = k ∨ b.b = k then (x : Int) else 0) := by
        have hz : (l.zip os)[i]? = some (b, x) := by rw [List.getElem?_zip_eq_some]; exact ⟨hb, hx⟩
        show _ = _
        rw [take_snoc hz, totS_snoc]
      obtain ⟨_, hrow⟩ := hS.rows.b
      obtain ⟨g, k1, e1, hg1, y0, y1, y2⟩ := bond_at hrow hb
      simp only [Value.slice.injEq, true_and] at e1
      obtain ⟨rfl, rfl⟩ := e1
      obtain ⟨go, ko, eo, _, hgo, ox0⟩ := HO.out.at hx
      simp only [Value.slice.injEq, true_and] at eo
      obtain ⟨rfl, rfl⟩ := eo
      have ox : wr.cell? ⟨go, i, none⟩ = some (.int .i64 (x : Int)) := (hS.below.cell hgo).trans ox0
      have hil : (i : Int) < (os.length : Int) := by have := HOL.out; omega
      clear hS hrow hb hx HOB ox0
      by_cases ha : b.a = k
      · have ha' : ((b.a : Int) == (k : Int)) = true := by simp [ha]
        go_wp2_with fail
        go_roundg (l.length - i)
        case measure => omega
        case rel => exact ⟨i + 1, by omega, by omega, by go_num, by rw [HNX.out, if_pos (.inl ha)]; go_num, HS.out⟩
      · have ha' : ((b.a : Int) == (k : Int)) = false := by simp; omega
        by_cases hbk : b.b = k
        · have hb' : ((b.b : Int) == (k : Int)) = true := by simp [hbk]
          go_wp2_with fail
          go_roundg (l.length - i)
          case measure => omega
          case rel => exact ⟨i + 1, by omega, by omega, by go_num, by rw [HNX.out, if_pos (.inr hbk)]; go_num, HS.out⟩
        · have hb' : ((b.b : Int) == (k : Int)) = false := by simp; omega
          go_wp2_with fail
          go_roundg (l.length - i)
          case measure => omega
          case rel => exact ⟨i + 1, by omega, by omega, by go_num, by rw [HNX.out, if_neg (by omega)]; go_num, HS.out⟩
    · have hlt' : ¬ (i : Int) < (l.length : Int) := by omega
      have HE : Hid (totS ((l.zip os).take i) k = totS (l.zip os) k) := by
        show _ = _
        rw [List.take_of_length_le (by rw [List.length_zip]; omega)]
      clear hS
      go_wp2_with fail
      go_ret
      exact ⟨by rw [← HE.out]; rfl, HS.out.below⟩
/-- Kekulize is done, with its matching. -/
structure Set4 (s : ByteArray) (q : St) (mate : Nat → Option Nat) (f : Fo) (gh : Gh) : Prop where
  h : Bz.parse s = .ok (q.atoms, q.bonds)
  en : En q.atoms.length q.bonds s.size
  n24 : q.atoms.length ≤ 24
  pos : ∀ b ∈ q.bonds, 1 ≤ b.o ∧ b.o ≤ 4
  best : Best (grL q.atoms.length (candEdges q q.bonds)) mate f gh
  all : ¬ 2 * (pairsF q.atoms.length mate).length < cnt q.atoms.length (cand q)

/-- The orders that it sets. -/
abbrev osOf (q : St) (mate : Nat → Option Nat) : List Nat := q.bonds.map (ordN (pairsF q.atoms.length mate))

section
variable {s : ByteArray} {q : St} {mate : Nat → Option Nat} {f : Fo} {gh : Gh}
theorem ord_le (S : Set4 s q mate f gh) {b : Bnd} (hb : b ∈ q.bonds) : ordN (pairsF q.atoms.length mate) b ≤ 3 ∧ 1 ≤ ordN (pairsF q.atoms.length mate) b := by
  have := S.pos b hb
  unfold ordN
  split
  · split <;> omega
  · omega

theorem tot_sum (S : Set4 s q mate f gh) (k : Nat) : totS (q.bonds.zip (osOf q mate)) k = sum q.bonds k + dAt q.bonds (dOf q.bonds (inP (pairsF q.atoms.length mate))) k := by
  rw [zip_map]
  unfold totS
  rw [List.map_map]
  have key : ∀ l : List Bnd, (∀ b ∈ l, b ∈ q.bonds) → (l.map ((fun p : Bnd × Nat => if p.1.a = k ∨ p.1.b = k then (p.2 : Int) else 0) ∘ fun b => (b, ordN (pairsF q.atoms.length mate) b))).sum = sum l k + dAt l (dOf q.bonds (inP (pairsF q.atoms.length mate))) k := by
    intro l
    induction l with
    | nil => intro _; rfl
    | cons b l ih =>
      intro hl
      have hb := hl b (by simp)
      have ho := new_ord S.en (pairsF q.atoms.length mate) S.pos hb
      have ih := ih fun c hc => hl c (by simp [hc])
      unfold sum dAt at *
      rw [List.map_cons, List.map_cons, List.map_cons, List.sum_cons, List.sum_cons, List.sum_cons, ih]
      have key2 : ((fun p : Bnd × Nat => if p.1.a = k ∨ p.1.b = k then (p.2 : Int) else 0) ∘ fun b => (b, ordN (pairsF q.atoms.length mate) b)) b = (if b.a = k ∨ b.b = k then (if b.o = 4 then 1 else b.o) else 0) + (if (b.a = k ∨ b.b = k) ∧ b.o = 4 ∧ dOf q.bonds (inP (pairsF q.atoms.length mate)) b.pl = true then (1 : Int) else 0) := by
        show (if b.a = k ∨ b.b = k then (ordN (pairsF q.atoms.length mate) b : Int) else 0) = _
        rw [← ho]
        unfold newO
        by_cases h1 : b.a = k ∨ b.b = k
        · by_cases h2 : b.o = 4
          · cases h3 : dOf q.bonds (inP (pairsF q.atoms.length mate)) b.pl <;> simp [h1, h2]
          · simp [h1, h2]
        · simp [h1]
      rw [key2]
      omega
  exact key q.bonds fun _ h => h

/-- NO VALENCE IS WRONG. -/
theorem tot_ok (S : Set4 s q mate f gh) {k : Nat} {a : Atm} (hk : q.atoms[k]? = some a) : (valences a.el a.ch).contains (a.hy + totS (q.bonds.zip (osOf q mate)) k) = true := by
  obtain ⟨qq, c⟩ := came S.h
  have hw := c.right k a hk
  have hlt := (List.getElem?_eq_some_iff.1 hk).1
  have hd := dAt_is S.en S.n24 S.best S.all hlt
  rw [tot_sum S, hd]
  have hc : cand q k = (a.aro && (match valences a.el a.ch with
    | x :: _ => sum q.bonds k + a.hy == x - 1
    | [] => false)) := by unfold cand fill; rw [hk]; rfl
  rw [hc]
  unfold wrong at hw
  cases ha : a.aro with
  | false =>
    rw [ha] at hw
    simp only [Bool.false_eq_true, if_false, Bool.not_eq_false', Bool.false_and] at hw ⊢
    rw [show a.hy + (sum q.bonds k + 0) = sum q.bonds k + a.hy by omega]
    exact hw
  | true =>
    rw [ha] at hw
    simp only [if_true, Bool.true_and] at hw ⊢
    cases hv : valences a.el a.ch with
    | nil => rw [hv] at hw; cases hw
    | cons v r =>
      rw [hv] at hw
      simp only [List.head?_cons] at hw ⊢
      by_cases h1 : sum q.bonds k + a.hy = v - 1
      · have h2 : (sum q.bonds k + a.hy == v - 1) = true := by simpa using h1
        rw [if_pos h2, show a.hy + (sum q.bonds k + 1) = v by omega]
        simp
      · have h2 : (sum q.bonds k + a.hy == v - 1) = false := by simpa using h1
        rw [h2] at hw
        simp at hw
        rw [if_neg (by rw [h2]; decide), show a.hy + (sum q.bonds k + 0) = v by omega]
        simp

/-- What the text is, read again. -/
structure Again (q : St) (os : List Nat) (ats' : List Atm) (l' : List Bnd) : Prop where
  la : ats'.length = q.atoms.length
  lb : l'.length = q.bonds.length
  at_ : ∀ (i : Nat) (a : Atm), q.atoms[i]? = some a → ∃ a' : Atm, ats'[i]? = some a' ∧ a'.aro = false ∧ a'.el = a.el ∧ a'.ch = a.ch ∧ a'.hy = a.hy
  bd : ∀ (i : Nat) (b : Bnd) (x : Nat), q.bonds[i]? = some b → os[i]? = some x → ∃ b' : Bnd, l'[i]? = some b' ∧ b'.a = b.a ∧ b'.b = b.b ∧ b'.o = (x : Int)
  aro : ∀ a' ∈ ats', a'.aro = false
  ord : ∀ b' ∈ l', b'.o ≠ 4 ∧ 1 ≤ b'.o

theorem again_is (S : Set4 s q mate f gh) {W : ByteArray} (hW : W.data.toList = wrL s.data.toList q.bonds (osOf q mate)) (hs : W.size ≤ 160) : ∃ ats' l', Bz.parse W = .ok (ats', l') ∧ Again q (osOf q mate) ats' l' := by
  obtain ⟨ats', l', h1, h2, h3⟩ := again_parse S.h S.en S.n24 S.pos S.best S.all hW hs
  refine ⟨ats', l', h1, ?_, ?_, ?_, ?_, ?_, ?_⟩
  · have := congrArg List.length h2; simpa using this
  · have := congrArg List.length h3; simpa using this
  · intro i a hi
    have e : (ats'.map pl0)[i]? = some (un a) := by rw [h2, List.getElem?_map, hi]; rfl
    rw [List.getElem?_map] at e
    cases ha : ats'[i]? with
    | none => rw [ha] at e; cases e
    | some a' =>
      rw [ha] at e
      simp only [Option.map_some, Option.some.injEq] at e
      have e1 : (pl0 a').el = (un a).el := by rw [e]
      have e2 : (pl0 a').ch = (un a).ch := by rw [e]
      have e3 : (pl0 a').hy = (un a).hy := by rw [e]
      have e4 : (pl0 a').aro = (un a).aro := by rw [e]
      exact ⟨a', rfl, e4, e1, e2, e3⟩
  · intro i b x hb hx
    have hxb : x = ordN (pairsF q.atoms.length mate) b := by
      rw [List.getElem?_map, hb] at hx
      exact (Option.some.inj hx).symm
    have e : (l'.map tri)[i]? = some (b.a, b.b, (ordN (pairsF q.atoms.length mate) b : Int)) := by rw [h3, List.getElem?_map, hb]; rfl
    rw [List.getElem?_map] at e
    cases hb' : l'[i]? with
    | none => rw [hb'] at e; cases e
    | some b' =>
      rw [hb'] at e
      simp only [Option.map_some, Option.some.injEq, tri, Prod.mk.injEq] at e
      exact ⟨b', rfl, e.1, e.2.1, by rw [hxb]; exact e.2.2⟩
  · intro a' ha'
    obtain ⟨i, hi, ei⟩ := List.getElem_of_mem ha'
    have e : (q.atoms.map un)[i]? = some (pl0 a') := by rw [← h2, List.getElem?_map, List.getElem?_eq_getElem hi, ei]; rfl
    rw [List.getElem?_map] at e
    cases ha : q.atoms[i]? with
    | none => rw [ha] at e; cases e
    | some a =>
      rw [ha] at e
      simp only [Option.map_some, Option.some.injEq] at e
      exact (congrArg Atm.aro e).symm
  · intro b' hb'
    obtain ⟨i, hi, ei⟩ := List.getElem_of_mem hb'
    have e : (q.bonds.map fun b => (b.a, b.b, (ordN (pairsF q.atoms.length mate) b : Int)))[i]? = some (tri b') := by rw [← h3, List.getElem?_map, List.getElem?_eq_getElem hi, ei]; rfl
    rw [List.getElem?_map] at e
    cases hb : q.bonds[i]? with
    | none => rw [hb] at e; cases e
    | some b =>
      rw [hb] at e
      simp only [Option.map_some, Option.some.injEq, tri, Prod.mk.injEq] at e
      have := ord_le S (List.mem_of_getElem? hb)
      omega
end
/-- In it nothing is to be set any more. -/
theorem again_done {W : ByteArray} {q : St} {os : List Nat} {ats' : List Atm} {l' : List Bnd} (A : Again q os ats' l') (hp : Bz.parse W = .ok (ats', l')) {w : World} {e : Ending} {w' : World} (h : KkIs W w e w') :
    ∃ oo oc tx co cn cc, e = .returned (.tuple #[.agg #[.int .i64 1, .slice oo (l'.map fun b => b.o.toNat).length oc, .string tx, .slice co cn cc, .slice none 0 0, .slice none 0 0], .int .i64 0, .int .i64 0]) ∧ Ints w' w.heap.size (.slice oo (l'.map fun b => b.o.toNat).length oc) (l'.map fun b => b.o.toNat) ∧ Below w.heap.size w w' := by
  rcases h with ⟨er, h, _⟩ | ⟨q', mate, f, gh, h⟩
  · rw [hp] at h; cases h
  have hpq := h.h
  rw [hp] at hpq
  simp only [Except.ok.injEq, Prod.mk.injEq] at hpq
  have hno : cnt q'.atoms.length (cand q') = 0 := cnt_none fun k _ => by
    unfold cand
    cases ha : q'.atoms[k]? with
    | none => rfl
    | some a =>
      have : a ∈ ats' := by rw [hpq.1]; exact List.mem_of_getElem? ha
      simp only
      rw [A.aro a this]
      rfl
  rcases h.case with ⟨hlow, _⟩ | ⟨_, ov, cv, hK⟩
  · omega
  · obtain ⟨he, ho, hcv, _, hb4⟩ := hK
    have hos : q'.bonds.map (ordN (pairsF q'.atoms.length mate)) = l'.map fun b => b.o.toNat := by
      rw [← hpq.2]
      refine List.map_congr_left fun b hb => ?_
      unfold ordN
      rw [if_neg (A.ord b hb).1]
    rw [hos] at ho he
    obtain ⟨oo, oc, rfl⟩ := ho.shape
    obtain ⟨co, cc, rfl⟩ := hcv.shape
    exact ⟨oo, oc, _, co, _, cc, he, ho, hb4⟩
end Go.Proofs.YtcabaecbmkgclaaGreatDoor.Kd
