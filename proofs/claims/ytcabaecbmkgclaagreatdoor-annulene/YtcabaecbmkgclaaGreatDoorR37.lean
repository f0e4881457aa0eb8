/-
  Of the bonds that the plain reader lays: both ends are there, the first below the second; no two join the same atoms; they stand by rising places.
  What the molecule's Candidates does.
  What slices.Contains (over pairs), the molecule's Doubled and counted do.
  What the molecule's Doubled does.
  Of what was read: its bonds; the graph of its candidates.
-/
import Derived.Test.YtcabaecbmkgclaaGreatDoorR09
import Derived.Test.YtcabaecbmkgclaaGreatDoorR32
import Derived.Test.YtcabaecbmkgclaaGreatDoorR36
namespace Go.Proofs.YtcabaecbmkgclaaGreatDoor
open Go.RowKit Bz
structure En (n : Nat) (l : List Bnd) (pos : Nat) : Prop where
  ends : ∀ b ∈ l, b.a < b.b ∧ b.b < n
  dist : l.Pairwise fun x y => ¬ (x.a = y.a ∧ x.b = y.b)
  rise : l.Pairwise fun x y => x.pl < y.pl
  plt : ∀ b ∈ l, b.pl < pos

theorem En.mono {n n' pos pos' : Nat} {l : List Bnd} (h : En n l pos) (hn : n ≤ n') (hp : pos ≤ pos') : En n' l pos' :=
  ⟨fun b hb => ⟨(h.ends b hb).1, Nat.lt_of_lt_of_le (h.ends b hb).2 hn⟩, h.dist, h.rise, fun b hb => Nat.lt_of_lt_of_le (h.plt b hb) hp⟩

theorem En.snoc {n pos pos' : Nat} {l : List Bnd} (h : En n l pos) {a b pl : Nat} (o : Int) (hab : a < b) (hb : b < n) (hd : ∀ x ∈ l, ¬ (x.a = a ∧ x.b = b)) (hp : pos ≤ pl) (hp' : pl < pos') : En n (l ++ [⟨a, b, o, pl⟩]) pos' := by
  refine ⟨fun x hx => ?_, ?_, ?_, fun x hx => ?_⟩
  · rcases List.mem_append.1 hx with hx | hx
    · exact h.ends x hx
    · simp at hx; subst hx; exact ⟨hab, hb⟩
  · rw [List.pairwise_append]
    refine ⟨h.dist, by simp, fun x hx y hy => ?_⟩
    simp at hy; subst hy; exact hd x hx
  · rw [List.pairwise_append]
    refine ⟨h.rise, by simp, fun x hx y hy => ?_⟩
    simp at hy; subst hy
    have := h.plt x hx
    simp only
    omega
  · rcases List.mem_append.1 hx with hx | hx
    · have := h.plt x hx; omega
    · simp at hx; subst hx; exact hp'

def Eo (p : St) : Prop := En p.atoms.length p.bonds p.pos

theorem bondEnd_en {s : ByteArray} {a : Nat} {p q : St} {g : Hung} (h : bondEnd s a p = .ok (g, q)) (o : Ok s p) (e : Eo p) : Eo q := by
  obtain ⟨h1, h2, h3, h4, h5, h6⟩ := bondEnd_ok h o.pos
  unfold Eo
  rw [h1, h2]
  exact En.mono e (Nat.le_refl _) (by omega)

theorem link_en {s : ByteArray} {a : Nat} {p q : St} {g : Hung} (h : link s a p = .ok (g, q)) (o : Ok s p) (e : Eo p) : Eo q := by
  unfold link at h
  split at h
  · simp only [Except.ok.injEq, Prod.mk.injEq] at h
    obtain ⟨rfl, rfl⟩ := h
    exact En.mono e (Nat.le_refl _) (by simp)
  · exact bondEnd_en h o e

theorem head_pl {s : ByteArray} {p : St} {g : Hung} {a : Atm} {j : Nat} (h : atomHead s g p = .ok (a, j)) : a.pl = p.pos := by
  unfold atomHead at h
  split at h
  · split at h <;> cases h
  · split at h
    · cases h
    · split at h
      · cases h
      · split at h
        · cases h
        · simp only [Except.ok.injEq, Prod.mk.injEq] at h
          obtain ⟨rfl, rfl⟩ := h
          rfl

theorem atom_en {s : ByteArray} {p q : St} {g : Hung} {k : Nat} (h : atom s g p = .ok (k, q)) (hg : HungOk g p) (e : Eo p) : Eo q := by
  rw [atom_eq] at h
  cases hh : atomHead s g p with
  | error e => rw [hh] at h; cases h
  | ok x =>
    obtain ⟨a, j⟩ := x
    rw [hh] at h
    simp only [Except.ok.injEq] at h
    have hj := head_pos hh
    unfold atomTail at h
    simp only [Prod.mk.injEq] at h
    obtain ⟨rfl, rfl⟩ := h
    split
    · exact En.mono e (by simp) (by simp; omega)
    · rename_i hne
      rcases hg with hg | ⟨fa, hf, hl⟩
      · exact absurd hg hne
      · unfold Eo Bz.bind
        simp only [hf, Int.toNat_natCast]
        have e1 : min fa p.atoms.length = fa := by omega
        have e2 : max fa p.atoms.length = p.atoms.length := by omega
        rw [e1, e2, head_pl hh]
        refine En.snoc (pos := p.pos) (En.mono e (by simp) (Nat.le_refl _)) _ hl (by simp) (fun x hx => ?_) (Nat.le_refl _) hj.1
        have := (e.ends x hx).2
        omega

theorem bonded_no {l : List Bnd} {a b : Nat} (h : bonded l a b = false) : ∀ x ∈ l, ¬ (x.a = min a b ∧ x.b = max a b) := by
  intro x hx hc
  unfold bonded at h
  have := List.any_eq_false.1 h x hx
  simp at this
  rcases Nat.le_total a b with k | k
  · rw [Nat.min_eq_left k, Nat.max_eq_right k] at hc
    exact this.1 hc.1 hc.2
  · rw [Nat.min_eq_right k, Nat.max_eq_left k] at hc
    exact this.2 hc.1 hc.2

theorem ring_en {s : ByteArray} {a : Nat} {p q : St} (h : ring s a p = .ok q) (o : Ok s p) (ha : a < p.atoms.length) (e : Eo p) : Eo q := by
  unfold ring at h
  split at h
  · cases h
  · rename_i g p1 hbe
    obtain ⟨o1, hg, ha1, hp1⟩ := bondEnd_wf hbe o ha
    have e1 := bondEnd_en hbe o e
    obtain ⟨_, _, _, _, _, h6⟩ := bondEnd_ok hbe o.pos
    split at h
    · cases h
    · rename_i n j hrn
      obtain ⟨h1, h2⟩ := ringNumber_pos hrn
      split at h
      · simp only [Except.ok.injEq] at h
        subst h
        exact En.mono e1 (Nat.le_refl _) (by simp; omega)
      · rename_i op hop
        obtain ⟨fa, hfa, hfl⟩ := o1.rings n op hop
        unfold closeRing at h
        simp only at h
        split at h
        · cases h
        · split at h
          · cases h
          · split at h
            · cases h
            · rename_i hno
              simp only [Except.ok.injEq] at h
              subst h
              simp only [not_or] at hno
              obtain ⟨n1, n2, _⟩ := hno
              have n2' : bonded p1.bonds op.hung.atom.toNat g.atom.toNat = false := by simpa using n2
              rw [hfa, h6] at n1 n2'
              simp only [Int.toNat_natCast] at n2'
              unfold Eo Bz.bind
              simp only [hfa, h6, Int.toNat_natCast]
              have hal : a < p1.atoms.length := by rw [ha1]; exact ha
              refine En.snoc (pos := p1.pos) e1 _ (by omega) (by omega) (bonded_no n2') (Nat.le_refl _) (by omega)

theorem ringsOf_en {s : ByteArray} {a : Nat} : ∀ (n : Nat) {p q : St}, ringsOf s a n p = .ok q → Ok s p → a < p.atoms.length → Eo p → Eo q
  | 0, p, q, h, _, _, e => by simp only [ringsOf, Except.ok.injEq] at h; subst h; exact e
  | n + 1, p, q, h, o, ha, e => by
    unfold ringsOf at h
    split at h
    · split at h
      · cases h
      · rename_i p1 hr
        obtain ⟨o1, h1, h2⟩ := ring_wf hr o ha
        exact ringsOf_en n h o1 (by omega) (ring_en hr o ha e)
    · simp only [Except.ok.injEq] at h; subst h; exact e

def ChainEn (s : ByteArray) (c : Hung → St → R St) : Prop := ∀ g q q', Ok s q → HungOk g q → Eo q → c g q = .ok q' → Eo q'

theorem branch_en {s : ByteArray} {c : Hung → St → R St} (hc : ChainEn s c) {a : Nat} {p q : St} (h : branch s c a p = .ok q) (o : Ok s p) (ha : a < p.atoms.length) (e : Eo p) : Eo q := by
  unfold branch at h
  split at h
  · cases h
  · rename_i g p1 hl
    obtain ⟨o1, hg, ha1, hp1⟩ := link_wf hl o ha
    have e1 := link_en hl o e
    split at h
    · cases h
    · rename_i p2 hch
      have e2 := hc g p1 p2 o1 hg e1 hch
      split at h
      · simp only [Except.ok.injEq] at h
        subst h
        exact En.mono e2 (Nat.le_refl _) (by simp)
      · cases h

theorem branches_en {s : ByteArray} {c : Hung → St → R St} (hk : ChainOk s c) (hc : ChainEn s c) {a : Nat} : ∀ (n : Nat) {p q : St}, branches s c a n p = .ok q → Ok s p → a < p.atoms.length → Eo p → Eo q
  | 0, p, q, h, _, _, e => by simp only [branches, Except.ok.injEq] at h; subst h; exact e
  | n + 1, p, q, h, o, ha, e => by
    unfold branches at h
    split at h
    · rename_i eb
      split at h
      · cases h
      · rename_i p1 hr
        have os := o.step (byte_lt eb (by decide))
        have es : Eo { p with pos := p.pos + 1 } := En.mono e (Nat.le_refl _) (by simp)
        obtain ⟨o1, h1, h2⟩ := branch_wf hk hr os ha
        simp only at h1 h2
        exact branches_en hk hc n h o1 (by omega) (branch_en hc hr os ha es)
    · simp only [Except.ok.injEq] at h; subst h; exact e

theorem knot_en {s : ByteArray} {c : Hung → St → R St} (hk : ChainOk s c) (hc : ChainEn s c) {g : Hung} {p q : St} {k : Nat} (h : knot s c g p = .ok (k, q)) (o : Ok s p) (hg : HungOk g p) (e : Eo p) : Eo q := by
  unfold knot at h
  split at h
  · cases h
  · rename_i k1 p1 ha
    obtain ⟨o1, h1, h2, h3⟩ := atom_wf ha o
    have e1 := atom_en ha hg e
    split at h
    · cases h
    · rename_i p2 hr
      obtain ⟨o2, h4, h5⟩ := ringsOf_wf _ hr o1 h1
      have e2 := ringsOf_en _ hr o1 h1 e1
      split at h
      · cases h
      · rename_i p3 hb
        simp only [Except.ok.injEq, Prod.mk.injEq] at h
        obtain ⟨rfl, rfl⟩ := h
        exact branches_en hk hc _ hb o2 (by omega) e2

theorem linkedKnot_en {s : ByteArray} {c : Hung → St → R St} (hk : ChainOk s c) (hc : ChainEn s c) {a : Nat} {p q : St} {k : Nat} (h : linkedKnot s c a p = .ok (k, q)) (o : Ok s p) (ha : a < p.atoms.length) (e : Eo p) : Eo q := by
  unfold linkedKnot at h
  split at h
  · cases h
  · rename_i g p1 hl
    obtain ⟨o1, hg, ha1, hp1⟩ := link_wf hl o ha
    exact knot_en hk hc h o1 hg (link_en hl o e)

theorem linked_en {s : ByteArray} {c : Hung → St → R St} (hk : ChainOk s c) (hc : ChainEn s c) : ∀ (n : Nat) {a : Nat} {p q : St}, Bz.linked s c n a p = .ok q → Ok s p → a < p.atoms.length → Eo p → Eo q
  | 0, a, p, q, h, _, _, e => by simp only [Bz.linked, Except.ok.injEq] at h; subst h; exact e
  | n + 1, a, p, q, h, o, ha, e => by
    unfold Bz.linked at h
    split at h
    · split at h
      · cases h
      · rename_i k1 p1 hr
        obtain ⟨o1, h1, h2, h3⟩ := linkedKnot_wf hk hr o ha
        exact linked_en hk hc n h o1 h1 (linkedKnot_en hk hc hr o ha e)
    · simp only [Except.ok.injEq] at h; subst h; exact e

theorem chain_en (s : ByteArray) : ∀ n, ChainEn s (chain s n)
  | 0 => by intro g q q' _ _ _ h; simp [chain] at h
  | n + 1 => by
    intro g q q' o hg e h
    unfold chain at h
    split at h
    · cases h
    · rename_i k p1 hk
      obtain ⟨o1, h1, h2, h3⟩ := knot_wf (chain_wf s n) hk o
      exact linked_en (chain_wf s n) (chain_en s n) _ h o1 h1 (knot_en (chain_wf s n) (chain_en s n) hk o hg e)
end Go.Proofs.YtcabaecbmkgclaaGreatDoor
namespace Go.Proofs.YtcabaecbmkgclaaGreatDoor.Kd
open Go.RowKit Bz Mt Mg
/-- Is it a candidate? -/
def cand (q : St) (i : Nat) : Bool := match q.atoms[i]? with
  | some a => a.aro && (match valences a.el a.ch with
    | x :: _ => fill q i a == x - 1
    | [] => false)
  | none => false

section
variable {w : World} {B base : Nat} {s : ByteArray} {p : St}
theorem candidate_any (h : Kd w B base p) (o : Ok s p) (hs : s.size ≤ 160) (i : Nat) (hi : i < p.atoms.length) :
    Calls Tryz.prog 32 #[.pointer (some ⟨B, 0, none⟩), .int .i64 (i : Int)] w fun e w' => e = .returned (.bool (cand p i)) ∧ Below w.heap.size w w' := by
  have gi := List.getElem?_eq_getElem hi
  generalize p.atoms[i] = a at gi
  cases ha : a.aro with
  | false =>
    have : cand p i = false := by unfold cand; rw [gi]; simp [ha]
    rw [this]
    exact candidate_no h i a gi ha
  | true =>
    cases hx : valences a.el a.ch with
    | nil => exact absurd hx (o.aros a (List.mem_of_getElem? gi) ha)
    | cons x r =>
      have : cand p i = (fill p i a == x - 1) := by unfold cand; rw [gi]; simp [ha, hx]
      rw [this]
      exact candidate_yes h o hs i a gi ha x r hx

def isEdge (p : St) (b : Bnd) : Bool := b.o == 4 && (cand p b.a && cand p b.b)
/-- The aromatic bonds between candidates. -/
def candEdges (p : St) (l : List Bnd) : List (Nat × Nat) := (l.filter (isEdge p)).map fun b => (b.a, b.b)

theorem candEdges_yes {l : List Bnd} {i : Nat} {b : Bnd} (hi : l[i]? = some b) (h : isEdge p b = true) : candEdges p (l.take (i + 1)) = candEdges p (l.take i) ++ [(b.a, b.b)] := by
  rw [take_snoc hi]
  unfold candEdges
  rw [List.filter_append, List.map_append]
  simp [h]
theorem candEdges_no {l : List Bnd} {i : Nat} {b : Bnd} (hi : l[i]? = some b) (h : isEdge p b = false) : candEdges p (l.take (i + 1)) = candEdges p (l.take i) := by
  rw [take_snoc hi]
  unfold candEdges
  rw [List.filter_append, List.map_append]
  simp [h]

/-- What Candidates hands back. -/
def CdIs (w : World) (p : St) (e : Ending) (w' : World) : Prop :=
  ∃ nr, NrOk (candEdges p p.bonds) nr ∧ e = .returned (.tuple #[.agg (nearCells nr).toArray, .int .i64 (cnt p.atoms.length (cand p) : Nat)]) ∧ Below w.heap.size w w'

set_option maxRecDepth 100000 in
set_option maxHeartbeats 4000000 in
theorem candidates_any (h : Kd w B base p) (o : Ok s p) (hs : s.size ≤ 160) (en : En p.atoms.length p.bonds s.size) :
    Calls Tryz.prog 23 #[.pointer (some ⟨B, 0, none⟩)] w fun e w' => CdIs w p e w' := by
  have HK : Hid (Kd w B base p) := h
  have HO : Hid (Ok s p) := o
  have HEN : Hid (En p.atoms.length p.bonds s.size) := en
  have hbl : p.bonds.length ≤ 160 := by have := o.bonds; have := o.pos; omega
  have hal := o.atoms
  have hBl := h.lt
  clear h o en
  go_enter Tryz.func23, Tryz.ntmps23
  go_upto_region 2 with (refine wpList_alloc rfl 65 rfl _ _ (alloc_gr0 _) ?_; simp only [Act.put, List.setIfInBounds_toArray, List.set_cons_zero, List.set_cons_succ])
  have e1 : (w.alloc (.cells (nearCells fun _ => 0).toArray 65)).heap.size = w.heap.size + 1 := by simp
  rw [e1]
  clear e1
  have HST : Hid (OfAt w.heap.size w ((w.alloc (.cells (nearCells fun _ => 0).toArray 65)).alloc (.cells (nearCells fun _ => 0).toArray 65)) fun _ => 0) := OfAt.start w _
  generalize (w.alloc (.cells (nearCells fun _ => 0).toArray 65)).alloc (.cells (nearCells fun _ => 0).toArray 65) = wm at HST ⊢
  obtain ⟨bv, hbv0, hbo⟩ := HK.out.bonds
  obtain ⟨bso, bcap, hbs⟩ := ownsRow_shape hbo
  subst hbs
  have HBV : Hid (w.cell? ⟨B, 25, none⟩ = some (.slice bso p.bonds.length bcap)) := hbv0
  have hbv := (HST.out.below.cell (p := ⟨B, 25, none⟩) hBl).trans hbv0
  clear hbo hbv0
  go_wp2_with fail
  go_loopg [14] (p.bonds.length + 1) (fun k v14 wr => ∃ (i : Nat) (nr : Nat → Nat), i ≤ p.bonds.length ∧ p.bonds.length - i < k ∧ v14 = .int .i64 (i : Nat) ∧ NrOk (candEdges p (p.bonds.take i)) nr ∧ OfAt w.heap.size w wr nr)
  case atStart => exact ⟨0, fun _ => 0, by omega, by omega, rfl, NrOk.nil, HST.out⟩
  case round =>
    clear hbv HST
    obtain ⟨i, nr, hi, hk, rfl, hnr, hat⟩ := hrel
    have HNR : Hid (NrOk (candEdges p (p.bonds.take i)) nr) := hnr
    have HAT : Hid (OfAt w.heap.size w wr nr) := hat
    clear hnr hat
    by_cases hlt : i < p.bonds.length
    · have hlt' : (i : Int) < (p.bonds.length : Int) := by omega
      have gi := List.getElem?_eq_getElem hlt
      obtain ⟨g, cap, hv, hc, _, _, hgl⟩ := HK.out.bondsAt (by omega)
      have es := hv.symm.trans HBV.out
      simp only [Option.some.injEq, Value.slice.injEq, true_and] at es
      obtain ⟨rfl, rfl⟩ := es
      have c0 := (HAT.out.below.cell (p := ⟨g, i * 4, none⟩) hgl).trans (hc i _ 0 _ gi rfl)
      have c1 := (HAT.out.below.cell (p := ⟨g, i * 4 + 1, none⟩) hgl).trans (hc i _ 1 _ gi rfl)
      have c2 := (HAT.out.below.cell (p := ⟨g, i * 4 + 2, none⟩) hgl).trans (hc i _ 2 _ gi rfl)
      have c3 := (HAT.out.below.cell (p := ⟨g, i * 4 + 3, none⟩) hgl).trans (hc i _ 3 _ gi rfl)
      have hends := HEN.out.ends _ (List.mem_of_getElem? gi)
      generalize p.bonds[i] = b at *
      obtain ⟨ba, bb, bo, bpl⟩ := b
      simp only at c0 c1 c2 c3 hends
      obtain ⟨hab, hbn⟩ := hends
      have HGI : Hid (p.bonds[i]? = some ⟨ba, bb, bo, bpl⟩) := gi
      clear gi hc hv
      have HA2 : Hid (OfAt w.heap.size w (wr.alloc (.cells #[.int .i64 (ba : Int), .int .i64 (bb : Int), .int .i64 bo, .int .i64 (bpl : Int)] 102)) nr) := HAT.out.on rfl ((Below.refl _ _).alloc (Nat.le_refl _) _)
      have q0 : (wr.alloc (.cells #[.int .i64 (ba : Int), .int .i64 (bb : Int), .int .i64 bo, .int .i64 (bpl : Int)] 102)).cell? ⟨wr.heap.size, 0, none⟩ = some (.int .i64 (ba : Int)) := by rw [World.cell?_alloc_new]; rfl
      have q1 : (wr.alloc (.cells #[.int .i64 (ba : Int), .int .i64 (bb : Int), .int .i64 bo, .int .i64 (bpl : Int)] 102)).cell? ⟨wr.heap.size, 1, none⟩ = some (.int .i64 (bb : Int)) := by rw [World.cell?_alloc_new]; rfl
      have q2 : (wr.alloc (.cells #[.int .i64 (ba : Int), .int .i64 (bb : Int), .int .i64 bo, .int .i64 (bpl : Int)] 102)).cell? ⟨wr.heap.size, 2, none⟩ = some (.int .i64 bo) := by rw [World.cell?_alloc_new]; rfl
      have hX : wr.heap.size < (wr.alloc (.cells #[.int .i64 (ba : Int), .int .i64 (bb : Int), .int .i64 bo, .int .i64 (bpl : Int)] 102)).heap.size := by simp
      clear HAT
      go_upto_region 5 with fail
      generalize wr.alloc (.cells #[.int .i64 (ba : Int), .int .i64 (bb : Int), .int .i64 bo, .int .i64 (bpl : Int)] 102) = wq at *
      generalize wr.heap.size = X at *
      clear c0 c1 c2 c3
      cases h4 : (bo == 4)
      · have HWH : Hid (isEdge p ⟨ba, bb, bo, bpl⟩ = false) := (by unfold isEdge; simp only [h4]; rfl : isEdge p ⟨ba, bb, bo, bpl⟩ = false)
        have HN : Hid (NrOk (candEdges p (p.bonds.take (i + 1))) nr) := by unfold Hid; rw [candEdges_no HGI.out HWH.out]; exact HNR.out
        go_wp2_with fail
        go_roundg (p.bonds.length - i)
        case measure => omega
        case rel => exact ⟨i + 1, nr, by omega, by omega, by go_num, HN.out, HA2.out⟩
      · have C1 := candidate_any (HK.out.below HA2.out.below) HO.out hs ba (by omega)
        cases hca : cand p ba
        · rw [hca] at C1
          have HWH : Hid (isEdge p ⟨ba, bb, bo, bpl⟩ = false) := (by unfold isEdge; simp only [hca]; simp : isEdge p ⟨ba, bb, bo, bpl⟩ = false)
          clear hca
          go_wp2_with fail
          refine C1.mono ?_
          rintro e w2 ⟨rfl, hb2⟩
          have HA3 : Hid (OfAt w.heap.size w w2 nr) := HA2.out.on rfl hb2
          clear C1 hb2
          have HN : Hid (NrOk (candEdges p (p.bonds.take (i + 1))) nr) := by unfold Hid; rw [candEdges_no HGI.out HWH.out]; exact HNR.out
          go_wp2_with fail
          go_roundg (p.bonds.length - i)
          case measure => omega
          case rel => exact ⟨i + 1, nr, by omega, by omega, by go_num, HN.out, HA3.out⟩
        · rw [hca] at C1
          have HCA : Hid (cand p ba = true) := hca
          clear hca
          go_wp2_with fail
          refine C1.mono ?_
          rintro e w2 ⟨rfl, hb2⟩
          have HA3 : Hid (OfAt w.heap.size w w2 nr) := HA2.out.on rfl hb2
          have r0 : w2.cell? ⟨X, 0, none⟩ = some (.int .i64 (ba : Int)) := (hb2.cell (p := ⟨X, 0, none⟩) hX).trans q0
          have r1 : w2.cell? ⟨X, 1, none⟩ = some (.int .i64 (bb : Int)) := (hb2.cell (p := ⟨X, 1, none⟩) hX).trans q1
          have hX2 : X < w2.heap.size := Nat.lt_of_lt_of_le hX hb2.size
          clear C1 hb2 q0 q1 q2 HA2 hX
          have C2 := candidate_any (HK.out.below HA3.out.below) HO.out hs bb (by omega)
          cases hcb : cand p bb
          · rw [hcb] at C2
            have HWH : Hid (isEdge p ⟨ba, bb, bo, bpl⟩ = false) := (by unfold isEdge; simp only [hcb]; simp : isEdge p ⟨ba, bb, bo, bpl⟩ = false)
            clear hcb
            go_wp2_with fail
            refine C2.mono ?_
            rintro e w3 ⟨rfl, hb3⟩
            have HA4 : Hid (OfAt w.heap.size w w3 nr) := HA3.out.on rfl hb3
            clear C2 hb3
            have HN : Hid (NrOk (candEdges p (p.bonds.take (i + 1))) nr) := by unfold Hid; rw [candEdges_no HGI.out HWH.out]; exact HNR.out
            go_wp2_with fail
            go_roundg (p.bonds.length - i)
            case measure => omega
            case rel => exact ⟨i + 1, nr, by omega, by omega, by go_num, HN.out, HA4.out⟩
          · rw [hcb] at C2
            have HWH : Hid (isEdge p ⟨ba, bb, bo, bpl⟩ = true) := (by unfold isEdge; simp only [h4, hcb, HCA.out]; rfl : isEdge p ⟨ba, bb, bo, bpl⟩ = true)
            clear hcb
            go_wp2_with fail
            refine C2.mono ?_
            rintro e w3 ⟨rfl, hb3⟩
            have HA4 : Hid (OfAt w.heap.size w w3 nr) := HA3.out.on rfl hb3
            have u0 : w3.cell? ⟨X, 0, none⟩ = some (.int .i64 (ba : Int)) := (hb3.cell (p := ⟨X, 0, none⟩) hX2).trans r0
            have u1 : w3.cell? ⟨X, 1, none⟩ = some (.int .i64 (bb : Int)) := (hb3.cell (p := ⟨X, 1, none⟩) hX2).trans r1
            clear C2 hb3 r0 r1 HA3
            have JN := Mg.join_any HA4.out.g (fun k hk => (HNR.out k hk).1) (show ba < 24 by omega) (show bb < 24 by omega)
            go_wp2_with fail
            refine JN.mono ?_
            rintro e w4 ⟨rfl, hA4, hf4⟩
            have HA5 : Hid (OfAt w.heap.size w w4 (joinN nr ba bb)) := HA4.out.same rfl hf4 hA4
            have HN : Hid (NrOk (candEdges p (p.bonds.take (i + 1))) (joinN nr ba bb)) := by unfold Hid; rw [candEdges_yes HGI.out HWH.out]; exact HNR.out.join (show ba < 24 by omega) (show bb < 24 by omega) (show ba ≠ bb by omega)
            clear JN hA4 hf4
            go_wp2_with fail
            go_roundg (p.bonds.length - i)
            case measure => omega
            case rel => exact ⟨i + 1, joinN nr ba bb, by omega, by omega, by go_num, HN.out, HA5.out⟩
    · have hlt' : ¬ (i : Int) < (p.bonds.length : Int) := by omega
      have HNR2 : Hid (NrOk (candEdges p p.bonds) nr) := by have := HNR.out; rw [List.take_of_length_le (by omega)] at this; exact this
      obtain ⟨av, hav0, hao⟩ := HK.out.atoms
      obtain ⟨aso, acap, has⟩ := ownsRow_shape hao
      subst has
      have hav := (HAT.out.below.cell (p := ⟨B, 24, none⟩) hBl).trans hav0
      clear hao hav0 HNR
      generalize wr = wn at HAT hav ⊢
      go_wp2_with fail
      go_loopg [7, 49] 26 (fun k v7 v49 wr => ∃ j : Nat, j ≤ p.atoms.length ∧ 25 - j ≤ k ∧ v49 = .int .i64 (j : Nat) ∧ v7 = .int .i64 (cnt j (cand p) : Nat) ∧ OfAt w.heap.size w wr nr)
      case atStart => exact ⟨0, by omega, by omega, rfl, rfl, HAT.out⟩
      case round =>
        clear HAT hav
        obtain ⟨j, hj, hkj, rfl, rfl, hat⟩ := hrel
        have HAT : Hid (OfAt w.heap.size w wr nr) := hat
        clear hat
        have hcb : cnt j (cand p) ≤ j := cnt_le
        have HCS : Hid (cnt (j + 1) (cand p) = cnt j (cand p) + if cand p j then 1 else 0) := rfl
        by_cases hjn : j < p.atoms.length
        · have hjn' : (j : Int) < (p.atoms.length : Int) := by omega
          have C1 := candidate_any (HK.out.below HAT.out.below) HO.out hs j hjn
          generalize cnt j (cand p) = C at hcb HCS ⊢
          cases hcj : cand p j
          · rw [hcj] at C1
            have HC2 : Hid (cnt (j + 1) (cand p) = C) := by rw [HCS.out, hcj]; rfl
            clear hcj HCS
            go_wp2_with fail
            refine C1.mono ?_
            rintro e w2 ⟨rfl, hb2⟩
            have HA2 : Hid (OfAt w.heap.size w w2 nr) := HAT.out.on rfl hb2
            clear C1 hb2
            go_wp2_with fail
            go_roundg (25 - (j + 1))
            case measure => omega
            case rel => exact ⟨j + 1, by omega, Nat.le_refl _, by go_num, by rw [HC2.out], HA2.out⟩
          · rw [hcj] at C1
            have HC2 : Hid (cnt (j + 1) (cand p) = C + 1) := by rw [HCS.out, hcj]; rfl
            clear hcj HCS
            go_wp2_with fail
            refine C1.mono ?_
            rintro e w2 ⟨rfl, hb2⟩
            have HA2 : Hid (OfAt w.heap.size w w2 nr) := HAT.out.on rfl hb2
            clear C1 hb2
            go_wp2_with fail
            go_roundg (25 - (j + 1))
            case measure => omega
            case rel => exact ⟨j + 1, by omega, Nat.le_refl _, by go_num, by rw [HC2.out]; go_num, HA2.out⟩
        · have hjn' : ¬ (j : Int) < (p.atoms.length : Int) := by omega
          have HE : Hid (CdIs w p (.returned (.tuple #[.agg (nearCells nr).toArray, .int .i64 (cnt j (cand p) : Nat)])) (wr.setCells w.heap.size 0 (nearCells nr))) := by
            have ej : j = p.atoms.length := by omega
            rw [ej]
            exact ⟨nr, HNR2.out, rfl, below_cells (Nat.le_refl _) _ _ _ HAT.out.below⟩
          have HLD : Hid _ := of_stored nr HAT.out.res
          have HRG : Hid (wr.rangeAt (w.heap.size + 1) 0 (nearCells nr)) := HAT.out.g.range
          clear HCS
          generalize cnt j (cand p) = C at hcb HE ⊢
          go_wp2_with (first | (refine wpList_load_mid rfl 65 (.tmp 4) rfl (w.heap.size + 1) 0 (by simp [Act.eval]) (nearCells nr) _ HRG.out Tryz.underlying65 rfl (by rw [Tryz.sizeGraph, nearCells_len]) ?_; simp only [Act.put, List.setIfInBounds_toArray, List.set_cons_zero, List.set_cons_succ]) | (refine wpList_store_mid rfl 65 (.tmp 2) (.tmp 58) rfl w.heap.size 0 (nearCells nr).toArray (by simp [Act.eval]) (by simp [Act.eval]) (by rw [near_size]; with_reducible exact HAT.out.res) (by rw [near_size]; exact Tryz.sizeGraph) (near_one _) ?_; simp only [Act.put]))
          refine bodyPost_ret (v := .tuple #[.agg (nearCells nr).toArray, .int .i64 (C : Nat)]) ?_ rfl HE.out
          have HLD := HLD.out
          simp [results, Tryz.results23, asAddr, HLD]
end
end Go.Proofs.YtcabaecbmkgclaaGreatDoor.Kd
namespace Go.Proofs.YtcabaecbmkgclaaGreatDoor.Kd
open Go.RowKit Bz Mt Mg Rf
section
variable {w : World} {B base : Nat} {s : ByteArray} {p : St}
set_option maxRecDepth 100000 in
set_option maxHeartbeats 2000000 in
theorem pindex_any (w : World) {v : Value} {l : List (Nat × Nat)} (h : NPr w v l) (a b : Nat) (hl : l.length ≤ 1000) :
    Calls Tryz.prog 88 #[v, .agg #[.int .i64 (a : Int), .int .i64 (b : Int)]] w fun e w' => ∃ r : Int, e = .returned (.int .i64 r) ∧ (0 ≤ r ↔ (a, b) ∈ l) ∧ Below w.heap.size w w' := by
  have HR : Hid (NPr w v l) := h
  have HB0 : Hid (Below w.heap.size w (w.alloc (.cells #[.int .i64 (a : Int), .int .i64 (b : Int)] 48))) := (Below.refl _ w).alloc (Nat.le_refl _) _
  have q0 : (w.alloc (.cells #[.int .i64 (a : Int), .int .i64 (b : Int)] 48)).cell? ⟨w.heap.size, 0, none⟩ = some (.int .i64 (a : Int)) := by rw [World.cell?_alloc_new]; rfl
  have q1 : (w.alloc (.cells #[.int .i64 (a : Int), .int .i64 (b : Int)] 48)).cell? ⟨w.heap.size, 1, none⟩ = some (.int .i64 (b : Int)) := by rw [World.cell?_alloc_new]; rfl
  obtain ⟨so, cap, hv, hcap, hcc⟩ := h
  subst hv
  clear hcc
  go_enter Tryz.func88, Tryz.ntmps88
  go_upto_region 1 with fail
  generalize w.alloc (.cells #[.int .i64 (a : Int), .int .i64 (b : Int)] 48) = wq at *
  have HQ : Hid (wq.cell? ⟨w.heap.size, 0, none⟩ = some (.int .i64 (a : Int)) ∧ wq.cell? ⟨w.heap.size, 1, none⟩ = some (.int .i64 (b : Int)) ∧ Below w.heap.size w wq) := ⟨q0, q1, HB0.out⟩
  clear q0 q1 HB0
  generalize hX : w.heap.size = X at *
  have HX : Hid (w.heap.size = X) := hX
  clear hX
  go_wp2_with fail
  go_loopg [8] (l.length + 1) (fun k v8 wr => ∃ i : Nat, i ≤ l.length ∧ l.length - i < k ∧ v8 = .int .i64 (i : Nat) ∧ (a, b) ∉ l.take i ∧ (wr.cell? ⟨X, 0, none⟩ = some (.int .i64 (a : Int)) ∧ wr.cell? ⟨X, 1, none⟩ = some (.int .i64 (b : Int)) ∧ Below X w wr))
  case atStart => exact ⟨0, by omega, by omega, rfl, by simp, HQ.out⟩
  case round =>
    clear HQ
    obtain ⟨i, hi, hk, rfl, hno, hat⟩ := hrel
    have HNO : Hid ((a, b) ∉ l.take i) := hno
    have HAT : Hid (wr.cell? ⟨X, 0, none⟩ = some (.int .i64 (a : Int)) ∧ wr.cell? ⟨X, 1, none⟩ = some (.int .i64 (b : Int)) ∧ Below X w wr) := hat
    clear hno hat
    by_cases hlt : i < l.length
    · have hlt' : (i : Int) < (l.length : Int) := by omega
      obtain ⟨x, y, gi⟩ : ∃ x y, l[i]? = some (x, y) := ⟨_, _, List.getElem?_eq_getElem hlt⟩
      obtain ⟨bb, oo, hso, c0, c1⟩ := (HR.out.below (by rw [HX.out]; exact HAT.out.2.2)).at gi
      subst hso
      have HGI : Hid (l[i]? = some (x, y)) := gi
      obtain ⟨q0, q1, _⟩ := HAT.out
      have HA2 : Hid (∀ n, (wr.drewN n).cell? ⟨X, 0, none⟩ = some (.int .i64 (a : Int)) ∧ (wr.drewN n).cell? ⟨X, 1, none⟩ = some (.int .i64 (b : Int)) ∧ Below X w (wr.drewN n)) := fun n => ⟨HAT.out.1, HAT.out.2.1, below_drewN HAT.out.2.2 n⟩
      clear gi
      by_cases hx : a = x ∧ b = y
      · have HY : Hid ((a, b) ∈ l) := by
          have := List.mem_of_getElem? HGI.out
          rw [← hx.1, ← hx.2] at this
          exact this
        obtain ⟨rfl, rfl⟩ := hx
        clear HAT
        go_wp2_with fail
        go_quiet (fail)
        go_wp2_with fail
        go_ret
        exact ⟨_, rfl, ⟨fun _ => HY.out, fun _ => by simp⟩, by rw [HX.out]; exact (HA2.out nq).2.2⟩
      · have HN : Hid ((a, b) ∉ l.take (i + 1)) := by
          rw [take_snoc HGI.out]
          intro hm
          rcases List.mem_append.1 hm with hm | hm
          · exact HNO.out hm
          · simp at hm
            exact hx hm
        by_cases hax : a = x
        · have hby : ¬ b = y := fun e => hx ⟨hax, e⟩
          subst hax
          have e1 : ((b : Int) == (y : Int)) = false := beq_false_of_ne (by omega)
          have e2 : ¬ ((b : Int) = (y : Int)) := by omega
          clear hx HAT
          go_wp2_with fail
          go_quiet (fail)
          go_wp2_with fail
          go_roundg (l.length - i)
          case measure => omega
          case rel => exact ⟨i + 1, by omega, by omega, by go_num, HN.out, HA2.out nq⟩
        · have e1 : ((a : Int) == (x : Int)) = false := beq_false_of_ne (by omega)
          have e2 : ¬ ((a : Int) = (x : Int)) := by omega
          clear hx HAT
          go_wp2_with fail
          go_quiet (fail)
          go_wp2_with fail
          go_roundg (l.length - i)
          case measure => omega
          case rel => exact ⟨i + 1, by omega, by omega, by go_num, HN.out, HA2.out nq⟩
    · have hlt' : ¬ (i : Int) < (l.length : Int) := by omega
      have HN : Hid ((a, b) ∉ l) := by have := HNO.out; rw [List.take_of_length_le (by omega)] at this; exact this
      go_wp2_with fail
      go_ret
      exact ⟨_, rfl, ⟨fun h => absurd h (by simp), fun h => absurd h HN.out⟩, by rw [HX.out]; exact HAT.out.2.2⟩

set_option maxRecDepth 100000 in
set_option maxHeartbeats 1000000 in
theorem pcontains_any (w : World) {v : Value} {l : List (Nat × Nat)} (h : NPr w v l) (a b : Nat) (hl : l.length ≤ 1000) :
    Calls Tryz.prog 66 #[v, .agg #[.int .i64 (a : Int), .int .i64 (b : Int)]] w fun e w' => e = .returned (.bool (decide ((a, b) ∈ l))) ∧ Below w.heap.size w w' := by
  have HI : Hid (∀ wx, Below w.heap.size w wx → Calls Tryz.prog 88 #[v, .agg #[.int .i64 (a : Int), .int .i64 (b : Int)]] wx fun e w' => ∃ r : Int, e = .returned (.int .i64 r) ∧ (0 ≤ r ↔ (a, b) ∈ l) ∧ Below w.heap.size w w') := fun wx hb => (pindex_any wx (h.below hb) a b hl).mono (by
    rintro e w' ⟨r, he, hr, hb'⟩
    exact ⟨r, he, hr, hb.trans (hb'.mono hb.size)⟩)
  have HB0 : Hid (∀ ob, Below w.heap.size w (w.alloc ob)) := fun ob => (Below.refl _ w).alloc (Nat.le_refl _) ob
  obtain ⟨so, cap, hv, hcap, hcc⟩ := h
  subst hv
  clear hcc
  go_enter Tryz.func66, Tryz.ntmps66
  go_wp2_with fail
  refine (HI.out _ (HB0.out _)).mono ?_
  rintro e w2 ⟨r, rfl, hr, hb⟩
  have HR : Hid (decide (0 ≤ r) = decide ((a, b) ∈ l)) := by
    unfold Hid
    by_cases h0 : 0 ≤ r
    · rw [decide_eq_true h0, decide_eq_true (hr.1 h0)]
    · rw [decide_eq_false h0, decide_eq_false (fun h1 => h0 (hr.2 h1))]
  have HB : Hid (Below w.heap.size w w2) := hb
  clear hr hb
  go_wp2_with fail
  go_ret
  exact ⟨Mg.ret_bool HR.out, HB.out⟩

/-- The order of a bond, when these pairs are double. -/
def ordN (P : List (Nat × Nat)) (b : Bnd) : Nat := if b.o = 4 then (if (b.a, b.b) ∈ P then 2 else 1) else b.o.toNat

/-- The first i of a list, zeros behind. -/
def osAt (f : List Nat) (n i : Nat) : List Nat := f.take i ++ List.replicate (n - i) 0

theorem osAt_len {f : List Nat} {n i : Nat} (hf : f.length = n) (hi : i ≤ n) : (osAt f n i).length = n := by unfold osAt; rw [List.length_append, List.length_take, List.length_replicate]; omega
theorem osAt_set {f : List Nat} {n i x : Nat} (hf : f.length = n) (hi : i < n) (hx : f[i]? = some x) : (osAt f n i).set i x = osAt f n (i + 1) := by
  have hl : (f.take i).length = i := by rw [List.length_take]; omega
  unfold osAt
  rw [take_snoc hx, List.set_append_right _ _ (by omega), hl, show i - i = 0 by omega, show n - i = (n - (i + 1)) + 1 by omega, List.replicate_succ, List.set_cons_zero, List.append_assoc]
  rfl
theorem osAt_zero (f : List Nat) (n : Nat) : osAt f n 0 = List.replicate n 0 := by unfold osAt; simp
theorem osAt_full {f : List Nat} {n : Nat} (hf : f.length = n) : osAt f n n = f := by unfold osAt; rw [List.take_of_length_le (by omega)]; simp

theorem ints_made {w : World} {base D n : Nat} (h : w.ownsRow base 3 1 (.slice (some ⟨D, 0, none⟩) n n) n (madeCells #[.int .i64 0] n).toList) : Ints w base (.slice (some ⟨D, 0, none⟩) n n) (List.replicate n 0) := by
  unfold Ints
  rw [List.length_replicate, show intCells (List.replicate n 0) = (madeCells #[.int .i64 0] n).toList by rw [toList_madeCells_one]; unfold intCells; rw [List.map_replicate]; rfl]
  exact h

/-- A row that is being written. -/
structure RwAt (w wr : World) (D n : Nat) (f : List Nat) (i : Nat) : Prop where
  row : Ints wr w.heap.size (.slice (some ⟨D, 0, none⟩) n n) (osAt f n i)
  below : Below w.heap.size w wr
  le : w.heap.size ≤ D

theorem RwAt.cell {w wr : World} {D n : Nat} {f : List Nat} {i : Nat} (h : RwAt w wr D n f i) (hf : f.length = n) (hi : i < n) : (∃ y : Nat, wr.cell? ⟨D, i, none⟩ = some (.int .i64 (y : Int))) ∧ wr.frozen? ⟨D, i, none⟩ = false := by
  have hl := osAt_len hf (Nat.le_of_lt hi)
  have hg : (osAt f n i)[i]? = some ((osAt f n i)[i]'(by omega)) := List.getElem?_eq_getElem (by omega)
  obtain ⟨g, cap, e, _, _, hc⟩ := h.row.at hg
  simp only [Value.slice.injEq, Option.some.injEq, Addr.mk.injEq, and_true] at e
  obtain ⟨rfl, -, -⟩ := e
  have hr : Ints wr w.heap.size (.slice (some ⟨D, 0, none⟩) (osAt f n i).length n) (osAt f n i) := by rw [hl]; exact h.row
  exact ⟨⟨_, hc⟩, Mg.Ints.free hr i⟩

theorem RwAt.set {w wr : World} {D n : Nat} {f : List Nat} {i x : Nat} (h : RwAt w wr D n f i) (hf : f.length = n) (hi : i < n) (hx : f[i]? = some x) : RwAt w (wr.setCell ⟨D, i, none⟩ (.int .i64 (x : Int))) D n f (i + 1) := by
  have hl := osAt_len hf (Nat.le_of_lt hi)
  refine ⟨?_, h.below.setCell (p := ⟨D, i, none⟩) h.le _, h.le⟩
  have hr : Ints wr w.heap.size (.slice (some ⟨D, 0, none⟩) (osAt f n i).length n) (osAt f n i) := by rw [hl]; exact h.row
  have := Mg.Ints.set hr (i := i) (by omega) x
  rw [osAt_set hf hi hx, hl] at this
  exact this

theorem RwAt.on {w wr w' : World} {D n : Nat} {f : List Nat} {i : Nat} (h : RwAt w wr D n f i) (hb : Below wr.heap.size wr w') : RwAt w w' D n f i :=
  ⟨ownsRow_same h.row fun k hk => hb.block k (h.row.lt k hk).2, h.below.trans (hb.mono h.below.size), h.le⟩

set_option maxRecDepth 100000 in
set_option maxHeartbeats 1000000 in
theorem counted_any (w : World) (n : Nat) (hn : n ≤ 24) : Calls Tryz.prog 42 #[.int .i64 (n : Int)] w fun e w' => ∃ v, e = .returned v ∧ Ints w' w.heap.size v (List.range n) ∧ Below w.heap.size w w' := by
  obtain ⟨i0, hi0, hz0, hz1, hz2⟩ := info_parts Mg.Tryz.infoInt
  have hf : (List.range n).length = n := by simp
  have HF : Hid ((List.range n).length = n) := hf
  clear hf
  go_enter Tryz.func42, Tryz.ntmps42
  go_wp2_with (at_make; go_must (refine wpList_make_full _ rfl _ _ 25 rfl w.heap.size 3 i0 (.int .i64 0) 1 Tryz.underlying25 hi0 hz0 hz1 .i64 .i64 _ _ n rfl rfl rfl rfl ?c1 ?c2 ?c3 ?_))
  case c1 => rw [hz2]; omega
  case c2 => unfold maxLen; omega
  case c3 => exact Nat.le_refl _
  intro w1 hown hgrow
  have HST : Hid (RwAt w w1 w.heap.size n (List.range n) 0) := ⟨by rw [osAt_zero]; exact ints_made hown, (Below.refl _ w).grown hgrow (Nat.le_refl _) (by simp), Nat.le_refl _⟩
  clear hown hgrow
  generalize w.heap.size = D at HST ⊢
  go_wp2_with fail
  go_loopg [9] 26 (fun k v9 wr => ∃ i : Nat, i ≤ n ∧ 25 - i ≤ k ∧ v9 = .int .i64 (i : Nat) ∧ RwAt w wr D n (List.range n) i)
  case atStart => exact ⟨0, by omega, by omega, rfl, HST.out⟩
  case round =>
    clear HST
    obtain ⟨i, hi, hk, rfl, hat⟩ := hrel
    have HAT : Hid (RwAt w wr D n (List.range n) i) := hat
    clear hat
    by_cases hlt : i < n
    · have hlt' : (i : Int) < (n : Int) := by omega
      obtain ⟨⟨y, cy⟩, fy⟩ := HAT.out.cell HF.out hlt
      have HN : Hid (RwAt w (wr.setCell ⟨D, i, none⟩ (.int .i64 (i : Int))) D n (List.range n) (i + 1)) := HAT.out.set HF.out hlt (List.getElem?_range hlt)
      go_wp2_with fail
      go_roundg (25 - (i + 1))
      case measure => omega
      case rel => exact ⟨i + 1, by omega, Nat.le_refl _, by go_num, HN.out⟩
    · have hlt' : ¬ (i : Int) < (n : Int) := by omega
      obtain rfl : n = i := by omega
      have HE : Hid (Ints wr w.heap.size (.slice (some ⟨D, 0, none⟩) n n) (List.range n)) := by have := HAT.out.row; rw [osAt_full HF.out] at this; exact this
      go_wp2_with fail
      go_ret
      exact ⟨_, rfl, HE.out, HAT.out.below⟩
end
section
variable {w : World} {B base : Nat} {s : ByteArray} {p : St}
set_option maxRecDepth 100000 in
set_option maxHeartbeats 4000000 in
theorem doubled_any (h : Kd w B base p) (o : Ok s p) (hs : s.size ≤ 160) {pv : Value} {P : List (Nat × Nat)} (hP : NPr w pv P) (hPl : P.length ≤ 1000) :
    Calls Tryz.prog 40 #[.pointer (some ⟨B, 0, none⟩), pv] w fun e w' => ∃ v, e = .returned v ∧ Ints w' w.heap.size v (p.bonds.map (ordN P)) ∧ Below w.heap.size w w' := by
  obtain ⟨i0, hi0, hz0, hz1, hz2⟩ := info_parts Mg.Tryz.infoInt
  have HK : Hid (Kd w B base p) := h
  have HO : Hid (Ok s p) := o
  have HPN : Hid (NPr w pv P) := hP
  have hbl : p.bonds.length ≤ 160 := by have := o.bonds; have := o.pos; omega
  have hBl := h.lt
  have HF : Hid ((p.bonds.map (ordN P)).length = p.bonds.length) := (by simp : (p.bonds.map (ordN P)).length = p.bonds.length)
  obtain ⟨bv, hbv0, hbo⟩ := h.bonds
  obtain ⟨bso, bcap, hbs⟩ := ownsRow_shape hbo
  subst hbs
  obtain ⟨po, pc, hpv, _, _⟩ := hP
  subst hpv
  have HBV : Hid (w.cell? ⟨B, 25, none⟩ = some (.slice bso p.bonds.length bcap)) := hbv0
  clear hbo h o
  go_enter Tryz.func40, Tryz.ntmps40
  go_wp2_with (at_make; go_must (refine wpList_make_full _ rfl _ _ 25 rfl w.heap.size 3 i0 (.int .i64 0) 1 Tryz.underlying25 hi0 hz0 hz1 .i64 .i64 _ _ p.bonds.length rfl rfl rfl rfl ?c1 ?c2 ?c3 ?_))
  case c1 => rw [hz2]; omega
  case c2 => unfold maxLen; omega
  case c3 => exact Nat.le_refl _
  intro w1 hown hgrow
  have HST : Hid (RwAt w w1 w.heap.size p.bonds.length (p.bonds.map (ordN P)) 0) := ⟨by rw [osAt_zero]; exact ints_made hown, (Below.refl _ w).grown hgrow (Nat.le_refl _) (by simp), Nat.le_refl _⟩
  have hbv := (HST.out.below.cell (p := ⟨B, 25, none⟩) hBl).trans hbv0
  clear hown hgrow hbv0
  generalize w.heap.size = D at HST ⊢
  go_wp2_with fail
  go_loopg [19] (p.bonds.length + 1) (fun k v19 wr => ∃ i : Nat, i ≤ p.bonds.length ∧ p.bonds.length - i < k ∧ v19 = .int .i64 (i : Nat) ∧ RwAt w wr D p.bonds.length (p.bonds.map (ordN P)) i)
  case atStart => exact ⟨0, by omega, by omega, rfl, HST.out⟩
  case round =>
    clear HST hbv
    obtain ⟨i, hi, hk, rfl, hat⟩ := hrel
    have HAT : Hid (RwAt w wr D p.bonds.length (p.bonds.map (ordN P)) i) := hat
    clear hat
    by_cases hlt : i < p.bonds.length
    · have hlt' : (i : Int) < (p.bonds.length : Int) := by omega
      have gi := List.getElem?_eq_getElem hlt
      obtain ⟨g, cap, hv, hc, _, _, hgl⟩ := HK.out.bondsAt (by omega)
      have es := hv.symm.trans HBV.out
      simp only [Option.some.injEq, Value.slice.injEq, true_and] at es
      obtain ⟨rfl, rfl⟩ := es
      have c0 := (HAT.out.below.cell (p := ⟨g, i * 4, none⟩) hgl).trans (hc i _ 0 _ gi rfl)
      have c1 := (HAT.out.below.cell (p := ⟨g, i * 4 + 1, none⟩) hgl).trans (hc i _ 1 _ gi rfl)
      have c2 := (HAT.out.below.cell (p := ⟨g, i * 4 + 2, none⟩) hgl).trans (hc i _ 2 _ gi rfl)
      have c3 := (HAT.out.below.cell (p := ⟨g, i * 4 + 3, none⟩) hgl).trans (hc i _ 3 _ gi rfl)
      have hord := HO.out.ords _ (List.mem_of_getElem? gi)
      have gx : (p.bonds.map (ordN P))[i]? = some (ordN P p.bonds[i]) := by rw [List.getElem?_map, gi]; rfl
      generalize p.bonds[i] = b at *
      obtain ⟨ba, bb, bo, bpl⟩ := b
      simp only at c0 c1 c2 c3 hord
      obtain ⟨m, rfl⟩ := Int.eq_ofNat_of_zero_le (show 0 ≤ bo by omega)
      have HGX : Hid ((p.bonds.map (ordN P))[i]? = some (ordN P ⟨ba, bb, (m : Int), bpl⟩)) := gx
      clear gi hc hv gx
      have HA2 : Hid (RwAt w (wr.alloc (.cells #[.int .i64 (ba : Int), .int .i64 (bb : Int), .int .i64 (m : Int), .int .i64 (bpl : Int)] 102)) D p.bonds.length (p.bonds.map (ordN P)) i) := HAT.out.on ((Below.refl _ _).alloc (Nat.le_refl _) _)
      have q0 : (wr.alloc (.cells #[.int .i64 (ba : Int), .int .i64 (bb : Int), .int .i64 (m : Int), .int .i64 (bpl : Int)] 102)).cell? ⟨wr.heap.size, 0, none⟩ = some (.int .i64 (ba : Int)) := by rw [World.cell?_alloc_new]; rfl
      have q1 : (wr.alloc (.cells #[.int .i64 (ba : Int), .int .i64 (bb : Int), .int .i64 (m : Int), .int .i64 (bpl : Int)] 102)).cell? ⟨wr.heap.size, 1, none⟩ = some (.int .i64 (bb : Int)) := by rw [World.cell?_alloc_new]; rfl
      have q2 : (wr.alloc (.cells #[.int .i64 (ba : Int), .int .i64 (bb : Int), .int .i64 (m : Int), .int .i64 (bpl : Int)] 102)).cell? ⟨wr.heap.size, 2, none⟩ = some (.int .i64 (m : Int)) := by rw [World.cell?_alloc_new]; rfl
      clear HAT
      go_upto_region 6 with fail
      generalize wr.alloc (.cells #[.int .i64 (ba : Int), .int .i64 (bb : Int), .int .i64 (m : Int), .int .i64 (bpl : Int)] 102) = wq at *
      generalize wr.heap.size = X at *
      clear c0 c1 c2 c3
      cases h4 : ((m : Int) == 4)
      · have h4n : ((m : Int) != 4) = true := by simp [bne, h4]
        have HOR : Hid (ordN P ⟨ba, bb, (m : Int), bpl⟩ = m) := by
          unfold Hid ordN
          rw [if_neg (by simpa using h4)]
          simp
        obtain ⟨⟨y, cy⟩, fy⟩ := HA2.out.cell HF.out hlt
        have HN : Hid (RwAt w (wq.setCell ⟨D, i, none⟩ (.int .i64 (m : Int))) D p.bonds.length (p.bonds.map (ordN P)) (i + 1)) := by
          have := HA2.out.set HF.out hlt HGX.out
          rw [HOR.out] at this
          exact this
        go_wp2_with fail
        go_roundg (p.bonds.length - i)
        case measure => omega
        case rel => exact ⟨i + 1, by omega, by omega, by go_num, HN.out⟩
      · have h4n : ((m : Int) != 4) = false := by simp [bne, h4]
        have PC := pcontains_any wq (HPN.out.below HA2.out.below) ba bb hPl
        by_cases hin : (ba, bb) ∈ P
        · rw [decide_eq_true hin] at PC
          have HOR : Hid (ordN P ⟨ba, bb, (m : Int), bpl⟩ = 2) := by
            unfold Hid ordN
            rw [if_pos (by simpa using h4), if_pos hin]
          clear hin
          go_wp2_with fail
          refine PC.mono ?_
          rintro e w2 ⟨rfl, hb2⟩
          have HA3 : Hid (RwAt w w2 D p.bonds.length (p.bonds.map (ordN P)) i) := HA2.out.on hb2
          obtain ⟨⟨y, cy⟩, fy⟩ := HA3.out.cell HF.out hlt
          have HN : Hid (RwAt w (w2.setCell ⟨D, i, none⟩ (.int .i64 2)) D p.bonds.length (p.bonds.map (ordN P)) (i + 1)) := by
            have := HA3.out.set HF.out hlt HGX.out
            rw [HOR.out] at this
            exact this
          clear PC hb2
          go_wp2_with fail
          go_roundg (p.bonds.length - i)
          case measure => omega
          case rel => exact ⟨i + 1, by omega, by omega, by go_num, HN.out⟩
        · rw [decide_eq_false hin] at PC
          have HOR : Hid (ordN P ⟨ba, bb, (m : Int), bpl⟩ = 1) := by
            unfold Hid ordN
            rw [if_pos (by simpa using h4), if_neg hin]
          clear hin
          go_wp2_with fail
          refine PC.mono ?_
          rintro e w2 ⟨rfl, hb2⟩
          have HA3 : Hid (RwAt w w2 D p.bonds.length (p.bonds.map (ordN P)) i) := HA2.out.on hb2
          obtain ⟨⟨y, cy⟩, fy⟩ := HA3.out.cell HF.out hlt
          have HN : Hid (RwAt w (w2.setCell ⟨D, i, none⟩ (.int .i64 1)) D p.bonds.length (p.bonds.map (ordN P)) (i + 1)) := by
            have := HA3.out.set HF.out hlt HGX.out
            rw [HOR.out] at this
            exact this
          clear PC hb2
          go_wp2_with fail
          go_roundg (p.bonds.length - i)
          case measure => omega
          case rel => exact ⟨i + 1, by omega, by omega, by go_num, HN.out⟩
    · have hlt' : ¬ (i : Int) < (p.bonds.length : Int) := by omega
      have HE : Hid (Ints wr w.heap.size (.slice (some ⟨D, 0, none⟩) p.bonds.length p.bonds.length) (p.bonds.map (ordN P))) := by
        have := HAT.out.row
        rw [show i = p.bonds.length by omega, osAt_full HF.out] at this
        exact this
      go_wp2_with fail
      go_ret
      exact ⟨_, rfl, HE.out, HAT.out.below⟩
end
theorem start_en : Eo Bz.start := ⟨fun b hb => (by cases hb), List.Pairwise.nil, List.Pairwise.nil, fun b hb => (by cases hb)⟩

/-- Of the bonds of a molecule that was read: both ends are there, they are all different, they stand by rising places. -/
theorem parse_en {s : ByteArray} {ats : List Atm} {l : List Bnd} (h : Bz.parse s = .ok (ats, l)) : s.size ≤ 160 ∧ En ats.length l s.size := by
  unfold Bz.parse at h
  split at h
  · cases h
  · rename_i hs
    refine ⟨by omega, ?_⟩
    split at h
    · cases h
    · rename_i p hc
      have ho := (chain_wf s (s.size + 1) _ _ _ (start_ok s) (.inl rfl) hc).1
      have he := chain_en s (s.size + 1) _ _ _ (start_ok s) (.inl rfl) start_en hc
      split at h
      · cases h
      · split at h
        · cases h
        · simp only at h
          split at h
          · cases h
          · simp only [Except.ok.injEq, Prod.mk.injEq] at h
            obtain ⟨rfl, rfl⟩ := h
            rw [List.length_mapIdx]
            exact En.mono he (Nat.le_refl _) ho.pos

theorem candEdges_mem {p : St} {l : List Bnd} {x y : Nat} : (x, y) ∈ candEdges p l ↔ ∃ b ∈ l, isEdge p b = true ∧ b.a = x ∧ b.b = y := by
  unfold candEdges
  rw [List.mem_map]
  constructor
  · rintro ⟨b, hb, e⟩
    obtain ⟨h1, h2⟩ := List.mem_filter.1 hb
    simp only [Prod.mk.injEq] at e
    exact ⟨b, h1, h2, e.1, e.2⟩
  · rintro ⟨b, h1, h2, rfl, rfl⟩
    exact ⟨b, List.mem_filter.2 ⟨h1, h2⟩, rfl⟩

theorem candEdges_ok {p : St} {n pos : Nat} (h : En n p.bonds pos) : EdOk n (candEdges p p.bonds) := by
  intro q hq
  obtain ⟨x, y⟩ := q
  obtain ⟨b, hb, _, rfl, rfl⟩ := candEdges_mem.1 hq
  obtain ⟨h1, h2⟩ := h.ends b hb
  exact ⟨by simp only; omega, h2, by simp only; omega⟩

/-- Only candidates have edges. -/
theorem candEdges_in {p : St} (x y : Nat) (h : adjL (candEdges p p.bonds) x y = true) : cand p x = true ∧ cand p y = true := by
  have key : ∀ u v, (u, v) ∈ candEdges p p.bonds → cand p u = true ∧ cand p v = true := fun u v hm => by
    obtain ⟨b, _, he, rfl, rfl⟩ := candEdges_mem.1 hm
    unfold isEdge at he
    simp only [Bool.and_eq_true] at he
    exact he.2
  rcases adjL_iff.1 h with k | k
  · exact key x y k
  · exact (key y x k).symm

/-- The pairs are bonds: each stands in the list of bonds just once. -/
theorem pair_bond {p : St} {n pos : Nat} {mate : Nat → Option Nat} {f : Fo} {h : Gh} (en : En n p.bonds pos) (hB : Best (grL n (candEdges p p.bonds)) mate f h) {x y : Nat} (hxy : (x, y) ∈ pairsF n mate) : ∃ b ∈ p.bonds, isEdge p b = true ∧ b.a = x ∧ b.b = y := by
  obtain ⟨h1, h2, h3⟩ := pairsF_mem hxy
  simp only at h1 h2 h3
  have ha : adjL (candEdges p p.bonds) x y = true := hB.m.adj x y h1
  rcases adjL_iff.1 ha with k | k
  · exact candEdges_mem.1 k
  · obtain ⟨b, hb, _, e1, e2⟩ := candEdges_mem.1 k
    have := (en.ends b hb).1
    omega

/-- As many bonds become double as there are pairs. -/
theorem doubled_count {p : St} {n pos : Nat} {mate : Nat → Option Nat} {f : Fo} {h : Gh} (en : En n p.bonds pos) (hB : Best (grL n (candEdges p p.bonds)) mate f h) :
    (p.bonds.filter fun b => b.o == 4 && decide ((b.a, b.b) ∈ pairsF n mate)).length = (pairsF n mate).length := by
  have e1 : ((p.bonds.filter fun b => b.o == 4 && decide ((b.a, b.b) ∈ pairsF n mate)).map fun b => (b.a, b.b)).length = (p.bonds.filter fun b => b.o == 4 && decide ((b.a, b.b) ∈ pairsF n mate)).length := List.length_map ..
  rw [← e1]
  have nd1 : ((p.bonds.filter fun b => b.o == 4 && decide ((b.a, b.b) ∈ pairsF n mate)).map fun b => (b.a, b.b)).Nodup := by
    unfold List.Nodup
    rw [List.pairwise_map]
    refine (List.Pairwise.filter _ en.dist).imp fun {x y} hxy e => hxy ?_
    simp only [Prod.mk.injEq] at e
    exact e
  have nd2 : (pairsF n mate).Nodup := (pairsF_rising (n := n) (mate := mate)).imp fun {x y} hxy e => by rw [e] at hxy; omega
  have m1 : ∀ q ∈ (p.bonds.filter fun b => b.o == 4 && decide ((b.a, b.b) ∈ pairsF n mate)).map (fun b => (b.a, b.b)), q ∈ pairsF n mate := fun q hq => by
    obtain ⟨b, hb, rfl⟩ := List.mem_map.1 hq
    have := (List.mem_filter.1 hb).2
    simp only [Bool.and_eq_true, decide_eq_true_eq] at this
    exact this.2
  have m2 : ∀ q ∈ pairsF n mate, q ∈ (p.bonds.filter fun b => b.o == 4 && decide ((b.a, b.b) ∈ pairsF n mate)).map (fun b => (b.a, b.b)) := fun q hq => by
    obtain ⟨x, y⟩ := q
    obtain ⟨b, hb, he, rfl, rfl⟩ := pair_bond en hB hq
    refine List.mem_map.2 ⟨b, List.mem_filter.2 ⟨hb, ?_⟩, rfl⟩
    unfold isEdge at he
    simp only [Bool.and_eq_true] at he ⊢
    exact ⟨he.1, decide_eq_true hq⟩
  have len : ∀ (l r : List (Nat × Nat)), l.Nodup → (∀ q ∈ l, q ∈ r) → l.length ≤ r.length := by
    intro l
    induction l with
    | nil => intro r _ _; exact Nat.zero_le _
    | cons a l ih =>
      intro r hn hm
      rw [List.nodup_cons] at hn
      have ha := hm a (by simp)
      have := ih (r.erase a) hn.2 (fun q hq => (List.mem_erase_of_ne (show q ≠ a from fun e => hn.1 (by rw [← e]; exact hq))).2 (hm q (by simp [hq])))
      rw [List.length_erase_of_mem ha] at this
      have := List.length_pos_of_mem ha
      simp only [List.length_cons]
      omega
  exact Nat.le_antisymm (len _ _ nd1 m1) (len _ _ nd2 m2)
end Go.Proofs.YtcabaecbmkgclaaGreatDoor.Kd
