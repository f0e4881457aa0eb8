/-
  What Kekulize writes is what it set: the text read again, the sums of the orders.
  Rings of six in a row: their texts, and what is read in them.
  pick, ring: what benzolkeep makes texts of.
  Fused: the text that it makes.
  What the document fixes (works), and what Kekulize's verdict says.
  Apart.
  Sound: its helpers.
-/
import Derived.Test.YtcabaecbmkgclaaGreatDoorP18
import Derived.BigQuiet
import Derived.Deep.LoopGhost
import Derived.Deep.CutBlock
import Derived.Deep.CutRange

namespace Go.Proofs.YtcabaecbmkgclaaGreatDoor.Kd
open Bz Mt Cp

/-- Which bonds are made double. -/
def inP (P : List (Nat × Nat)) (b : Bnd) : Bool := decide ((b.a, b.b) ∈ P)

theorem wrR_congr {d d' : Nat → Bool} : ∀ (t : List UInt8) (x : Nat), (∀ y, x ≤ y → d y = d' y) → wrR d t x = wrR d' t x
  | [], _, _ => rfl
  | c :: t, x, h => by rw [wrR, wrR, h x (Nat.le_refl _), wrR_congr t (x + 1) fun y hy => h y (by omega)]

theorem wrR_none {d : Nat → Bool} : ∀ (t : List UInt8) (x : Nat), (∀ y, x ≤ y → d y = false) → wrR d t x = capL t
  | [], _, _ => rfl
  | c :: t, x, h => by
    rw [wrR, h x (Nat.le_refl _), wrR_none t (x + 1) fun y hy => h y (by omega), capL_cons]
    rfl

/-- Up to a place ahead of which nothing is put in. -/
theorem wrR_upto {d : Nat → Bool} : ∀ (k : Nat) (t : List UInt8) (x : Nat), k ≤ t.length → (∀ y, x ≤ y → y < x + k → d y = false) → wrR d t x = capL (t.take k) ++ wrR d (t.drop k) (x + k)
  | 0, t, x, _, _ => by simp [capL]
  | k + 1, [], x, h, _ => by simp at h
  | k + 1, c :: t, x, h, hd => by
    have ih := wrR_upto k t (x + 1) (by simpa using h) fun y h1 h2 => hd y (by omega) (by omega)
    rw [wrR, hd x (Nat.le_refl _) (by omega), ih, List.take_succ_cons, capL_cons, List.drop_succ_cons, show x + 1 + k = x + (k + 1) by omega]
    simp only [Bool.false_eq_true, if_false, List.nil_append, List.append_assoc]
    rfl

theorem dOf_cons (b : Bnd) (l : List Bnd) (e : Bnd → Bool) (x : Nat) : dOf (b :: l) e x = ((b.pl == x && (b.o == 4 && e b)) || dOf l e x) := rfl

theorem ord_two (P : List (Nat × Nat)) (b : Bnd) : (b.o = 4 ∧ ordN P b = 2) ↔ (b.o == 4 && inP P b) = true := by
  unfold ordN inP
  by_cases h : b.o = 4
  · by_cases hp : (b.a, b.b) ∈ P <;> simp [h, hp]
  · simp [h]

theorem wrGo_is (P : List (Nat × Nat)) (t : List UInt8) : ∀ (l : List Bnd) (f : Nat), l.Pairwise (fun x y => x.pl < y.pl) → (∀ b ∈ l, f ≤ b.pl ∧ b.pl < t.length) → wrGo t (l.map fun b => (b, ordN P b)) f = wrR (dOf l (inP P)) (t.drop f) f
  | [], f, _, _ => by
    rw [List.map_nil, wrGo, wrR_none]
    intro y _
    rfl
  | b :: l, f, hr, hb => by
    obtain ⟨h1, h2⟩ := List.pairwise_cons.1 hr
    have hbb := hb b (by simp)
    rw [List.map_cons, wrGo]
    by_cases hc : b.o = 4 ∧ ordN P b = 2
    · have hcb := (ord_two P b).1 hc
      rw [if_pos hc, wrGo_is P t l b.pl h2 fun c hm => ⟨Nat.le_of_lt (h1 c hm), (hb c (by simp [hm])).2⟩]
      have hno : ∀ y, f ≤ y → y < f + (b.pl - f) → dOf (b :: l) (inP P) y = false := fun y y1 y2 => by
        rw [dOf_cons]
        have : (b.pl == y) = false := by simp; omega
        rw [this, Bool.false_and, Bool.false_or]
        cases hd : dOf l (inP P) y
        · rfl
        · obtain ⟨c, hm, hpl, _⟩ := dOf_mem.1 hd
          have := h1 c hm
          omega
      rw [wrR_upto (d := dOf (b :: l) (inP P)) (b.pl - f) (t.drop f) f (by rw [List.length_drop]; omega) hno, List.drop_drop, show f + (b.pl - f) = b.pl by omega, List.append_assoc]
      congr 1
      have hdr : t.drop b.pl = t[b.pl]'hbb.2 :: t.drop (b.pl + 1) := List.drop_eq_getElem_cons hbb.2
      rw [hdr, wrR, wrR]
      have d1 : dOf (b :: l) (inP P) b.pl = true := by rw [dOf_cons, hcb]; simp
      have d2 : dOf l (inP P) b.pl = false := by
        cases hd : dOf l (inP P) b.pl
        · rfl
        · obtain ⟨c, hm, hpl, _⟩ := dOf_mem.1 hd
          have := h1 c hm
          omega
      have d3 : wrR (dOf l (inP P)) (t.drop (b.pl + 1)) (b.pl + 1) = wrR (dOf (b :: l) (inP P)) (t.drop (b.pl + 1)) (b.pl + 1) := wrR_congr _ _ fun y hy => by
        rw [dOf_cons]
        have : (b.pl == y) = false := by simp; omega
        rw [this, Bool.false_and, Bool.false_or]
      rw [d1, d2, d3]
      rfl
    · rw [if_neg hc, wrGo_is P t l f h2 fun c hm => hb c (by simp [hm])]
      refine wrR_congr _ _ fun y _ => ?_
      rw [dOf_cons]
      have : (b.o == 4 && inP P b) = false := by
        cases hx : (b.o == 4 && inP P b)
        · rfl
        · exact absurd ((ord_two P b).2 hx) hc
      rw [this, Bool.and_false, Bool.false_or]

theorem zip_map (l : List Bnd) (g : Bnd → Nat) : l.zip (l.map g) = l.map fun b => (b, g b) := by
  induction l with
  | nil => rfl
  | cons b l ih => rw [List.map_cons, List.zip_cons_cons, ih]; rfl

section
variable {q : St} {n pos : Nat} {mate : Nat → Option Nat} {f : Fo} {gh : Gh}

theorem pairs_iff {a b : Nat} : (a, b) ∈ pairsF n mate ↔ mate a = some b ∧ a < b ∧ a < n := by
  constructor
  · exact pairsF_mem
  · rintro ⟨h1, h2, h3⟩
    unfold pairsF
    rw [List.mem_map]
    have hm : mateOf mate a = b := by unfold mateOf; rw [h1]; rfl
    refine ⟨a, List.mem_filter.2 ⟨List.mem_range.2 h3, ?_⟩, by rw [hm]⟩
    rw [h1, hm]
    simp [h2]

/-- A bond is made double just if its place is one of those. -/
theorem d_place (en : En n q.bonds pos) (P : List (Nat × Nat)) {b : Bnd} (hb : b ∈ q.bonds) (h4 : b.o = 4) : dOf q.bonds (inP P) b.pl = inP P b := by
  have uniq : ∀ c ∈ q.bonds, c.pl = b.pl → c = b := by
    intro c hc he
    obtain ⟨i, hi, ei⟩ := List.getElem_of_mem hc
    obtain ⟨j, hj, ej⟩ := List.getElem_of_mem hb
    have hp := List.pairwise_iff_getElem.1 en.rise
    rcases Nat.lt_trichotomy i j with h | h | h
    · have := hp i j hi hj h
      rw [ei, ej] at this
      omega
    · subst h
      rw [← ei, ← ej]
    · have := hp j i hj hi h
      rw [ei, ej] at this
      omega
  rw [Bool.eq_iff_iff, dOf_mem]
  constructor
  · rintro ⟨c, hc, h1, _, h3⟩
    rw [← uniq c hc h1]
    exact h3
  · intro h
    exact ⟨b, hb, rfl, h4, h⟩

theorem new_ord (en : En n q.bonds pos) (P : List (Nat × Nat)) (hpos : ∀ b ∈ q.bonds, 1 ≤ b.o ∧ b.o ≤ 4) {b : Bnd} (hb : b ∈ q.bonds) : newO (dOf q.bonds (inP P)) b.o b.pl = (ordN P b : Int) := by
  unfold newO ordN
  by_cases h4 : b.o = 4
  · rw [if_pos h4, if_pos h4, d_place en P hb h4]
    unfold inP
    by_cases hp : (b.a, b.b) ∈ P <;> simp [hp]
  · rw [if_neg h4, if_neg h4]
    have := hpos b hb
    omega

/-- Of each candidate just one bond is made double, of another atom none. -/
theorem dAt_is (en : En q.atoms.length q.bonds pos) (hn : q.atoms.length ≤ 24) (hB : Best (grL q.atoms.length (candEdges q q.bonds)) mate f gh) (hd : ¬ 2 * (pairsF q.atoms.length mate).length < cnt q.atoms.length (cand q)) {x : Nat} (hx : x < q.atoms.length) :
    dAt q.bonds (dOf q.bonds (inP (pairsF q.atoms.length mate))) x = if cand q x = true then 1 else 0 := by
  have E := candEdges_ok en
  have all : ∀ i, i < q.atoms.length → cand q i = true → (mate i).isSome = true := by
    intro i hi hc
    have h1 : 2 * (pairsF q.atoms.length mate).length + cnt q.atoms.length (fun x => (mate x).isNone) = q.atoms.length := pairs_two (E.gr hn) hB.m
    have h2 := cnt_not q.atoms.length (fun x => (mate x).isNone)
    have h3 : cnt q.atoms.length (fun k => !(mate k).isNone) = cnt q.atoms.length (fun k => (mate k).isSome) := cnt_congr fun k _ => by cases mate k <;> rfl
    exact cnt_full (p := fun k => (mate k).isSome) (q := cand q) (fun k _ hk => mate_cand hB.m hk) (by omega) i hi hc
  have e1 : dAt q.bonds (dOf q.bonds (inP (pairsF q.atoms.length mate))) x = ((q.bonds.filter fun b => decide ((b.a = x ∨ b.b = x) ∧ b.o = 4 ∧ (b.a, b.b) ∈ pairsF q.atoms.length mate)).length : Int) := by
    unfold dAt
    have key : ∀ l : List Bnd, (∀ b ∈ l, b ∈ q.bonds) → (l.map fun b => if (b.a = x ∨ b.b = x) ∧ b.o = 4 ∧ dOf q.bonds (inP (pairsF q.atoms.length mate)) b.pl = true then (1 : Int) else 0).sum = ((l.filter fun b => decide ((b.a = x ∨ b.b = x) ∧ b.o = 4 ∧ (b.a, b.b) ∈ pairsF q.atoms.length mate)).length : Int) := by
      intro l
      induction l with
      | nil => intro _; rfl
      | cons b l ih =>
        intro hl
        rw [List.map_cons, List.sum_cons, ih fun c hc => hl c (by simp [hc]), List.filter_cons]
        have hbm := hl b (by simp)
        have ec : ((b.a = x ∨ b.b = x) ∧ b.o = 4 ∧ dOf q.bonds (inP (pairsF q.atoms.length mate)) b.pl = true) ↔ ((b.a = x ∨ b.b = x) ∧ b.o = 4 ∧ (b.a, b.b) ∈ pairsF q.atoms.length mate) := by
          constructor
          · rintro ⟨h1, h2, h3⟩
            rw [d_place en _ hbm h2] at h3
            exact ⟨h1, h2, of_decide_eq_true h3⟩
          · rintro ⟨h1, h2, h3⟩
            exact ⟨h1, h2, by rw [d_place en _ hbm h2]; exact decide_eq_true h3⟩
        by_cases hc : (b.a = x ∨ b.b = x) ∧ b.o = 4 ∧ (b.a, b.b) ∈ pairsF q.atoms.length mate
        · rw [if_pos (ec.2 hc), if_pos (decide_eq_true hc), List.length_cons]
          omega
        · rw [if_neg (fun h => hc (ec.1 h)), if_neg (by simpa using hc)]
          omega
    exact key q.bonds fun _ h => h
  rw [e1]
  obtain ⟨F, hF⟩ : ∃ F, q.bonds.filter (fun b => decide ((b.a = x ∨ b.b = x) ∧ b.o = 4 ∧ (b.a, b.b) ∈ pairsF q.atoms.length mate)) = F := ⟨_, rfl⟩
  have mem : ∀ b ∈ F, b ∈ q.bonds ∧ (b.a = x ∨ b.b = x) ∧ mate b.a = some b.b ∧ b.a < b.b := by
    intro b hb
    rw [← hF, List.mem_filter] at hb
    obtain ⟨k1, k2, k3⟩ := of_decide_eq_true hb.2
    obtain ⟨m1, m2, _⟩ := pairs_iff.1 k3
    exact ⟨hb.1, k1, m1, m2⟩
  have dist : F.Pairwise fun x y => ¬ (x.a = y.a ∧ x.b = y.b) := by rw [← hF]; exact List.Pairwise.filter _ en.dist
  rw [hF]
  by_cases hc : cand q x = true
  · rw [if_pos hc]
    obtain ⟨y, hy⟩ := Option.isSome_iff_exists.1 (all x hx hc)
    have hyx := hB.m.back x y hy
    have hadj : adjL (candEdges q q.bonds) x y = true := hB.m.adj x y hy
    have hne : F ≠ [] := by
      have : ∃ b ∈ q.bonds, isEdge q b = true ∧ ((b.a = x ∧ b.b = y) ∨ (b.a = y ∧ b.b = x)) := by
        rcases adjL_iff.1 hadj with k | k
        · obtain ⟨b, h1, h2, h3, h4⟩ := candEdges_mem.1 k
          exact ⟨b, h1, h2, .inl ⟨h3, h4⟩⟩
        · obtain ⟨b, h1, h2, h3, h4⟩ := candEdges_mem.1 k
          exact ⟨b, h1, h2, .inr ⟨h3, h4⟩⟩
      obtain ⟨b, h1, h2, h3⟩ := this
      have hlt := en.ends b h1
      have h4 : b.o = 4 := by
        unfold isEdge at h2
        simp only [Bool.and_eq_true, beq_iff_eq] at h2
        exact h2.1
      have hin : b ∈ F := by
        rw [← hF, List.mem_filter]
        refine ⟨h1, decide_eq_true ⟨?_, h4, ?_⟩⟩
        · rcases h3 with h | h
          · exact .inl h.1
          · exact .inr h.2
        · refine pairs_iff.2 ⟨?_, hlt.1, by omega⟩
          rcases h3 with ⟨h5, h6⟩ | ⟨h5, h6⟩
          · rw [h5, h6]; exact hy
          · rw [h5, h6]; exact hyx
      intro h0
      rw [h0] at hin
      simp at hin
    have same : ∀ b ∈ F, ∀ c ∈ F, b.a = c.a ∧ b.b = c.b := by
      intro b hb c hc
      obtain ⟨_, b1, b2, b3⟩ := mem b hb
      obtain ⟨_, c1, c2, c3⟩ := mem c hc
      have hb' := hB.m.back _ _ b2
      have hc' := hB.m.back _ _ c2
      rcases b1 with b1 | b1 <;> rcases c1 with c1 | c1
      · rw [b1] at b2 ⊢; rw [c1] at c2 ⊢; rw [b2] at c2; exact ⟨rfl, Option.some.inj c2⟩
      · rw [b1] at b2; rw [c1] at hc'; rw [b2] at hc'; have := Option.some.inj hc'; omega
      · rw [b1] at hb'; rw [c1] at c2; rw [hb'] at c2; have := Option.some.inj c2; omega
      · rw [b1] at hb' ⊢; rw [c1] at hc' ⊢; rw [hb'] at hc'; exact ⟨Option.some.inj hc', rfl⟩
    match F, hne, same, dist with
    | [], h, _, _ => exact absurd rfl h
    | [b], _, _, _ => rfl
    | b :: c :: r, _, same, dist => exact absurd (same b (by simp) c (by simp)) ((List.pairwise_cons.1 dist).1 c (by simp))
  · rw [if_neg hc]
    match F, mem with
    | [], _ => rfl
    | b :: r, mem =>
      exfalso
      obtain ⟨_, b1, b2, _⟩ := mem b (by simp)
      have hb' := hB.m.back _ _ b2
      rcases b1 with b1 | b1
      · rw [b1] at b2
        exact hc (mate_cand hB.m (x := x) (by rw [b2]; rfl))
      · rw [b1] at hb'
        exact hc (mate_cand hB.m (x := x) (by rw [hb']; rfl))
end

/-- The text that is written, read again. -/
theorem again_parse {s : ByteArray} {q : St} {mate : Nat → Option Nat} {f : Fo} {gh : Gh} (h : Bz.parse s = .ok (q.atoms, q.bonds)) (en : En q.atoms.length q.bonds s.size) (hn : q.atoms.length ≤ 24) (hpos : ∀ b ∈ q.bonds, 1 ≤ b.o ∧ b.o ≤ 4) (hB : Best (grL q.atoms.length (candEdges q q.bonds)) mate f gh) (hd : ¬ 2 * (pairsF q.atoms.length mate).length < cnt q.atoms.length (cand q))
    {W : ByteArray} (hW : W.data.toList = wrL s.data.toList q.bonds (q.bonds.map (ordN (pairsF q.atoms.length mate)))) (hs : W.size ≤ 160) :
    ∃ ats' l', Bz.parse W = .ok (ats', l') ∧ ats'.map pl0 = q.atoms.map un ∧ l'.map tri = q.bonds.map fun b => (b.a, b.b, (ordN (pairsF q.atoms.length mate) b : Int)) := by
  have hrest : Bz.Rest W 0 (wr0 (dOf q.bonds (inP (pairsF q.atoms.length mate))) s 0) := by
    unfold Bz.Rest
    rw [List.drop_zero, hW]
    unfold wrL wr0
    rw [zip_map]
    exact wrGo_is _ _ q.bonds 0 en.rise fun b hb => ⟨Nat.zero_le _, by have := en.plt b hb; simpa using this⟩
  obtain ⟨ats', l', h1, h2, h3⟩ := wr_parse h hrest hs fun x hx => dAt_is en hn hB hd hx
  refine ⟨ats', l', h1, h2, h3.trans (List.map_congr_left fun b hb => ?_)⟩
  unfold newT
  rw [new_ord en _ hpos hb]
end Go.Proofs.YtcabaecbmkgclaaGreatDoor.Kd

namespace Go.Proofs.YtcabaecbmkgclaaGreatDoor.Kd
open Go.RowKit Bz Mt Mg Rf Bu Cp

/-- A ring number as it is written. -/
def rgB (n : Nat) : ByteArray := if n < 10 then ⟨#[(48 + n).toUInt8]⟩ else ⟨#[37, (48 + n / 10).toUInt8, (48 + n % 10).toUInt8]⟩

def lastB (c : Nat) : ByteArray := if c = 0 then ⟨#[99]⟩ else if c = 1 then ⟨#[110]⟩ else ⟨#[91, 110, 72, 93]⟩

def upT (a : ByteArray) : Nat → ByteArray
  | 0 => a ++ ⟨#[49, 99, 99]⟩
  | j + 1 => upT a j ++ ⟨#[99]⟩ ++ rgB (j + 2) ++ ⟨#[99]⟩

/-- j numbers are left to be closed. -/
def dnT (a : ByteArray) (k : Nat) : Nat → ByteArray
  | 0 => a
  | j + 1 => dnT a k j ++ ⟨#[99, 99]⟩ ++ rgB (k - 1 - j)

def midT (a : ByteArray) (k : Nat) : ByteArray := upT a (k - 2) ++ ⟨#[99]⟩ ++ rgB k ++ ⟨#[99, 99, 99, 99, 99]⟩ ++ rgB k

def fusT (a : ByteArray) (k : Nat) : ByteArray := if k ≤ 1 then a ++ ⟨#[49, 99, 99, 99, 99, 99, 49]⟩ else dnT (midT a k) k (k - 2) ++ ⟨#[99, 49]⟩

/-- A molecule as what was read. -/
def stOf (ats : List Atm) (l : List Bnd) : St := ⟨0, ats, l, fun _ => none⟩

def fusOk (t : ByteArray) (k : Nat) (bar : Bool) : Bool := match Bz.parse t with
  | .error _ => false
  | .ok (ats, l) => ats.length == 4 * k + 2 && l.length == 5 * k + 1 && l.all (fun b => b.o == 4) &&
    (if bar then cnt ats.length (cand (stOf ats l)) == 4 * k + 1 else cnt ats.length (cand (stOf ats l)) == 4 * k + 2 && (List.range (2 * k + 1)).all fun i => adjL (candEdges (stOf ats l) l) (2 * i) (2 * i + 1))

set_option maxRecDepth 1000000 in
theorem fus_all : ∀ k, k < 5 → ∀ c, c < 3 → fusOk (fusT (lastB c) (k + 1)) (k + 1) (c == 2) = true := by decide +kernel

set_option maxRecDepth 1000000 in
theorem fus_size : ∀ k, k < 5 → ∀ c, c < 3 → (fusT (lastB c) (k + 1)).size ≤ 160 := by decide +kernel

theorem fus_read {t : ByteArray} {k : Nat} {bar : Bool} (h : fusOk t k bar = true) : ∃ ats l, Bz.parse t = .ok (ats, l) := by
  unfold fusOk at h
  cases hp : Bz.parse t with
  | error e => rw [hp] at h; cases h
  | ok x => exact ⟨x.1, x.2, rfl⟩

structure FusIs (q : St) (k : Nat) (bar : Bool) : Prop where
  atoms : q.atoms.length = 4 * k + 2
  bonds : q.bonds.length = 5 * k + 1
  four : ∀ b ∈ q.bonds, b.o = 4
  odd : bar = true → cnt q.atoms.length (cand q) = 4 * k + 1
  all : bar = false → cnt q.atoms.length (cand q) = 4 * k + 2
  way : bar = false → ∀ i, i < 2 * k + 1 → adjL (candEdges q q.bonds) (2 * i) (2 * i + 1) = true

theorem fus_facts {t : ByteArray} {k : Nat} {bar : Bool} (h : fusOk t k bar = true) {q : St} (hp : Bz.parse t = .ok (q.atoms, q.bonds)) : FusIs q k bar := by
  unfold fusOk at h
  rw [hp] at h
  simp only [Bool.and_eq_true, beq_iff_eq, List.all_eq_true] at h
  obtain ⟨⟨⟨h1, h2⟩, h3⟩, h4⟩ := h
  have ec : cand (stOf q.atoms q.bonds) = cand q := rfl
  have ee : candEdges (stOf q.atoms q.bonds) q.bonds = candEdges q q.bonds := rfl
  rw [ec, ee] at h4
  cases bar with
  | true =>
    simp only [if_pos, beq_iff_eq] at h4
    exact ⟨h1, h2, h3, fun _ => h4, fun e => (by cases e), fun e => (by cases e)⟩
  | false =>
    simp only [Bool.false_eq_true, if_false, Bool.and_eq_true, beq_iff_eq, List.all_eq_true, List.mem_range] at h4
    exact ⟨h1, h2, h3, fun e => (by cases e), fun _ => h4.1, fun _ => h4.2⟩

/-- Each with the one behind it. -/
def byTwo (n : Nat) (v : Nat) : Option Nat := if v < n then some (if v % 2 = 0 then v + 1 else v - 1) else none

theorem byTwo_ok {l : List (Nat × Nat)} {n m : Nat} (hn : n = 2 * m) (h : ∀ i, i < m → adjL l (2 * i) (2 * i + 1) = true) : MtOk (grL n l) (byTwo n) := by
  have sym : ∀ a b, adjL l a b = true → adjL l b a = true := fun a b hab => adjL_iff.2 ((adjL_iff.1 hab).symm)
  constructor
  · intro a b hab
    show adjL l a b = true
    unfold byTwo at hab
    split at hab
    · rename_i hlt
      simp only [Option.some.injEq] at hab
      split at hab
      · rename_i he
        have := h (a / 2) (by omega)
        rw [show 2 * (a / 2) = a by omega] at this
        rw [← hab]
        exact this
      · rename_i he
        have := h (a / 2) (by omega)
        rw [show 2 * (a / 2) + 1 = a by omega, show 2 * (a / 2) = b by omega] at this
        exact sym _ _ this
    · cases hab
  · intro a b hab
    unfold byTwo at hab ⊢
    split at hab
    · rename_i hlt
      simp only [Option.some.injEq] at hab
      split at hab
      · rename_i he
        rw [if_pos (by omega), if_neg (by omega)]
        congr 1
        omega
      · rename_i he
        rw [if_pos (by omega), if_pos (by omega)]
        congr 1
        omega
    · cases hab

/-- What a row of rings comes to. -/
theorem fus_end {s : ByteArray} {q : St} {k : Nat} {bar : Bool} {mate : Nat → Option Nat} {f : Fo} {h : Gh} (F : FusIs q k bar) (en : En q.atoms.length q.bonds s.size) (hn : q.atoms.length ≤ 24) (hB : Best (grL q.atoms.length (candEdges q q.bonds)) mate f h) :
    (bar = true → 2 * (pairsF q.atoms.length mate).length < cnt q.atoms.length (cand q)) ∧
    (bar = false → ¬ 2 * (pairsF q.atoms.length mate).length < cnt q.atoms.length (cand q) ∧ ((q.bonds.map (ordN (pairsF q.atoms.length mate))).filter fun x => x == 2).length = 2 * k + 1) := by
  have E := candEdges_ok en
  have up := best_up E hn hB
  constructor
  · intro hb
    have := F.odd hb
    omega
  · intro hb
    have h1 := F.all hb
    have lo := best_lo E hn hB (byTwo_ok (m := 2 * k + 1) (by rw [F.atoms]; omega) (F.way hb)) (fun i hi _ => by unfold byTwo; rw [if_pos hi]; rfl)
    refine ⟨by omega, ?_⟩
    rw [two_count _ _ F.four, doubled_count en hB]
    omega
end Go.Proofs.YtcabaecbmkgclaaGreatDoor.Kd

namespace Go.Proofs.YtcabaecbmkgclaaGreatDoor.Kd
open Go.RowKit Bz Mt Mg Rf

def pickF (c : Int) (n : Nat) : Nat := (if c < 0 then -(c + 1) else c).toNat % n

theorem pickF_lt (c : Int) {n : Nat} (hn : 0 < n) : pickF c n < n := Nat.mod_lt _ hn

def In64 (c : Int) : Prop := -9223372036854775808 ≤ c ∧ c ≤ 9223372036854775807

theorem rem_nat {x : Int} (hx : 0 ≤ x) (n : Nat) : Int.tmod x (n : Int) = ((x.toNat % n : Nat) : Int) := by
  obtain ⟨m, rfl⟩ := Int.eq_ofNat_of_zero_le hx
  rfl

set_option maxRecDepth 100000 in
theorem pick_any (w : World) (c : Int) (n : Nat) (hn : 0 < n) (hn2 : n ≤ 1000) (hc : In64 c) :
    Calls Tryz.prog 12 #[.int .i64 c, .int .i64 (n : Int)] w fun e w' => e = .returned (.int .i64 (pickF c n : Nat)) ∧ w' = w := by
  obtain ⟨hc1, hc2⟩ := hc
  have hn0 : ((n : Int) = 0) = False := by simp; omega
  have hnb : ((n : Int) == 0) = false := by simp; omega
  have hnm : ((n : Int) = -1) = False := by simp
  by_cases h : c < 0
  · have HP : Hid (pickF c n = (-(c + 1)).toNat % n) := by unfold Hid pickF; rw [if_pos h]
    have hr := rem_nat (x := -(c + 1)) (by omega) n
    have hlt : (-(c + 1)).toNat % n < n := Nat.mod_lt _ hn
    generalize (-(c + 1)).toNat % n = r at *
    go_enter Tryz.func12, Tryz.ntmps12
    go_wp2_with fail
    go_ret
    exact ⟨by rw [HP.out]; rfl, rfl⟩
  · have HP : Hid (pickF c n = c.toNat % n) := by unfold Hid pickF; rw [if_neg h]
    have hr := rem_nat (x := c) (by omega) n
    have hlt : c.toNat % n < n := Nat.mod_lt _ hn
    generalize c.toNat % n = r at *
    go_enter Tryz.func12, Tryz.ntmps12
    go_wp2_with fail
    go_ret
    exact ⟨by rw [HP.out]; rfl, rfl⟩


theorem dig_slice (n : Nat) (hn : n < 10) : (⟨#[48, 49, 50, 51, 52, 53, 54, 55, 56, 57]⟩ : ByteArray).extract n (n + 1) = ⟨#[(48 + n).toUInt8]⟩ := by
  match n, hn with
  | 0, _ => rfl
  | 1, _ => rfl
  | 2, _ => rfl
  | 3, _ => rfl
  | 4, _ => rfl
  | 5, _ => rfl
  | 6, _ => rfl
  | 7, _ => rfl
  | 8, _ => rfl
  | 9, _ => rfl

set_option maxRecDepth 100000 in
set_option maxHeartbeats 1000000 in
theorem ring_any (w : World) (n : Nat) (hn : n < 100) : Calls Tryz.prog 13 #[.int .i64 (n : Int)] w fun e w' => e = .returned (.string (rgB n)) ∧ Below w.heap.size w w' := by
  by_cases h : n < 10
  · have h' : (n : Int) < 10 := by omega
    have HR : Hid (rgB n = (⟨#[48, 49, 50, 51, 52, 53, 54, 55, 56, 57]⟩ : ByteArray).extract n (n + 1)) := by
      show _ = _
      unfold rgB
      rw [if_pos h, dig_slice n h]
    go_enter Tryz.func13, Tryz.ntmps13
    go_wp2_with fail
    go_ret
    exact ⟨by rw [HR.out]; rfl, Below.refl _ _⟩
  · have h' : ¬ (n : Int) < 10 := by omega
    obtain ⟨a, ha⟩ : ∃ a, n / 10 = a := ⟨_, rfl⟩
    obtain ⟨b, hb⟩ : ∃ b, n % 10 = b := ⟨_, rfl⟩
    have ha1 : a < 10 := by omega
    have hb1 : b < 10 := by omega
    have q1 : Int.tdiv (n : Int) 10 = (a : Int) := by rw [← ha]; rfl
    have q2 : Int.tmod (n : Int) 10 = (b : Int) := by rw [← hb]; rfl
    have HR : Hid (rgB n = ⟨#[37]⟩ ++ (⟨#[48, 49, 50, 51, 52, 53, 54, 55, 56, 57]⟩ : ByteArray).extract a (a + 1) ++ (⟨#[48, 49, 50, 51, 52, 53, 54, 55, 56, 57]⟩ : ByteArray).extract b (b + 1)) := by
      show _ = _
      unfold rgB
      rw [if_neg h, dig_slice a ha1, dig_slice b hb1, ha, hb]
      rfl
    clear ha hb
    go_enter Tryz.func13, Tryz.ntmps13
    go_wp2_with fail
    go_quiet (fail)
    go_wp2_with fail
    go_ret
    exact ⟨by rw [HR.out]; rfl, below_drewNm _ _⟩
end Go.Proofs.YtcabaecbmkgclaaGreatDoor.Kd

namespace Go.Proofs.YtcabaecbmkgclaaGreatDoor.Kd
open Go.RowKit Bz Mt Mg Rf

theorem last_in (c : Nat) (hc : c < 3) : (#[Value.string ⟨#[99]⟩, .string ⟨#[110]⟩, .string ⟨#[91, 110, 72, 93]⟩] : Array Value)[c]? = some (.string (lastB c)) := by
  match c, hc with
  | 0, _ => rfl
  | 1, _ => rfl
  | 2, _ => rfl

theorem rgB_size (n : Nat) : (rgB n).size ≤ 3 := by
  unfold rgB
  split
  · show 1 ≤ 3
    decide
  · show 3 ≤ 3
    decide

theorem upT_size (a : ByteArray) (j : Nat) : (upT a j).size ≤ a.size + 3 + 5 * j := by
  induction j with
  | zero => rw [upT, ByteArray.size_append]; exact Nat.le_refl _
  | succ j ih =>
    rw [upT, ByteArray.size_append, ByteArray.size_append, ByteArray.size_append]
    have := rgB_size (j + 2)
    have e : (⟨#[99]⟩ : ByteArray).size = 1 := rfl
    omega

theorem dnT_size (a : ByteArray) (k j : Nat) : (dnT a k j).size ≤ a.size + 5 * j := by
  induction j with
  | zero => exact Nat.le_refl _
  | succ j ih =>
    rw [dnT, ByteArray.size_append, ByteArray.size_append]
    have := rgB_size (k - 1 - j)
    have e : (⟨#[99, 99]⟩ : ByteArray).size = 2 := rfl
    omega

theorem midT_size (a : ByteArray) (k : Nat) (hk : k ≤ 5) : (midT a k).size ≤ a.size + 30 := by
  unfold midT
  rw [ByteArray.size_append, ByteArray.size_append, ByteArray.size_append, ByteArray.size_append]
  have := rgB_size k
  have := upT_size a (k - 2)
  have e : (⟨#[99]⟩ : ByteArray).size = 1 := rfl
  have e2 : (⟨#[99, 99, 99, 99, 99]⟩ : ByteArray).size = 5 := rfl
  omega

theorem lastB_size (c : Nat) : (lastB c).size ≤ 4 := by
  unfold lastB
  split
  · decide
  · split <;> decide

/-- Where the counting of the double bonds stands. -/
structure FuS (w1 : World) (X Y : Nat) (ao : Option Addr) (ac : Nat) (bo : Option Addr) (bc : Nat) (oo : Option Addr) (oc nA nB : Nat) (os : List Nat) (wr : World) : Prop where
  k0 : wr.cell? ⟨X, 0, none⟩ = some (.slice ao nA ac)
  k1 : wr.cell? ⟨X, 1, none⟩ = some (.slice bo nB bc)
  r0 : wr.cell? ⟨Y, 0, none⟩ = some (.int .i64 1)
  r1 : wr.cell? ⟨Y, 1, none⟩ = some (.slice oo nB oc)
  at_ : ∀ (i x : Nat), os[i]? = some x → ∃ g, oo = some ⟨g, 0, none⟩ ∧ wr.cell? ⟨g, i, none⟩ = some (.int .i64 (x : Int))
  below : Below w1.heap.size w1 wr

set_option maxRecDepth 100000 in
set_option maxHeartbeats 4000000 in
theorem fused_any (w : World) (n c : Int) (hn : In64 n) (hc : In64 c) : Calls Tryz.prog 7 #[.int .i64 n, .int .i64 c] w fun e w' => e = .returned (.bool true) ∧ Below w.heap.size w w' := by
  have P1 := pick_any w n 5 (by omega) (by omega) hn
  have P2 := fun W => pick_any W c 3 (by omega) (by omega) hc
  have hk := pickF_lt n (show 0 < 5 by omega)
  have hcc := pickF_lt c (show 0 < 3 by omega)
  generalize pickF n 5 = k at *
  generalize pickF c 3 = cc at *
  go_enter Tryz.func7, Tryz.ntmps7
  go_wp2_with fail
  refine P1.mono ?_
  rintro e w1 ⟨rfl, rfl⟩
  clear P1
  go_wp2_with fail
  refine (P2 _).mono ?_
  rintro e w2 ⟨rfl, rfl⟩
  clear P2
  have cL : (w1.alloc (.cells #[Value.string ⟨#[99]⟩, .string ⟨#[110]⟩, .string ⟨#[91, 110, 72, 93]⟩] 9)).cell? ⟨w1.heap.size, cc, none⟩ = some (.string (lastB cc)) := by
    rw [World.cell?_alloc_new]
    exact last_in cc hcc
  have HB0 : Hid (Below w1.heap.size w1 (w1.alloc (.cells #[Value.string ⟨#[99]⟩, .string ⟨#[110]⟩, .string ⟨#[91, 110, 72, 93]⟩] 9))) := (Below.refl _ w1).alloc (Nat.le_refl _) _
  have hcc' : (cc : Int) < 3 := by omega
  obtain ⟨la, hla⟩ : ∃ la, lastB cc = la := ⟨_, rfl⟩
  have hls := lastB_size cc
  rw [hla] at cL hls
  have HLA : Hid (lastB cc = la) := hla
  clear hla
  generalize w1.alloc (.cells #[Value.string ⟨#[99]⟩, .string ⟨#[110]⟩, .string ⟨#[91, 110, 72, 93]⟩] 9) = w2 at *
  go_upto_if 29 with fail
  go_cut [7, 8, 9, 29] from 30 to 64 (fun s7 s8 s9 s29 wx => s7 = .string (fusT la (k + 1)) ∧ Below w1.heap.size w1 wx)
  case first =>
    by_cases hk0 : k = 0
    · subst hk0
      go_wp2_with fail
      go_meet
      exact ⟨rfl, HB0.out⟩
    · have hk1 : (1 : Int) < 1 + (k : Int) := by omega
      rw [decide_eq_true hk1]
      go_wp2_with fail
      go_loopg [7, 8] (k + 1) (fun g v7 v8 wr => ∃ j : Nat, j ≤ k - 1 ∧ k - 1 - j < g ∧ v8 = .int .i64 ((j : Int) + 2) ∧ v7 = .string (upT la j) ∧ Below w1.heap.size w1 wr)
      case atStart => exact ⟨0, by omega, by omega, rfl, rfl, HB0.out⟩
      case round =>
        obtain ⟨j, hj, hg, rfl, rfl, hb⟩ := hrel
        by_cases hlt : j < k - 1
        · have hlt' : (j : Int) + 2 < 1 + (k : Int) := by omega
          have hus := upT_size la j
          have hrs := rgB_size (j + 2)
          have RG := ring_any wr (j + 2) (by omega)
          rw [show ((j + 2 : Nat) : Int) = (j : Int) + 2 from by omega] at RG
          have HB : Hid (Below w1.heap.size w1 wr) := hb
          clear hb HB0
          go_wp2_with fail
          refine RG.mono ?_
          rintro e w3 ⟨rfl, hb3⟩
          clear RG
          have HB3 : Hid (Below w1.heap.size w1 w3) := HB.out.trans (hb3.mono HB.out.size)
          clear hb3
          go_wp2_with fail
          go_roundg (k - 1 - j)
          case measure => omega
          case rel => exact ⟨j + 1, by omega, by omega, by go_num, rfl, HB3.out⟩
        · have hlt' : ¬ (j : Int) + 2 < 1 + (k : Int) := by omega
          obtain rfl : j = k - 1 := by omega
          have HB : Hid (Below w1.heap.size w1 wr) := hb
          clear hb HB0
          have hus := upT_size la (k - 1)
          have hrs := rgB_size (k + 1)
          have RG := fun W => ring_any W (k + 1) (by omega)
          rw [show ((k + 1 : Nat) : Int) = 1 + (k : Int) from by omega] at RG
          have hkk : ((k - 1 : Nat) : Int) + 2 = (k : Int) + 1 := by omega
          go_wp2_with fail
          refine (RG _).mono ?_
          rintro e w3 ⟨rfl, hb3⟩
          have HB3 : Hid (Below w1.heap.size w1 w3) := HB.out.trans (hb3.mono HB.out.size)
          clear hb3 HB
          go_wp2_with fail
          refine (RG _).mono ?_
          rintro e w4 ⟨rfl, hb4⟩
          have HB4 : Hid (Below w1.heap.size w1 w4) := HB3.out.trans (hb4.mono HB3.out.size)
          clear hb4 HB3 RG
          have hms := midT_size la (k + 1) (by omega)
          have HM : Hid (midT la (k + 1) = upT la (k - 1) ++ ⟨#[99]⟩ ++ rgB (k + 1) ++ ⟨#[99, 99, 99, 99, 99]⟩ ++ rgB (k + 1)) := rfl
          go_wp2_with fail
          go_loopg [7, 9] (k + 1) (fun g v7 v9 wr => ∃ j : Nat, j ≤ k - 1 ∧ k - 1 - j < g ∧ v9 = .int .i64 ((k : Int) - j) ∧ v7 = .string (dnT (midT la (k + 1)) (k + 1) j) ∧ Below w1.heap.size w1 wr)
          case atStart => exact ⟨0, by omega, by omega, by go_num, rfl, HB4.out⟩
          case round =>
            obtain ⟨j, hj, hg, rfl, rfl, hb⟩ := hrel
            have hds := dnT_size (midT la (k + 1)) (k + 1) j
            by_cases hlt : j < k - 1
            · have hlt2 : ¬ ((k : Int) - (j : Int) < 2) := by omega
              have hlt3 : (2 : Int) ≤ (k : Int) - (j : Int) := by omega
              have hrs := rgB_size (k - j)
              have RG := ring_any wr (k - j) (by omega)
              rw [show ((k - j : Nat) : Int) = (k : Int) - (j : Int) from by omega] at RG
              have HDN : Hid (dnT (midT la (k + 1)) (k + 1) (j + 1) = dnT (midT la (k + 1)) (k + 1) j ++ ⟨#[99, 99]⟩ ++ rgB (k - j)) := by
                show _ = _
                rw [dnT, show k + 1 - 1 - j = k - j by omega]
              have HB : Hid (Below w1.heap.size w1 wr) := hb
              clear hb HB4
              go_wp2_with fail
              refine RG.mono ?_
              rintro e w3 ⟨rfl, hb3⟩
              clear RG
              have HB3 : Hid (Below w1.heap.size w1 w3) := HB.out.trans (hb3.mono HB.out.size)
              clear hb3
              go_wp2_with fail
              go_roundg (k - 1 - j)
              case measure => omega
              case rel => exact ⟨j + 1, by omega, by omega, by go_num, by rw [HDN.out], HB3.out⟩
            · have hlt2 : (k : Int) - (j : Int) < 2 := by omega
              have hlt3 : ¬ ((2 : Int) ≤ (k : Int) - (j : Int)) := by omega
              obtain rfl : j = k - 1 := by omega
              have HB : Hid (Below w1.heap.size w1 wr) := hb
              have HF : Hid (fusT la (k + 1) = dnT (midT la (k + 1)) (k + 1) (k - 1) ++ ⟨#[99, 49]⟩) := by
                show _ = _
                unfold fusT
                rw [if_neg (by omega), show k + 1 - 2 = k - 1 by omega]
              clear hb HB4
              go_wp2_with fail
              go_meet
              exact ⟨by rw [HF.out], HB.out⟩
  case rest =>
    obtain ⟨rfl, hb⟩ := hcut
    have hok := fus_all k hk cc hcc
    have hsz := fus_size k hk cc hcc
    rw [HLA.out] at hok hsz
    have HOK : Hid (fusOk (fusT la (k + 1)) (k + 1) (cc == 2) = true) := hok
    have P1 := fun W => parse_any (fusT la (k + 1)) W (by unfold maxLen; omega)
    have P2 := fun W => kekulize_any (fusT la (k + 1)) W (by unfold maxLen; omega)
    clear hok hls cL
    generalize fusT la (k + 1) = t at *
    go_wp2_with fail
    refine (P1 _).mono ?_
    clear P1
    rintro e w3 h
    rcases h with ⟨er, h, _, _⟩ | ⟨ats, l, v, v', h, rfl, ha, hl, hbP, hne, hn24, hl160⟩
    · exfalso
      obtain ⟨a, b, hh⟩ := fus_read HOK.out
      rw [h] at hh
      cases hh
    obtain ⟨ao, ac, hva⟩ := ownsRow_shape ha
    obtain ⟨bo, bc, hvb⟩ := ownsRow_shape hl
    subst hva hvb
    have HB3 : Hid (Below w1.heap.size w1 w3) := hb.trans (hbP.mono hb.size)
    have HP : Hid (Bz.parse t = .ok (ats, l)) := h
    clear h ha hl hb hbP HB0
    go_wp2_with fail
    refine (P2 _).mono ?_
    clear P2
    rintro e w4 h
    rcases h with ⟨er, h, _⟩ | ⟨q, mate, f, gh, h⟩
    · exfalso
      have := HP.out
      rw [h] at this
      cases this
    have hpq := HP.out
    rw [h.h] at hpq
    simp only [Except.ok.injEq, Prod.mk.injEq] at hpq
    obtain ⟨rfl, rfl⟩ := hpq
    have F := fus_facts HOK.out h.h
    obtain ⟨fe1, fe2⟩ := fus_end F h.en hn24 h.best
    have hA := F.atoms
    have hBo := F.bonds
    have HC : Hid (_) := h.case
    clear h F HOK HP hne hn24 hl160
    have hA' : (q.atoms.length : Int) = 4 * (1 + (k : Int)) + 2 := by omega
    have hBo' : (q.bonds.length : Int) = 5 * (1 + (k : Int)) + 1 := by omega
    have hsz3 : (w3.alloc (.cells #[.slice ao q.atoms.length ac, .slice bo q.bonds.length bc] 39)).heap.size = w3.heap.size + 1 := by simp
    by_cases hc2 : cc = 2
    · subst hc2
      rcases HC.out with ⟨_, pv, uv, hK⟩ | ⟨hn, _⟩
      · obtain ⟨he, hp, hu, hb4⟩ := hK
        subst he
        rw [hsz3] at hb4
        have m0 : w4.cell? ⟨w3.heap.size, 0, none⟩ = some (.slice ao q.atoms.length ac) := (hb4.cell (by simp)).trans (by simp)
        have m1 : w4.cell? ⟨w3.heap.size, 1, none⟩ = some (.slice bo q.bonds.length bc) := (hb4.cell (by simp)).trans (by simp)
        have hlt : w3.heap.size < w4.heap.size := by have := hb4.size; rw [hsz3] at this; omega
        have HB4 : Hid (Below w1.heap.size w1 w4) := (HB3.out.alloc HB3.out.size _).trans (hb4.mono (by have := HB3.out.size; omega))
        have hla : la = ⟨#[91, 110, 72, 93]⟩ := HLA.out.symm
        subst hla
        obtain ⟨po, pc, hpv⟩ := ownsRow_shape hp
        obtain ⟨uo, uc, huv⟩ := hu.shape
        subst hpv huv
        clear hp hu hb4 fe1 fe2 HC
        go_upto_region 18 with fail
        obtain ⟨W, hW⟩ : ∃ W, w4.alloc (.cells #[.int .i64 2, .slice none 0 0, .string ⟨#[]⟩, .slice none 0 0, .slice po (pairsF (4 * (k + 1) + 2) mate).length pc, .slice uo (barF (4 * (k + 1) + 2) f).length uc] 31) = W := ⟨_, rfl⟩
        have k0 : W.cell? ⟨w3.heap.size, 0, none⟩ = some (.slice ao q.atoms.length ac) := by rw [← hW, World.cell?_alloc_lt _ _ _ hlt]; exact m0
        have k1 : W.cell? ⟨w3.heap.size, 1, none⟩ = some (.slice bo q.bonds.length bc) := by rw [← hW, World.cell?_alloc_lt _ _ _ hlt]; exact m1
        have r0 : W.cell? ⟨w4.heap.size, 0, none⟩ = some (.int .i64 2) := by rw [← hW]; simp
        have r1 : W.cell? ⟨w4.heap.size, 1, none⟩ = some (.slice none 0 0) := by rw [← hW]; simp
        have HBW : Hid (Below w1.heap.size w1 W) := by rw [← hW]; exact HB4.out.alloc HB4.out.size _
        rw [hW]
        clear hW HB4 m0 m1 hlt
        go_wp2_with fail
        go_ret
        exact ⟨rfl, HBW.out⟩
      · exact absurd (fe1 rfl) hn
    · have hcc2 : (cc == 2) = false := by simp [hc2]
      obtain ⟨hnl, hcount⟩ := fe2 hcc2
      rcases HC.out with ⟨hlt, _⟩ | ⟨_, ov, cv, hK⟩
      · exact absurd hlt hnl
      obtain ⟨he, ho, hcv, _, hb4⟩ := hK
      subst he
      have hosl : (q.bonds.map (ordN (pairsF q.atoms.length mate))).length = q.bonds.length := List.length_map ..
      generalize q.bonds.map (ordN (pairsF q.atoms.length mate)) = os at *
      generalize wrL t.data.toList q.bonds os = ws at *
      rw [hsz3] at hb4 ho hcv
      have m0 : w4.cell? ⟨w3.heap.size, 0, none⟩ = some (.slice ao q.atoms.length ac) := (hb4.cell (by simp)).trans (by simp)
      have m1 : w4.cell? ⟨w3.heap.size, 1, none⟩ = some (.slice bo q.bonds.length bc) := (hb4.cell (by simp)).trans (by simp)
      have hlt : w3.heap.size < w4.heap.size := by have := hb4.size; rw [hsz3] at this; omega
      have HB4 : Hid (Below w1.heap.size w1 w4) := (HB3.out.alloc HB3.out.size _).trans (hb4.mono (by have := HB3.out.size; omega))
      have hla : (la.toList == [91, 110, 72, 93]) = false := by
        have := HLA.out
        have h01 : cc = 0 ∨ cc = 1 := by omega
        rcases h01 with rfl | rfl <;> (rw [← this]; decide +kernel)
      obtain ⟨oo, oc, hov⟩ := ho.shape
      obtain ⟨co, cu, hcvv⟩ := hcv.shape
      subst hov hcvv
      have HO : Hid (Ints w4 (w3.heap.size + 1) (.slice oo os.length oc) os) := ho
      have HCT : Hid ((os.filter fun x => x == 2).length = 2 * (k + 1) + 1) := hcount
      clear ho hcv hb4 fe1 fe2 HC hcount hnl
      go_upto_region 18 with fail
      obtain ⟨W, hW⟩ : ∃ W, w4.alloc (.cells #[.int .i64 1, .slice oo (5 * (k + 1) + 1) oc, .string ⟨ws.toArray⟩, .slice co (4 * (k + 1) + 2) cu, .slice none 0 0, .slice none 0 0] 31) = W := ⟨_, rfl⟩
      have hol : os.length = 5 * (k + 1) + 1 := by rw [hosl, hBo]
      have S0 : Hid (FuS w1 w3.heap.size w4.heap.size ao ac bo bc oo oc (4 * (k + 1) + 2) (5 * (k + 1) + 1) os W) := by
        rw [hA] at m0
        rw [hBo] at m1
        refine ⟨?_, ?_, ?_, ?_, fun i x hi => ?_, ?_⟩
        · rw [← hW, World.cell?_alloc_lt _ _ _ hlt]; exact m0
        · rw [← hW, World.cell?_alloc_lt _ _ _ hlt]; exact m1
        · rw [← hW]; simp
        · rw [← hW]; simp
        · obtain ⟨g, cap, e1, _, hg, hcell⟩ := HO.out.at hi
          simp only [Value.slice.injEq, true_and] at e1
          exact ⟨g, e1.1, by rw [← hW, World.cell?_alloc_lt _ _ _ hg]; exact hcell⟩
        · rw [← hW]; exact HB4.out.alloc HB4.out.size _
      rw [hW]
      have hA2 : ((4 * (k + 1) + 2 : Nat) : Int) = 4 * (1 + (k : Int)) + 2 := by omega
      have hB2 : ((5 * (k + 1) + 1 : Nat) : Int) = 5 * (1 + (k : Int)) + 1 := by omega
      clear hW HB4 HB3 m0 m1 hlt HO hsz3 hA hBo hA' hBo' hosl
      generalize hna : 4 * (k + 1) + 2 = nA at *
      generalize hnb : 5 * (k + 1) + 1 = nB at *
      have k0 := S0.out.k0
      have k1 := S0.out.k1
      have r0 := S0.out.r0
      have r1 := S0.out.r1
      have hnB : nB ≤ 26 := by omega
      clear hna hnb
      go_wp2_with fail
      go_loopg [16, 17] (nB + 1) (fun g v16 v17 wr => ∃ i : Nat, i ≤ nB ∧ nB - i < g ∧ v17 = .int .i64 (i : Int) ∧ v16 = .int .i64 ((((os.take i).filter fun x => x == 2).length : Nat) : Int) ∧ FuS w1 w3.heap.size w4.heap.size ao ac bo bc oo oc nA nB os wr)
      case atStart => exact ⟨0, by omega, by omega, rfl, rfl, S0.out⟩
      case round =>
        obtain ⟨i, hi, hg, rfl, rfl, hS⟩ := hrel
        clear S0 k0 k1 r0 r1
        have HS : Hid (FuS w1 w3.heap.size w4.heap.size ao ac bo bc oo oc nA nB os wr) := hS
        have k0 := hS.k0
        have k1 := hS.k1
        have r0 := hS.r0
        have r1 := hS.r1
        clear hS
        by_cases hlt : i < nB
        · have hlt' : (i : Int) < (nB : Int) := by omega
          obtain ⟨x, hx⟩ : ∃ x, os[i]? = some x := ⟨_, List.getElem?_eq_getElem (by omega)⟩
          obtain ⟨g, rfl, hcell⟩ := HS.out.at_ i x hx
          have hct : ((os.take i).filter fun x => x == 2).length ≤ 26 := Nat.le_trans (List.length_filter_le _ _) (by rw [List.length_take]; omega)
          have hnx : ((os.take (i + 1)).filter fun x => x == 2).length = ((os.take i).filter fun x => x == 2).length + if x == 2 then 1 else 0 := by
            rw [take_snoc hx, List.filter_append, List.length_append]
            simp only [List.filter_cons, List.filter_nil]
            split <;> rfl
          have HNX : Hid (_) := hnx
          clear hnx
          by_cases hx2 : x = 2
          · subst hx2
            go_wp2_with fail
            go_roundg (nB - i)
            case measure => omega
            case rel => exact ⟨i + 1, by omega, by omega, by go_num, by rw [HNX.out]; rfl, HS.out⟩
          · have hx2' : ¬ (x : Int) = 2 := by omega
            have hx3 : (x == 2) = false := by simp [hx2]
            go_wp2_with fail
            go_roundg (nB - i)
            case measure => omega
            case rel => exact ⟨i + 1, by omega, by omega, by go_num, by rw [HNX.out, hx3]; rfl, HS.out⟩
        · have hlt' : ¬ (i : Int) < (nB : Int) := by omega
          have hin : i = nB := by omega
          have hct : ((((os.take i).filter fun x => x == 2).length : Nat) : Int) = 2 * (1 + (k : Int)) + 1 := by
            rw [List.take_of_length_le (by omega), HCT.out]
            omega
          generalize (((os.take i).filter fun x => x == 2).length : Nat) = cn at *
          go_wp2_with fail
          go_ret
          exact ⟨rfl, HS.out.below⟩
end Go.Proofs.YtcabaecbmkgclaaGreatDoor.Kd

namespace Go.Proofs.YtcabaecbmkgclaaGreatDoor.Kd
open Go.RowKit Bz Mt Mg Rf

/-- What came out, with its verdict. -/
structure KkOut (q : St) (w : World) (e : Ending) (w' : World) (vd : Nat) (oo : Option Addr) (on oc : Nat) (tx : ByteArray) (co : Option Addr) (cn cc : Nat) (po : Option Addr) (pn pc : Nat) (uo : Option Addr) (un uc : Nat) : Prop where
  he : e = .returned (.tuple #[.agg #[.int .i64 (vd : Int), .slice oo on oc, .string tx, .slice co cn cc, .slice po pn pc, .slice uo un uc], .int .i64 0, .int .i64 0])
  ver : (vd = 1 ∧ Perf q ∧ on = q.bonds.length) ∨ (vd = 2 ∧ ¬ Perf q)
  hb : Below w.heap.size w w'

theorem KkGood.out {s : ByteArray} {w : World} {e : Ending} {w' : World} {q : St} {mate : Nat → Option Nat} {f : Fo} {gh : Gh} (h : KkGood s w e w' q mate f gh) : ∃ vd oo on oc tx co cn cc po pn pc uo un uc, KkOut q w e w' vd oo on oc tx co cn cc po pn pc uo un uc := by
  have hn : q.atoms.length ≤ 24 := h.ho.atoms
  have hpf := perf_iff h.en hn h.best
  rcases h.case with ⟨hlow, pv, uv, hK⟩ | ⟨hlow, ov, cv, hK⟩
  · obtain ⟨he, hp, hu, hb4⟩ := hK
    obtain ⟨po, pc, rfl⟩ := ownsRow_shape hp
    obtain ⟨uo, uc, rfl⟩ := hu.shape
    exact ⟨2, none, 0, 0, ⟨#[]⟩, none, 0, 0, po, _, pc, uo, _, uc, he, .inr ⟨rfl, fun k => absurd hlow (hpf.2 k)⟩, hb4⟩
  · obtain ⟨he, ho, hcv, _, hb4⟩ := hK
    obtain ⟨oo, oc, rfl⟩ := ho.shape
    obtain ⟨co, cc, rfl⟩ := hcv.shape
    exact ⟨1, oo, _, oc, _, co, _, cc, none, 0, 0, none, 0, 0, he, .inl ⟨rfl, hpf.1 hlow, List.length_map ..⟩, hb4⟩

/-- A result in its box. -/
structure RBx (Y : Nat) (vd ov : Value) (W : World) : Prop where
  r0 : W.cell? ⟨Y, 0, none⟩ = some vd
  r1 : W.cell? ⟨Y, 1, none⟩ = some ov
  lt : Y < W.heap.size
theorem RBx.new (w : World) (a b c d e f : Value) : RBx w.heap.size a b (w.alloc (.cells #[a, b, c, d, e, f] 31)) := ⟨by simp, by simp, by simp⟩
theorem RBx.on {Y : Nat} {vd ov : Value} {W W' : World} (h : RBx Y vd ov W) (hb : Below W.heap.size W W') : RBx Y vd ov W' :=
  ⟨(hb.cell h.lt).trans h.r0, (hb.cell h.lt).trans h.r1, Nat.lt_of_lt_of_le h.lt hb.size⟩
theorem RBx.grow {Y : Nat} {vd ov : Value} {W : World} (h : RBx Y vd ov W) (o : Obj) : RBx Y vd ov (W.alloc o) := h.on ((Below.refl _ W).alloc (Nat.le_refl _) o)

def wk1 : ByteArray := ⟨#[99, 49, 99, 99, 110, 99, 49]⟩
def wk2 : ByteArray := ⟨#[99, 49, 99, 99, 91, 110, 72, 93, 99, 49]⟩
def wk3 : ByteArray := ⟨#[67, 67, 40]⟩

set_option maxRecDepth 1000000 in
theorem wk1_facts : (match Bz.parse wk1 with
  | .ok (ats, l) => cnt ats.length (cand (stOf ats l)) == 5
  | .error _ => false) = true := by decide +kernel

set_option maxRecDepth 1000000 in
theorem wk2_facts : (match Bz.parse wk2 with
  | .ok (ats, l) => ats.length == 5 && (l.length == 5 && (adjL (candEdges (stOf ats l) l) 1 2 && (adjL (candEdges (stOf ats l) l) 0 4 && !cand (stOf ats l) 3)))
  | .error _ => false) = true := by decide +kernel

set_option maxRecDepth 1000000 in
theorem wk3_facts : (match Bz.parse wk3 with
  | .ok _ => false
  | .error e => e == (2, 3)) = true := by decide +kernel

theorem wk1_bar {q : St} {pos : Nat} (h : Bz.parse wk1 = .ok (q.atoms, q.bonds)) (en : En q.atoms.length q.bonds pos) (hn : q.atoms.length ≤ 24) : ¬ Perf q := by
  have hf := wk1_facts
  rw [h] at hf
  simp only [beq_iff_eq] at hf
  have e : cand (stOf q.atoms q.bonds) = cand q := rfl
  rw [e] at hf
  rintro ⟨m, M, hall⟩
  have E := candEdges_ok en
  have h1 : 2 * (pairsF q.atoms.length m).length + cnt q.atoms.length (fun x => (m x).isNone) = q.atoms.length := pairs_two (E.gr hn) M
  have h2 := cnt_not q.atoms.length (fun x => (m x).isNone)
  have h3 : cnt q.atoms.length (fun k => !(m k).isNone) = cnt q.atoms.length (fun k => (m k).isSome) := cnt_congr fun k _ => by cases m k <;> rfl
  have h4 : cnt q.atoms.length (cand q) ≤ cnt q.atoms.length (fun k => (m k).isSome) := cnt_mono hall
  have h5 : cnt q.atoms.length (fun k => (m k).isSome) ≤ cnt q.atoms.length (cand q) := cnt_mono fun k _ hk => mate_cand M hk
  omega

def wkM (x : Nat) : Option Nat := match x with
  | 0 => some 4
  | 1 => some 2
  | 2 => some 1
  | 4 => some 0
  | _ => none

theorem wk2_perf {q : St} (h : Bz.parse wk2 = .ok (q.atoms, q.bonds)) : Perf q ∧ q.bonds.length = 5 := by
  have hf := wk2_facts
  rw [h] at hf
  simp only [Bool.and_eq_true, beq_iff_eq, Bool.not_eq_true'] at hf
  have ec : cand (stOf q.atoms q.bonds) = cand q := rfl
  have ee : candEdges (stOf q.atoms q.bonds) q.bonds = candEdges q q.bonds := rfl
  rw [ec, ee] at hf
  obtain ⟨h1, h2, h3, h4, h5⟩ := hf
  refine ⟨⟨wkM, ⟨?_, ?_⟩, ?_⟩, h2⟩
  · intro a b hab
    show adjL (candEdges q q.bonds) a b = true
    unfold wkM at hab
    split at hab
    · cases hab; exact h4
    · cases hab; exact h3
    · cases hab; rw [adjL_sym]; exact h3
    · cases hab; rw [adjL_sym]; exact h4
    · cases hab
  · intro a b hab
    unfold wkM at hab
    split at hab
    · cases hab; rfl
    · cases hab; rfl
    · cases hab; rfl
    · cases hab; rfl
    · cases hab
  · intro i hi hc
    rw [h1] at hi
    match i, hi, hc with
    | 0, _, _ => rfl
    | 1, _, _ => rfl
    | 2, _, _ => rfl
    | 3, _, hc => rw [h5] at hc; cases hc
    | 4, _, _ => rfl

set_option maxRecDepth 100000 in
set_option maxHeartbeats 4000000 in
theorem works_any (w : World) : Calls Tryz.prog 16 #[] w fun e w' => e = .returned (.bool true) ∧ Below w.heap.size w w' := by
  have P1 := fun W => kekulize_any wk1 W (by unfold maxLen; decide)
  have P2 := fun W => kekulize_any wk2 W (by unfold maxLen; decide)
  have P3 := fun W => parse_any wk3 W (by unfold maxLen; decide)
  go_enter Tryz.func16, Tryz.ntmps16
  go_wp2_with fail
  refine (P1 _).mono ?_
  clear P1
  rintro e w1 h
  rcases h with ⟨er, h, _⟩ | ⟨q, mate, f, gh, h⟩
  · exfalso
    have := wk1_facts
    rw [h] at this
    cases this
  have hbar := wk1_bar h.h h.en h.ho.atoms
  obtain ⟨vd, oo, on, oc, tx, co, cn, cc, po, pn, pc, uo, un, uc, he, hver, hb⟩ := h.out
  obtain rfl : vd = 2 := by
    rcases hver with ⟨_, hp, _⟩ | ⟨hv, _⟩
    · exact absurd hp hbar
    · exact hv
  subst he
  have HB1 : Hid (Below w.heap.size w w1) := hb
  clear h hver hbar hb
  go_wp2_with fail
  refine (P2 _).mono ?_
  clear P2
  rintro e w2 h
  rcases h with ⟨er, h, _⟩ | ⟨q2, mate2, f2, gh2, h⟩
  · exfalso
    have := wk2_facts
    rw [h] at this
    cases this
  obtain ⟨hpf, hl5⟩ := wk2_perf h.h
  obtain ⟨vd, oo2, on2, oc2, tx2, co2, cn2, cc2, po2, pn2, pc2, uo2, un2, uc2, he, hver, hb⟩ := h.out
  obtain ⟨rfl, rfl⟩ : vd = 1 ∧ on2 = 5 := by
    rcases hver with ⟨h1, _, h2⟩ | ⟨_, hv⟩
    · exact ⟨h1, by omega⟩
    · exact absurd hpf hv
  subst he
  have R1 := RBx.new w1 (.int .i64 2) (.slice oo on oc) (.string tx) (.slice co cn cc) (.slice po pn pc) (.slice uo un uc)
  have hbw : Below w.heap.size w (w1.alloc (.cells #[.int .i64 2, .slice oo on oc, .string tx, .slice co cn cc, .slice po pn pc, .slice uo un uc] 31)) := HB1.out.alloc HB1.out.size _
  have HR1 : Hid (RBx w1.heap.size (.int .i64 2) (.slice oo on oc) w2) := R1.on hb
  have HB2 : Hid (Below w.heap.size w w2) := hbw.trans (hb.mono hbw.size)
  clear h hver hb hpf hl5 R1 hbw HB1
  go_wp2_with fail
  refine (P3 _).mono ?_
  clear P3
  rintro e w3 h
  rcases h with ⟨er, h, he, hb⟩ | ⟨ats, l, v, v', h, _⟩
  rotate_left
  · exfalso
    have := wk3_facts
    rw [h] at this
    cases this
  obtain rfl : er = (2, 3) := by
    have := wk3_facts
    rw [h] at this
    simpa using this
  subst he
  have R2 := RBx.new w2 (.int .i64 1) (.slice oo2 5 oc2) (.string tx2) (.slice co2 cn2 cc2) (.slice po2 pn2 pc2) (.slice uo2 un2 uc2)
  have hbw : Below w.heap.size w (w2.alloc (.cells #[.int .i64 1, .slice oo2 5 oc2, .string tx2, .slice co2 cn2 cc2, .slice po2 pn2 pc2, .slice uo2 un2 uc2] 31)) := HB2.out.alloc HB2.out.size _
  have HR2 := R2.on hb
  have HR1' := (HR1.out.grow (.cells #[.int .i64 1, .slice oo2 5 oc2, .string tx2, .slice co2 cn2 cc2, .slice po2 pn2 pc2, .slice uo2 un2 uc2] 31)).on hb
  have HB3 : Below w.heap.size w w3 := hbw.trans (hb.mono hbw.size)
  clear h hb R2 hbw HR1 HB2
  go_upto_region 4 with fail
  obtain ⟨W, hW⟩ : ∃ W, w3.alloc (.cells #[.slice none 0 0, .slice none 0 0] 39) = W := ⟨_, rfl⟩
  have H1 := HR1'.grow (.cells #[.slice none 0 0, .slice none 0 0] 39)
  have H2 := HR2.grow (.cells #[.slice none 0 0, .slice none 0 0] 39)
  have HBW : Hid (Below w.heap.size w W) := by rw [← hW]; exact HB3.alloc HB3.size _
  rw [hW] at H1 H2 ⊢
  clear hW HR1' HR2 HB3
  have x0 := H1.r0
  have y0 := H2.r0
  have y1 := H2.r1
  clear H1 H2
  go_wp2_with fail
  go_ret
  exact ⟨rfl, HBW.out⟩
end Go.Proofs.YtcabaecbmkgclaaGreatDoor.Kd

namespace Go.Proofs.YtcabaecbmkgclaaGreatDoor.Kd
open Go.RowKit Bz Mt Mg Rf

theorem byteAt_list (s : ByteArray) (i : Nat) : byteAt s i = match s.data.toList[i]? with
    | some c => (c.toNat : Int)
    | none => 0 := by
  by_cases h : i < s.size
  · rw [byteAt_lt s i h]
    have hl : i < s.data.toList.length := by simpa using h
    rw [List.getElem?_eq_getElem hl]
    rfl
  · rw [byteAt_ge s i h, List.getElem?_eq_none (by simpa using h)]

theorem dot_emb (a b : ByteArray) : Emb a (a ++ ⟨#[46]⟩ ++ b) 0 ∧ byteAt (a ++ ⟨#[46]⟩ ++ b) a.size = 46 ∧ Emb b (a ++ ⟨#[46]⟩ ++ b) (a.size + 1) ∧ (a ++ ⟨#[46]⟩ ++ b).size = a.size + 1 + b.size := by
  have hl : (a ++ ⟨#[46]⟩ ++ b).data.toList = a.data.toList ++ 46 :: b.data.toList := by simp
  have ha : a.data.toList.length = a.size := by simp
  have hb : b.data.toList.length = b.size := by simp
  have hs : (a ++ ⟨#[46]⟩ ++ b).size = a.size + 1 + b.size := by
    rw [ByteArray.size_append, ByteArray.size_append]
    rfl
  have h1 : ∀ i, i < a.size → byteAt (a ++ ⟨#[46]⟩ ++ b) i = byteAt a i := fun i hi => by
    rw [byteAt_list, byteAt_list, hl, List.getElem?_append_left (by omega)]
  have h2 : byteAt (a ++ ⟨#[46]⟩ ++ b) a.size = 46 := by
    rw [byteAt_list, hl, List.getElem?_append_right (by omega), ha, Nat.sub_self]
    rfl
  have h3 : ∀ i, byteAt (a ++ ⟨#[46]⟩ ++ b) (a.size + 1 + i) = byteAt b i := fun i => by
    rw [byteAt_list, byteAt_list, hl, List.getElem?_append_right (by omega), ha, show a.size + 1 + i - a.size = i + 1 by omega, List.getElem?_cons_succ]
  exact ⟨⟨fun i hi => by rw [Nat.zero_add]; exact h1 i hi, .inl (by rw [Nat.zero_add]; exact h2), by omega⟩, h2, ⟨fun i _ => h3 i, .inr (by omega), by omega⟩, hs⟩

/-- What is read in both, one behind the other. -/
theorem apart_is {a b : ByteArray} {q1 q2 : St} (h1 : Bz.parse a = .ok (q1.atoms, q1.bonds)) (h2 : Bz.parse b = .ok (q2.atoms, q2.bonds)) (hs : a.size + b.size + 1 ≤ 160) (hn : q1.atoms.length + q2.atoms.length ≤ 24) :
    Bz.parse (a ++ ⟨#[46]⟩ ++ b) = .ok (q1.atoms ++ q2.atoms.map (shA (a.size + 1)), q1.bonds ++ q2.bonds.map (shB q1.atoms.length (a.size + 1))) ∧
    ∀ q : St, Bz.parse (a ++ ⟨#[46]⟩ ++ b) = .ok (q.atoms, q.bonds) → (Perf q ↔ Perf q1 ∧ Perf q2) := by
  obtain ⟨e1, e2, e3, e4⟩ := dot_emb a b
  obtain ⟨_, n1⟩ := parse_en h1
  obtain ⟨_, n2⟩ := parse_en h2
  have hB1 : ∀ x ∈ q1.bonds, x.a < q1.atoms.length ∧ x.b < q1.atoms.length := fun x hx => by have := n1.ends x hx; omega
  have hB2 : ∀ x ∈ q2.bonds, x.a < q2.atoms.length ∧ x.b < q2.atoms.length := fun x hx => by have := n2.ends x hx; omega
  have hp := apart_parse e1 e2 e3 e4 (by omega) hn hB1 h1 h2
  refine ⟨hp, fun q hq => ?_⟩
  rw [hp] at hq
  simp only [Except.ok.injEq, Prod.mk.injEq] at hq
  exact Joint.perf ⟨hq.1.symm, hq.2.symm, hB1, hB2⟩

/-- An atom of a molecule that came out. -/
theorem atom_at {w : World} {base : Nat} {va : Value} {ats : List Atm} (h : w.ownsRow base 50 4 va ats.length (ats.flatMap plainCells)) {k : Nat} {a : Atm} (hk : ats[k]? = some a) :
    ∃ g cap, va = .slice (some ⟨g, 0, none⟩) ats.length cap ∧ g < w.heap.size ∧ w.cell? ⟨g, k * 4, none⟩ = some (.string a.el) ∧ w.cell? ⟨g, k * 4 + 1, none⟩ = some (.bool a.aro) ∧ w.cell? ⟨g, k * 4 + 2, none⟩ = some (.int .i64 a.ch) ∧ w.cell? ⟨g, k * 4 + 3, none⟩ = some (.int .i64 a.hy) := by
  have hl : k < ats.length := (List.getElem?_eq_some_iff.1 hk).1
  obtain ⟨g, cap, rfl, h1, h2, h3, h4⟩ := ownsRow_at h (by omega)
  have d0 := flatMap_get plainCells 4 plainCells_len _ k 0 a hk (by omega)
  rw [Nat.add_zero] at d0
  refine ⟨g, cap, rfl, h2, (h3 (k * 4) (by omega)).trans d0, ?_, ?_, ?_⟩
  · exact (h3 (k * 4 + 1) (by omega)).trans (flatMap_get plainCells 4 plainCells_len _ k 1 a hk (by omega))
  · exact (h3 (k * 4 + 2) (by omega)).trans (flatMap_get plainCells 4 plainCells_len _ k 2 a hk (by omega))
  · exact (h3 (k * 4 + 3) (by omega)).trans (flatMap_get plainCells 4 plainCells_len _ k 3 a hk (by omega))

/-- A molecule in its box. -/
structure MBx (base X : Nat) (av bv : Value) (ats : List Atm) (W : World) : Prop where
  c0 : W.cell? ⟨X, 0, none⟩ = some av
  c1 : W.cell? ⟨X, 1, none⟩ = some bv
  row : W.ownsRow base 50 4 av ats.length (ats.flatMap plainCells)
  lt : X < W.heap.size
theorem MBx.new {base : Nat} {w : World} {av bv : Value} {ats : List Atm} (h : w.ownsRow base 50 4 av ats.length (ats.flatMap plainCells)) : MBx base w.heap.size av bv ats (w.alloc (.cells #[av, bv] 39)) :=
  ⟨by simp, by simp, ownsRow_same h fun k hk => ((Below.refl _ w).alloc (Nat.le_refl _) _).block k (h.lt k hk).2, by simp⟩
theorem MBx.on {base X : Nat} {av bv : Value} {ats : List Atm} {W W' : World} (h : MBx base X av bv ats W) (hb : Below W.heap.size W W') : MBx base X av bv ats W' :=
  ⟨(hb.cell h.lt).trans h.c0, (hb.cell h.lt).trans h.c1, ownsRow_same h.row fun k hk => hb.block k (h.row.lt k hk).2, Nat.lt_of_lt_of_le h.lt hb.size⟩
theorem MBx.grow {base X : Nat} {av bv : Value} {ats : List Atm} {W : World} (h : MBx base X av bv ats W) (o : Obj) : MBx base X av bv ats (W.alloc o) := h.on ((Below.refl _ W).alloc (Nat.le_refl _) o)

theorem parse_nz {s : ByteArray} {er : Int × Int} (h : Bz.parse s = .error er) : er.1 ≠ 0 := by
  by_cases hs : s.size ≤ 160
  · rw [parse_whole s hs] at h
    cases hq : wholeR s with
    | error e => rw [hq] at h; cases h; exact whole_nz hq
    | ok q => rw [hq] at h; cases h
  · unfold Bz.parse at h
    rw [if_pos (by omega)] at h
    cases h
    decide

theorem ParseIs.shape {s : ByteArray} {w : World} {e : Ending} {w' : World} (h : ParseIs s w e w') : ∃ ao na ac bo nb bc y1 y2, e = .returned (.tuple #[.agg #[.slice ao na ac, .slice bo nb bc], .int .i64 y1, .int .i64 y2]) ∧ Below w.heap.size w w' := by
  rcases h with ⟨er, h, he, hb2⟩ | ⟨ats, l, v, v', h, he, hr1, hr2, hb2, _⟩
  · exact ⟨none, 0, 0, none, 0, 0, _, _, he, hb2⟩
  · obtain ⟨ao, ac, rfl⟩ := ownsRow_shape hr1
    obtain ⟨bo, bc, rfl⟩ := ownsRow_shape hr2
    exact ⟨ao, _, ac, bo, _, bc, _, _, he, hb2⟩

theorem ParseIs.err {s : ByteArray} {w : World} {e : Ending} {w' : World} {er : Int × Int} (h : ParseIs s w e w') (hp : Bz.parse s = .error er) : e = .returned (.tuple #[.agg #[.slice none 0 0, .slice none 0 0], .int .i64 er.1, .int .i64 er.2]) ∧ Below w.heap.size w w' := by
  rcases h with ⟨er', h, he, hb2⟩ | ⟨ats, l, v, v', h, _⟩
  · rw [hp] at h; cases h
    exact ⟨he, hb2⟩
  · rw [hp] at h; cases h

theorem ParseIs.fine {s : ByteArray} {w : World} {e : Ending} {w' : World} {ats : List Atm} {l : List Bnd} (h : ParseIs s w e w') (hp : Bz.parse s = .ok (ats, l)) : ∃ ao ac bo bc, e = .returned (.tuple #[.agg #[.slice ao ats.length ac, .slice bo l.length bc], .int .i64 0, .int .i64 0]) ∧ w'.ownsRow w.heap.size 50 4 (.slice ao ats.length ac) ats.length (ats.flatMap plainCells) ∧ w'.ownsRow w.heap.size 46 3 (.slice bo l.length bc) l.length (l.flatMap bndCells) ∧ Below w.heap.size w w' ∧ ats.length ≤ 24 ∧ l.length ≤ 160 := by
  rcases h with ⟨er', h, he, hb2⟩ | ⟨ats', l', v, v', h, he, hr1, hr2, hb2, _, hn, hl⟩
  · rw [hp] at h; cases h
  · rw [hp] at h; cases h
    obtain ⟨ao, ac, rfl⟩ := ownsRow_shape hr1
    obtain ⟨bo, bc, rfl⟩ := ownsRow_shape hr2
    exact ⟨ao, ac, bo, bc, he, hr1, hr2, hb2, hn, hl⟩

theorem KkIs.fine {s : ByteArray} {w : World} {e : Ending} {w' : World} {ats : List Atm} {l : List Bnd} (h : KkIs s w e w') (hp : Bz.parse s = .ok (ats, l)) : ∃ q : St, q.atoms = ats ∧ q.bonds = l ∧ ∃ vd oo on oc tx co cn cc po pn pc uo un uc, KkOut q w e w' vd oo on oc tx co cn cc po pn pc uo un uc := by
  rcases h with ⟨er, h, _⟩ | ⟨q, mate, f, gh, h⟩
  · rw [hp] at h; cases h
  · have := h.h
    rw [hp] at this
    simp only [Except.ok.injEq, Prod.mk.injEq] at this
    exact ⟨q, this.1.symm, this.2.symm, h.out⟩

section
set_option maxRecDepth 100000 in
set_option maxHeartbeats 4000000 in
/-- The first text can't be read. -/
theorem apart_bad1 (w : World) (a b : ByteArray) (ha : a.size ≤ maxLen) (hb : b.size ≤ maxLen) {er : Int × Int} (hp : Bz.parse a = .error er) : Calls Tryz.prog 9 #[.string a, .string b] w fun e w' => e = .returned (.bool true) ∧ Below w.heap.size w w' := by
  have P1 := fun W => works_any W
  have P2 := fun W => (parse_any a W ha).mono fun e w' h => ParseIs.err h hp
  have P3 := fun W => (parse_any b W hb).mono fun e w' h => ParseIs.shape h
  have hnz : (er.1 != 0) = true := by simp [parse_nz hp]
  have hnz2 : ¬ er.1 = 0 := parse_nz hp
  clear hp
  go_enter Tryz.func9, Tryz.ntmps9
  go_wp2_with fail
  refine (P1 _).mono ?_
  clear P1
  rintro e w1 ⟨rfl, hb1⟩
  go_wp2_with fail
  refine (P2 _).mono ?_
  clear P2
  rintro e w2 ⟨rfl, hb2⟩
  have HB2 : Hid (Below w.heap.size w w2) := hb1.trans (hb2.mono hb1.size)
  clear hb1 hb2
  go_wp2_with fail
  refine (P3 _).mono ?_
  clear P3
  rintro e w3 ⟨ao, na, ac, bo, nb, bc, y1, y2, rfl, hb3⟩
  have hbw : Below w.heap.size w (w2.alloc (.cells #[.slice none 0 0, .slice none 0 0] 39)) := HB2.out.alloc HB2.out.size _
  have HB3 : Hid (Below w.heap.size w w3) := hbw.trans (hb3.mono hbw.size)
  have HB4 : Hid (∀ o, Below w.heap.size w (w3.alloc o)) := fun o => HB3.out.alloc HB3.out.size o
  clear hb3 hbw HB2 HB3
  go_wp2_with fail
  go_ret
  exact ⟨rfl, HB4.out _⟩

set_option maxRecDepth 100000 in
set_option maxHeartbeats 4000000 in
/-- The second one can't. -/
theorem apart_bad2 (w : World) (a b : ByteArray) (ha : a.size ≤ maxLen) (hb : b.size ≤ maxLen) {ats : List Atm} {l : List Bnd} (hp : Bz.parse a = .ok (ats, l)) {er : Int × Int} (hp2 : Bz.parse b = .error er) : Calls Tryz.prog 9 #[.string a, .string b] w fun e w' => e = .returned (.bool true) ∧ Below w.heap.size w w' := by
  have P1 := fun W => works_any W
  have P2 := fun W => (parse_any a W ha).mono fun e w' h => ParseIs.fine h hp
  have P3 := fun W => (parse_any b W hb).mono fun e w' h => ParseIs.err h hp2
  have hnz : (er.1 != 0) = true := by simp [parse_nz hp2]
  have hnz2 : ¬ er.1 = 0 := parse_nz hp2
  clear hp hp2
  go_enter Tryz.func9, Tryz.ntmps9
  go_wp2_with fail
  refine (P1 _).mono ?_
  clear P1
  rintro e w1 ⟨rfl, hb1⟩
  go_wp2_with fail
  refine (P2 _).mono ?_
  clear P2
  rintro e w2 ⟨ao, ac, bo, bc, rfl, hr1, _, hb2, hn1, hl1⟩
  have HB2 : Hid (Below w.heap.size w w2) := hb1.trans (hb2.mono hb1.size)
  clear hb1 hb2 hr1
  go_wp2_with fail
  refine (P3 _).mono ?_
  clear P3
  rintro e w3 ⟨rfl, hb3⟩
  have hbw : Below w.heap.size w (w2.alloc (.cells #[.slice ao ats.length ac, .slice bo l.length bc] 39)) := HB2.out.alloc HB2.out.size _
  have HB3 : Hid (Below w.heap.size w w3) := hbw.trans (hb3.mono hbw.size)
  have HB4 : Hid (∀ o, Below w.heap.size w (w3.alloc o)) := fun o => HB3.out.alloc HB3.out.size o
  clear hb3 hbw HB2 HB3
  go_wp2_with fail
  go_ret
  exact ⟨rfl, HB4.out _⟩

set_option maxRecDepth 100000 in
set_option maxHeartbeats 4000000 in
/-- Both can, but they are too long, or too many atoms, together. -/
theorem apart_great (w : World) (a b : ByteArray) (ha : a.size ≤ maxLen) (hb : b.size ≤ maxLen) {ats : List Atm} {l : List Bnd} (hp : Bz.parse a = .ok (ats, l)) {ats2 : List Atm} {l2 : List Bnd} (hp2 : Bz.parse b = .ok (ats2, l2)) (hg : 160 < a.size + b.size + 1 ∨ 24 < ats.length + ats2.length) : Calls Tryz.prog 9 #[.string a, .string b] w fun e w' => e = .returned (.bool true) ∧ Below w.heap.size w w' := by
  have P1 := fun W => works_any W
  have P2 := fun W => (parse_any a W ha).mono fun e w' h => ParseIs.fine h hp
  have P3 := fun W => (parse_any b W hb).mono fun e w' h => ParseIs.fine h hp2
  have hsa := (parse_en hp).1
  have hsb := (parse_en hp2).1
  clear hp hp2
  go_enter Tryz.func9, Tryz.ntmps9
  go_wp2_with fail
  refine (P1 _).mono ?_
  clear P1
  rintro e w1 ⟨rfl, hb1⟩
  go_wp2_with fail
  refine (P2 _).mono ?_
  clear P2
  rintro e w2 ⟨ao, ac, bo, bc, rfl, hr1, _, hb2, hn1, hl1⟩
  have HB2 : Hid (Below w.heap.size w w2) := hb1.trans (hb2.mono hb1.size)
  clear hb1 hb2
  go_wp2_with fail
  refine (P3 _).mono ?_
  clear P3
  rintro e w3 ⟨ao2, ac2, bo2, bc2, rfl, _, _, hb3, hn2, hl2⟩
  have M1 := ((MBx.new (bv := .slice bo l.length bc) hr1).on hb3).grow (.cells #[.slice ao2 ats2.length ac2, .slice bo2 l2.length bc2] 39)
  have hbw : Below w.heap.size w (w2.alloc (.cells #[.slice ao ats.length ac, .slice bo l.length bc] 39)) := HB2.out.alloc HB2.out.size _
  have HB3 : Hid (Below w.heap.size w w3) := hbw.trans (hb3.mono hbw.size)
  have HB4 : Hid (∀ o, Below w.heap.size w (w3.alloc o)) := fun o => HB3.out.alloc HB3.out.size o
  have x0 := M1.c0
  clear hb3 hbw HB2 HB3 hr1 M1
  by_cases hlen : 160 < a.size + b.size + 1
  · have hlen' : (a.size : Int) + (b.size : Int) + 1 > 160 := by omega
    clear hg
    go_wp2_with fail
    go_ret
    exact ⟨rfl, HB4.out _⟩
  · have hlen' : ¬ ((a.size : Int) + (b.size : Int) + 1 > 160) := by omega
    have hat : (ats.length : Int) + (ats2.length : Int) > 24 := by omega
    clear hg
    go_wp2_with fail
    go_ret
    exact ⟨rfl, HB4.out _⟩
end
end Go.Proofs.YtcabaecbmkgclaaGreatDoor.Kd

namespace Go.Proofs.YtcabaecbmkgclaaGreatDoor.Kd
open Go.RowKit Bz Mt Mg Rf

/-- A bond of a molecule that came out. -/
theorem bond_at {w : World} {base : Nat} {vb : Value} {l : List Bnd} (h : w.ownsRow base 46 3 vb l.length (l.flatMap bndCells)) {k : Nat} {b : Bnd} (hk : l[k]? = some b) :
    ∃ g cap, vb = .slice (some ⟨g, 0, none⟩) l.length cap ∧ g < w.heap.size ∧ w.cell? ⟨g, k * 3, none⟩ = some (.int .i64 b.a) ∧ w.cell? ⟨g, k * 3 + 1, none⟩ = some (.int .i64 b.b) ∧ w.cell? ⟨g, k * 3 + 2, none⟩ = some (.int .i64 b.o) := by
  have hl : k < l.length := (List.getElem?_eq_some_iff.1 hk).1
  have bl : ∀ b : Bnd, (bndCells b).length = 3 := fun _ => rfl
  obtain ⟨g, cap, rfl, h1, h2, h3, h4⟩ := ownsRow_at h (by omega)
  have d0 := flatMap_get bndCells 3 bl _ k 0 b hk (by omega)
  rw [Nat.add_zero] at d0
  refine ⟨g, cap, rfl, h2, (h3 (k * 3) (by omega)).trans d0, ?_, ?_⟩
  · exact (h3 (k * 3 + 1) (by omega)).trans (flatMap_get bndCells 3 bl _ k 1 b hk (by omega))
  · exact (h3 (k * 3 + 2) (by omega)).trans (flatMap_get bndCells 3 bl _ k 2 b hk (by omega))

/-- The rows of a molecule that came out. -/
structure Rows2 (av bv : Value) (ats : List Atm) (l : List Bnd) (W : World) : Prop where
  a : ∃ base, W.ownsRow base 50 4 av ats.length (ats.flatMap plainCells)
  b : ∃ base, W.ownsRow base 46 3 bv l.length (l.flatMap bndCells)
theorem Rows2.on {av bv : Value} {ats : List Atm} {l : List Bnd} {W W' : World} (h : Rows2 av bv ats l W) (hb : Below W.heap.size W W') : Rows2 av bv ats l W' := by
  obtain ⟨⟨b1, h1⟩, ⟨b2, h2⟩⟩ := h
  exact ⟨⟨b1, ownsRow_same h1 fun k hk => hb.block k (h1.lt k hk).2⟩, ⟨b2, ownsRow_same h2 fun k hk => hb.block k (h2.lt k hk).2⟩⟩
theorem Rows2.grow {av bv : Value} {ats : List Atm} {l : List Bnd} {W : World} (h : Rows2 av bv ats l W) (o : Obj) : Rows2 av bv ats l (W.alloc o) := h.on ((Below.refl _ W).alloc (Nat.le_refl _) o)
theorem Rows2.drewN {av bv : Value} {ats : List Atm} {l : List Bnd} {W : World} (h : Rows2 av bv ats l W) (n : Nat) : Rows2 av bv ats l (W.drewN n) := by
  obtain ⟨⟨b1, h1⟩, ⟨b2, h2⟩⟩ := h
  exact ⟨⟨b1, ownsRow_same h1 fun _ _ => rfl⟩, ⟨b2, ownsRow_same h2 fun _ _ => rfl⟩⟩

/-- A molecule in a box, as a function holds its own copy. -/
structure MHold (w : World) (X : Nat) (av bv : Value) (ats : List Atm) (l : List Bnd) (W : World) : Prop where
  c0 : W.cell? ⟨X, 0, none⟩ = some av
  c1 : W.cell? ⟨X, 1, none⟩ = some bv
  rows : Rows2 av bv ats l W
  lt : X < W.heap.size
  below : Below w.heap.size w W
theorem MHold.on {w : World} {X : Nat} {av bv : Value} {ats : List Atm} {l : List Bnd} {W W' : World} (h : MHold w X av bv ats l W) (hb : Below W.heap.size W W') : MHold w X av bv ats l W' :=
  ⟨(hb.cell h.lt).trans h.c0, (hb.cell h.lt).trans h.c1, h.rows.on hb, Nat.lt_of_lt_of_le h.lt hb.size, h.below.trans (hb.mono h.below.size)⟩
theorem MHold.grow {w : World} {X : Nat} {av bv : Value} {ats : List Atm} {l : List Bnd} {W : World} (h : MHold w X av bv ats l W) (o : Obj) : MHold w X av bv ats l (W.alloc o) := h.on ((Below.refl _ W).alloc (Nat.le_refl _) o)
theorem MHold.drewN {w : World} {X : Nat} {av bv : Value} {ats : List Atm} {l : List Bnd} {W : World} (h : MHold w X av bv ats l W) (n : Nat) : MHold w X av bv ats l (W.drewN n) := ⟨h.c0, h.c1, h.rows.drewN n, h.lt, below_drewN h.below n⟩
theorem MHold.new {w : World} {av bv : Value} {ats : List Atm} {l : List Bnd} (h : Rows2 av bv ats l w) : MHold w w.heap.size av bv ats l (w.alloc (.cells #[av, bv] 39)) :=
  ⟨by simp, by simp, h.grow _, by simp, (Below.refl _ w).alloc (Nat.le_refl _) _⟩

set_option maxRecDepth 100000 in
set_option maxHeartbeats 4000000 in
theorem whole_any (w : World) {ao : Option Addr} {ac : Nat} {bo : Option Addr} {bc : Nat} {ats : List Atm} {l : List Bnd} (h : Rows2 (.slice ao ats.length ac) (.slice bo l.length bc) ats l w) (hl : l.length ≤ 160) (he : ∀ b ∈ l, b.a < b.b ∧ b.b < ats.length) :
    Calls Tryz.prog 17 #[.agg #[.slice ao ats.length ac, .slice bo l.length bc]] w fun e w' => e = .returned (.bool true) ∧ Below w.heap.size w w' := by
  have H0 : Hid (MHold w w.heap.size (.slice ao ats.length ac) (.slice bo l.length bc) ats l (w.alloc (.cells #[.slice ao ats.length ac, .slice bo l.length bc] 39))) := MHold.new h
  have HE : Hid (∀ b ∈ l, b.a < b.b ∧ b.b < ats.length) := he
  clear h he
  go_enter Tryz.func17, Tryz.ntmps17
  go_wp2_with fail
  go_loopg [3] (l.length + 1) (fun g v3 wr => ∃ i : Nat, i ≤ l.length ∧ l.length - i < g ∧ v3 = .int .i64 (i : Int) ∧ MHold w w.heap.size (.slice ao ats.length ac) (.slice bo l.length bc) ats l wr)
  case atStart => exact ⟨0, by omega, by omega, rfl, H0.out⟩
  case round =>
    obtain ⟨i, hi, hg, rfl, hS⟩ := hrel
    clear H0
    have HS : Hid (MHold w w.heap.size (.slice ao ats.length ac) (.slice bo l.length bc) ats l wr) := hS
    have c0 := hS.c0
    have c1 := hS.c1
    have hlt0 := hS.lt
    by_cases hlt : i < l.length
    · have hlt' : (i : Int) < (l.length : Int) := by omega
      obtain ⟨b, hb⟩ : ∃ b, l[i]? = some b := ⟨_, List.getElem?_eq_getElem hlt⟩
      have hends := HE.out b (List.mem_of_getElem? hb)
      obtain ⟨_, hrow⟩ := hS.rows.b
      obtain ⟨g, k1, e1, hg1, y0, y1, y2⟩ := bond_at hrow hb
      simp only [Value.slice.injEq, true_and] at e1
      obtain ⟨rfl, rfl⟩ := e1
      have HN : Hid (∀ o, MHold w w.heap.size (.slice ao ats.length ac) (.slice (some ⟨g, 0, none⟩) l.length bc) ats l (wr.alloc o)) := fun o => HS.out.grow o
      have c0' : ∀ o, (wr.alloc o).cell? ⟨w.heap.size, 0, none⟩ = some (.slice ao ats.length ac) := fun o => (HS.out.grow o).c0
      have t1 : ¬ ((b.a : Int) < 0) := by omega
      have t2 : ¬ ((b.b : Int) ≤ (b.a : Int)) := by omega
      have t3 : ¬ ((ats.length : Int) ≤ (b.b : Int)) := by omega
      clear hS hrow hb HS HE
      go_wp2_with fail
      go_roundg (l.length - i)
      case measure => omega
      case rel => exact ⟨i + 1, by omega, by omega, by go_num, HN.out _⟩
    · have hlt' : ¬ (i : Int) < (l.length : Int) := by omega
      clear hS
      go_wp2_with fail
      go_ret
      exact ⟨rfl, HS.out.below⟩
end Go.Proofs.YtcabaecbmkgclaaGreatDoor.Kd
