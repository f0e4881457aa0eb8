/-
  Two molecules that are apart: all candidates can have a mate just if they can in each.
  What the document fixes (works), and what Kekulize's verdict says.
  Apart.
  Apart, where both texts can be read and are not too great together.
-/
import Derived.Test.YtcabaecbmkgclaaGreatDoorR40
import Derived.Test.YtcabaecbmkgclaaGreatDoorR43
import Derived.BigQuiet
import Derived.Deep.LoopGhost
namespace Go.Proofs.YtcabaecbmkgclaaGreatDoor.Kd
open Bz Mt
/-- All candidates can have a mate of their own. -/
def Perf (q : St) : Prop := ∃ m, MtOk (grL q.atoms.length (candEdges q q.bonds)) m ∧ ∀ i, i < q.atoms.length → cand q i = true → (m i).isSome = true

theorem cnt_full {n : Nat} {p q : Nat → Bool} (h : ∀ k, k < n → p k = true → q k = true) (hc : cnt n q ≤ cnt n p) : ∀ k, k < n → q k = true → p k = true := by
  induction n with
  | zero => intro k hk; omega
  | succ n ih =>
    have hm := cnt_mono (n := n) fun k hk => h k (by omega)
    have hn := h n (by omega)
    rw [cnt, cnt] at hc
    have hc' : cnt n q ≤ cnt n p ∧ (q n = true → p n = true) := by
      cases hp : p n
      · cases hq : q n
        · rw [hp, hq] at hc; simp at hc; exact ⟨hc, fun h => h⟩
        · rw [hp, hq] at hc; simp at hc; omega
      · rw [hn hp, hp] at hc; simp at hc; exact ⟨hc, fun _ => rfl⟩
    intro k hk hq
    by_cases hkn : k = n
    · subst hkn; exact hc'.2 hq
    · exact ih (fun k hk => h k (by omega)) hc'.1 k (by omega) hq

theorem perf_iff {q : St} {pos : Nat} {mate : Nat → Option Nat} {f : Fo} {h : Gh} (en : En q.atoms.length q.bonds pos) (hn : q.atoms.length ≤ 24) (hB : Best (grL q.atoms.length (candEdges q q.bonds)) mate f h) :
    ¬ 2 * (pairsF q.atoms.length mate).length < cnt q.atoms.length (cand q) ↔ Perf q := by
  have E := candEdges_ok en
  constructor
  · intro hd
    refine ⟨mate, hB.m, fun i hi hc => ?_⟩
    have h1 : 2 * (pairsF q.atoms.length mate).length + cnt q.atoms.length (fun x => (mate x).isNone) = q.atoms.length := pairs_two (E.gr hn) hB.m
    have h2 := cnt_not q.atoms.length (fun x => (mate x).isNone)
    have h3 : cnt q.atoms.length (fun k => !(mate k).isNone) = cnt q.atoms.length (fun k => (mate k).isSome) := cnt_congr fun k _ => by cases mate k <;> rfl
    exact cnt_full (p := fun k => (mate k).isSome) (q := cand q) (fun k _ hk => mate_cand hB.m hk) (by omega) i hi hc
  · rintro ⟨m, M, hall⟩
    have := best_lo E hn hB M hall
    omega

section
variable {q q1 q2 : St} {D : Nat}
structure Joint (q q1 q2 : St) (D : Nat) : Prop where
  atoms : q.atoms = q1.atoms ++ q2.atoms.map (shA D)
  bonds : q.bonds = q1.bonds ++ q2.bonds.map (shB q1.atoms.length D)
  ends : ∀ b ∈ q1.bonds, b.a < q1.atoms.length ∧ b.b < q1.atoms.length
  ends2 : ∀ b ∈ q2.bonds, b.a < q2.atoms.length ∧ b.b < q2.atoms.length

theorem Joint.cand1 (j : Joint q q1 q2 D) {i : Nat} (hi : i < q1.atoms.length) : cand q i = cand q1 i := by
  have hs : sum q.bonds i = sum q1.bonds i := by
    rw [j.bonds, sum_app, sum_low _ _ _ _ hi]
    omega
  unfold cand fill
  rw [j.atoms, List.getElem?_append_left hi, hs]

theorem Joint.cand2 (j : Joint q q1 q2 D) (i : Nat) : cand q (i + q1.atoms.length) = cand q2 i := by
  have hs : sum q.bonds (i + q1.atoms.length) = sum q2.bonds i := by
    rw [j.bonds, sum_app, sum_shift]
    have : sum q1.bonds (i + q1.atoms.length) = 0 := sum_out fun b hb => by have := j.ends b hb; omega
    omega
  unfold cand fill
  rw [j.atoms, List.getElem?_append_right (by omega), hs, Nat.add_sub_cancel, List.getElem?_map]
  cases q2.atoms[i]? <;> rfl

theorem Joint.edge (j : Joint q q1 q2 D) {x y : Nat} : (x, y) ∈ candEdges q q.bonds ↔ (x, y) ∈ candEdges q1 q1.bonds ∨ ∃ u v, (u, v) ∈ candEdges q2 q2.bonds ∧ x = u + q1.atoms.length ∧ y = v + q1.atoms.length := by
  rw [candEdges_mem, candEdges_mem]
  constructor
  · rintro ⟨b, hb, he, rfl, rfl⟩
    rw [j.bonds, List.mem_append, List.mem_map] at hb
    rcases hb with hb | ⟨c, hc, rfl⟩
    · obtain ⟨e1, e2⟩ := j.ends b hb
      unfold isEdge at he
      rw [j.cand1 e1, j.cand1 e2] at he
      exact .inl ⟨b, hb, he, rfl, rfl⟩
    · refine .inr ⟨c.a, c.b, candEdges_mem.2 ⟨c, hc, ?_, rfl, rfl⟩, rfl, rfl⟩
      unfold isEdge shB at he
      simp only [j.cand2] at he
      exact he
  · rintro (⟨b, hb, he, rfl, rfl⟩ | ⟨u, v, hm, rfl, rfl⟩)
    · obtain ⟨e1, e2⟩ := j.ends b hb
      refine ⟨b, by rw [j.bonds]; simp [hb], ?_, rfl, rfl⟩
      unfold isEdge at he ⊢
      rw [j.cand1 e1, j.cand1 e2]
      exact he
    · obtain ⟨c, hc, he, rfl, rfl⟩ := candEdges_mem.1 hm
      refine ⟨shB q1.atoms.length D c, by rw [j.bonds, List.mem_append]; exact .inr (List.mem_map.2 ⟨c, hc, rfl⟩), ?_, rfl, rfl⟩
      unfold isEdge at he ⊢
      simp only [shB, j.cand2]
      exact he

theorem Joint.in1 (j : Joint q q1 q2 D) {x y : Nat} (h : (x, y) ∈ candEdges q1 q1.bonds) : x < q1.atoms.length ∧ y < q1.atoms.length := by
  obtain ⟨b, hb, _, rfl, rfl⟩ := candEdges_mem.1 h
  exact j.ends b hb
theorem Joint.adj1 (j : Joint q q1 q2 D) {x y : Nat} (hx : x < q1.atoms.length) : adjL (candEdges q q.bonds) x y = true ↔ adjL (candEdges q1 q1.bonds) x y = true := by
  rw [adjL_iff, adjL_iff, j.edge, j.edge]
  constructor
  · rintro ((h | ⟨u, v, _, h, _⟩) | (h | ⟨u, v, _, _, h⟩))
    · exact .inl h
    · omega
    · exact .inr h
    · omega
  · rintro (h | h)
    · exact .inl (.inl h)
    · exact .inr (.inl h)

theorem Joint.adj2 (j : Joint q q1 q2 D) {x y : Nat} : adjL (candEdges q q.bonds) (x + q1.atoms.length) y = true ↔ ∃ v, y = v + q1.atoms.length ∧ adjL (candEdges q2 q2.bonds) x v = true := by
  rw [adjL_iff, j.edge, j.edge]
  constructor
  · rintro ((h | ⟨u, v, h, h1, h2⟩) | (h | ⟨u, v, h, h1, h2⟩))
    · have := j.in1 h; omega
    · refine ⟨v, h2, adjL_iff.2 (.inl ?_)⟩
      rw [show x = u by omega]
      exact h
    · have := j.in1 h; omega
    · refine ⟨u, h1, adjL_iff.2 (.inr ?_)⟩
      rw [show x = v by omega]
      exact h
  · rintro ⟨v, rfl, h⟩
    rcases adjL_iff.1 h with h | h
    · exact .inl (.inr ⟨x, v, h, rfl, rfl⟩)
    · exact .inr (.inr ⟨v, x, h, rfl, rfl⟩)

theorem Joint.perf (j : Joint q q1 q2 D) : Perf q ↔ Perf q1 ∧ Perf q2 := by
  have hlen : q.atoms.length = q1.atoms.length + q2.atoms.length := by rw [j.atoms]; simp
  have lt1 : ∀ x y, adjL (candEdges q1 q1.bonds) x y = true → x < q1.atoms.length ∧ y < q1.atoms.length := fun x y h => by
    rcases adjL_iff.1 h with h | h
    · exact j.in1 h
    · exact (j.in1 h).symm
  constructor
  · rintro ⟨m, M, hall⟩
    have A : ∀ a b, m a = some b → adjL (candEdges q q.bonds) a b = true := M.adj
    refine ⟨⟨fun x => if x < q1.atoms.length then m x else none, ⟨?_, ?_⟩, ?_⟩, ⟨fun x => (m (x + q1.atoms.length)).map (· - q1.atoms.length), ⟨?_, ?_⟩, ?_⟩⟩
    · intro a b hab
      split at hab
      · rename_i ha
        exact (j.adj1 ha).1 (A a b hab)
      · cases hab
    · intro a b hab
      split at hab
      · rename_i ha
        have := lt1 a b ((j.adj1 ha).1 (A a b hab))
        rw [if_pos this.2]
        exact M.back a b hab
      · cases hab
    · intro i hi hc
      simp only
      rw [if_pos hi]
      exact hall i (by omega) (by rw [j.cand1 hi]; exact hc)
    · intro a b hab
      cases hm : m (a + q1.atoms.length) with
      | none => rw [hm] at hab; cases hab
      | some y =>
        rw [hm] at hab
        simp only [Option.map_some, Option.some.injEq] at hab
        obtain ⟨v, hv, hadj⟩ := j.adj2.1 (A _ _ hm)
        show adjL (candEdges q2 q2.bonds) a b = true
        rw [show b = v by omega]
        exact hadj
    · intro a b hab
      cases hm : m (a + q1.atoms.length) with
      | none => rw [hm] at hab; cases hab
      | some y =>
        rw [hm] at hab
        simp only [Option.map_some, Option.some.injEq] at hab
        obtain ⟨v, hv, hadj⟩ := j.adj2.1 (A _ _ hm)
        have hb := M.back _ _ hm
        rw [show b + q1.atoms.length = y by omega, hb]
        simp
    · intro i hi hc
      simp only [Option.isSome_map]
      exact hall _ (by omega) (by rw [j.cand2]; exact hc)
  · rintro ⟨⟨m1, M1, hall1⟩, ⟨m2, M2, hall2⟩⟩
    have A1 : ∀ a b, m1 a = some b → adjL (candEdges q1 q1.bonds) a b = true := M1.adj
    have A2 : ∀ a b, m2 a = some b → adjL (candEdges q2 q2.bonds) a b = true := M2.adj
    refine ⟨fun x => if x < q1.atoms.length then m1 x else (m2 (x - q1.atoms.length)).map (· + q1.atoms.length), ⟨?_, ?_⟩, ?_⟩
    · intro a b hab
      show adjL (candEdges q q.bonds) a b = true
      split at hab
      · rename_i ha
        exact (j.adj1 ha).2 (A1 a b hab)
      · rename_i ha
        cases hm : m2 (a - q1.atoms.length) with
        | none => rw [hm] at hab; cases hab
        | some y =>
          rw [hm] at hab
          simp only [Option.map_some, Option.some.injEq] at hab
          have := j.adj2.2 ⟨y, rfl, A2 _ _ hm⟩
          rw [show a - q1.atoms.length + q1.atoms.length = a by omega, hab] at this
          exact this
    · intro a b hab
      split at hab
      · rename_i ha
        rw [if_pos (lt1 a b (A1 a b hab)).2]
        exact M1.back a b hab
      · rename_i ha
        cases hm : m2 (a - q1.atoms.length) with
        | none => rw [hm] at hab; cases hab
        | some y =>
          rw [hm] at hab
          simp only [Option.map_some, Option.some.injEq] at hab
          rw [if_neg (by omega), show b - q1.atoms.length = y by omega, M2.back _ _ hm]
          simp only [Option.map_some, Option.some.injEq]
          omega
    · intro i hi hc
      simp only
      by_cases hlt : i < q1.atoms.length
      · rw [if_pos hlt]
        exact hall1 i hlt (by rw [← j.cand1 hlt]; exact hc)
      · rw [if_neg hlt, Option.isSome_map]
        refine hall2 _ (by omega) ?_
        rw [← j.cand2, show i - q1.atoms.length + q1.atoms.length = i by omega]
        exact hc
end
end Go.Proofs.YtcabaecbmkgclaaGreatDoor.Kd
namespace Go.Proofs.YtcabaecbmkgclaaGreatDoor.Kd
open Go.RowKit Bz Mt Mg Rf
/-- What came out, with its verdict. -/
structure KkOut (q : St) (w : World) (e : Ending) (w' : World) (vd : Nat) (oo : Option Addr) (on oc : Nat) (tx : ByteArray) (co : Option Addr) (cn cc : Nat) (po : Option Addr) (pn pc : Nat) (uo : Option Addr) (un uc : Nat) : Prop where
  he : e = .returned (.tuple #[.agg #[.int .i64 (vd : Int), .slice oo on oc, .string tx, .slice co cn cc, .slice po pn pc, .slice uo un uc], .int .i64 0, .int .i64 0])
  ver : (vd = 1 ∧ Perf q ∧ on = q.bonds.length) ∨ (vd = 2 ∧ ¬ Perf q)
  hb : Below w.heap.size w w'

theorem KkGood.out {s : ByteArray} {w : World} {e : Ending} {w' : World} {q : St} {mate : Nat → Option Nat} {f : Fo} {gh : Gh} (h : KkGood s w e w' q mate f gh) : ∃ vd oo on oc tx co cn cc po pn pc uo un uc, KkOut q w e w' vd oo on oc tx co cn cc po pn pc uo un uc := by
  have hn : q.atoms.length ≤ 24 := h.ho.atoms
  have hpf := perf_iff h.en hn h.best
  rcases h.case with ⟨hlow, pv, uv, hK⟩ | ⟨hlow, ov, cv, hK⟩
  · obtain ⟨he, hp, hu, hb4⟩ := hK
    obtain ⟨po, pc, rfl⟩ := ownsRow_shape hp
    obtain ⟨uo, uc, rfl⟩ := hu.shape
    exact ⟨2, none, 0, 0, ⟨#[]⟩, none, 0, 0, po, _, pc, uo, _, uc, he, .inr ⟨rfl, fun k => absurd hlow (hpf.2 k)⟩, hb4⟩
  · obtain ⟨he, ho, hcv, _, hb4⟩ := hK
    obtain ⟨oo, oc, rfl⟩ := ho.shape
    obtain ⟨co, cc, rfl⟩ := hcv.shape
    exact ⟨1, oo, _, oc, _, co, _, cc, none, 0, 0, none, 0, 0, he, .inl ⟨rfl, hpf.1 hlow, List.length_map ..⟩, hb4⟩

/-- A result in its box. -/
structure RBx (Y : Nat) (vd ov : Value) (W : World) : Prop where
  r0 : W.cell? ⟨Y, 0, none⟩ = some vd
  r1 : W.cell? ⟨Y, 1, none⟩ = some ov
  lt : Y < W.heap.size
theorem RBx.new (w : World) (a b c d e f : Value) : RBx w.heap.size a b (w.alloc (.cells #[a, b, c, d, e, f] 31)) := ⟨by simp, by simp, by simp⟩
theorem RBx.on {Y : Nat} {vd ov : Value} {W W' : World} (h : RBx Y vd ov W) (hb : Below W.heap.size W W') : RBx Y vd ov W' :=
  ⟨(hb.cell h.lt).trans h.r0, (hb.cell h.lt).trans h.r1, Nat.lt_of_lt_of_le h.lt hb.size⟩
theorem RBx.grow {Y : Nat} {vd ov : Value} {W : World} (h : RBx Y vd ov W) (o : Obj) : RBx Y vd ov (W.alloc o) := h.on ((Below.refl _ W).alloc (Nat.le_refl _) o)

def wk1 : ByteArray := ⟨#[99, 49, 99, 99, 110, 99, 49]⟩
def wk2 : ByteArray := ⟨#[99, 49, 99, 99, 91, 110, 72, 93, 99, 49]⟩
def wk3 : ByteArray := ⟨#[67, 67, 40]⟩

set_option maxRecDepth 1000000 in
theorem wk1_facts : (match Bz.parse wk1 with
  | .ok (ats, l) => cnt ats.length (cand (stOf ats l)) == 5
  | .error _ => false) = true := by decide +kernel

set_option maxRecDepth 1000000 in
theorem wk2_facts : (match Bz.parse wk2 with
  | .ok (ats, l) => ats.length == 5 && (l.length == 5 && (adjL (candEdges (stOf ats l) l) 1 2 && (adjL (candEdges (stOf ats l) l) 0 4 && !cand (stOf ats l) 3)))
  | .error _ => false) = true := by decide +kernel

set_option maxRecDepth 1000000 in
theorem wk3_facts : (match Bz.parse wk3 with
  | .ok _ => false
  | .error e => e == (2, 3)) = true := by decide +kernel

theorem wk1_bar {q : St} {pos : Nat} (h : Bz.parse wk1 = .ok (q.atoms, q.bonds)) (en : En q.atoms.length q.bonds pos) (hn : q.atoms.length ≤ 24) : ¬ Perf q := by
  have hf := wk1_facts
  rw [h] at hf
  simp only [beq_iff_eq] at hf
  have e : cand (stOf q.atoms q.bonds) = cand q := rfl
  rw [e] at hf
  rintro ⟨m, M, hall⟩
  have E := candEdges_ok en
  have h1 : 2 * (pairsF q.atoms.length m).length + cnt q.atoms.length (fun x => (m x).isNone) = q.atoms.length := pairs_two (E.gr hn) M
  have h2 := cnt_not q.atoms.length (fun x => (m x).isNone)
  have h3 : cnt q.atoms.length (fun k => !(m k).isNone) = cnt q.atoms.length (fun k => (m k).isSome) := cnt_congr fun k _ => by cases m k <;> rfl
  have h4 : cnt q.atoms.length (cand q) ≤ cnt q.atoms.length (fun k => (m k).isSome) := cnt_mono hall
  have h5 : cnt q.atoms.length (fun k => (m k).isSome) ≤ cnt q.atoms.length (cand q) := cnt_mono fun k _ hk => mate_cand M hk
  omega

def wkM (x : Nat) : Option Nat := match x with
  | 0 => some 4
  | 1 => some 2
  | 2 => some 1
  | 4 => some 0
  | _ => none

theorem wk2_perf {q : St} (h : Bz.parse wk2 = .ok (q.atoms, q.bonds)) : Perf q ∧ q.bonds.length = 5 := by
  have hf := wk2_facts
  rw [h] at hf
  simp only [Bool.and_eq_true, beq_iff_eq, Bool.not_eq_true'] at hf
  have ec : cand (stOf q.atoms q.bonds) = cand q := rfl
  have ee : candEdges (stOf q.atoms q.bonds) q.bonds = candEdges q q.bonds := rfl
  rw [ec, ee] at hf
  obtain ⟨h1, h2, h3, h4, h5⟩ := hf
  refine ⟨⟨wkM, ⟨?_, ?_⟩, ?_⟩, h2⟩
  · intro a b hab
    show adjL (candEdges q q.bonds) a b = true
    unfold wkM at hab
    split at hab
    · cases hab; exact h4
    · cases hab; exact h3
    · cases hab; rw [adjL_sym]; exact h3
    · cases hab; rw [adjL_sym]; exact h4
    · cases hab
  · intro a b hab
    unfold wkM at hab
    split at hab
    · cases hab; rfl
    · cases hab; rfl
    · cases hab; rfl
    · cases hab; rfl
    · cases hab
  · intro i hi hc
    rw [h1] at hi
    match i, hi, hc with
    | 0, _, _ => rfl
    | 1, _, _ => rfl
    | 2, _, _ => rfl
    | 3, _, hc => rw [h5] at hc; cases hc
    | 4, _, _ => rfl

set_option maxRecDepth 100000 in
set_option maxHeartbeats 4000000 in
theorem works_any (w : World) : Calls Tryz.prog 16 #[] w fun e w' => e = .returned (.bool true) ∧ Below w.heap.size w w' := by
  have P1 := fun W => kekulize_any wk1 W (by unfold maxLen; decide)
  have P2 := fun W => kekulize_any wk2 W (by unfold maxLen; decide)
  have P3 := fun W => parse_any wk3 W (by unfold maxLen; decide)
  go_enter Tryz.func16, Tryz.ntmps16
  go_wp2_with fail
  refine (P1 _).mono ?_
  clear P1
  rintro e w1 h
  rcases h with ⟨er, h, _⟩ | ⟨q, mate, f, gh, h⟩
  · exfalso
    have := wk1_facts
    rw [h] at this
    cases this
  have hbar := wk1_bar h.h h.en h.ho.atoms
  obtain ⟨vd, oo, on, oc, tx, co, cn, cc, po, pn, pc, uo, un, uc, he, hver, hb⟩ := h.out
  obtain rfl : vd = 2 := by
    rcases hver with ⟨_, hp, _⟩ | ⟨hv, _⟩
    · exact absurd hp hbar
    · exact hv
  subst he
  have HB1 : Hid (Below w.heap.size w w1) := hb
  clear h hver hbar hb
  go_wp2_with fail
  refine (P2 _).mono ?_
  clear P2
  rintro e w2 h
  rcases h with ⟨er, h, _⟩ | ⟨q2, mate2, f2, gh2, h⟩
  · exfalso
    have := wk2_facts
    rw [h] at this
    cases this
  obtain ⟨hpf, hl5⟩ := wk2_perf h.h
  obtain ⟨vd, oo2, on2, oc2, tx2, co2, cn2, cc2, po2, pn2, pc2, uo2, un2, uc2, he, hver, hb⟩ := h.out
  obtain ⟨rfl, rfl⟩ : vd = 1 ∧ on2 = 5 := by
    rcases hver with ⟨h1, _, h2⟩ | ⟨_, hv⟩
    · exact ⟨h1, by omega⟩
    · exact absurd hpf hv
  subst he
  have R1 := RBx.new w1 (.int .i64 2) (.slice oo on oc) (.string tx) (.slice co cn cc) (.slice po pn pc) (.slice uo un uc)
  have hbw : Below w.heap.size w (w1.alloc (.cells #[.int .i64 2, .slice oo on oc, .string tx, .slice co cn cc, .slice po pn pc, .slice uo un uc] 31)) := HB1.out.alloc HB1.out.size _
  have HR1 : Hid (RBx w1.heap.size (.int .i64 2) (.slice oo on oc) w2) := R1.on hb
  have HB2 : Hid (Below w.heap.size w w2) := hbw.trans (hb.mono hbw.size)
  clear h hver hb hpf hl5 R1 hbw HB1
  go_wp2_with fail
  refine (P3 _).mono ?_
  clear P3
  rintro e w3 h
  rcases h with ⟨er, h, he, hb⟩ | ⟨ats, l, v, v', h, _⟩
  rotate_left
  · exfalso
    have := wk3_facts
    rw [h] at this
    cases this
  obtain rfl : er = (2, 3) := by
    have := wk3_facts
    rw [h] at this
    simpa using this
  subst he
  have R2 := RBx.new w2 (.int .i64 1) (.slice oo2 5 oc2) (.string tx2) (.slice co2 cn2 cc2) (.slice po2 pn2 pc2) (.slice uo2 un2 uc2)
  have hbw : Below w.heap.size w (w2.alloc (.cells #[.int .i64 1, .slice oo2 5 oc2, .string tx2, .slice co2 cn2 cc2, .slice po2 pn2 pc2, .slice uo2 un2 uc2] 31)) := HB2.out.alloc HB2.out.size _
  have HR2 := R2.on hb
  have HR1' := (HR1.out.grow (.cells #[.int .i64 1, .slice oo2 5 oc2, .string tx2, .slice co2 cn2 cc2, .slice po2 pn2 pc2, .slice uo2 un2 uc2] 31)).on hb
  have HB3 : Below w.heap.size w w3 := hbw.trans (hb.mono hbw.size)
  clear h hb R2 hbw HR1 HB2
  go_upto_region 4 with fail
  obtain ⟨W, hW⟩ : ∃ W, w3.alloc (.cells #[.slice none 0 0, .slice none 0 0] 39) = W := ⟨_, rfl⟩
  have H1 := HR1'.grow (.cells #[.slice none 0 0, .slice none 0 0] 39)
  have H2 := HR2.grow (.cells #[.slice none 0 0, .slice none 0 0] 39)
  have HBW : Hid (Below w.heap.size w W) := by rw [← hW]; exact HB3.alloc HB3.size _
  rw [hW] at H1 H2 ⊢
  clear hW HR1' HR2 HB3
  have x0 := H1.r0
  have y0 := H2.r0
  have y1 := H2.r1
  clear H1 H2
  go_wp2_with fail
  go_ret
  exact ⟨rfl, HBW.out⟩
theorem byteAt_list (s : ByteArray) (i : Nat) : byteAt s i = match s.data.toList[i]? with
    | some c => (c.toNat : Int)
    | none => 0 := by
  by_cases h : i < s.size
  · rw [byteAt_lt s i h]
    have hl : i < s.data.toList.length := by simpa using h
    rw [List.getElem?_eq_getElem hl]
    rfl
  · rw [byteAt_ge s i h, List.getElem?_eq_none (by simpa using h)]

theorem dot_emb (a b : ByteArray) : Emb a (a ++ ⟨#[46]⟩ ++ b) 0 ∧ byteAt (a ++ ⟨#[46]⟩ ++ b) a.size = 46 ∧ Emb b (a ++ ⟨#[46]⟩ ++ b) (a.size + 1) ∧ (a ++ ⟨#[46]⟩ ++ b).size = a.size + 1 + b.size := by
  have hl : (a ++ ⟨#[46]⟩ ++ b).data.toList = a.data.toList ++ 46 :: b.data.toList := by simp
  have ha : a.data.toList.length = a.size := by simp
  have hb : b.data.toList.length = b.size := by simp
  have hs : (a ++ ⟨#[46]⟩ ++ b).size = a.size + 1 + b.size := by
    rw [ByteArray.size_append, ByteArray.size_append]
    rfl
  have h1 : ∀ i, i < a.size → byteAt (a ++ ⟨#[46]⟩ ++ b) i = byteAt a i := fun i hi => by
    rw [byteAt_list, byteAt_list, hl, List.getElem?_append_left (by omega)]
  have h2 : byteAt (a ++ ⟨#[46]⟩ ++ b) a.size = 46 := by
    rw [byteAt_list, hl, List.getElem?_append_right (by omega), ha, Nat.sub_self]
    rfl
  have h3 : ∀ i, byteAt (a ++ ⟨#[46]⟩ ++ b) (a.size + 1 + i) = byteAt b i := fun i => by
    rw [byteAt_list, byteAt_list, hl, List.getElem?_append_right (by omega), ha, show a.size + 1 + i - a.size = i + 1 by omega, List.getElem?_cons_succ]
  exact ⟨⟨fun i hi => by rw [Nat.zero_add]; exact h1 i hi, .inl (by rw [Nat.zero_add]; exact h2), by omega⟩, h2, ⟨fun i _ => h3 i, .inr (by omega), by omega⟩, hs⟩

/-- What is read in both, one behind the other. -/
theorem apart_is {a b : ByteArray} {q1 q2 : St} (h1 : Bz.parse a = .ok (q1.atoms, q1.bonds)) (h2 : Bz.parse b = .ok (q2.atoms, q2.bonds)) (hs : a.size + b.size + 1 ≤ 160) (hn : q1.atoms.length + q2.atoms.length ≤ 24) :
    Bz.parse (a ++ ⟨#[46]⟩ ++ b) = .ok (q1.atoms ++ q2.atoms.map (shA (a.size + 1)), q1.bonds ++ q2.bonds.map (shB q1.atoms.length (a.size + 1))) ∧
    ∀ q : St, Bz.parse (a ++ ⟨#[46]⟩ ++ b) = .ok (q.atoms, q.bonds) → (Perf q ↔ Perf q1 ∧ Perf q2) := by
  obtain ⟨e1, e2, e3, e4⟩ := dot_emb a b
  obtain ⟨_, n1⟩ := parse_en h1
  obtain ⟨_, n2⟩ := parse_en h2
  have hB1 : ∀ x ∈ q1.bonds, x.a < q1.atoms.length ∧ x.b < q1.atoms.length := fun x hx => by have := n1.ends x hx; omega
  have hB2 : ∀ x ∈ q2.bonds, x.a < q2.atoms.length ∧ x.b < q2.atoms.length := fun x hx => by have := n2.ends x hx; omega
  have hp := apart_parse e1 e2 e3 e4 (by omega) hn hB1 h1 h2
  refine ⟨hp, fun q hq => ?_⟩
  rw [hp] at hq
  simp only [Except.ok.injEq, Prod.mk.injEq] at hq
  exact Joint.perf ⟨hq.1.symm, hq.2.symm, hB1, hB2⟩

/-- An atom of a molecule that came out. -/
theorem atom_at {w : World} {base : Nat} {va : Value} {ats : List Atm} (h : w.ownsRow base 50 4 va ats.length (ats.flatMap plainCells)) {k : Nat} {a : Atm} (hk : ats[k]? = some a) :
    ∃ g cap, va = .slice (some ⟨g, 0, none⟩) ats.length cap ∧ g < w.heap.size ∧ w.cell? ⟨g, k * 4, none⟩ = some (.string a.el) ∧ w.cell? ⟨g, k * 4 + 1, none⟩ = some (.bool a.aro) ∧ w.cell? ⟨g, k * 4 + 2, none⟩ = some (.int .i64 a.ch) ∧ w.cell? ⟨g, k * 4 + 3, none⟩ = some (.int .i64 a.hy) := by
  have hl : k < ats.length := (List.getElem?_eq_some_iff.1 hk).1
  obtain ⟨g, cap, rfl, h1, h2, h3, h4⟩ := ownsRow_at h (by omega)
  have d0 := flatMap_get plainCells 4 plainCells_len _ k 0 a hk (by omega)
  rw [Nat.add_zero] at d0
  refine ⟨g, cap, rfl, h2, (h3 (k * 4) (by omega)).trans d0, ?_, ?_, ?_⟩
  · exact (h3 (k * 4 + 1) (by omega)).trans (flatMap_get plainCells 4 plainCells_len _ k 1 a hk (by omega))
  · exact (h3 (k * 4 + 2) (by omega)).trans (flatMap_get plainCells 4 plainCells_len _ k 2 a hk (by omega))
  · exact (h3 (k * 4 + 3) (by omega)).trans (flatMap_get plainCells 4 plainCells_len _ k 3 a hk (by omega))

/-- A molecule in its box. -/
structure MBx (base X : Nat) (av bv : Value) (ats : List Atm) (W : World) : Prop where
  c0 : W.cell? ⟨X, 0, none⟩ = some av
  c1 : W.cell? ⟨X, 1, none⟩ = some bv
  row : W.ownsRow base 50 4 av ats.length (ats.flatMap plainCells)
  lt : X < W.heap.size
theorem MBx.new {base : Nat} {w : World} {av bv : Value} {ats : List Atm} (h : w.ownsRow base 50 4 av ats.length (ats.flatMap plainCells)) : MBx base w.heap.size av bv ats (w.alloc (.cells #[av, bv] 39)) :=
  ⟨by simp, by simp, ownsRow_same h fun k hk => ((Below.refl _ w).alloc (Nat.le_refl _) _).block k (h.lt k hk).2, by simp⟩
theorem MBx.on {base X : Nat} {av bv : Value} {ats : List Atm} {W W' : World} (h : MBx base X av bv ats W) (hb : Below W.heap.size W W') : MBx base X av bv ats W' :=
  ⟨(hb.cell h.lt).trans h.c0, (hb.cell h.lt).trans h.c1, ownsRow_same h.row fun k hk => hb.block k (h.row.lt k hk).2, Nat.lt_of_lt_of_le h.lt hb.size⟩
theorem MBx.grow {base X : Nat} {av bv : Value} {ats : List Atm} {W : World} (h : MBx base X av bv ats W) (o : Obj) : MBx base X av bv ats (W.alloc o) := h.on ((Below.refl _ W).alloc (Nat.le_refl _) o)

theorem parse_nz {s : ByteArray} {er : Int × Int} (h : Bz.parse s = .error er) : er.1 ≠ 0 := by
  by_cases hs : s.size ≤ 160
  · rw [parse_whole s hs] at h
    cases hq : wholeR s with
    | error e => rw [hq] at h; cases h; exact whole_nz hq
    | ok q => rw [hq] at h; cases h
  · unfold Bz.parse at h
    rw [if_pos (by omega)] at h
    cases h
    decide

theorem ParseIs.shape {s : ByteArray} {w : World} {e : Ending} {w' : World} (h : ParseIs s w e w') : ∃ ao na ac bo nb bc y1 y2, e = .returned (.tuple #[.agg #[.slice ao na ac, .slice bo nb bc], .int .i64 y1, .int .i64 y2]) ∧ Below w.heap.size w w' := by
  rcases h with ⟨er, h, he, hb2⟩ | ⟨ats, l, v, v', h, he, hr1, hr2, hb2, _⟩
  · exact ⟨none, 0, 0, none, 0, 0, _, _, he, hb2⟩
  · obtain ⟨ao, ac, rfl⟩ := ownsRow_shape hr1
    obtain ⟨bo, bc, rfl⟩ := ownsRow_shape hr2
    exact ⟨ao, _, ac, bo, _, bc, _, _, he, hb2⟩

theorem ParseIs.err {s : ByteArray} {w : World} {e : Ending} {w' : World} {er : Int × Int} (h : ParseIs s w e w') (hp : Bz.parse s = .error er) : e = .returned (.tuple #[.agg #[.slice none 0 0, .slice none 0 0], .int .i64 er.1, .int .i64 er.2]) ∧ Below w.heap.size w w' := by
  rcases h with ⟨er', h, he, hb2⟩ | ⟨ats, l, v, v', h, _⟩
  · rw [hp] at h; cases h
    exact ⟨he, hb2⟩
  · rw [hp] at h; cases h

theorem ParseIs.fine {s : ByteArray} {w : World} {e : Ending} {w' : World} {ats : List Atm} {l : List Bnd} (h : ParseIs s w e w') (hp : Bz.parse s = .ok (ats, l)) : ∃ ao ac bo bc, e = .returned (.tuple #[.agg #[.slice ao ats.length ac, .slice bo l.length bc], .int .i64 0, .int .i64 0]) ∧ w'.ownsRow w.heap.size 50 4 (.slice ao ats.length ac) ats.length (ats.flatMap plainCells) ∧ w'.ownsRow w.heap.size 46 3 (.slice bo l.length bc) l.length (l.flatMap bndCells) ∧ Below w.heap.size w w' ∧ ats.length ≤ 24 ∧ l.length ≤ 160 := by
  rcases h with ⟨er', h, he, hb2⟩ | ⟨ats', l', v, v', h, he, hr1, hr2, hb2, _, hn, hl⟩
  · rw [hp] at h; cases h
  · rw [hp] at h; cases h
    obtain ⟨ao, ac, rfl⟩ := ownsRow_shape hr1
    obtain ⟨bo, bc, rfl⟩ := ownsRow_shape hr2
    exact ⟨ao, ac, bo, bc, he, hr1, hr2, hb2, hn, hl⟩

theorem KkIs.fine {s : ByteArray} {w : World} {e : Ending} {w' : World} {ats : List Atm} {l : List Bnd} (h : KkIs s w e w') (hp : Bz.parse s = .ok (ats, l)) : ∃ q : St, q.atoms = ats ∧ q.bonds = l ∧ ∃ vd oo on oc tx co cn cc po pn pc uo un uc, KkOut q w e w' vd oo on oc tx co cn cc po pn pc uo un uc := by
  rcases h with ⟨er, h, _⟩ | ⟨q, mate, f, gh, h⟩
  · rw [hp] at h; cases h
  · have := h.h
    rw [hp] at this
    simp only [Except.ok.injEq, Prod.mk.injEq] at this
    exact ⟨q, this.1.symm, this.2.symm, h.out⟩

section
set_option maxRecDepth 100000 in
set_option maxHeartbeats 4000000 in
/-- The first text can't be read. -/
theorem apart_bad1 (w : World) (a b : ByteArray) (ha : a.size ≤ maxLen) (hb : b.size ≤ maxLen) {er : Int × Int} (hp : Bz.parse a = .error er) : Calls Tryz.prog 9 #[.string a, .string b] w fun e w' => e = .returned (.bool true) ∧ Below w.heap.size w w' := by
  have P1 := fun W => works_any W
  have P2 := fun W => (parse_any a W ha).mono fun e w' h => ParseIs.err h hp
  have P3 := fun W => (parse_any b W hb).mono fun e w' h => ParseIs.shape h
  have hnz : (er.1 != 0) = true := by simp [parse_nz hp]
  have hnz2 : ¬ er.1 = 0 := parse_nz hp
  clear hp
  go_enter Tryz.func9, Tryz.ntmps9
  go_wp2_with fail
  refine (P1 _).mono ?_
  clear P1
  rintro e w1 ⟨rfl, hb1⟩
  go_wp2_with fail
  refine (P2 _).mono ?_
  clear P2
  rintro e w2 ⟨rfl, hb2⟩
  have HB2 : Hid (Below w.heap.size w w2) := hb1.trans (hb2.mono hb1.size)
  clear hb1 hb2
  go_wp2_with fail
  refine (P3 _).mono ?_
  clear P3
  rintro e w3 ⟨ao, na, ac, bo, nb, bc, y1, y2, rfl, hb3⟩
  have hbw : Below w.heap.size w (w2.alloc (.cells #[.slice none 0 0, .slice none 0 0] 39)) := HB2.out.alloc HB2.out.size _
  have HB3 : Hid (Below w.heap.size w w3) := hbw.trans (hb3.mono hbw.size)
  have HB4 : Hid (∀ o, Below w.heap.size w (w3.alloc o)) := fun o => HB3.out.alloc HB3.out.size o
  clear hb3 hbw HB2 HB3
  go_wp2_with fail
  go_ret
  exact ⟨rfl, HB4.out _⟩

set_option maxRecDepth 100000 in
set_option maxHeartbeats 4000000 in
/-- The second one can't. -/
theorem apart_bad2 (w : World) (a b : ByteArray) (ha : a.size ≤ maxLen) (hb : b.size ≤ maxLen) {ats : List Atm} {l : List Bnd} (hp : Bz.parse a = .ok (ats, l)) {er : Int × Int} (hp2 : Bz.parse b = .error er) : Calls Tryz.prog 9 #[.string a, .string b] w fun e w' => e = .returned (.bool true) ∧ Below w.heap.size w w' := by
  have P1 := fun W => works_any W
  have P2 := fun W => (parse_any a W ha).mono fun e w' h => ParseIs.fine h hp
  have P3 := fun W => (parse_any b W hb).mono fun e w' h => ParseIs.err h hp2
  have hnz : (er.1 != 0) = true := by simp [parse_nz hp2]
  have hnz2 : ¬ er.1 = 0 := parse_nz hp2
  clear hp hp2
  go_enter Tryz.func9, Tryz.ntmps9
  go_wp2_with fail
  refine (P1 _).mono ?_
  clear P1
  rintro e w1 ⟨rfl, hb1⟩
  go_wp2_with fail
  refine (P2 _).mono ?_
  clear P2
  rintro e w2 ⟨ao, ac, bo, bc, rfl, hr1, _, hb2, hn1, hl1⟩
  have HB2 : Hid (Below w.heap.size w w2) := hb1.trans (hb2.mono hb1.size)
  clear hb1 hb2 hr1
  go_wp2_with fail
  refine (P3 _).mono ?_
  clear P3
  rintro e w3 ⟨rfl, hb3⟩
  have hbw : Below w.heap.size w (w2.alloc (.cells #[.slice ao ats.length ac, .slice bo l.length bc] 39)) := HB2.out.alloc HB2.out.size _
  have HB3 : Hid (Below w.heap.size w w3) := hbw.trans (hb3.mono hbw.size)
  have HB4 : Hid (∀ o, Below w.heap.size w (w3.alloc o)) := fun o => HB3.out.alloc HB3.out.size o
  clear hb3 hbw HB2 HB3
  go_wp2_with fail
  go_ret
  exact ⟨rfl, HB4.out _⟩

set_option maxRecDepth 100000 in
set_option maxHeartbeats 4000000 in
/-- Both can, but they are too long, or too many atoms, together. -/
theorem apart_great (w : World) (a b : ByteArray) (ha : a.size ≤ maxLen) (hb : b.size ≤ maxLen) {ats : List Atm} {l : List Bnd} (hp : Bz.parse a = .ok (ats, l)) {ats2 : List Atm} {l2 : List Bnd} (hp2 : Bz.parse b = .ok (ats2, l2)) (hg : 160 < a.size + b.size + 1 ∨ 24 < ats.length + ats2.length) : Calls Tryz.prog 9 #[.string a, .string b] w fun e w' => e = .returned (.bool true) ∧ Below w.heap.size w w' := by
  have P1 := fun W => works_any W
  have P2 := fun W => (parse_any a W ha).mono fun e w' h => ParseIs.fine h hp
  have P3 := fun W => (parse_any b W hb).mono fun e w' h => ParseIs.fine h hp2
  have hsa := (parse_en hp).1
  have hsb := (parse_en hp2).1
  clear hp hp2
  go_enter Tryz.func9, Tryz.ntmps9
  go_wp2_with fail
  refine (P1 _).mono ?_
  clear P1
  rintro e w1 ⟨rfl, hb1⟩
  go_wp2_with fail
  refine (P2 _).mono ?_
  clear P2
  rintro e w2 ⟨ao, ac, bo, bc, rfl, hr1, _, hb2, hn1, hl1⟩
  have HB2 : Hid (Below w.heap.size w w2) := hb1.trans (hb2.mono hb1.size)
  clear hb1 hb2
  go_wp2_with fail
  refine (P3 _).mono ?_
  clear P3
  rintro e w3 ⟨ao2, ac2, bo2, bc2, rfl, _, _, hb3, hn2, hl2⟩
  have M1 := ((MBx.new (bv := .slice bo l.length bc) hr1).on hb3).grow (.cells #[.slice ao2 ats2.length ac2, .slice bo2 l2.length bc2] 39)
  have hbw : Below w.heap.size w (w2.alloc (.cells #[.slice ao ats.length ac, .slice bo l.length bc] 39)) := HB2.out.alloc HB2.out.size _
  have HB3 : Hid (Below w.heap.size w w3) := hbw.trans (hb3.mono hbw.size)
  have HB4 : Hid (∀ o, Below w.heap.size w (w3.alloc o)) := fun o => HB3.out.alloc HB3.out.size o
  have x0 := M1.c0
  clear hb3 hbw HB2 HB3 hr1 M1
  by_cases hlen : 160 < a.size + b.size + 1
  · have hlen' : (a.size : Int) + (b.size : Int) + 1 > 160 := by omega
    clear hg
    go_wp2_with fail
    go_ret
    exact ⟨rfl, HB4.out _⟩
  · have hlen' : ¬ ((a.size : Int) + (b.size : Int) + 1 > 160) := by omega
    have hat : (ats.length : Int) + (ats2.length : Int) > 24 := by omega
    clear hg
    go_wp2_with fail
    go_ret
    exact ⟨rfl, HB4.out _⟩
end
/-- Where Apart stands behind its calls. -/
structure ApS (w : World) (X1 X2 X3 Y1 Y2 Y3 : Nat) (a1 b1 a2 b2 a3 b3 : Value) (A1 A2 A3 : List Atm) (v1 v2 v3 : Int) (W : World) : Prop where
  m1 : ∃ base, MBx base X1 a1 b1 A1 W
  m2 : ∃ base, MBx base X2 a2 b2 A2 W
  m3 : ∃ base, MBx base X3 a3 b3 A3 W
  r1 : ∃ o, RBx Y1 (.int .i64 v1) o W
  r2 : ∃ o, RBx Y2 (.int .i64 v2) o W
  r3 : ∃ o, RBx Y3 (.int .i64 v3) o W
  below : Below w.heap.size w W

theorem MBx.drewN {base X : Nat} {av bv : Value} {ats : List Atm} {W : World} (h : MBx base X av bv ats W) (n : Nat) : MBx base X av bv ats (W.drewN n) := ⟨h.c0, h.c1, ownsRow_same h.row fun _ _ => rfl, h.lt⟩
theorem RBx.drewN {Y : Nat} {a b : Value} {W : World} (h : RBx Y a b W) (n : Nat) : RBx Y a b (W.drewN n) := ⟨h.r0, h.r1, h.lt⟩
theorem ApS.drewN {w : World} {X1 X2 X3 Y1 Y2 Y3 : Nat} {a1 b1 a2 b2 a3 b3 : Value} {A1 A2 A3 : List Atm} {v1 v2 v3 : Int} {W : World} (h : ApS w X1 X2 X3 Y1 Y2 Y3 a1 b1 a2 b2 a3 b3 A1 A2 A3 v1 v2 v3 W) (n : Nat) : ApS w X1 X2 X3 Y1 Y2 Y3 a1 b1 a2 b2 a3 b3 A1 A2 A3 v1 v2 v3 (W.drewN n) := by
  obtain ⟨⟨_, h1⟩, ⟨_, h2⟩, ⟨_, h3⟩, ⟨_, h4⟩, ⟨_, h5⟩, ⟨_, h6⟩, h7⟩ := h
  exact ⟨⟨_, h1.drewN n⟩, ⟨_, h2.drewN n⟩, ⟨_, h3.drewN n⟩, ⟨_, h4.drewN n⟩, ⟨_, h5.drewN n⟩, ⟨_, h6.drewN n⟩, below_drewN h7 n⟩

set_option maxRecDepth 100000 in
set_option maxHeartbeats 8000000 in
theorem apart_main (w : World) (a b : ByteArray) (ha : a.size ≤ maxLen) (hb : b.size ≤ maxLen) {q1 q2 : St} (hp : Bz.parse a = .ok (q1.atoms, q1.bonds)) (hp2 : Bz.parse b = .ok (q2.atoms, q2.bonds)) (hs : a.size + b.size + 1 ≤ 160) (hn : q1.atoms.length + q2.atoms.length ≤ 24) : Calls Tryz.prog 9 #[.string a, .string b] w fun e w' => e = .returned (.bool true) ∧ Below w.heap.size w w' := by
  obtain ⟨hp3, hpf⟩ := apart_is hp hp2 hs hn
  have hsz : (a ++ ⟨#[46]⟩ ++ b).size = a.size + 1 + b.size := (dot_emb a b).2.2.2
  have P1 := fun W => works_any W
  have P2 := fun W => (parse_any a W ha).mono fun e w' h => ParseIs.fine h hp
  have P3 := fun W => (parse_any b W hb).mono fun e w' h => ParseIs.fine h hp2
  have P4 := fun W => (parse_any (a ++ ⟨#[46]⟩ ++ b) W (by rw [hsz]; unfold maxLen; omega)).mono fun e w' h => ParseIs.fine h hp3
  have P5 := fun W => (kekulize_any a W ha).mono fun e w' h => KkIs.fine h hp
  have P6 := fun W => (kekulize_any b W hb).mono fun e w' h => KkIs.fine h hp2
  have P7 := fun W => (kekulize_any (a ++ ⟨#[46]⟩ ++ b) W (by rw [hsz]; unfold maxLen; omega)).mono fun e w' h => KkIs.fine h hp3
  have HPF : Hid (∀ q : St, q.atoms = q1.atoms ++ q2.atoms.map (shA (a.size + 1)) → q.bonds = q1.bonds ++ q2.bonds.map (shB q1.atoms.length (a.size + 1)) → (Perf q ↔ Perf q1 ∧ Perf q2)) := fun q e1 e2 => hpf q (by rw [hp3, e1, e2])
  have l3 : (q1.atoms ++ q2.atoms.map (shA (a.size + 1))).length = q1.atoms.length + q2.atoms.length := by simp
  have lb3 : (q1.bonds ++ q2.bonds.map (shB q1.atoms.length (a.size + 1))).length = q1.bonds.length + q2.bonds.length := by simp
  have hA3 : ∀ i x, (q1.atoms ++ q2.atoms.map (shA (a.size + 1)))[i]? = some x → (i < q1.atoms.length ∧ q1.atoms[i]? = some x) ∨ (q1.atoms.length ≤ i ∧ ∃ y, q2.atoms[i - q1.atoms.length]? = some y ∧ x = shA (a.size + 1) y) := fun i x hi => by
    by_cases hlt : i < q1.atoms.length
    · rw [List.getElem?_append_left hlt] at hi
      exact .inl ⟨hlt, hi⟩
    · rw [List.getElem?_append_right (by omega), List.getElem?_map] at hi
      cases hy : q2.atoms[i - q1.atoms.length]? with
      | none => rw [hy] at hi; cases hi
      | some y => rw [hy] at hi; cases hi; exact .inr ⟨by omega, y, rfl, rfl⟩
  have HA3 : Hid (∀ i x, (q1.atoms ++ q2.atoms.map (shA (a.size + 1)))[i]? = some x → (i < q1.atoms.length ∧ q1.atoms[i]? = some x) ∨ (q1.atoms.length ≤ i ∧ ∃ y, q2.atoms[i - q1.atoms.length]? = some y ∧ x = shA (a.size + 1) y)) := hA3
  have HL3 : Hid (_) := l3
  have HLB3 : Hid (_) := lb3
  clear hp hp2 hp3 hpf hA3 l3 lb3
  generalize q1.atoms ++ q2.atoms.map (shA (a.size + 1)) = A3 at *
  generalize q1.bonds ++ q2.bonds.map (shB q1.atoms.length (a.size + 1)) = B3 at *
  go_enter Tryz.func9, Tryz.ntmps9
  go_wp2_with fail
  refine (P1 _).mono ?_
  clear P1
  rintro e w1 ⟨rfl, hb1⟩
  go_wp2_with fail
  refine (P2 _).mono ?_
  clear P2
  rintro e w2 ⟨ao, ac, bo, bc, rfl, hr1, _, hb2, hn1, hl1⟩
  have M1 := MBx.new (bv := .slice bo q1.bonds.length bc) hr1
  have HB2 : Hid (Below w.heap.size w w2) := hb1.trans (hb2.mono hb1.size)
  have BW2 := HB2.out.alloc HB2.out.size (.cells #[.slice ao q1.atoms.length ac, .slice bo q1.bonds.length bc] 39)
  have HM1 : Hid (_) := M1
  have HBW : Hid (_) := BW2
  clear hb1 hb2 hr1 M1 BW2 HB2
  go_wp2_with fail
  refine (P3 _).mono ?_
  clear P3
  rintro e w3 ⟨ao2, ac2, bo2, bc2, rfl, hr2, _, hb3, hn2, hl2⟩
  have M1 := (HM1.out.on hb3).grow (.cells #[.slice ao2 q2.atoms.length ac2, .slice bo2 q2.bonds.length bc2] 39)
  have M2 := MBx.new (bv := .slice bo2 q2.bonds.length bc2) hr2
  have HB3 : Hid (Below w.heap.size w w3) := HBW.out.trans (hb3.mono HBW.out.size)
  have BW3 := HB3.out.alloc HB3.out.size (.cells #[.slice ao2 q2.atoms.length ac2, .slice bo2 q2.bonds.length bc2] 39)
  clear hb3 hr2 HM1 HBW HB3
  have HM1 : Hid (_) := M1
  have HM2 : Hid (_) := M2
  have HBW : Hid (_) := BW3
  have x0 := M1.c0
  clear M1 M2 BW3
  have hlen' : ¬ ((a.size : Int) + (b.size : Int) + 1 > 160) := by omega
  have hat : ¬ ((q1.atoms.length : Int) + (q2.atoms.length : Int) > 24) := by omega
  go_wp2_with fail
  refine (P4 _).mono ?_
  clear P4
  rintro e w4 ⟨ao3, ac3, bo3, bc3, rfl, hr3, _, hb4, hn3, hl3⟩
  clear x0
  have M1 := (HM1.out.on hb4).grow (.cells #[.slice ao3 A3.length ac3, .slice bo3 B3.length bc3] 39)
  have M2 := (HM2.out.on hb4).grow (.cells #[.slice ao3 A3.length ac3, .slice bo3 B3.length bc3] 39)
  have M3 := MBx.new (bv := .slice bo3 B3.length bc3) hr3
  have HB4 : Hid (Below w.heap.size w w4) := HBW.out.trans (hb4.mono HBW.out.size)
  have BW4 := HB4.out.alloc HB4.out.size (.cells #[.slice ao3 A3.length ac3, .slice bo3 B3.length bc3] 39)
  clear hb4 hr3 HM1 HM2 HBW HB4
  have HM1 : Hid (_) := M1
  have HM2 : Hid (_) := M2
  have HM3 : Hid (_) := M3
  have HBW : Hid (_) := BW4
  clear M1 M2 M3 BW4
  go_wp2_with fail
  refine (P5 _).mono ?_
  clear P5
  rintro e w5 ⟨q1', e1a, e1b, vd1, oo1, on1, oc1, tx1, co1, cn1, cc1, po1, pn1, pc1, uo1, un1, uc1, rfl, hv1, hb5⟩
  have M1 := (HM1.out.on hb5).grow (.cells #[.int .i64 (vd1 : Int), .slice oo1 on1 oc1, .string tx1, .slice co1 cn1 cc1, .slice po1 pn1 pc1, .slice uo1 un1 uc1] 31)
  have M2 := (HM2.out.on hb5).grow (.cells #[.int .i64 (vd1 : Int), .slice oo1 on1 oc1, .string tx1, .slice co1 cn1 cc1, .slice po1 pn1 pc1, .slice uo1 un1 uc1] 31)
  have M3 := (HM3.out.on hb5).grow (.cells #[.int .i64 (vd1 : Int), .slice oo1 on1 oc1, .string tx1, .slice co1 cn1 cc1, .slice po1 pn1 pc1, .slice uo1 un1 uc1] 31)
  have R1 := RBx.new w5 (.int .i64 (vd1 : Int)) (.slice oo1 on1 oc1) (.string tx1) (.slice co1 cn1 cc1) (.slice po1 pn1 pc1) (.slice uo1 un1 uc1)
  have HB5 : Hid (Below w.heap.size w w5) := HBW.out.trans (hb5.mono HBW.out.size)
  have BW5 := HB5.out.alloc HB5.out.size (.cells #[.int .i64 (vd1 : Int), .slice oo1 on1 oc1, .string tx1, .slice co1 cn1 cc1, .slice po1 pn1 pc1, .slice uo1 un1 uc1] 31)
  have HV1 : Hid ((vd1 = 1 ∧ Perf q1) ∨ (vd1 = 2 ∧ ¬ Perf q1)) := by
    have e : Perf q1' ↔ Perf q1 := by unfold Perf; rw [show q1' = ⟨q1'.pos, q1'.atoms, q1'.bonds, q1'.rings⟩ from rfl, e1a, e1b]; exact Iff.rfl
    rcases hv1 with ⟨k1, k2, _⟩ | ⟨k1, k2⟩
    · exact .inl ⟨k1, e.1 k2⟩
    · exact .inr ⟨k1, fun k => k2 (e.2 k)⟩
  clear hb5 HM1 HM2 HM3 HBW HB5 hv1 e1a e1b
  have HM1 : Hid (_) := M1
  have HM2 : Hid (_) := M2
  have HM3 : Hid (_) := M3
  have HR1 : Hid (_) := R1
  have HBW : Hid (_) := BW5
  clear M1 M2 M3 R1 BW5
  go_wp2_with fail
  refine (P6 _).mono ?_
  clear P6
  rintro e w6 ⟨q2', e2a, e2b, vd2, oo2', on2, oc2, tx2, co2, cn2, cc2, po2, pn2, pc2, uo2, un2, uc2, rfl, hv2, hb6⟩
  have M1 := (HM1.out.on hb6).grow (.cells #[.int .i64 (vd2 : Int), .slice oo2' on2 oc2, .string tx2, .slice co2 cn2 cc2, .slice po2 pn2 pc2, .slice uo2 un2 uc2] 31)
  have M2 := (HM2.out.on hb6).grow (.cells #[.int .i64 (vd2 : Int), .slice oo2' on2 oc2, .string tx2, .slice co2 cn2 cc2, .slice po2 pn2 pc2, .slice uo2 un2 uc2] 31)
  have M3 := (HM3.out.on hb6).grow (.cells #[.int .i64 (vd2 : Int), .slice oo2' on2 oc2, .string tx2, .slice co2 cn2 cc2, .slice po2 pn2 pc2, .slice uo2 un2 uc2] 31)
  have R1 := (HR1.out.on hb6).grow (.cells #[.int .i64 (vd2 : Int), .slice oo2' on2 oc2, .string tx2, .slice co2 cn2 cc2, .slice po2 pn2 pc2, .slice uo2 un2 uc2] 31)
  have R2 := RBx.new w6 (.int .i64 (vd2 : Int)) (.slice oo2' on2 oc2) (.string tx2) (.slice co2 cn2 cc2) (.slice po2 pn2 pc2) (.slice uo2 un2 uc2)
  have HB6 : Hid (Below w.heap.size w w6) := HBW.out.trans (hb6.mono HBW.out.size)
  have BW6 := HB6.out.alloc HB6.out.size (.cells #[.int .i64 (vd2 : Int), .slice oo2' on2 oc2, .string tx2, .slice co2 cn2 cc2, .slice po2 pn2 pc2, .slice uo2 un2 uc2] 31)
  have HV2 : Hid ((vd2 = 1 ∧ Perf q2) ∨ (vd2 = 2 ∧ ¬ Perf q2)) := by
    have e : Perf q2' ↔ Perf q2 := by unfold Perf; rw [show q2' = ⟨q2'.pos, q2'.atoms, q2'.bonds, q2'.rings⟩ from rfl, e2a, e2b]; exact Iff.rfl
    rcases hv2 with ⟨k1, k2, _⟩ | ⟨k1, k2⟩
    · exact .inl ⟨k1, e.1 k2⟩
    · exact .inr ⟨k1, fun k => k2 (e.2 k)⟩
  clear hb6 HM1 HM2 HM3 HR1 HBW HB6 hv2 e2a e2b
  have HM1 : Hid (_) := M1
  have HM2 : Hid (_) := M2
  have HM3 : Hid (_) := M3
  have HR1 : Hid (_) := R1
  have HR2 : Hid (_) := R2
  have HBW : Hid (_) := BW6
  clear M1 M2 M3 R1 R2 BW6
  go_wp2_with fail
  refine (P7 _).mono ?_
  clear P7
  rintro e w7 ⟨q3, e3a, e3b, vd3, oo3, on3, oc3, tx3, co3, cn3, cc3, po3, pn3, pc3, uo3, un3, uc3, rfl, hv3, hb7⟩
  have S0 : Hid (ApS w w2.heap.size w3.heap.size w4.heap.size w5.heap.size w6.heap.size w7.heap.size (.slice ao q1.atoms.length ac) (.slice bo q1.bonds.length bc) (.slice ao2 q2.atoms.length ac2) (.slice bo2 q2.bonds.length bc2) (.slice ao3 A3.length ac3) (.slice bo3 B3.length bc3) q1.atoms q2.atoms A3 vd1 vd2 vd3
      (w7.alloc (.cells #[.int .i64 (vd3 : Int), .slice oo3 on3 oc3, .string tx3, .slice co3 cn3 cc3, .slice po3 pn3 pc3, .slice uo3 un3 uc3] 31))) := by
    have B7 := HBW.out.trans (hb7.mono HBW.out.size)
    exact ⟨⟨_, (HM1.out.on hb7).grow _⟩, ⟨_, (HM2.out.on hb7).grow _⟩, ⟨_, (HM3.out.on hb7).grow _⟩, ⟨_, (HR1.out.on hb7).grow _⟩, ⟨_, (HR2.out.on hb7).grow _⟩, ⟨_, RBx.new _ _ _ _ _ _ _⟩, B7.alloc B7.size _⟩
  have HV3 : Hid ((vd3 = 1 ∧ vd1 = 1 ∧ vd2 = 1) ∨ (vd3 = 2 ∧ ¬ (vd1 = 1 ∧ vd2 = 1))) := by
    have e := HPF.out q3 e3a e3b
    have k1 := HV1.out
    have k2 := HV2.out
    rcases hv3 with ⟨k3, k4, _⟩ | ⟨k3, k4⟩
    · have := e.1 k4
      rcases k1 with ⟨v1, _⟩ | ⟨_, n1⟩
      · rcases k2 with ⟨v2, _⟩ | ⟨_, n2⟩
        · exact .inl ⟨k3, v1, v2⟩
        · exact absurd this.2 n2
      · exact absurd this.1 n1
    · refine .inr ⟨k3, fun hh => k4 (e.2 ⟨?_, ?_⟩)⟩
      · rcases k1 with ⟨_, p⟩ | ⟨v, _⟩
        · exact p
        · omega
      · rcases k2 with ⟨_, p⟩ | ⟨v, _⟩
        · exact p
        · omega
  have HVA : Hid ((vd1 = 1 ∨ vd1 = 2) ∧ (vd2 = 1 ∨ vd2 = 2)) := by
    have k1 := HV1.out
    have k2 := HV2.out
    exact ⟨by rcases k1 with h | h; exact .inl h.1; exact .inr h.1, by rcases k2 with h | h; exact .inl h.1; exact .inr h.1⟩
  clear hb7 HM1 HM2 HM3 HR1 HR2 HBW hv3 e3a e3b HPF HV1 HV2
  go_upto_region 10 with fail
  generalize w7.alloc (.cells #[.int .i64 (vd3 : Int), .slice oo3 on3 oc3, .string tx3, .slice co3 cn3 cc3, .slice po3 pn3 pc3, .slice uo3 un3 uc3] 31) = W at S0 ⊢
  generalize w2.heap.size = X1 at *
  generalize w3.heap.size = X2 at *
  generalize w4.heap.size = X3 at *
  generalize w5.heap.size = Y1 at *
  generalize w6.heap.size = Y2 at *
  generalize w7.heap.size = Y3 at *
  have c1 := S0.out.m1.choose_spec.c0
  have c2 := S0.out.m2.choose_spec.c0
  have c3 := S0.out.m3.choose_spec.c0
  have d1 := S0.out.m1.choose_spec.c1
  have d2 := S0.out.m2.choose_spec.c1
  have d3 := S0.out.m3.choose_spec.c1
  have hA' : (A3.length : Int) = (q1.atoms.length : Int) + (q2.atoms.length : Int) := by have := HL3.out; omega
  have hB' : (B3.length : Int) = (q1.bonds.length : Int) + (q2.bonds.length : Int) := by have := HLB3.out; omega
  go_wp2_with fail
  go_loopg [24] (A3.length + 1) (fun g v24 wr => ∃ i : Nat, i ≤ A3.length ∧ A3.length - i < g ∧ v24 = .int .i64 (i : Int) ∧ ApS w X1 X2 X3 Y1 Y2 Y3 (.slice ao q1.atoms.length ac) (.slice bo q1.bonds.length bc) (.slice ao2 q2.atoms.length ac2) (.slice bo2 q2.bonds.length bc2) (.slice ao3 A3.length ac3) (.slice bo3 B3.length bc3) q1.atoms q2.atoms A3 vd1 vd2 vd3 wr)
  case atStart => exact ⟨0, by omega, by omega, rfl, S0.out⟩
  case round =>
    obtain ⟨i, hi, hg, rfl, hS⟩ := hrel
    clear S0 c1 c2 c3 d1 d2 d3
    have HS : Hid (ApS w X1 X2 X3 Y1 Y2 Y3 (.slice ao q1.atoms.length ac) (.slice bo q1.bonds.length bc) (.slice ao2 q2.atoms.length ac2) (.slice bo2 q2.bonds.length bc2) (.slice ao3 A3.length ac3) (.slice bo3 B3.length bc3) q1.atoms q2.atoms A3 vd1 vd2 vd3 wr) := hS
    obtain ⟨⟨b1, m1⟩, ⟨b2, m2⟩, ⟨b3, m3⟩, ⟨o1, r1⟩, ⟨o2, r2⟩, ⟨o3, r3⟩, _⟩ := hS
    have c1 := m1.c0
    have c2 := m2.c0
    have c3 := m3.c0
    by_cases hlt : i < A3.length
    · have hlt' : (i : Int) < (A3.length : Int) := by omega
      obtain ⟨x, hx⟩ : ∃ x, A3[i]? = some x := ⟨_, List.getElem?_eq_getElem hlt⟩
      obtain ⟨g3, k3, e3, hg3, z0, z1, z2, z3⟩ := atom_at m3.row hx
      simp only [Value.slice.injEq, true_and] at e3
      obtain ⟨rfl, rfl⟩ := e3
      rcases HA3.out i x hx with ⟨hl, h1⟩ | ⟨hl, y, h1, rfl⟩
      · obtain ⟨g1, k1, e1, hg1, y0, y1, y2, y3⟩ := atom_at m1.row h1
        simp only [Value.slice.injEq, true_and] at e1
        obtain ⟨rfl, rfl⟩ := e1
        have hl' : (i : Int) < (q1.atoms.length : Int) := by omega
        have hd2 : decide ((q1.atoms.length : Int) ≤ (i : Int)) = false := decide_eq_false (by omega)
        have hd3 : decide (q1.atoms.length ≤ i) = false := decide_eq_false (by omega)
        have hd4 : ¬ (q1.atoms.length ≤ i) := by omega
        have HSN : Hid (∀ n, ApS w X1 X2 X3 Y1 Y2 Y3 _ _ _ _ _ _ q1.atoms q2.atoms A3 vd1 vd2 vd3 (wr.drewN n)) := fun n => HS.out.drewN n
        clear m1 m2 m3 r1 r2 r3 hx h1 HA3 HS
        go_wp2_with fail
        go_quiet (fail)
        go_wp2_with fail
        go_quiet (fail)
        go_wp2_with fail
        go_roundg (A3.length - i)
        case measure => omega
        case rel => exact ⟨i + 1, by omega, by omega, by go_num, HSN.out _⟩
      · obtain ⟨g1, k1, e1, hg1, y0, y1, y2, y3⟩ := atom_at m2.row h1
        simp only [Value.slice.injEq, true_and] at e1
        obtain ⟨rfl, rfl⟩ := e1
        have hl2 : ((q1.atoms.length : Int) ≤ (i : Int)) := by omega
        have hd2 : decide ((i : Int) < (q1.atoms.length : Int)) = false := decide_eq_false (by omega)
        have hd3 : decide (i < q1.atoms.length) = false := decide_eq_false (by omega)
        have hd4 : ¬ (i < q1.atoms.length) := by omega
        have HSN : Hid (∀ n, ApS w X1 X2 X3 Y1 Y2 Y3 _ _ _ _ _ _ q1.atoms q2.atoms A3 vd1 vd2 vd3 (wr.drewN n)) := fun n => HS.out.drewN n
        obtain ⟨j, hj⟩ : ∃ j, i - q1.atoms.length = j := ⟨_, rfl⟩
        have hsub : (i : Int) - (q1.atoms.length : Int) = (j : Int) := by omega
        have hj2 : (j : Int) < (q2.atoms.length : Int) := by omega
        have hwj : IntKind.i64.wrap (j : Int) = (j : Int) := by rw [IntKind.wrap_i64]; omega
        have hwi : IntKind.i64.wrap ((i : Int) - (q1.atoms.length : Int)) = (j : Int) := by rw [hsub]; exact hwj
        rw [hj] at y0 y1 y2 y3
        have z0' : wr.cell? ⟨g3, i * 4, none⟩ = some (.string y.el) := z0
        have z1' : wr.cell? ⟨g3, i * 4 + 1, none⟩ = some (.bool y.aro) := z1
        have z2' : wr.cell? ⟨g3, i * 4 + 2, none⟩ = some (.int .i64 y.ch) := z2
        have z3' : wr.cell? ⟨g3, i * 4 + 3, none⟩ = some (.int .i64 y.hy) := z3
        clear z0 z1 z2 z3
        clear m1 m2 m3 r1 r2 r3 hx h1 HA3 HS hj
        go_wp2_with fail
        go_quiet (fail)
        go_wp2_with fail
        go_quiet (fail)
        go_wp2_with fail
        go_roundg (A3.length - i)
        case measure => omega
        case rel => exact ⟨i + 1, by omega, by omega, by go_num, HSN.out _⟩
    · have hlt' : ¬ (i : Int) < (A3.length : Int) := by omega
      have x1 := r1.r0
      have x2 := r2.r0
      have x3 := r3.r0
      have v3 := HV3.out
      have va := HVA.out
      clear m1 m2 m3 r1 r2 r3 HA3
      rcases v3 with ⟨rfl, rfl, rfl⟩ | ⟨rfl, hn12⟩
      · go_wp2_with fail
        go_ret
        exact ⟨rfl, HS.out.below⟩
      · rcases va.1 with rfl | rfl
        · rcases va.2 with rfl | rfl
          · exact absurd ⟨rfl, rfl⟩ hn12
          · go_wp2_with fail
            go_ret
            exact ⟨rfl, HS.out.below⟩
        · go_wp2_with fail
          go_ret
          exact ⟨rfl, HS.out.below⟩
end Go.Proofs.YtcabaecbmkgclaaGreatDoor.Kd
