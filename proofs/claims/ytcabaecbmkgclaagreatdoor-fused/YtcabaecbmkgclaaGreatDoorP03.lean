/-
  What the reader's ring does.
  What the reader's atom does.
  What holds of every state that the plain reader comes to.
  What the molecule's Sum and filled do.
  What valencesOf, missing, Contains, impliedHydrogens and firstValence do.
-/
import Derived.Test.YtcabaecbmkgclaaGreatDoorP02
import Derived.Deep.LoopGhost

namespace Go.Proofs.YtcabaecbmkgclaaGreatDoor
open Go.RowKit Bz

section
variable {w : World} {B : Nat} {s : ByteArray} {p : St}

def set5 (w : World) (B i : Nat) (v0 v1 v2 v3 v4 : Value) : World :=
  ((((w.setCell ⟨B, i, none⟩ v0).setCell ⟨B, i + 1, none⟩ v1).setCell ⟨B, i + 2, none⟩ v2).setCell ⟨B, i + 3, none⟩ v3).setCell ⟨B, i + 4, none⟩ v4

theorem set5_other (w : World) (B i : Nat) (v0 v1 v2 v3 v4 : Value) (k : Nat) (hk : k < i ∨ i + 5 ≤ k) : (set5 w B i v0 v1 v2 v3 v4).cell? ⟨B, k, none⟩ = w.cell? ⟨B, k, none⟩ := by
  unfold set5
  rw [cell_set_ne (by omega), cell_set_ne (by omega), cell_set_ne (by omega), cell_set_ne (by omega), cell_set_ne (by omega)]

theorem set5_at (w : World) (B i : Nat) (v0 v1 v2 v3 v4 : Value) (hc : ∀ j, j < 5 → ∃ u, w.cell? ⟨B, i + j, none⟩ = some u) (j : Nat) (u : Value) (hj : [v0, v1, v2, v3, v4][j]? = some u) :
    (set5 w B i v0 v1 v2 v3 v4).cell? ⟨B, i + j, none⟩ = some u := by
  unfold set5
  match j, hj with
  | 0, hj =>
    simp at hj; subst hj
    obtain ⟨u, hu⟩ := hc 0 (by omega)
    rw [cell_set_ne (by omega), cell_set_ne (by omega), cell_set_ne (by omega), cell_set_ne (by omega)]
    exact World.cell?_setCell_same _ _ _ hu
  | 1, hj =>
    simp at hj; subst hj
    obtain ⟨u, hu⟩ := hc 1 (by omega)
    rw [cell_set_ne (by omega), cell_set_ne (by omega), cell_set_ne (by omega)]
    exact World.cell?_setCell_same _ _ _ (by rw [cell_set_ne (by omega)]; exact hu)
  | 2, hj =>
    simp at hj; subst hj
    obtain ⟨u, hu⟩ := hc 2 (by omega)
    rw [cell_set_ne (by omega), cell_set_ne (by omega)]
    exact World.cell?_setCell_same _ _ _ (by rw [cell_set_ne (by omega), cell_set_ne (by omega)]; exact hu)
  | 3, hj =>
    simp at hj; subst hj
    obtain ⟨u, hu⟩ := hc 3 (by omega)
    rw [cell_set_ne (by omega)]
    exact World.cell?_setCell_same _ _ _ (by rw [cell_set_ne (by omega), cell_set_ne (by omega), cell_set_ne (by omega)]; exact hu)
  | 4, hj =>
    simp at hj; subst hj
    obtain ⟨u, hu⟩ := hc 4 (by omega)
    exact World.cell?_setCell_same _ _ _ (by rw [cell_set_ne (by omega), cell_set_ne (by omega), cell_set_ne (by omega), cell_set_ne (by omega)]; exact hu)
  | j + 5, hj => simp at hj

theorem Rd.ringCell (h : Rd w B s p) (n : Nat) (hn : n < 100) (j : Nat) (hj : j < 5) : ∃ u, w.cell? ⟨B, 30 + n * 5 + j, none⟩ = some u := by
  have : j < (opnCells (p.rings n)).length := by rw [opnCells_length]; exact hj
  exact ⟨_, h.rings n j _ hn (List.getElem?_eq_getElem this)⟩

theorem Rd.setRing (h : Rd w B s p) (n : Nat) (hn : n < 100) (o : Option Opn) (v0 v1 v2 v3 v4 : Value) (hv : opnCells o = [v0, v1, v2, v3, v4]) : Rd (set5 w B (30 + n * 5) v0 v1 v2 v3 v4) B s { p with rings := setRing p.rings n o } := by
  have hc : ∀ k, k < 30 → (set5 w B (30 + n * 5) v0 v1 v2 v3 v4).cell? ⟨B, k, none⟩ = w.cell? ⟨B, k, none⟩ := fun k hk => set5_other _ _ _ _ _ _ _ _ _ (by omega)
  obtain ⟨va, ha, oa⟩ := h.atoms
  obtain ⟨vb, hb, ob⟩ := h.bonds
  refine ⟨by rw [hc _ (by omega)]; exact h.text, by rw [hc _ (by omega)]; exact h.pos, fun k hk => by rw [hc _ (by omega)]; exact h.near k hk,
    ⟨va, by rw [hc _ (by omega)]; exact ha, ?_⟩, ⟨vb, by rw [hc _ (by omega)]; exact hb, ?_⟩,
    by rw [hc _ (by omega)]; exact h.err, by rw [hc _ (by omega)]; exact h.plc, ?_, fun i => by unfold set5; simp only [World.frozen?_setCell]; exact h.free i⟩
  · unfold set5; exact ownsRow_setB (ownsRow_setB (ownsRow_setB (ownsRow_setB (ownsRow_setB oa _ _) _ _) _ _) _ _) _ _
  · unfold set5; exact ownsRow_setB (ownsRow_setB (ownsRow_setB (ownsRow_setB (ownsRow_setB ob _ _) _ _) _ _) _ _) _ _
  · intro m j v hm hj
    have hj5 : j < 5 := by have := (List.getElem?_eq_some_iff.1 hj).1; rwa [opnCells_length] at this
    by_cases e : m = n
    · subst e
      simp only [Bz.setRing, if_true, hv] at hj
      exact set5_at w B (30 + m * 5) v0 v1 v2 v3 v4 (fun j hj => h.ringCell m hn j hj) j v hj
    · simp only [Bz.setRing, e, if_false] at hj
      rw [set5_other _ _ _ _ _ _ _ _ _ (by omega)]
      exact h.rings m j v hm hj

theorem Fr.set5 {B : Nat} {a w : World} (h : Fr B a w) (i : Nat) (hi : 30 ≤ i) (v0 v1 v2 v3 v4 : Value) : Fr B a (set5 w B i v0 v1 v2 v3 v4) := by
  unfold Proofs.YtcabaecbmkgclaaGreatDoor.set5
  exact ((((h.setCell (.inl rfl) (fun _ => ⟨by simp; omega, by simp; omega⟩) _).setCell (.inl rfl) (fun _ => ⟨by simp; omega, by simp; omega⟩) _).setCell (.inl rfl) (fun _ => ⟨by simp; omega, by simp; omega⟩) _).setCell (.inl rfl) (fun _ => ⟨by simp; omega, by simp; omega⟩) _).setCell (.inl rfl) (fun _ => ⟨by simp; omega, by simp; omega⟩) _

theorem keep5 {w : World} {B L i : Nat} (hL : L ≠ B) (hl : L < w.heap.size) (v0 v1 v2 v3 v4 : Value) (o : Obj) (k : Nat) :
    ((((((w.setCell ⟨B, i, none⟩ v0).setCell ⟨B, i + 1, none⟩ v1).setCell ⟨B, i + 2, none⟩ v2).setCell ⟨B, i + 3, none⟩ v3).setCell ⟨B, i + 4, none⟩ v4).alloc o).drew.cell? ⟨L, k, none⟩ = w.cell? ⟨L, k, none⟩ := by
  have hne : ∀ (w : World) (j : Nat) (u : Value), (w.setCell ⟨B, j, none⟩ u).cell? ⟨L, k, none⟩ = w.cell? ⟨L, k, none⟩ := fun w j u => World.cell?_setCell_other w _ _ u (fun e => hL (by simpa using (congrArg Addr.block e).symm))
  rw [World.cell?_drew, World.cell?_alloc_lt _ _ _ (by simpa using hl), hne, hne, hne, hne, hne]

theorem ringNumber_lt {s : ByteArray} {i n j : Nat} (h : ringNumber s i = .ok (n, j)) : n < 100 := by
  unfold ringNumber at h
  split at h
  · split at h
    · split at h
      · rename_i _ h1 h2
        simp only [Except.ok.injEq, Prod.mk.injEq] at h
        have := (isDigit_iff _).1 h1
        have := (isDigit_iff _).1 h2
        omega
      · cases h
    · cases h
  · split at h
    · rename_i _ h1
      simp only [Except.ok.injEq, Prod.mk.injEq] at h
      have := (isDigit_iff _).1 h1
      omega
    · cases h

theorem bondEnd_ok {s : ByteArray} {a : Nat} {p q : St} {g : Hung} (h : bondEnd s a p = .ok (g, q)) (hp : p.pos ≤ s.size) :
    q.atoms = p.atoms ∧ q.bonds = p.bonds ∧ q.rings = p.rings ∧ p.pos ≤ q.pos ∧ q.pos ≤ s.size ∧ g.atom = (a : Int) := by
  unfold bondEnd at h
  simp only at h
  split at h
  · rename_i hs
    split at h
    · cases h
    · simp only [Except.ok.injEq, Prod.mk.injEq] at h
      obtain ⟨rfl, rfl⟩ := h
      have : p.pos < s.size := lt_of_byteAt (by intro e; rw [e] at hs; simp [isSign] at hs)
      exact ⟨rfl, rfl, rfl, by simp, by simp; omega, rfl⟩
  · simp only [Except.ok.injEq, Prod.mk.injEq] at h
    obtain ⟨rfl, rfl⟩ := h
    exact ⟨rfl, rfl, rfl, Nat.le_refl _, hp, rfl⟩

theorem ringNumber_pos {s : ByteArray} {i n j : Nat} (h : ringNumber s i = .ok (n, j)) : i < j ∧ j ≤ s.size := by
  unfold ringNumber at h
  split at h
  · split at h
    · split at h
      · rename_i _ h1 h2
        simp only [Except.ok.injEq, Prod.mk.injEq] at h
        have := digit_lt ((isDigit_iff _).1 h2)
        omega
      · cases h
    · cases h
  · split at h
    · rename_i _ h1
      simp only [Except.ok.injEq, Prod.mk.injEq] at h
      have := digit_lt ((isDigit_iff _).1 h1)
      omega
    · cases h

set_option maxRecDepth 100000 in
set_option maxHeartbeats 2000000 in
theorem ring_any (h : Rd w B s p) (hs : s.size ≤ 160) (hp : p.pos ≤ s.size) (a : Nat) (ha : a < p.atoms.length) (hn : p.atoms.length ≤ 24) (hbo : p.bonds.length ≤ 1000)
    (hri : ∀ n o, p.rings n = some o → ∃ fa : Nat, o.hung.atom = fa ∧ fa < p.atoms.length) :
    Calls Tryz.prog 104 #[.pointer (some ⟨B, 0, none⟩), .int .i64 a] w (StPost w B s (ring s a p)) := by
  have hB := h.lt
  have hBE := bondEnd_any h hs hp a ha hn
  go_enter Tryz.func104, Tryz.ntmps104
  go_wp2_with fail
  refine hBE.mono ?_
  rintro e w1 ⟨hm, hf1⟩
  cases hbe : bondEnd s a p with
  | error er =>
    rw [hbe] at hm
    obtain ⟨⟨g, rfl⟩, hw1⟩ := hm
    have HR : Hid (ring s a p = .error er) := by unfold Hid ring; rw [hbe]
    clear hbe hri hBE
    unfold hungV
    go_wp2_with fail
    go_ret
    refine StPost.error HR.out rfl ⟨?_, ?_⟩ (hf1.alloc (Nat.lt_of_lt_of_le hB hf1.size) _)
    · rw [World.cell?_alloc_lt _ _ _ (Nat.lt_of_lt_of_le hB hf1.size)]; exact hw1.err
    · rw [World.cell?_alloc_lt _ _ _ (Nat.lt_of_lt_of_le hB hf1.size)]; exact hw1.plc
  | ok x =>
    obtain ⟨g, q⟩ := x
    rw [hbe] at hm
    obtain ⟨rfl, hr1⟩ := hm
    simp only at hr1
    obtain ⟨qa, qb, qr, qp, qs, ga⟩ := bondEnd_ok hbe hp
    have HBE : Hid (bondEnd s a p = .ok (g, q)) := hbe
    rw [← qa] at ha hn hri
    rw [← qb] at hbo
    rw [← qr] at hri
    obtain ⟨gm, gs, gat⟩ := g
    simp only at ga
    subst ga
    have HQ : Hid (∀ n o, q.rings n = some o → ∃ fa : Nat, o.hung.atom = fa ∧ fa < q.atoms.length) := hri
    clear hbe hBE qa qb qr qp h hp hri
    have hB1 := hr1.lt
    have q1 := hr1.pos
    have b0 := b3_new w1 (.int .u8 gm) (.int .i64 gs) (.int .i64 (a : Int)) 92
    have n0 := hr1.notMine (.cells #[.int .u8 gm, .int .i64 gs, .int .i64 (a : Int)] 92)
    have r2 := hr1.alloc (.cells #[.int .u8 gm, .int .i64 gs, .int .i64 (a : Int)] 92)
    have f2 := hf1.alloc hB1 (.cells #[.int .u8 gm, .int .i64 gs, .int .i64 (a : Int)] 92)
    have hRN := ringNumber_any r2 hs qs
    unfold hungV
    simp only
    go_wp2_with fail
    refine hRN.mono ?_
    rintro e w2 ⟨hm, hf3⟩
    have x0 := b0.fr hf3 n0
    have m0 := hf3.notMine (by simp) n0
    have f3 := f2.trans hf3
    clear hRN
    cases hrn : ringNumber s q.pos with
    | error er =>
      rw [hrn] at hm
      obtain ⟨v, j, rfl, hr3, rfl, hj⟩ := hm
      have HR : Hid (ring s a p = .error (2, (j : Int))) := by unfold Hid ring; rw [HBE.out]; simp only; rw [hrn]
      clear hrn HBE
      have q3 := hr3.pos
      simp only at q3
      go_wp2_with fail
      go_region_with (go_at_call 57; refine (fail_any hr3.drew _ _).mono ?_; rintro e w' ⟨rfl, hw, hf6⟩)
      all_goals
        go_wp2_with fail
        go_ret
        exact StPost.error HR.out rfl hw (f3.drew.trans hf6)
    | ok y =>
      obtain ⟨n, j⟩ := y
      rw [hrn] at hm
      obtain ⟨rfl, hr3⟩ := hm
      simp only at hr3
      have hn100 := ringNumber_lt hrn
      have hn100' : (n : Int) < 100 := by omega
      have HRN : Hid (ringNumber s q.pos = .ok (n, j)) := hrn
      clear hrn
      have B2 := hr3.lt
      have z0 := hr3.free (30 + n * 5)
      have z1 := hr3.free (30 + n * 5 + 1)
      have z2 := hr3.free (30 + n * 5 + 2)
      have z3 := hr3.free (30 + n * 5 + 3)
      have z4 := hr3.free (30 + n * 5 + 4)
      have d0 := x0.c0
      have d1 := x0.c1
      have d2 := x0.c2
      have hL2 : w1.heap.size < w2.heap.size := x0.lt
      have hBL : B < w1.heap.size := hB1
      cases hrg : q.rings n with
      | none =>
        have HR : Hid (ring s a p = .ok { q with pos := j, rings := setRing q.rings n (some ⟨⟨gm, gs, a⟩, q.pos⟩) }) := by
          unfold Hid ring; rw [HBE.out]; simp only; rw [HRN.out]; simp only; rw [hrg]
        have hrr : ∀ jj v, (opnCells none)[jj]? = some v → w2.cell? ⟨B, 30 + n * 5 + jj, none⟩ = some v := by
          intro jj v hv
          have := hr3.rings n jj v hn100
          simp only [hrg] at this
          exact this hv
        have c0 : w2.cell? ⟨B, 30 + n * 5, none⟩ = some (.int .u8 0) := hrr 0 _ rfl
        have c1 := hrr 1 _ rfl
        have c2 := hrr 2 _ rfl
        have c3 := hrr 3 _ rfl
        have c4 := hrr 4 _ rfl
        have hfin := ((hr3.setRing n hn100 (some ⟨⟨gm, gs, a⟩, q.pos⟩) _ _ _ _ _ rfl).alloc (.cells #[.int .u8 0, .int .i64 0, .int .i64 0, .int .i64 0, .bool false] 94)).drew
        have hff := (((f3.set5 (30 + n * 5) (by omega) (.int .u8 gm) (.int .i64 gs) (.int .i64 (a : Int)) (.int .i64 (q.pos : Int)) (.bool true))).allocL hB (.cells #[.int .u8 0, .int .i64 0, .int .i64 0, .int .i64 0, .bool false] 94)).drew
        have hLB : w1.heap.size ≠ B := by omega
        unfold set5 at hfin hff
        have HF : Hid _ := hfin
        have HFF : Hid _ := hff
        clear hrr hrg HBE HRN hfin hff
        go_wp2_with fail
        go_region_held3 (fun w' => w'.cell? ⟨w1.heap.size, 0, none⟩ = some (.int .u8 gm) ∧ w'.cell? ⟨w1.heap.size, 1, none⟩ = some (.int .i64 gs) ∧ w'.cell? ⟨w1.heap.size, 2, none⟩ = some (.int .i64 a)) (first | with_reducible exact ⟨(keep5 hLB hL2 _ _ _ _ _ _ _).trans d0, (keep5 hLB hL2 _ _ _ _ _ _ _).trans d1, (keep5 hLB hL2 _ _ _ _ _ _ _).trans d2⟩ | go_keep) (fail)
        all_goals
          go_wp2_with fail
          go_ret
          exact StPost.ok HR.out rfl HF.out HFF.out
      | some o =>
        obtain ⟨fa, hfa, hfl⟩ := HQ.out n o hrg
        obtain ⟨⟨fm, fs, fat⟩, fpl⟩ := o
        simp only at hfa
        subst hfa
        have HR : Hid (ring s a p = closeRing ⟨fm, fs, fa⟩ ⟨gm, gs, a⟩ q.pos { q with pos := j, rings := setRing q.rings n none }) := by
          unfold Hid ring; rw [HBE.out]; simp only; rw [HRN.out]; simp only; rw [hrg]
        have hrr : ∀ jj v, (opnCells (some ⟨⟨fm, fs, fa⟩, fpl⟩))[jj]? = some v → w2.cell? ⟨B, 30 + n * 5 + jj, none⟩ = some v := by
          intro jj v hv
          have := hr3.rings n jj v hn100
          simp only [hrg] at this
          exact this hv
        have c0 : w2.cell? ⟨B, 30 + n * 5, none⟩ = some (.int .u8 fm) := hrr 0 _ rfl
        have c1 := hrr 1 _ rfl
        have c2 := hrr 2 _ rfl
        have c3 := hrr 3 _ rfl
        have c4 := hrr 4 _ rfl
        have hfin := (hr3.setRing n hn100 none _ _ _ _ _ rfl).alloc (.cells #[.int .u8 fm, .int .i64 fs, .int .i64 (fa : Int), .int .i64 (fpl : Int), .bool true] 94)
        have hff := (f3.set5 (30 + n * 5) (by omega) (.int .u8 0) (.int .i64 0) (.int .i64 0) (.int .i64 0) (.bool false)).allocL hB (.cells #[.int .u8 fm, .int .i64 fs, .int .i64 (fa : Int), .int .i64 (fpl : Int), .bool true] 94)
        have hcr := closeRing_any hfin fm fs gm gs fa a q.pos hfl ha hn hbo
        unfold hungV set5 at hcr
        unfold set5 at hff
        have HFF : Hid _ := hff
        clear hrr hrg HBE HRN hfin hff HQ
        go_wp2_with fail
        refine hcr.mono ?_
        rintro e w4 ⟨hm, hf4⟩
        cases hcl : closeRing ⟨fm, fs, fa⟩ ⟨gm, gs, a⟩ q.pos { q with pos := j, rings := setRing q.rings n none } with
        | ok r =>
          rw [hcl] at hm
          obtain ⟨rfl, hr4⟩ := hm
          have HCL : Hid _ := HR.out.trans hcl
          clear hcl
          go_wp2_with fail
          go_ret
          exact StPost.ok HCL.out rfl hr4 (HFF.out.trans hf4)
        | error er =>
          rw [hcl] at hm
          obtain ⟨rfl, hw4⟩ := hm
          have HCL : Hid _ := HR.out.trans hcl
          clear hcl
          go_wp2_with fail
          go_ret
          exact StPost.error HCL.out rfl hw4 (HFF.out.trans hf4)
end
end Go.Proofs.YtcabaecbmkgclaaGreatDoor

namespace Go.Proofs.YtcabaecbmkgclaaGreatDoor
open Go.RowKit Bz

/-- An atom as it is written, and where it ends. -/
def atomHead (s : ByteArray) (h : Hung) (p : St) : R (Atm × Nat) :=
  match element s (if byteAt s p.pos == 91 then p.pos + 1 else p.pos) with
  | none => if (byteAt s p.pos == 91) && full p then .error (5, (p.pos : Int)) else .error (2, ((if byteAt s p.pos == 91 then p.pos + 1 else p.pos : Nat) : Int))
  | some (el, ar, n) =>
    if h.mark = 58 ∧ ar = false then .error (3, h.spot)
    else if full p then .error (5, (p.pos : Int))
    else
      match (if byteAt s p.pos == 91 then bracket s ((if byteAt s p.pos == 91 then p.pos + 1 else p.pos) + n) else .ok (0, 0, (if byteAt s p.pos == 91 then p.pos + 1 else p.pos) + n)) with
      | .error e => .error e
      | .ok (ch, hy, j) => .ok (⟨el, ar, ch, hy, p.pos, byteAt s p.pos == 91⟩, j)

def atomTail (h : Hung) (p : St) (a : Atm) (j : Nat) : Nat × St :=
  let q : St := { p with pos := j, atoms := p.atoms ++ [a] }
  (p.atoms.length, if h.atom = -1 then q else bind q h.atom.toNat p.atoms.length (order q h.mark h.atom p.atoms.length) a.pl)

theorem atom_eq (s : ByteArray) (h : Hung) (p : St) : atom s h p = match atomHead s h p with
    | .error e => .error e
    | .ok (a, j) => .ok (atomTail h p a j) := by
  unfold atom atomHead
  simp only
  split
  · rename_i he; rw [he]; split <;> rfl
  · rename_i el ar n he
    rw [he]
    simp only
    split
    · rfl
    · split
      · rfl
      · split
        · rename_i e hb; rw [hb]
        · rename_i ch hy j hb; rw [hb]; rfl

section
variable {w : World} {B : Nat} {s : ByteArray} {p : St}

/-- The reader, the end that the atom hangs on, and the atom in its box. -/
structure AtA (w wc : World) (B : Nat) (s : ByteArray) (p : St) (g : Hung) (a : Atm) : Prop where
  rd : Rd wc B s p
  hb : B3 wc w.heap.size (.int .u8 g.mark) (.int .i64 g.spot) (.int .i64 g.atom)
  nh : ¬ Mine wc B w.heap.size
  bx : Bx wc (w.heap.size + 1) a
  nm : ¬ Mine wc B (w.heap.size + 1)
  fr : Fr B w wc

theorem AtA.step {wc w1 : World} {g : Hung} {a : Atm} {q : St} (h : AtA w wc B s p g a) (hr : Rd w1 B s q) (hf : Fr B wc w1) : AtA w w1 B s q g a :=
  ⟨hr, h.hb.fr hf h.nh, hf.notMine h.hb.lt h.nh, h.bx.fr hf h.nm, hf.notMine h.bx.lt h.nm, h.fr.trans hf⟩

theorem AtA.stepX {wc w1 : World} {g : Hung} {a a' : Atm} {q : St} (h : AtA w wc B s p g a) (hr : Rd w1 B s q) (hb : Bx w1 (w.heap.size + 1) a') (hf : FrX B (w.heap.size + 1) wc w1) : AtA w w1 B s q g a' :=
  ⟨hr, h.hb.same (hf.block _ h.hb.lt h.nh (by omega)), hf.notMine h.hb.lt h.nh, hb, hf.notMine h.bx.lt h.nm, h.fr.transX (by omega) hf⟩

theorem AtA.setBox {wc : World} {g : Hung} {a a' : Atm} (h : AtA w wc B s p g a) (i : Nat) (u : Value) (hb : Bx (wc.setCell ⟨w.heap.size + 1, i, none⟩ u) (w.heap.size + 1) a') : AtA w (wc.setCell ⟨w.heap.size + 1, i, none⟩ u) B s p g a' :=
  h.stepX (h.rd.setOther h.nm u) hb (((Fr.refl B wc).x _).set (Rd.ne_of_notMine h.nm) i u)

theorem ata_mk (h : Rd w B s p) (g : Hung) (t t' : TypeId) : AtA w ((w.alloc (.cells #[.int .u8 g.mark, .int .i64 g.spot, .int .i64 g.atom] t)).alloc (.cells #[.string ⟨#[]⟩, .bool false, .int .i64 0, .int .i64 0, .int .i64 p.pos, .bool false] t')) B s p g ⟨⟨#[]⟩, false, 0, 0, p.pos, false⟩ := by
  have hB := h.lt
  refine ⟨(h.alloc _).alloc _, ⟨?_, ?_, ?_, ?_⟩, ?_, ⟨?_, ?_, ?_, ?_, ?_, ?_, ?_⟩, ?_, (by repeat (first | with_reducible exact Fr.refl _ _ | with_reducible refine Fr.drewN ?_ _ | with_reducible refine Fr.drew ?_ | with_reducible refine Fr.setPos ?_ _ | with_reducible refine Fr.setL ?_ (by simp) hB _ _ | with_reducible refine Fr.allocL ?_ hB _))⟩
  · simp [go_sem]
  · simp [go_sem]
  · simp [go_sem]
  · intro i; simp [go_sem]
  · intro e
    have := ((h.n.allocL (Nat.le_refl _) _).allocL (by simp) _).mine _ e
    omega
  · simp [go_sem]
  · simp [go_sem]
  · simp [go_sem]
  · simp [go_sem]
  · simp [go_sem]
  · simp [go_sem]
  · intro i; simp [go_sem]
  · intro e
    have := ((h.n.allocL (Nat.le_refl _) _).allocL (by simp) _).mine _ e
    omega

def AtPost (w : World) (B : Nat) (s : ByteArray) (r : R (Nat × St)) (e : Ending) (w' : World) : Prop :=
  (match r with
  | .ok x => e = .returned (.tuple #[.int .i64 x.1, .bool true]) ∧ Rd w' B s x.2
  | .error er => (∃ v : Int, e = .returned (.tuple #[.int .i64 v, .bool false])) ∧ Wrong w' B er) ∧ Fr B w w'

theorem AtPost.ok {w w' : World} {r : R (Nat × St)} {e : Ending} {k : Nat} {q : St} (hr : r = .ok (k, q)) (he : e = .returned (.tuple #[.int .i64 k, .bool true])) (h1 : Rd w' B s q) (h2 : Fr B w w') : AtPost w B s r e w' := by subst hr; exact ⟨⟨he, h1⟩, h2⟩
theorem AtPost.error {w w' : World} {r : R (Nat × St)} {e : Ending} {er : Int × Int} (v : Int) (hr : r = .error er) (he : e = .returned (.tuple #[.int .i64 v, .bool false])) (h1 : Wrong w' B er) (h2 : Fr B w w') : AtPost w B s r e w' := by subst hr; exact ⟨⟨⟨v, he⟩, h1⟩, h2⟩

theorem head_none {g : Hung} {br : Bool} {i : Nat} (hbr : (byteAt s p.pos == 91) = br) (hi : (if br = true then p.pos + 1 else p.pos) = i) (he : element s i = none) :
    atomHead s g p = .error (if br && full p then (5, (p.pos : Int)) else (2, (i : Int))) := by
  unfold atomHead; rw [hbr, hi, he]; simp only; split <;> rfl
theorem head_bond {g : Hung} {br : Bool} {i n : Nat} {el : ByteArray} {ar : Bool} (hbr : (byteAt s p.pos == 91) = br) (hi : (if br = true then p.pos + 1 else p.pos) = i) (he : element s i = some (el, ar, n)) (h1 : g.mark = 58 ∧ ar = false) :
    atomHead s g p = .error (3, g.spot) := by
  unfold atomHead; rw [hbr, hi, he]; simp only; rw [if_pos h1]
theorem head_full {g : Hung} {br : Bool} {i n : Nat} {el : ByteArray} {ar : Bool} (hbr : (byteAt s p.pos == 91) = br) (hi : (if br = true then p.pos + 1 else p.pos) = i) (he : element s i = some (el, ar, n)) (h1 : ¬ (g.mark = 58 ∧ ar = false)) (hf : full p = true) :
    atomHead s g p = .error (5, (p.pos : Int)) := by
  unfold atomHead; rw [hbr, hi, he]; simp only; rw [if_neg h1, if_pos hf]
theorem head_plain {g : Hung} {i n : Nat} {el : ByteArray} {ar : Bool} (hbr : (byteAt s p.pos == 91) = false) (hi : p.pos = i) (he : element s i = some (el, ar, n)) (h1 : ¬ (g.mark = 58 ∧ ar = false)) (hf : full p = false) :
    atomHead s g p = .ok (⟨el, ar, 0, 0, p.pos, false⟩, i + n) := by
  subst hi
  unfold atomHead; rw [hbr]; simp only [Bool.false_eq_true, if_false]; rw [he]; simp only; rw [if_neg h1, hf]; rfl
theorem head_bracket {g : Hung} {i n : Nat} {el : ByteArray} {ar : Bool} (hbr : (byteAt s p.pos == 91) = true) (hi : p.pos + 1 = i) (he : element s i = some (el, ar, n)) (h1 : ¬ (g.mark = 58 ∧ ar = false)) (hf : full p = false) :
    atomHead s g p = match bracket s (i + n) with
      | .error e => .error e
      | .ok (ch, hy, j) => .ok (⟨el, ar, ch, hy, p.pos, true⟩, j) := by
  subst hi
  unfold atomHead; rw [hbr]; simp only [if_true]; rw [he]; simp only; rw [if_neg h1, hf]; rfl

theorem element_pos {s : ByteArray} {i n : Nat} {el : ByteArray} {ar : Bool} (he : element s i = some (el, ar, n)) : i + n ≤ s.size ∧ 0 < n := by
  unfold element at he
  simp only at he
  split at he
  · rename_i h; simp only [Option.some.injEq, Prod.mk.injEq] at he; obtain ⟨_, _, rfl⟩ := he; have := byte_lt h.2 (by decide); omega
  · split at he
    · rename_i h; simp only [Option.some.injEq, Prod.mk.injEq] at he; obtain ⟨_, _, rfl⟩ := he; have := byte_lt h.2 (by decide); omega
    · split at he
      · rename_i h; simp only [Option.some.injEq, Prod.mk.injEq] at he; obtain ⟨_, _, rfl⟩ := he; have := lt_of_byteAt (s := s) (i := i) (by omega); omega
      · split at he
        · rename_i h; simp only [Option.some.injEq, Prod.mk.injEq] at he; obtain ⟨_, _, rfl⟩ := he; have := lt_of_byteAt (s := s) (i := i) (by omega); omega
        · cases he

theorem head_room {g : Hung} {x : Atm × Nat} (hh : atomHead s g p = .ok x) (hn : p.atoms.length ≤ 24) : p.atoms.length < 24 := by
  have : full p = false := by
    cases hf : full p
    · rfl
    · unfold atomHead at hh
      split at hh
      · split at hh <;> cases hh
      · split at hh
        · cases hh
        · cases hh
  unfold full at this
  simp at this
  omega

/-- Behind the test: the atom stands in its box, or something is wrong. -/
def HeadAt (w : World) (B : Nat) (s : ByteArray) (p : St) (g : Hung) (v : Value) (wc : World) : Prop :=
  match atomHead s g p with
  | .ok x => v = .bool false ∧ AtA w wc B s { p with pos := x.2 } g x.1
  | .error er => v = .bool true ∧ Wrong wc B er ∧ Fr B w wc

set_option maxRecDepth 100000 in
set_option maxHeartbeats 2000000 in
theorem atom_any (h : Rd w B s p) (hs : s.size ≤ 160) (hp : p.pos ≤ s.size) (g : Hung) (hn : p.atoms.length ≤ 24) (hbo : p.bonds.length ≤ 1000) (hga : g.atom = -1 ∨ ∃ fa : Nat, g.atom = fa ∧ fa < p.atoms.length) :
    Calls Tryz.prog 102 #[.pointer (some ⟨B, 0, none⟩), hungV g] w (AtPost w B s (atom s g p)) := by
  have hB := h.lt
  have q0 := h.pos
  have A0 := ata_mk h g 92 124
  have hT := take1 A0.rd hs hp 91 91 rfl (by decide)
  unfold hungV
  go_enter Tryz.func102, Tryz.ntmps102
  go_wp2_with fail
  refine hT.mono ?_
  rintro e w1 ⟨rfl, hr1, hf1⟩
  have A1 := A0.step hr1 hf1
  clear hT A0 hr1 hf1
  generalize hbr : (byteAt s p.pos == 91) = br at *
  obtain ⟨i, hi⟩ : ∃ i, (if br = true then p.pos + 1 else p.pos) = i := ⟨_, rfl⟩
  have hpi : (if byteAt s p.pos = 91 then { p with pos := p.pos + 1 } else p) = { p with pos := i } := by
    subst hi hbr
    by_cases e : byteAt s p.pos = 91 <;> simp [e]
  have hisz : i ≤ s.size := by
    subst hi hbr
    split
    · rename_i e; have := byte_lt (s := s) (i := p.pos) (c := 91) (by simpa using e) (by decide); omega
    · exact hp
  rw [hpi] at A1
  have A2 := A1.setBox 5 (.bool br) (A1.bx.setBr _)
  simp only at A2
  have c5 := A1.bx.c5
  have f5 := A1.bx.fz 5
  have HI : Hid ((if br = true then p.pos + 1 else p.pos) = i) := hi
  have HBR : Hid ((byteAt s p.pos == 91) = br) := hbr
  clear hpi hi hbr A1
  go_upto_region 3 with fail
  go_cut [38] (fun v wc => HeadAt w B s p g v wc)
  case first =>
    cases hel : element s i with
    | none =>
      have hNN := name_no A2.rd hs hisz hn _ _ A2.bx A2.nm hel
      have HH : Hid _ := head_none (g := g) HBR.out HI.out hel
      clear hel
      go_wp2_with fail
      refine hNN.mono ?_
      rintro e w2 ⟨rfl, hw2, hf2⟩
      go_wp2_with fail
      go_meet
      case rel => unfold HeadAt; rw [HH.out]; exact ⟨rfl, hw2, A2.fr.transX (by omega) hf2⟩
    | some x =>
      obtain ⟨el, ar, n⟩ := x
      have hNO := name_ok A2.rd hs hisz _ _ A2.bx A2.nm _ hel
      have hin := element_pos hel
      simp only at hNO
      go_wp2_with fail
      refine hNO.mono ?_
      rintro e w2 ⟨rfl, hr2, hb2, hm2, hf2⟩
      have A3 := A2.stepX hr2 hb2 hf2
      clear hNO A2 hr2 hb2 hm2 hf2
      have g0 := A3.hb.c0
      have g1 := A3.hb.c1
      have g2 := A3.hb.c2
      have a0 := A3.bx.c0
      have a1 := A3.bx.c1
      have a2 := A3.bx.c2
      have a3 := A3.bx.c3
      have a4 := A3.bx.c4
      have a5 := A3.bx.c5
      simp only at a0 a1 a2 a3 a4 a5
      by_cases hbo1 : g.mark = 58 ∧ ar = false
      · have HH : Hid _ := head_bond (g := g) HBR.out HI.out hel hbo1
        have hF := fits_bond A3.rd g ⟨el, ar, 0, 0, p.pos, br⟩ hbo1.1 hbo1.2
        unfold hungV atmV at hF
        simp only at hF
        clear hbo1 hel
        go_wp2_with fail
        refine hF.mono ?_
        rintro e w3 ⟨rfl, hw3, hf3⟩
        go_wp2_with fail
        go_meet
        case rel => unfold HeadAt; rw [HH.out]; exact ⟨rfl, hw3, A3.fr.trans hf3⟩
      · cases hfu : full p
        · have hF := fits_ok A3.rd hn g ⟨el, ar, 0, 0, p.pos, br⟩ hbo1 hfu
          unfold hungV atmV at hF
          simp only at hF
          cases br
          · have HH : Hid _ := head_plain (g := g) HBR.out HI.out hel hbo1 hfu
            clear hbo1 hel hfu
            go_wp2_with fail
            refine hF.mono ?_
            rintro e w3 ⟨rfl, hr3, hf3⟩
            have A4 := A3.step hr3 hf3
            have a5' := A4.bx.c5
            simp only at a5'
            go_wp2_with fail
            go_meet
            case rel => unfold HeadAt; rw [HH.out]; exact ⟨rfl, A4⟩
          · have HH : Hid _ := head_bracket (g := g) HBR.out HI.out hel hbo1 hfu
            clear hbo1 hel hfu
            go_wp2_with fail
            refine hF.mono ?_
            rintro e w3 ⟨rfl, hr3, hf3⟩
            have A4 := A3.step hr3 hf3
            have a5' := A4.bx.c5
            simp only at a5'
            have hBk := bracket_any A4.rd hs hin.1 _ _ A4.bx A4.nm rfl rfl
            unfold BrPost at hBk
            simp only at hBk
            go_wp2_with fail
            refine hBk.mono ?_
            intro e w4 hm
            cases hbk : bracket s (i + n) with
            | ok y =>
              obtain ⟨ch, hy, j⟩ := y
              rw [hbk] at hm HH
              obtain ⟨rfl, hr4, hb4, hm4, hf4⟩ := hm
              simp only at hr4 hb4 HH
              have A5 := A4.stepX hr4 hb4 hf4
              clear hbk
              go_wp2_with fail
              go_meet
              case rel => unfold HeadAt; rw [HH.out]; exact ⟨rfl, A5⟩
            | error er =>
              rw [hbk] at hm HH
              obtain ⟨rfl, hw4, hf4⟩ := hm
              simp only at HH
              clear hbk
              go_wp2_with fail
              go_meet
              case rel => unfold HeadAt; rw [HH.out]; exact ⟨rfl, hw4, A4.fr.transX (by omega) hf4⟩
        · have HH : Hid _ := head_full (g := g) HBR.out HI.out hel hbo1 hfu
          have hF := fits_full A3.rd hn g ⟨el, ar, 0, 0, p.pos, br⟩ hbo1 hfu
          unfold hungV atmV at hF
          simp only at hF
          clear hbo1 hel hfu
          go_wp2_with fail
          refine hF.mono ?_
          rintro e w3 ⟨rfl, hw3, hf3⟩
          go_wp2_with fail
          go_meet
          case rel => unfold HeadAt; rw [HH.out]; exact ⟨rfl, hw3, A3.fr.trans hf3⟩
  case rest =>
    clear A2 c5 f5 HI HBR
    unfold HeadAt at hcut
    have HE : Hid _ := atom_eq s g p
    cases hh : atomHead s g p with
    | error er =>
      rw [hh] at hcut HE
      obtain ⟨rfl, hw, hf⟩ := hcut
      simp only at HE
      clear hh
      go_wp2_with fail
      go_ret2
      exact AtPost.error 0 HE.out rfl hw hf
    | ok x =>
      obtain ⟨at_, j⟩ := x
      rw [hh] at hcut HE
      obtain ⟨rfl, A5⟩ := hcut
      simp only at HE A5
      have hlen : p.atoms.length < 24 := head_room hh hn
      clear hh
      have hAd := add_any A5.rd.drew at_ hlen
      unfold atmV at hAd
      simp only at hAd
      have a0 := A5.bx.c0
      have a1 := A5.bx.c1
      have a2 := A5.bx.c2
      have a3 := A5.bx.c3
      have a4 := A5.bx.c4
      have a5 := A5.bx.c5
      go_wp2_with fail
      go_region_with (go_at_call 128; refine hAd.mono ?_; rintro e w5 ⟨rfl, hr5, hf5⟩)
      have A6 := A5.step hr5 ((Fr.refl B _).drew.trans hf5)
      have g2 := A6.hb.c2
      have g0 := A6.hb.c0
      have g4 := A6.bx.c4
      clear hAd A5 a0 a1 a2 a3 a4 a5
      rcases hga with hga | ⟨fa, hga, hfa⟩
      · have HT : Hid (atomTail g p at_ j = (p.atoms.length, { p with pos := j, atoms := p.atoms ++ [at_] })) := by unfold Hid atomTail; simp only; rw [if_pos hga]
        rw [hga] at g2
        clear hga
        go_wp2_with fail
        go_ret2
        exact AtPost.ok (HE.out.trans (congrArg _ HT.out)) rfl A6.rd A6.fr
      · have HT : Hid (atomTail g p at_ j = (p.atoms.length, bind { p with pos := j, atoms := p.atoms ++ [at_] } fa p.atoms.length (order { p with pos := j, atoms := p.atoms ++ [at_] } g.mark fa p.atoms.length) at_.pl)) := by
          unfold Hid atomTail; simp only; rw [if_neg (by rw [hga]; omega), hga, Int.toNat_natCast]
        rw [hga] at g2
        have tne : ((fa : Int) != -1) = true := by simp
        have HO : Hid (∀ w, Rd w B s { p with pos := j, atoms := p.atoms ++ [at_] } → Calls Tryz.prog 130 #[.pointer (some ⟨B, 0, none⟩), .int .u8 g.mark, .int .i64 fa, .int .i64 p.atoms.length] w fun e w' => e = .returned (.int .i64 (order { p with pos := j, atoms := p.atoms ++ [at_] } g.mark fa p.atoms.length)) ∧ w' = w) :=
          fun w h => order_any h g.mark fa p.atoms.length (by simp; omega) (by simp) (by simp; omega)
        have HBi : Hid (∀ o, Calls Tryz.prog 129 #[.pointer (some ⟨B, 2, none⟩), .int .i64 fa, .int .i64 p.atoms.length, .int .i64 o, .int .i64 at_.pl] w5.drew fun e w' => e = .returned (.tuple #[]) ∧ Rd w' B s (bind { p with pos := j, atoms := p.atoms ++ [at_] } fa p.atoms.length o at_.pl) ∧ Fr B w5.drew w' ∧
            w'.cell? ⟨w.heap.size, 0, none⟩ = some (.int .u8 g.mark) ∧ w'.cell? ⟨w.heap.size, 2, none⟩ = some (.int .i64 fa) ∧ w'.cell? ⟨w.heap.size + 1, 4, none⟩ = some (.int .i64 at_.pl)) := by
          intro o
          refine (bind_any A6.rd.drew fa p.atoms.length o at_.pl (by omega) (by omega) (by omega) hbo).mono ?_
          rintro e w' ⟨he, hr, hf⟩
          have x0 := A6.hb.drew.fr hf A6.nh
          exact ⟨he, hr, hf, x0.c0, by have := x0.c2; rw [hga] at this; exact this, (A6.bx.same (w' := w5.drew) rfl |>.fr hf A6.nm).c4⟩
        generalize hod : order { p with pos := j, atoms := p.atoms ++ [at_] } g.mark fa p.atoms.length = od at HO HT
        clear hod
        clear hga
        go_wp2_with fail
        go_region_held3 (fun w' => w'.cell? ⟨w.heap.size, 0, none⟩ = some (.int .u8 g.mark) ∧ w'.cell? ⟨w.heap.size, 2, none⟩ = some (.int .i64 fa) ∧ w'.cell? ⟨w.heap.size + 1, 4, none⟩ = some (.int .i64 at_.pl)) (go_keep) (first | (go_at_call 130; refine (HO.out _ A6.rd.drew).mono ?_; rintro e w' ⟨rfl, rfl⟩) | (go_at_call 129; refine (HBi.out _).mono ?_; rintro e w' ⟨rfl, hr, hf, i0, i1, i2⟩))
        all_goals
          go_wp2_with fail
          go_ret2
          exact AtPost.ok (HE.out.trans (congrArg _ HT.out)) rfl hr (A6.fr.drew.trans hf)
end
end Go.Proofs.YtcabaecbmkgclaaGreatDoor

namespace Go.Proofs.YtcabaecbmkgclaaGreatDoor
open Go.RowKit Bz

structure Ok (s : ByteArray) (p : St) : Prop where
  pos : p.pos ≤ s.size
  atoms : p.atoms.length ≤ 24
  bonds : p.bonds.length ≤ p.pos
  rings : ∀ n o, p.rings n = some o → ∃ fa : Nat, o.hung.atom = fa ∧ fa < p.atoms.length
  ords : ∀ b ∈ p.bonds, 1 ≤ b.o ∧ b.o ≤ 4
  hys : ∀ a ∈ p.atoms, 0 ≤ a.hy ∧ a.hy ≤ 9
  aros : ∀ a ∈ p.atoms, a.aro = true → valences a.el a.ch ≠ []

def HungOk (g : Hung) (p : St) : Prop := g.atom = -1 ∨ ∃ fa : Nat, g.atom = fa ∧ fa < p.atoms.length

theorem bondEnd_wf {s : ByteArray} {a : Nat} {p q : St} {g : Hung} (h : bondEnd s a p = .ok (g, q)) (o : Ok s p) (ha : a < p.atoms.length) : Ok s q ∧ HungOk g q ∧ q.atoms = p.atoms ∧ p.pos ≤ q.pos := by
  obtain ⟨h1, h2, h3, h4, h5, h6⟩ := bondEnd_ok h o.pos
  refine ⟨⟨h5, by rw [h1]; exact o.atoms, by rw [h2]; have := o.bonds; omega, by rw [h3, h1]; exact o.rings, by rw [h2]; exact o.ords, by rw [h1]; exact o.hys, by rw [h1]; exact o.aros⟩, .inr ⟨a, h6, by rw [h1]; exact ha⟩, h1, h4⟩

theorem link_wf {s : ByteArray} {a : Nat} {p q : St} {g : Hung} (h : link s a p = .ok (g, q)) (o : Ok s p) (ha : a < p.atoms.length) : Ok s q ∧ HungOk g q ∧ q.atoms = p.atoms ∧ p.pos ≤ q.pos := by
  unfold link at h
  split at h
  · rename_i e
    simp only [Except.ok.injEq, Prod.mk.injEq] at h
    obtain ⟨rfl, rfl⟩ := h
    have := byte_lt e (by decide)
    exact ⟨⟨by simp; omega, o.atoms, by have := o.bonds; simp; omega, o.rings, o.ords, o.hys, o.aros⟩, .inl rfl, rfl, by simp⟩
  · exact bondEnd_wf h o ha

theorem bracket_pos {s : ByteArray} {i : Nat} {x : Int × Int × Nat} (h : bracket s i = .ok x) : i < x.2.2 ∧ x.2.2 ≤ s.size := by
  unfold bracket at h
  simp only at h
  split at h
  · rename_i e
    simp only [Except.ok.injEq] at h
    subst h
    have h1 := byte_lt e (by decide)
    have h2 : i ≤ (hydro s i).2 := by
      unfold hydro
      split
      · split <;> simp
      · simp
    have h3 : (hydro s i).2 ≤ (charge s (hydro s i).2).2 := by
      unfold charge
      split
      · simp
      · split <;> simp
    simp only
    omega
  · cases h

theorem head_pos {s : ByteArray} {p : St} {g : Hung} {a : Atm} {j : Nat} (h : atomHead s g p = .ok (a, j)) : p.pos < j ∧ j ≤ s.size := by
  unfold atomHead at h
  split at h
  · split at h <;> cases h
  · rename_i el ar n he
    have hp := element_pos he
    have hi : p.pos ≤ (if (byteAt s p.pos == 91) = true then p.pos + 1 else p.pos) := by split <;> omega
    split at h
    · cases h
    · split at h
      · cases h
      · split at h
        · cases h
        · rename_i ch hy j' hb
          simp only [Except.ok.injEq, Prod.mk.injEq] at h
          obtain ⟨_, rfl⟩ := h
          split at hb
          · have := bracket_pos hb
            simp only at this
            omega
          · simp only [Except.ok.injEq, Prod.mk.injEq] at hb
            omega

theorem bracket_hy {s : ByteArray} {i : Nat} {x : Int × Int × Nat} (h : bracket s i = .ok x) : 0 ≤ x.2.1 ∧ x.2.1 ≤ 9 := by
  unfold bracket at h
  simp only at h
  split at h
  · simp only [Except.ok.injEq] at h
    subst h
    simp only
    unfold hydro
    split
    · split
      · rename_i e; simp only; omega
      · simp
    · simp
  · cases h

theorem valences_ne (el : ByteArray) (ch : Int) (h : el ≠ ⟨#[66]⟩) : valences el ch ≠ [] := by
  unfold valences
  simp only
  rw [if_neg h]
  repeat' split
  all_goals simp

theorem element_aro {s : ByteArray} {i n : Nat} {el : ByteArray} (ch : Int) (h : element s i = some (el, true, n)) : valences el ch ≠ [] := by
  unfold element at h
  simp only at h
  split at h
  · simp at h
  · split at h
    · simp at h
    · split at h
      · simp at h
      · split at h
        · rename_i e
          simp only [Option.some.injEq, Prod.mk.injEq, true_and] at h
          obtain ⟨rfl, _⟩ := h
          rcases e with e | e | e | e | e
          all_goals
            rw [e]
            exact valences_ne _ _ (by decide)
        · cases h

theorem head_info {s : ByteArray} {p : St} {g : Hung} {a : Atm} {j : Nat} (h : atomHead s g p = .ok (a, j)) : (0 ≤ a.hy ∧ a.hy ≤ 9) ∧ (a.aro = true → valences a.el a.ch ≠ []) := by
  unfold atomHead at h
  split at h
  · split at h <;> cases h
  · rename_i el ar n he
    split at h
    · cases h
    · split at h
      · cases h
      · split at h
        · cases h
        · rename_i ch hy j' hb
          simp only [Except.ok.injEq, Prod.mk.injEq] at h
          obtain ⟨rfl, rfl⟩ := h
          refine ⟨?_, fun e => ?_⟩
          · split at hb
            · exact bracket_hy hb
            · simp only [Except.ok.injEq, Prod.mk.injEq] at hb
              simp only
              omega
          · simp only at e ⊢
            subst e
            exact element_aro ch he

theorem order_bd (p : St) (m a b : Int) : 1 ≤ order p m a b ∧ order p m a b ≤ 4 := by
  unfold order
  split
  · omega
  · split
    · omega
    · split
      · omega
      · split
        · omega
        · split <;> omega

theorem atom_wf {s : ByteArray} {p q : St} {g : Hung} {k : Nat} (h : atom s g p = .ok (k, q)) (o : Ok s p) : Ok s q ∧ k < q.atoms.length ∧ p.pos < q.pos ∧ p.atoms.length ≤ q.atoms.length := by
  rw [atom_eq] at h
  cases hh : atomHead s g p with
  | error e => rw [hh] at h; cases h
  | ok x =>
    obtain ⟨a, j⟩ := x
    rw [hh] at h
    simp only [Except.ok.injEq] at h
    have hr := head_room hh o.atoms
    have hj := head_pos hh
    have hb := o.bonds
    obtain ⟨i1, i2⟩ := head_info hh
    unfold atomTail at h
    simp only [Prod.mk.injEq] at h
    obtain ⟨rfl, rfl⟩ := h
    have hri : ∀ n o', p.rings n = some o' → ∃ fa : Nat, o'.hung.atom = fa ∧ fa < (p.atoms ++ [a]).length := by
      intro n o' ho
      obtain ⟨fa, h1, h2⟩ := o.rings n o' ho
      exact ⟨fa, h1, by simp; omega⟩
    have hhy : ∀ x ∈ p.atoms ++ [a], 0 ≤ x.hy ∧ x.hy ≤ 9 := by
      intro x hx
      rcases List.mem_append.1 hx with hx | hx
      · exact o.hys x hx
      · simp at hx; subst hx; exact i1
    have har : ∀ x ∈ p.atoms ++ [a], x.aro = true → valences x.el x.ch ≠ [] := by
      intro x hx
      rcases List.mem_append.1 hx with hx | hx
      · exact o.aros x hx
      · simp at hx; subst hx; exact i2
    split
    · exact ⟨⟨hj.2, by simp; omega, by simp; omega, hri, o.ords, hhy, har⟩, by simp, hj.1, by simp⟩
    · refine ⟨⟨hj.2, by simp [Bz.bind]; omega, by simp [Bz.bind]; omega, hri, ?_, hhy, har⟩, by simp [Bz.bind], by simp [Bz.bind]; omega, by simp [Bz.bind]⟩
      intro b hb'
      simp only [Bz.bind] at hb'
      rcases List.mem_append.1 hb' with hb' | hb'
      · exact o.ords b hb'
      · simp only [List.mem_singleton] at hb'; subst hb'; exact order_bd _ _ _ _

theorem ring_wf {s : ByteArray} {a : Nat} {p q : St} (h : ring s a p = .ok q) (o : Ok s p) (ha : a < p.atoms.length) : Ok s q ∧ p.pos < q.pos ∧ p.atoms.length ≤ q.atoms.length := by
  unfold ring at h
  split at h
  · cases h
  · rename_i g p1 hbe
    obtain ⟨o1, hg, ha1, hp1⟩ := bondEnd_wf hbe o ha
    split at h
    · cases h
    · rename_i n j hrn
      obtain ⟨h1, h2⟩ := ringNumber_pos hrn
      have hb := o1.bonds
      split at h
      · simp only [Except.ok.injEq] at h
        subst h
        refine ⟨⟨h2, o1.atoms, by simp; omega, ?_, o1.ords, o1.hys, o1.aros⟩, by simp; omega, by simp [ha1]⟩
        intro m o' ho
        simp only [setRing] at ho
        split at ho
        · simp only [Option.some.injEq] at ho
          subst ho
          rcases hg with hg | hg
          · obtain ⟨_, _, _, _, _, h6⟩ := bondEnd_ok hbe o.pos
            rw [h6] at hg; omega
          · exact hg
        · exact o1.rings m o' ho
      · unfold closeRing at h
        simp only at h
        split at h
        · cases h
        · split at h
          · cases h
          · split at h
            · cases h
            · simp only [Except.ok.injEq] at h
              subst h
              refine ⟨⟨h2, o1.atoms, by simp [Bz.bind]; omega, ?_, ?_, o1.hys, o1.aros⟩, by simp [Bz.bind]; omega, by simp [Bz.bind, ha1]⟩
              · intro m o' ho
                simp only [Bz.bind, setRing] at ho
                split at ho
                · cases ho
                · exact o1.rings m o' ho
              · intro b hb'
                simp only [Bz.bind] at hb'
                rcases List.mem_append.1 hb' with hb' | hb'
                · exact o1.ords b hb'
                · simp only [List.mem_singleton] at hb'; subst hb'; exact order_bd _ _ _ _

theorem ringsOf_wf {s : ByteArray} {a : Nat} : ∀ (n : Nat) {p q : St}, ringsOf s a n p = .ok q → Ok s p → a < p.atoms.length → Ok s q ∧ p.pos ≤ q.pos ∧ p.atoms.length ≤ q.atoms.length
  | 0, p, q, h, o, _ => by simp only [ringsOf, Except.ok.injEq] at h; subst h; exact ⟨o, Nat.le_refl _, Nat.le_refl _⟩
  | n + 1, p, q, h, o, ha => by
    unfold ringsOf at h
    split at h
    · split at h
      · cases h
      · rename_i p1 hr
        obtain ⟨o1, h1, h2⟩ := ring_wf hr o ha
        obtain ⟨o2, h3, h4⟩ := ringsOf_wf n h o1 (by omega)
        exact ⟨o2, by omega, by omega⟩
    · simp only [Except.ok.injEq] at h; subst h; exact ⟨o, Nat.le_refl _, Nat.le_refl _⟩

def ChainOk (s : ByteArray) (c : Hung → St → R St) : Prop := ∀ g q q', Ok s q → HungOk g q → c g q = .ok q' → Ok s q' ∧ q.pos < q'.pos ∧ q.atoms.length ≤ q'.atoms.length

theorem Ok.step {s : ByteArray} {p : St} (o : Ok s p) (h : p.pos < s.size) : Ok s { p with pos := p.pos + 1 } := ⟨by simp; omega, o.atoms, by have := o.bonds; simp; omega, o.rings, o.ords, o.hys, o.aros⟩

theorem branch_wf {s : ByteArray} {c : Hung → St → R St} (hc : ChainOk s c) {a : Nat} {p q : St} (h : branch s c a p = .ok q) (o : Ok s p) (ha : a < p.atoms.length) : Ok s q ∧ p.pos < q.pos ∧ p.atoms.length ≤ q.atoms.length := by
  unfold branch at h
  split at h
  · cases h
  · rename_i g p1 hl
    obtain ⟨o1, hg, ha1, hp1⟩ := link_wf hl o ha
    split at h
    · cases h
    · rename_i p2 hch
      obtain ⟨o2, h1, h2⟩ := hc g p1 p2 o1 hg hch
      split at h
      · rename_i e
        simp only [Except.ok.injEq] at h
        subst h
        exact ⟨o2.step (byte_lt e (by decide)), by simp; omega, by simp; rw [← ha1]; exact h2⟩
      · cases h

theorem branches_wf {s : ByteArray} {c : Hung → St → R St} (hc : ChainOk s c) {a : Nat} : ∀ (n : Nat) {p q : St}, branches s c a n p = .ok q → Ok s p → a < p.atoms.length → Ok s q ∧ p.pos ≤ q.pos ∧ p.atoms.length ≤ q.atoms.length
  | 0, p, q, h, o, _ => by simp only [branches, Except.ok.injEq] at h; subst h; exact ⟨o, Nat.le_refl _, Nat.le_refl _⟩
  | n + 1, p, q, h, o, ha => by
    unfold branches at h
    split at h
    · rename_i e
      split at h
      · cases h
      · rename_i p1 hr
        obtain ⟨o1, h1, h2⟩ := branch_wf hc hr (o.step (byte_lt e (by decide))) ha
        simp only at h1 h2
        obtain ⟨o2, h3, h4⟩ := branches_wf hc n h o1 (by omega)
        exact ⟨o2, by omega, by omega⟩
    · simp only [Except.ok.injEq] at h; subst h; exact ⟨o, Nat.le_refl _, Nat.le_refl _⟩

theorem knot_wf {s : ByteArray} {c : Hung → St → R St} (hc : ChainOk s c) {g : Hung} {p q : St} {k : Nat} (h : knot s c g p = .ok (k, q)) (o : Ok s p) : Ok s q ∧ k < q.atoms.length ∧ p.pos < q.pos ∧ p.atoms.length ≤ q.atoms.length := by
  unfold knot at h
  split at h
  · cases h
  · rename_i k1 p1 ha
    obtain ⟨o1, h1, h2, h3⟩ := atom_wf ha o
    split at h
    · cases h
    · rename_i p2 hr
      obtain ⟨o2, h4, h5⟩ := ringsOf_wf _ hr o1 h1
      split at h
      · cases h
      · rename_i p3 hb
        obtain ⟨o3, h6, h7⟩ := branches_wf hc _ hb o2 (by omega)
        simp only [Except.ok.injEq, Prod.mk.injEq] at h
        obtain ⟨rfl, rfl⟩ := h
        exact ⟨o3, by omega, by omega, by omega⟩

theorem linkedKnot_wf {s : ByteArray} {c : Hung → St → R St} (hc : ChainOk s c) {a : Nat} {p q : St} {k : Nat} (h : linkedKnot s c a p = .ok (k, q)) (o : Ok s p) (ha : a < p.atoms.length) : Ok s q ∧ k < q.atoms.length ∧ p.pos < q.pos ∧ p.atoms.length ≤ q.atoms.length := by
  unfold linkedKnot at h
  split at h
  · cases h
  · rename_i g p1 hl
    obtain ⟨o1, hg, ha1, hp1⟩ := link_wf hl o ha
    obtain ⟨o2, h1, h2, h3⟩ := knot_wf hc h o1
    exact ⟨o2, h1, by omega, by rw [← ha1]; exact h3⟩

theorem linked_wf {s : ByteArray} {c : Hung → St → R St} (hc : ChainOk s c) : ∀ (n : Nat) {a : Nat} {p q : St}, Bz.linked s c n a p = .ok q → Ok s p → a < p.atoms.length → Ok s q ∧ p.pos ≤ q.pos ∧ p.atoms.length ≤ q.atoms.length
  | 0, a, p, q, h, o, _ => by simp only [Bz.linked, Except.ok.injEq] at h; subst h; exact ⟨o, Nat.le_refl _, Nat.le_refl _⟩
  | n + 1, a, p, q, h, o, ha => by
    unfold Bz.linked at h
    split at h
    · split at h
      · cases h
      · rename_i k1 p1 hr
        obtain ⟨o1, h1, h2, h3⟩ := linkedKnot_wf hc hr o ha
        obtain ⟨o2, h4, h5⟩ := linked_wf hc n h o1 h1
        exact ⟨o2, by omega, by omega⟩
    · simp only [Except.ok.injEq] at h; subst h; exact ⟨o, Nat.le_refl _, Nat.le_refl _⟩

theorem chain_wf (s : ByteArray) : ∀ n, ChainOk s (chain s n)
  | 0 => by intro g q q' _ _ h; simp [chain] at h
  | n + 1 => by
    intro g q q' o _ h
    unfold chain at h
    split at h
    · cases h
    · rename_i k p1 hk
      obtain ⟨o1, h1, h2, h3⟩ := knot_wf (chain_wf s n) hk o
      obtain ⟨o2, h4, h5⟩ := linked_wf (chain_wf s n) _ h o1 h1
      exact ⟨o2, by omega, by omega⟩

end Go.Proofs.YtcabaecbmkgclaaGreatDoor

namespace Go.Proofs.YtcabaecbmkgclaaGreatDoor
open Go.RowKit Bz

def part (a : Nat) (b : Bnd) : Int := if b.a = a ∨ b.b = a then (if b.o = 4 then 1 else b.o) else 0

theorem sum_take (l : List Bnd) (a k : Nat) (h : k < l.length) : Bz.sum (l.take (k + 1)) a = Bz.sum (l.take k) a + part a l[k] := by
  unfold Bz.sum
  rw [List.take_succ_eq_append_getElem h, List.map_append, List.sum_append]
  simp [part]

theorem part_bd (a : Nat) (b : Bnd) (h : 1 ≤ b.o ∧ b.o ≤ 4) : 0 ≤ part a b ∧ part a b ≤ 4 := by
  unfold part
  split
  · split <;> omega
  · omega

theorem sum_bd (l : List Bnd) (a : Nat) (h : ∀ b ∈ l, 1 ≤ b.o ∧ b.o ≤ 4) : ∀ k, k ≤ l.length → 0 ≤ Bz.sum (l.take k) a ∧ Bz.sum (l.take k) a ≤ 4 * k
  | 0, _ => by simp [Bz.sum]
  | k + 1, hk => by
    rw [sum_take l a k (by omega)]
    have h1 := sum_bd l a h k (by omega)
    have h2 := part_bd a l[k] (h _ (List.getElem_mem _))
    omega

section
variable {w : World} {B : Nat} {s : ByteArray} {p : St}

theorem Rd.bondsLen (h : Rd w B s p) : ∃ ao cap, w.cell? ⟨B, 27, none⟩ = some (.slice ao p.bonds.length cap) := by
  obtain ⟨v, hv, ho⟩ := h.bonds
  obtain ⟨ao, cap, rfl⟩ := ownsRow_shape ho
  exact ⟨ao, cap, hv⟩

/-- One round. -/
def SumAt (w : World) (l : List Bnd) (a : Nat) (k : Nat) (vs vi : Value) (wr : World) : Prop :=
  ∃ i : Nat, i ≤ l.length ∧ l.length - i ≤ k ∧ vi = .int .i64 i ∧ vs = .int .i64 (Bz.sum (l.take i) a) ∧ Below w.heap.size w wr

set_option maxRecDepth 100000 in
set_option maxHeartbeats 2000000 in
theorem sum_any (h : Rd w B s p) (a : Nat) (hb : p.bonds.length ≤ 1000) (ho : ∀ b ∈ p.bonds, 1 ≤ b.o ∧ b.o ≤ 4) :
    Calls Tryz.prog 84 #[.pointer (some ⟨B, 2, none⟩), .int .i64 a] w fun e w' => e = .returned (.int .i64 (Bz.sum p.bonds a)) ∧ Below w.heap.size w w' := by
  have hsb := sum_bd p.bonds a ho
  by_cases hl : p.bonds.length = 0
  · obtain ⟨ao, cap, hc⟩ := h.bondsLen
    rw [hl] at hc
    have he : Hid (Bz.sum p.bonds a = 0) := by unfold Hid; rw [List.eq_nil_of_length_eq_zero hl]; rfl
    clear hsb hl ho
    go_enter Tryz.func84, Tryz.ntmps84
    go_wp2_with fail
    refine wp_loop_rounds 1 ?_
    rw [rounds_succ]
    go_wp2_with fail
    go_ret
    exact ⟨ret_int he.out.symm, Below.refl _ _⟩
  · obtain ⟨g, cap, hv, hc, _, hBg, hgl⟩ := h.bondsAt (by omega)
    have HC : Hid _ := hc
    have HO : Hid _ := ho
    have HS : Hid _ := hsb
    clear hc ho hsb
    go_enter Tryz.func84, Tryz.ntmps84
    go_wp2_with fail
    go_loopg [5, 13] (p.bonds.length + 1) (fun k vs vi wr => SumAt w p.bonds a k vs vi wr)
    case atStart => exact ⟨0, by omega, by omega, rfl, by simp [Bz.sum], Below.refl _ _⟩
    case round =>
      obtain ⟨i, hi, hk, rfl, rfl, hbel⟩ := hrel
      by_cases hlt : i < p.bonds.length
      · have hsi := HS.out i hi
        have hst := sum_take p.bonds a i hlt
        have hbo := HO.out p.bonds[i] (List.getElem_mem _)
        have gi := List.getElem?_eq_getElem hlt
        have c0 := (hbel.cell (p := ⟨g, i * 4, none⟩) hgl).trans (HC.out i _ 0 _ gi rfl)
        have c1 := (hbel.cell (p := ⟨g, i * 4 + 1, none⟩) hgl).trans (HC.out i _ 1 _ gi rfl)
        have c2 := (hbel.cell (p := ⟨g, i * 4 + 2, none⟩) hgl).trans (HC.out i _ 2 _ gi rfl)
        have c3 := (hbel.cell (p := ⟨g, i * 4 + 3, none⟩) hgl).trans (HC.out i _ 3 _ gi rfl)
        have hsz := hbel.size
        have hlt' : (i : Int) < (p.bonds.length : Int) := by omega
        generalize p.bonds[i] = b at *
        obtain ⟨ba, bb, bo, bpl⟩ := b
        simp only at c0 c1 c2 c3 hbo
        have HST : Hid _ := hst
        clear hst gi
        generalize Bz.sum (p.bonds.take i) a = sm at *
        have t4 : (bo == 4) = true ∨ (bo == 4) = false := by cases (bo == 4) <;> simp
        have fin : ∀ wx, Below w.heap.size w wx → ∀ u : Int, u = sm + part a ⟨ba, bb, bo, bpl⟩ → SumAt w p.bonds a (p.bonds.length - (i + 1)) (.int .i64 u) (.int .i64 ((i : Int) + 1)) wx := by
          intro wx hx u hu
          exact ⟨i + 1, by omega, Nat.le_refl _, by go_num, by rw [HST.out, hu], hx⟩
        have FIN : Hid _ := fin
        clear fin
        by_cases hin : ba = a ∨ bb = a
        · have tin : ((ba : Int) != (a : Int)) = false ∨ ((ba : Int) != (a : Int)) = true ∧ ((bb : Int) != (a : Int)) = false := by
            by_cases e : ba = a
            · left; simp [e]
            · right
              have e2 : bb = a := by omega
              exact ⟨by simp; omega, by simp [e2]⟩
          have HP : Hid (part a ⟨ba, bb, bo, bpl⟩ = if bo = 4 then 1 else bo) := by unfold Hid part; rw [if_pos hin]
          clear hin
          rcases t4 with t4 | t4
          · have hp : Hid (part a ⟨ba, bb, bo, bpl⟩ = 1) := by unfold Hid; rw [HP.out, if_pos (by simpa using t4)]
            rcases tin with tin | ⟨tin, tin2⟩
            all_goals
              go_wp2_with fail
              go_roundg (p.bonds.length - (i + 1))
              case measure => omega
              case rel => exact FIN.out _ (hbel.alloc hsz _) _ (by rw [hp.out])
          · have hp : Hid (part a ⟨ba, bb, bo, bpl⟩ = bo) := by unfold Hid; rw [HP.out, if_neg (by simpa using t4)]
            rcases tin with tin | ⟨tin, tin2⟩
            all_goals
              go_wp2_with fail
              go_roundg (p.bonds.length - (i + 1))
              case measure => omega
              case rel => exact FIN.out _ (hbel.alloc hsz _) _ (by rw [hp.out])
        · have hp : Hid (part a ⟨ba, bb, bo, bpl⟩ = 0) := by unfold Hid part; rw [if_neg hin]
          have tin : ((ba : Int) != (a : Int)) = true := by simp; omega
          have tin2 : ((bb : Int) != (a : Int)) = true := by simp; omega
          clear hin t4
          go_wp2_with fail
          go_roundg (p.bonds.length - (i + 1))
          case measure => omega
          case rel => exact FIN.out _ (hbel.alloc hsz _) _ (by rw [hp.out]; omega)
      · have hi' : i = p.bonds.length := by omega
        have he : Hid (Bz.sum (p.bonds.take i) a = Bz.sum p.bonds a) := by unfold Hid; rw [hi', List.take_length]
        have hlt' : ¬ (i : Int) < (p.bonds.length : Int) := by omega
        clear hi'
        go_wp2_with fail
        go_ret
        exact ⟨ret_int he.out, hbel⟩
end
end Go.Proofs.YtcabaecbmkgclaaGreatDoor

namespace Go.Proofs.YtcabaecbmkgclaaGreatDoor
open Go.RowKit Bz

/-- A list of numbers lies in memory. -/
def IntsAt (w : World) (v : Value) (l : List Int) : Prop :=
  (l = [] ∧ v = .slice none 0 0) ∨ ∃ g cap, v = .slice (some ⟨g, 0, none⟩) l.length cap ∧ ∀ j x, l[j]? = some x → w.cell? ⟨g, j, none⟩ = some (.int .i64 x)

def ValPost (w : World) (l : List Int) (e : Ending) (w' : World) : Prop := ∃ v, e = .returned v ∧ IntsAt w' v l ∧ Below w.heap.size w w'

theorem valences_pick (el : ByteArray) (ch : Int) : ∃ a b c : List Int, valences el ch = (if ch > 0 then b else if ch < 0 then c else a) ∧
    ((el = ⟨#[66]⟩ ∧ a = [3] ∧ b = [] ∧ c = [4]) ∨ (el = ⟨#[67]⟩ ∧ a = [4] ∧ b = [3] ∧ c = [3]) ∨ ((el = ⟨#[78]⟩ ∨ el = ⟨#[80]⟩) ∧ a = [3, 5] ∧ b = [4] ∧ c = [2]) ∨
     (el = ⟨#[79]⟩ ∧ a = [2] ∧ b = [3] ∧ c = [1]) ∨ (el = ⟨#[83]⟩ ∧ a = [2, 4, 6] ∧ b = [3, 5] ∧ c = [1]) ∨
     ((el ≠ ⟨#[66]⟩ ∧ el ≠ ⟨#[67]⟩ ∧ el ≠ ⟨#[78]⟩ ∧ el ≠ ⟨#[80]⟩ ∧ el ≠ ⟨#[79]⟩ ∧ el ≠ ⟨#[83]⟩) ∧ a = [1] ∧ b = [2] ∧ c = [0])) := by
  by_cases h1 : el = ⟨#[66]⟩
  · exact ⟨_, _, _, by unfold valences; rw [if_pos h1], .inl ⟨h1, rfl, rfl, rfl⟩⟩
  by_cases h2 : el = ⟨#[67]⟩
  · exact ⟨_, _, _, by unfold valences; simp only; rw [if_neg h1, if_pos h2], .inr (.inl ⟨h2, rfl, rfl, rfl⟩)⟩
  by_cases h3 : el = ⟨#[78]⟩ ∨ el = ⟨#[80]⟩
  · exact ⟨_, _, _, by unfold valences; simp only; rw [if_neg h1, if_neg h2, if_pos h3], .inr (.inr (.inl ⟨h3, rfl, rfl, rfl⟩))⟩
  by_cases h4 : el = ⟨#[79]⟩
  · exact ⟨_, _, _, by unfold valences; simp only; rw [if_neg h1, if_neg h2, if_neg h3, if_pos h4], .inr (.inr (.inr (.inl ⟨h4, rfl, rfl, rfl⟩)))⟩
  by_cases h5 : el = ⟨#[83]⟩
  · exact ⟨_, _, _, by unfold valences; simp only; rw [if_neg h1, if_neg h2, if_neg h3, if_neg h4, if_pos h5], .inr (.inr (.inr (.inr (.inl ⟨h5, rfl, rfl, rfl⟩))))⟩
  · exact ⟨_, _, _, by unfold valences; simp only; rw [if_neg h1, if_neg h2, if_neg h3, if_neg h4, if_neg h5], .inr (.inr (.inr (.inr (.inr ⟨⟨h1, h2, fun e => h3 (.inl e), fun e => h3 (.inr e), h4, h5⟩, rfl, rfl, rfl⟩))))⟩

/-- The charge's list. -/
def picked (ch : Int) (n p m : Value) : Value := if ch > 0 then p else if ch < 0 then m else n

set_option maxHeartbeats 400000 in
theorem byCharge_any (ch : Int) (an bn cn ap bp cp : Nat) (a b c : Option Addr) (w : World) :
    Calls Tryz.prog 110 #[.int .i64 ch, .slice a an ap, .slice b bn bp, .slice c cn cp] w fun e w' => e = .returned (picked ch (.slice a an ap) (.slice b bn bp) (.slice c cn cp)) ∧ w' = w := by
  by_cases h1 : 0 < ch
  · have e : picked ch (.slice a an ap) (.slice b bn bp) (.slice c cn cp) = .slice b bn bp := by unfold picked; rw [if_pos h1]
    rw [e]
    clear e
    go_enter Tryz.func110, Tryz.ntmps110
    go_wp2
    go_ret
    exact ⟨rfl, rfl⟩
  · by_cases h2 : ch < 0
    · have e : picked ch (.slice a an ap) (.slice b bn bp) (.slice c cn cp) = .slice c cn cp := by unfold picked; rw [if_neg h1, if_pos h2]
      rw [e]
      clear e
      go_enter Tryz.func110, Tryz.ntmps110
      go_wp2
      go_ret
      exact ⟨rfl, rfl⟩
    · have e : picked ch (.slice a an ap) (.slice b bn bp) (.slice c cn cp) = .slice a an ap := by unfold picked; rw [if_neg h1, if_neg h2]
      rw [e]
      clear e
      go_enter Tryz.func110, Tryz.ntmps110
      go_wp2
      go_ret
      exact ⟨rfl, rfl⟩

theorem picked_ints {w : World} {ch : Int} {n p m : Value} {a b c l : List Int} (hl : l = (if ch > 0 then b else if ch < 0 then c else a)) (hn : IntsAt w n a) (hp : IntsAt w p b) (hm : IntsAt w m c) : IntsAt w (picked ch n p m) l := by
  subst hl
  unfold picked
  split
  · exact hp
  · split
    · exact hm
    · exact hn

theorem intsAt_nil (w : World) : IntsAt w (.slice none 0 0) [] := .inl ⟨rfl, rfl⟩
theorem intsAt_mk {w : World} {g : Nat} {l : List Int} {cap : Nat} (h : ∀ j x, l[j]? = some x → w.cell? ⟨g, j, none⟩ = some (.int .i64 x)) : IntsAt w (.slice (some ⟨g, 0, none⟩) l.length cap) l := .inr ⟨g, cap, rfl, h⟩
theorem intsAt1 {w : World} {g : Nat} {x : Int} {cap : Nat} (h : w.cell? ⟨g, 0, none⟩ = some (.int .i64 x)) : IntsAt w (.slice (some ⟨g, 0, none⟩) 1 cap) [x] := intsAt_mk (l := [x]) (by
  intro j y hj
  match j, hj with
  | 0, hj => simp at hj; subst hj; exact h)
theorem intsAt2 {w : World} {g : Nat} {x y : Int} {cap : Nat} (h : w.cell? ⟨g, 0, none⟩ = some (.int .i64 x)) (h1 : w.cell? ⟨g, 1, none⟩ = some (.int .i64 y)) : IntsAt w (.slice (some ⟨g, 0, none⟩) 2 cap) [x, y] := intsAt_mk (l := [x, y]) (by
  intro j z hj
  match j, hj with
  | 0, hj => simp at hj; subst hj; exact h
  | 1, hj => simp at hj; subst hj; exact h1)
theorem intsAt3 {w : World} {g : Nat} {x y z : Int} {cap : Nat} (h : w.cell? ⟨g, 0, none⟩ = some (.int .i64 x)) (h1 : w.cell? ⟨g, 1, none⟩ = some (.int .i64 y)) (h2 : w.cell? ⟨g, 2, none⟩ = some (.int .i64 z)) : IntsAt w (.slice (some ⟨g, 0, none⟩) 3 cap) [x, y, z] := intsAt_mk (l := [x, y, z]) (by
  intro j u hj
  match j, hj with
  | 0, hj => simp at hj; subst hj; exact h
  | 1, hj => simp at hj; subst hj; exact h1
  | 2, hj => simp at hj; subst hj; exact h2)

theorem str_ne {el : ByteArray} {c : UInt8} (h : el ≠ ⟨#[c]⟩) : (el.toList == [c]) = false := by
  rw [ByteArray.toList_eq]
  simp
  intro e
  apply h
  cases el with
  | mk d => simp at e; rw [show d = #[c] from Array.toList_inj.1 e]

set_option maxRecDepth 100000 in
set_option maxHeartbeats 2000000 in
theorem valencesOf_any (el : ByteArray) (ch : Int) (w : World) : Calls Tryz.prog 85 #[.string el, .int .i64 ch] w (ValPost w (valences el ch)) := by
  obtain ⟨a, b, c, hl, hcase⟩ := valences_pick el ch
  have HL : Hid _ := hl
  clear hl
  rcases hcase with ⟨h, rfl, rfl, rfl⟩ | ⟨h, rfl, rfl, rfl⟩ | ⟨h | h, rfl, rfl, rfl⟩ | ⟨h, rfl, rfl, rfl⟩ | ⟨h, rfl, rfl, rfl⟩ | ⟨⟨h1, h2, h3, h4, h5, h6⟩, rfl, rfl, rfl⟩
  · subst h
    go_enter Tryz.func85, Tryz.ntmps85
    go_wp2_with fail
    refine (byCharge_any _ _ _ _ _ _ _ _ _ _ _).mono ?_
    rintro e w' ⟨rfl, rfl⟩
    go_wp2_with fail
    go_ret
    refine ⟨_, rfl, picked_ints HL.out (intsAt1 (by simp [go_sem])) (intsAt_nil _) (intsAt1 (by simp [go_sem])), ?_⟩
    exact (by repeat (first | with_reducible exact Below.refl _ _ | with_reducible refine below_drewN ?_ _ | with_reducible refine Below.drew ?_ | with_reducible refine Below.setCell ?_ (by simp) _ | with_reducible refine Below.alloc ?_ (by simp; try omega) _))
  · subst h
    go_enter Tryz.func85, Tryz.ntmps85
    go_wp2_with fail
    refine (byCharge_any _ _ _ _ _ _ _ _ _ _ _).mono ?_
    rintro e w' ⟨rfl, rfl⟩
    go_wp2_with fail
    go_ret
    refine ⟨_, rfl, picked_ints HL.out (intsAt1 (by simp [go_sem])) (intsAt1 (by simp [go_sem])) (intsAt1 (by simp [go_sem])), ?_⟩
    exact (by repeat (first | with_reducible exact Below.refl _ _ | with_reducible refine below_drewN ?_ _ | with_reducible refine Below.drew ?_ | with_reducible refine Below.setCell ?_ (by simp) _ | with_reducible refine Below.alloc ?_ (by simp; try omega) _))
  · subst h
    go_enter Tryz.func85, Tryz.ntmps85
    go_wp2_with fail
    refine (byCharge_any _ _ _ _ _ _ _ _ _ _ _).mono ?_
    rintro e w' ⟨rfl, rfl⟩
    go_wp2_with fail
    go_ret
    refine ⟨_, rfl, picked_ints HL.out (intsAt2 (by simp [go_sem]) (by simp [go_sem])) (intsAt1 (by simp [go_sem])) (intsAt1 (by simp [go_sem])), ?_⟩
    exact (by repeat (first | with_reducible exact Below.refl _ _ | with_reducible refine below_drewN ?_ _ | with_reducible refine Below.drew ?_ | with_reducible refine Below.setCell ?_ (by simp) _ | with_reducible refine Below.alloc ?_ (by simp; try omega) _))
  · subst h
    go_enter Tryz.func85, Tryz.ntmps85
    go_wp2_with fail
    refine (byCharge_any _ _ _ _ _ _ _ _ _ _ _).mono ?_
    rintro e w' ⟨rfl, rfl⟩
    go_wp2_with fail
    go_ret
    refine ⟨_, rfl, picked_ints HL.out (intsAt2 (by simp [go_sem]) (by simp [go_sem])) (intsAt1 (by simp [go_sem])) (intsAt1 (by simp [go_sem])), ?_⟩
    exact (by repeat (first | with_reducible exact Below.refl _ _ | with_reducible refine below_drewN ?_ _ | with_reducible refine Below.drew ?_ | with_reducible refine Below.setCell ?_ (by simp) _ | with_reducible refine Below.alloc ?_ (by simp; try omega) _))
  · subst h
    go_enter Tryz.func85, Tryz.ntmps85
    go_wp2_with fail
    refine (byCharge_any _ _ _ _ _ _ _ _ _ _ _).mono ?_
    rintro e w' ⟨rfl, rfl⟩
    go_wp2_with fail
    go_ret
    refine ⟨_, rfl, picked_ints HL.out (intsAt1 (by simp [go_sem])) (intsAt1 (by simp [go_sem])) (intsAt1 (by simp [go_sem])), ?_⟩
    exact (by repeat (first | with_reducible exact Below.refl _ _ | with_reducible refine below_drewN ?_ _ | with_reducible refine Below.drew ?_ | with_reducible refine Below.setCell ?_ (by simp) _ | with_reducible refine Below.alloc ?_ (by simp; try omega) _))
  · subst h
    go_enter Tryz.func85, Tryz.ntmps85
    go_wp2_with fail
    refine (byCharge_any _ _ _ _ _ _ _ _ _ _ _).mono ?_
    rintro e w' ⟨rfl, rfl⟩
    go_wp2_with fail
    go_ret
    refine ⟨_, rfl, picked_ints HL.out (intsAt3 (by simp [go_sem]) (by simp [go_sem]) (by simp [go_sem])) (intsAt2 (by simp [go_sem]) (by simp [go_sem])) (intsAt1 (by simp [go_sem])), ?_⟩
    exact (by repeat (first | with_reducible exact Below.refl _ _ | with_reducible refine below_drewN ?_ _ | with_reducible refine Below.drew ?_ | with_reducible refine Below.setCell ?_ (by simp) _ | with_reducible refine Below.alloc ?_ (by simp; try omega) _))
  · have t1 := str_ne h1
    have t2 := str_ne h2
    have t3 := str_ne h3
    have t4 := str_ne h4
    have t5 := str_ne h5
    have t6 := str_ne h6
    clear h1 h2 h3 h4 h5 h6
    go_enter Tryz.func85, Tryz.ntmps85
    go_wp2_with fail
    refine (byCharge_any _ _ _ _ _ _ _ _ _ _ _).mono ?_
    rintro e w' ⟨rfl, rfl⟩
    go_wp2_with fail
    go_ret
    refine ⟨_, rfl, picked_ints HL.out (intsAt1 (by simp [go_sem])) (intsAt1 (by simp [go_sem])) (intsAt1 (by simp [go_sem])), ?_⟩
    exact (by repeat (first | with_reducible exact Below.refl _ _ | with_reducible refine below_drewN ?_ _ | with_reducible refine Below.drew ?_ | with_reducible refine Below.setCell ?_ (by simp) _ | with_reducible refine Below.alloc ?_ (by simp; try omega) _))

theorem missing_cons (v : Int) (l : List Int) (n : Int) : missing (v :: l) n = if n ≤ v then v - n else missing l n := by
  unfold missing
  rw [List.find?_cons]
  by_cases h : n ≤ v <;> simp [h]

theorem intsAt_below {w w' : World} {v : Value} {l : List Int} (h : IntsAt w v l) (hb : Below w.heap.size w w') : IntsAt w' v l := by
  rcases h with ⟨rfl, rfl⟩ | ⟨g, cap, rfl, hc⟩
  · exact .inl ⟨rfl, rfl⟩
  · refine .inr ⟨g, cap, rfl, fun j x hj => ?_⟩
    have := hc j x hj
    rw [hb.cell (p := ⟨g, j, none⟩) (World.block_lt_of_cell? w _ this)]
    exact this

theorem drop_cons {l : List Int} {i : Nat} {x : Int} (h : l[i]? = some x) : l.drop i = x :: l.drop (i + 1) := by
  obtain ⟨h1, h2⟩ := List.getElem?_eq_some_iff.1 h
  rw [List.drop_eq_getElem_cons h1, h2]

set_option maxRecDepth 100000 in
set_option maxHeartbeats 2000000 in
theorem missing_any (w : World) (v : Value) (l : List Int) (n : Int) (hv : IntsAt w v l) (hl : l.length ≤ 10) (hn : 0 ≤ n ∧ n ≤ 100000) (hx : ∀ x ∈ l, 0 ≤ x ∧ x ≤ 9) :
    Calls Tryz.prog 137 #[v, .int .i64 n] w fun e w' => e = .returned (.int .i64 (missing l n)) ∧ w' = w := by
  rcases hv with ⟨rfl, rfl⟩ | ⟨g, cap, rfl, hc⟩
  · have he : Hid (missing [] n = 0) := rfl
    go_enter Tryz.func137, Tryz.ntmps137
    go_wp2_with fail
    refine wp_loop_rounds 1 ?_
    rw [rounds_succ]
    go_wp2_with fail
    go_ret
    exact ⟨ret_int he.out.symm, rfl⟩
  · have HC : Hid _ := hc
    have HX : Hid _ := hx
    clear hc hx
    go_enter Tryz.func137, Tryz.ntmps137
    go_wp2_with fail
    go_loopg [9] (l.length + 1) (fun k vi wr => ∃ i : Nat, i ≤ l.length ∧ l.length - i ≤ k ∧ vi = .int .i64 i ∧ missing l n = missing (l.drop i) n ∧ wr = w)
    case atStart => exact ⟨0, by omega, by omega, rfl, by simp, rfl⟩
    case round =>
      obtain ⟨i, hi, hk, rfl, hm, rfl⟩ := hrel
      have HM : Hid _ := hm
      clear hm
      by_cases hlt : i < l.length
      · have gi := List.getElem?_eq_getElem hlt
        have c0 := HC.out i _ gi
        have hxi := HX.out l[i] (List.getElem_mem _)
        have hd := drop_cons gi
        have hmc := missing_cons l[i] (l.drop (i + 1)) n
        rw [← hd] at hmc
        have HMC : Hid _ := HM.out.trans hmc
        have hlt' : (i : Int) < (l.length : Int) := by omega
        clear hd hmc gi
        generalize l[i] = x at *
        by_cases hxn : n ≤ x
        · rw [if_pos hxn] at HMC
          go_wp2_with fail
          go_ret
          exact ⟨ret_int HMC.out.symm, rfl⟩
        · rw [if_neg hxn] at HMC
          go_wp2_with fail
          go_roundg (l.length - (i + 1))
          case measure => omega
          case rel => exact ⟨i + 1, by omega, Nat.le_refl _, by go_num, HMC.out, rfl⟩
      · have hlt' : ¬ (i : Int) < (l.length : Int) := by omega
        have he : Hid (missing (l.drop i) n = 0) := by unfold Hid; rw [List.drop_eq_nil_of_le (by omega)]; rfl
        go_wp2_with fail
        go_ret
        exact ⟨ret_int (HM.out.trans he.out).symm, rfl⟩

end Go.Proofs.YtcabaecbmkgclaaGreatDoor
