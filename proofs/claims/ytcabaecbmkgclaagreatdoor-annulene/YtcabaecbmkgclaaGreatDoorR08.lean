/-
  What knot does, by what chain does.
  What chain does.
  What valencesRight and whole do.
  What reader.Read does.
  What reader.Read does.
  What reader.Read does with a text that is not too long and is right.
  No error of the plain reader's has the number 0.
-/
import Derived.Test.YtcabaecbmkgclaaGreatDoorR07
import Derived.Deep.LoopGhost
namespace Go.Proofs.YtcabaecbmkgclaaGreatDoor
open Go.RowKit Bz
section
variable {w : World} {B : Nat} {s : ByteArray} {p : St}
/-- A loop of the reader's that goes on from state q with m rounds to spare, or has failed. -/
def LoopAt (w : World) (B : Nat) (s : ByteArray) (whole : R St) (rest : Nat → St → R St) (a lo : Nat) (k : Nat) (v : Value) (wr : World) : Prop :=
  (∃ m q, v = .bool true ∧ whole = rest m q ∧ s.size - q.pos < m ∧ s.size - q.pos + 1 ≤ k ∧ Rd wr B s q ∧ Ok s q ∧ a < q.atoms.length ∧ lo ≤ q.pos ∧ Fr B w wr) ∨
  (∃ er, v = .bool false ∧ whole = .error er ∧ Wrong wr B er ∧ Fr B w wr)

theorem ringsOf_go {s : ByteArray} {a m : Nat} {q r : St} (h1 : ringAhead s q = true) (h2 : ring s a q = .ok r) : ringsOf s a (m + 1) q = ringsOf s a m r := by
  rw [ringsOf, if_pos h1, h2]
theorem ringsOf_err {s : ByteArray} {a m : Nat} {q : St} {e : Int × Int} (h1 : ringAhead s q = true) (h2 : ring s a q = .error e) : ringsOf s a (m + 1) q = .error e := by
  rw [ringsOf, if_pos h1, h2]
theorem ringsOf_end {s : ByteArray} {a m : Nat} {q : St} (h1 : ringAhead s q = false) : ringsOf s a (m + 1) q = .ok q := by
  rw [ringsOf, if_neg (by rw [h1]; decide)]
theorem branches_go {s : ByteArray} {c : Hung → St → R St} {a m : Nat} {q r : St} (h1 : byteAt s q.pos = 40) (h2 : branch s c a { q with pos := q.pos + 1 } = .ok r) : branches s c a (m + 1) q = branches s c a m r := by
  rw [branches, if_pos h1, h2]
theorem branches_err {s : ByteArray} {c : Hung → St → R St} {a m : Nat} {q : St} {e : Int × Int} (h1 : byteAt s q.pos = 40) (h2 : branch s c a { q with pos := q.pos + 1 } = .error e) : branches s c a (m + 1) q = .error e := by
  rw [branches, if_pos h1, h2]
theorem branches_end {s : ByteArray} {c : Hung → St → R St} {a m : Nat} {q : St} (h1 : ¬ byteAt s q.pos = 40) : branches s c a (m + 1) q = .ok q := by
  rw [branches, if_neg h1]

set_option maxRecDepth 100000 in
set_option maxHeartbeats 2000000 in
theorem knot_any {n : Nat} (hC : ChainW s n) (hs : s.size ≤ 160) (h : Rd w B s p) (o : Ok s p) (g : Hung) (hg : HungOk g p) (hn : s.size - p.pos ≤ n) :
    Calls Tryz.prog 79 #[.pointer (some ⟨B, 0, none⟩), hungV g] w (AtPost w B s (Bz.knot s (Bz.chain s n) g p)) := by
  have hB := h.lt
  have hA := atom_any (h.alloc (.cells #[.int .u8 g.mark, .int .i64 g.spot, .int .i64 g.atom] 92)) hs o.pos g o.atoms (by have := o.bonds; have := o.pos; omega) hg
  have f0 := (Fr.refl B w).allocL hB (.cells #[.int .u8 g.mark, .int .i64 g.spot, .int .i64 g.atom] 92)
  have HC : Hid _ := hC
  unfold hungV at hA ⊢
  go_enter Tryz.func79, Tryz.ntmps79
  go_wp2_with fail
  refine hA.mono ?_
  rintro e w1 ⟨hm, hf1⟩
  clear hA
  cases ha : atom s g p with
  | error er =>
    rw [ha] at hm
    obtain ⟨⟨v, rfl⟩, hw1⟩ := hm
    have HR : Hid (Bz.knot s (Bz.chain s n) g p = .error er) := by unfold Hid Bz.knot; rw [ha]
    clear ha
    go_wp2_with fail
    refine wp_loop_rounds 1 ?_
    rw [rounds_succ]
    go_wp2_with fail
    refine wp_loop_rounds 1 ?_
    rw [rounds_succ]
    go_wp2_with fail
    go_ret2
    exact AtPost.error v HR.out rfl hw1 (f0.trans hf1)
  | ok x =>
    obtain ⟨a, p1⟩ := x
    rw [ha] at hm
    obtain ⟨rfl, hr1⟩ := hm
    simp only at hr1
    obtain ⟨o1, ha1, hp1, hl1⟩ := atom_wf ha o
    have HA : Hid _ := ha
    clear ha
    go_wp2_with fail
    go_loopg [7] (s.size + 2) (fun k v wr => LoopAt w B s (ringsOf s a (s.size + 1) p1) (ringsOf s a) a p1.pos k v wr)
    case atStart => exact .inl ⟨s.size + 1, p1, rfl, rfl, by omega, by omega, hr1, o1, ha1, Nat.le_refl _, f0.trans hf1⟩
    case round =>
      rcases hrel with ⟨m, q, rfl, hw, hm1, hk, hr, oq, haq, hlo, hf⟩ | ⟨er, rfl, hw, hwr, hf⟩
      · obtain ⟨m', rfl⟩ : ∃ m', m = m' + 1 := ⟨m - 1, by omega⟩
        have hRA := ringAhead_any hr hs oq.pos
        cases hra : ringAhead s q
        · rw [hra] at hRA
          have HP2 : Hid (ringsOf s a (s.size + 1) p1 = .ok q) := hw.trans (ringsOf_end hra)
          clear hra hw
          go_wp2_with fail
          refine hRA.mono ?_
          rintro e w2 ⟨rfl, k2, rfl⟩
          clear hRA
          go_wp2_with fail
          go_loopg [7] (s.size + 2) (fun k v wr => LoopAt w B s (branches s (Bz.chain s n) a (s.size + 1) q) (branches s (Bz.chain s n) a) a q.pos k v wr)
          case atStart => exact .inl ⟨s.size + 1, q, rfl, rfl, by omega, by omega, hr.drewN k2, oq, haq, Nat.le_refl _, hf.drewN k2⟩
          case round =>
            rename_i wr1
            rcases hrel with ⟨m2, q2, rfl, hw2, hm2, hkk, hr2, oq2, haq2, hlo2, hf2⟩ | ⟨er, rfl, hw2, hwr2, hf2⟩
            · obtain ⟨m3, rfl⟩ : ∃ m', m2 = m' + 1 := ⟨m2 - 1, by omega⟩
              have hT := take1 hr2 hs oq2.pos 40 40 rfl (by decide)
              by_cases h40 : byteAt s q2.pos = 40
              · have hlt := byte_lt h40 (by decide)
                simp only [h40, if_true, BEq.rfl] at hT
                have H40 : Hid _ := h40
                clear h40
                go_wp2_with fail
                refine hT.mono ?_
                rintro e w3 ⟨rfl, hr3, hf3⟩
                clear hT
                have hBr := branch_any HC.out hs hr3 (oq2.step hlt) a haq2 (by show s.size - (q2.pos + 1) < n; omega)
                go_wp2_with fail
                refine hBr.mono ?_
                rintro e w4 ⟨hm4, hf4⟩
                clear hBr
                cases hbr : Bz.branch s (Bz.chain s n) a { q2 with pos := q2.pos + 1 } with
                | ok r =>
                  rw [hbr] at hm4
                  obtain ⟨rfl, hr4⟩ := hm4
                  obtain ⟨o4, h41, h42⟩ := branch_wf (chain_wf s n) hbr (oq2.step hlt) haq2
                  have HW : Hid _ := hw2.trans (branches_go (m := m3) H40.out hbr)
                  clear hbr hw2
                  simp only at h41 h42
                  go_wp2_with fail
                  go_roundg (s.size - r.pos + 1)
                  case measure => have := o4.pos; omega
                  case rel => exact .inl ⟨m3, r, rfl, HW.out, by have := o4.pos; omega, Nat.le_refl _, hr4, o4, by omega, by omega, (hf2.trans hf3).trans hf4⟩
                | error er =>
                  rw [hbr] at hm4
                  obtain ⟨rfl, hw4⟩ := hm4
                  have HW : Hid _ := hw2.trans (branches_err (m := m3) H40.out hbr)
                  clear hbr hw2
                  go_wp2_with fail
                  go_roundg 0
                  case measure => omega
                  case rel => exact .inr ⟨er, rfl, HW.out, hw4, (hf2.trans hf3).trans hf4⟩
              · have t40 : (byteAt s q2.pos == 40) = false := by simpa using h40
                simp only [h40, t40, if_false] at hT
                have HR : Hid (Bz.knot s (Bz.chain s n) g p = .ok (a, q2)) := by
                  unfold Hid Bz.knot; rw [HA.out]; simp only; rw [HP2.out]; simp only; rw [hw2.trans (branches_end h40)]
                clear h40 t40 hw2
                go_wp2_with fail
                refine hT.mono ?_
                rintro e w3 ⟨rfl, hr3, hf3⟩
                go_wp2_with fail
                go_ret2
                exact AtPost.ok HR.out rfl hr3 (hf2.trans hf3)
            · have HR : Hid (Bz.knot s (Bz.chain s n) g p = .error er) := by
                unfold Hid Bz.knot; rw [HA.out]; simp only; rw [HP2.out]; simp only; rw [hw2]
              clear hw2
              go_wp2_with fail
              go_ret2
              exact AtPost.error _ HR.out rfl hwr2 hf2
        · rw [hra] at hRA
          have HRA : Hid _ := hra
          clear hra
          have hRi : ∀ k2, _ := fun k2 => ring_any (hr.drewN k2) hs oq.pos a haq oq.atoms (by have := oq.bonds; have := oq.pos; omega) oq.rings
          have HRi : Hid _ := hRi
          clear hRi
          go_wp2_with fail
          refine hRA.mono ?_
          rintro e w2 ⟨rfl, k2, rfl⟩
          clear hRA
          go_wp2_with fail
          refine (HRi.out k2).mono ?_
          rintro e w3 ⟨hm3, hf3⟩
          cases hri : ring s a q with
          | ok r =>
            rw [hri] at hm3
            obtain ⟨rfl, hr3⟩ := hm3
            obtain ⟨o3, h31, h32⟩ := ring_wf hri oq haq
            have HW : Hid _ := hw.trans (ringsOf_go (m := m') HRA.out hri)
            clear hri hw
            go_wp2_with fail
            go_roundg (s.size - r.pos + 1)
            case measure => have := o3.pos; omega
            case rel => exact .inl ⟨m', r, rfl, HW.out, by have := o3.pos; omega, Nat.le_refl _, hr3, o3, by omega, by omega, (hf.drewN k2).trans hf3⟩
          | error er =>
            rw [hri] at hm3
            obtain ⟨rfl, hw3⟩ := hm3
            have HW : Hid _ := hw.trans (ringsOf_err (m := m') HRA.out hri)
            clear hri hw
            go_wp2_with fail
            go_roundg 0
            case measure => omega
            case rel => exact .inr ⟨er, rfl, HW.out, hw3, (hf.drewN k2).trans hf3⟩
      · have HR : Hid (Bz.knot s (Bz.chain s n) g p = .error er) := by
          unfold Hid Bz.knot; rw [HA.out]; simp only; rw [hw]
        clear hw
        go_wp2_with fail
        refine wp_loop_rounds 1 ?_
        rw [rounds_succ]
        go_wp2_with fail
        go_ret2
        exact AtPost.error _ HR.out rfl hwr hf
end
section
variable {w : World} {B : Nat} {s : ByteArray} {p : St}
def LinkAt (w : World) (B : Nat) (s : ByteArray) (whole : R St) (rest : Nat → Nat → St → R St) (lo : Nat) (k : Nat) (va v : Value) (wr : World) : Prop :=
  (∃ m q, ∃ a : Nat, va = .int .i64 a ∧ v = .bool true ∧ whole = rest m a q ∧ s.size - q.pos < m ∧ s.size - q.pos + 1 ≤ k ∧ Rd wr B s q ∧ Ok s q ∧ a < q.atoms.length ∧ lo ≤ q.pos ∧ Fr B w wr) ∨
  (∃ er, ∃ x : Int, va = .int .i64 x ∧ v = .bool false ∧ whole = .error er ∧ Wrong wr B er ∧ Fr B w wr)

theorem linked_go {s : ByteArray} {c : Hung → St → R St} {a m b : Nat} {q r : St} (h1 : q.pos < s.size ∧ byteAt s q.pos ≠ 41) (h2 : Bz.linkedKnot s c a q = .ok (b, r)) : Bz.linked s c (m + 1) a q = Bz.linked s c m b r := by
  rw [Bz.linked, if_pos h1, h2]
theorem linked_err {s : ByteArray} {c : Hung → St → R St} {a m : Nat} {q : St} {e : Int × Int} (h1 : q.pos < s.size ∧ byteAt s q.pos ≠ 41) (h2 : Bz.linkedKnot s c a q = .error e) : Bz.linked s c (m + 1) a q = .error e := by
  rw [Bz.linked, if_pos h1, h2]
theorem linked_end {s : ByteArray} {c : Hung → St → R St} {a m : Nat} {q : St} (h1 : ¬ (q.pos < s.size ∧ byteAt s q.pos ≠ 41)) : Bz.linked s c (m + 1) a q = .ok q := by
  rw [Bz.linked, if_neg h1]

set_option maxRecDepth 100000 in
set_option maxHeartbeats 2000000 in
theorem chain_step {n : Nat} (hC : ChainW s n) (hs : s.size ≤ 160) : ChainW s (n + 1) := by
  intro w B g p h o hg hn
  have hB := h.lt
  have hA := knot_any hC hs (h.alloc (.cells #[.int .u8 g.mark, .int .i64 g.spot, .int .i64 g.atom] 92)) o g hg (by omega)
  have f0 := (Fr.refl B w).allocL hB (.cells #[.int .u8 g.mark, .int .i64 g.spot, .int .i64 g.atom] 92)
  have HC : Hid _ := hC
  unfold hungV at hA ⊢
  go_enter Tryz.func55, Tryz.ntmps55
  go_wp2_with fail
  refine hA.mono ?_
  rintro e w1 ⟨hm, hf1⟩
  clear hA hC
  cases ha : Bz.knot s (Bz.chain s n) g p with
  | error er =>
    rw [ha] at hm
    obtain ⟨⟨v, rfl⟩, hw1⟩ := hm
    have HR : Hid (Bz.chain s (n + 1) g p = .error er) := by unfold Hid; rw [Bz.chain, ha]
    clear ha
    go_wp2_with fail
    refine wp_loop_rounds 1 ?_
    rw [rounds_succ]
    go_wp2_with fail
    go_ret
    exact StPost.error HR.out rfl hw1 (f0.trans hf1)
  | ok x =>
    obtain ⟨a, p1⟩ := x
    rw [ha] at hm
    obtain ⟨rfl, hr1⟩ := hm
    simp only at hr1
    obtain ⟨o1, ha1, hp1, hl1⟩ := knot_wf (chain_wf s n) ha o
    have HR : Hid (Bz.chain s (n + 1) g p = Bz.linked s (Bz.chain s n) (s.size + 1) a p1) := by unfold Hid; rw [Bz.chain, ha]
    clear ha
    go_wp2_with fail
    go_loopg [5, 6] (s.size + 2) (fun k va v wr => LinkAt w B s (Bz.linked s (Bz.chain s n) (s.size + 1) a p1) (Bz.linked s (Bz.chain s n)) p1.pos k va v wr)
    case atStart => exact .inl ⟨s.size + 1, p1, a, rfl, rfl, rfl, by omega, by omega, hr1, o1, ha1, Nat.le_refl _, f0.trans hf1⟩
    case round =>
      rcases hrel with ⟨m, q, b, rfl, rfl, hw, hm1, hk, hr, oq, haq, hlo, hf⟩ | ⟨er, x, rfl, rfl, hw, hwr, hf⟩
      · obtain ⟨m', rfl⟩ : ∃ m', m = m' + 1 := ⟨m - 1, by omega⟩
        have hEn := ended_any hr oq.pos
        by_cases hlt : q.pos < s.size
        · have hd : (!decide (q.pos < s.size)) = false := by simp [hlt]
          rw [hd] at hEn
          clear hd
          have hPk : ∀ k2, _ := fun k2 => peek0 (hr.drewN k2) hs oq.pos
          have HPk : Hid _ := hPk
          clear hPk
          by_cases h41 : byteAt s q.pos = 41
          · have HW : Hid _ := HR.out.trans (hw.trans (linked_end (m := m') (a := b) (c := Bz.chain s n) (q := q) (by simp [h41])))
            rw [h41] at HPk
            clear hw h41
            go_wp2_with fail
            refine hEn.mono ?_
            rintro e w2 ⟨rfl, k2, rfl⟩
            clear hEn
            go_wp2_with fail
            refine (HPk.out k2).mono ?_
            rintro e w3 ⟨rfl, k3, rfl⟩
            go_wp2_with fail
            go_ret
            exact StPost.ok HW.out rfl (hr.drewN _) (hf.drewN _)
          · have t41 : (byteAt s q.pos != 41) = true := by simpa using h41
            have hL : ∀ k2, _ := fun k2 => linkedKnot_any (n := n) hs (hr.drewN k2) oq b haq (fun w g' q' hr' oq' hg' hp' => knot_any HC.out hs hr' oq' g' hg' (by omega))
            have HL : Hid _ := hL
            have H41 : Hid _ := (⟨hlt, h41⟩ : q.pos < s.size ∧ byteAt s q.pos ≠ 41)
            clear hL h41
            generalize byteAt s q.pos = c at HPk t41
            go_wp2_with fail
            refine hEn.mono ?_
            rintro e w2 ⟨rfl, k2, rfl⟩
            clear hEn
            go_wp2_with fail
            refine (HPk.out k2).mono ?_
            rintro e w3 ⟨rfl, k3, rfl⟩
            rw [World.drewN_drewN]
            go_wp2_with fail
            refine (HL.out (k2 + k3)).mono ?_
            rintro e w4 ⟨hm4, hf4⟩
            cases hlk : Bz.linkedKnot s (Bz.chain s n) b q with
            | ok y =>
              obtain ⟨b2, r⟩ := y
              rw [hlk] at hm4
              obtain ⟨rfl, hr4⟩ := hm4
              simp only at hr4
              obtain ⟨o4, h40, h42, h43⟩ := linkedKnot_wf (chain_wf s n) hlk oq haq
              have HW : Hid _ := hw.trans (linked_go (m := m') H41.out hlk)
              clear hlk hw
              go_wp2_with fail
              go_roundg (s.size - r.pos + 1)
              case measure => have := o4.pos; omega
              case rel => exact .inl ⟨m', r, b2, rfl, rfl, HW.out, by have := o4.pos; omega, Nat.le_refl _, hr4, o4, h40, by omega, (hf.drewN _).trans hf4⟩
            | error er =>
              rw [hlk] at hm4
              obtain ⟨⟨v, rfl⟩, hw4⟩ := hm4
              have HW : Hid _ := hw.trans (linked_err (m := m') H41.out hlk)
              clear hlk hw
              go_wp2_with fail
              go_roundg 0
              case measure => omega
              case rel => exact .inr ⟨er, v, rfl, rfl, HW.out, hw4, (hf.drewN _).trans hf4⟩
        · have hd : (!decide (q.pos < s.size)) = true := by simp [hlt]
          rw [hd] at hEn
          have HW : Hid _ := HR.out.trans (hw.trans (linked_end (m := m') (a := b) (c := Bz.chain s n) (q := q) (by simp [hlt])))
          clear hd hw
          go_wp2_with fail
          refine hEn.mono ?_
          rintro e w2 ⟨rfl, k2, rfl⟩
          clear hEn
          go_wp2_with fail
          go_ret
          exact StPost.ok HW.out rfl (hr.drewN _) (hf.drewN _)
      · have HW : Hid _ := HR.out.trans hw
        clear hw
        go_wp2_with fail
        go_ret
        exact StPost.error HW.out rfl hwr hf

theorem chain_any (hs : s.size ≤ 160) : ∀ n, ChainW s n
  | 0 => fun _ _ _ _ _ _ _ h => absurd h (Nat.not_lt_zero _)
  | n + 1 => chain_step (chain_any hs n) hs
end
section
variable {w : World} {B : Nat} {s : ByteArray} {p : St}
theorem missing_bd (l : List Int) (n : Int) (hn : 0 ≤ n) (hx : ∀ x ∈ l, 0 ≤ x ∧ x ≤ 9) : 0 ≤ missing l n ∧ missing l n ≤ 9 := by
  unfold missing
  split
  · rename_i v hv
    have h1 := List.find?_some hv
    have h2 := hx v (List.mem_of_find?_eq_some hv)
    simp at h1
    omega
  · omega

theorem implied_bd (a : Atm) (n : Int) (hn : 0 ≤ n) : 0 ≤ implied a n ∧ implied a n ≤ 9 := by
  unfold implied
  split
  · split <;> omega
  · exact missing_bd _ _ hn (valences_len a.el a.ch).2

def withHy (p : St) : St := { p with atoms := p.atoms.mapIdx (withHydrogens p.bonds) }

theorem withHy_wf (o : Ok s p) (hs : s.size ≤ 160) : Ok s (withHy p) := by
  have hmem : ∀ a ∈ p.atoms.mapIdx (withHydrogens p.bonds), ∃ i b, p.atoms[i]? = some b ∧ a = withHydrogens p.bonds i b := by
    intro a ha
    obtain ⟨i, hi⟩ := List.mem_iff_getElem?.1 ha
    rw [List.getElem?_mapIdx] at hi
    cases hb : p.atoms[i]? with
    | none => rw [hb] at hi; cases hi
    | some b => rw [hb] at hi; simp at hi; exact ⟨i, b, hb, hi.symm⟩
  refine ⟨o.pos, by simp [withHy]; exact o.atoms, o.bonds, ?_, o.ords, ?_, ?_⟩
  · intro n o' ho
    obtain ⟨fa, h1, h2⟩ := o.rings n o' ho
    exact ⟨fa, h1, by simp [withHy]; exact h2⟩
  · intro a ha
    obtain ⟨i, b, hb, rfl⟩ := hmem a ha
    unfold withHydrogens
    split
    · exact o.hys b (List.mem_of_getElem? hb)
    · exact implied_bd b _ (sum_bound o hs i).1
  · intro a ha
    obtain ⟨i, b, hb, rfl⟩ := hmem a ha
    have := o.aros b (List.mem_of_getElem? hb)
    unfold withHydrogens
    split
    · exact this
    · exact this

theorem firstWrong_at (l : List Bnd) : ∀ (r : List Atm) (i : Nat), (wrongAt l i r = none ∧ firstWrong l i r = none) ∨ ∃ k a, wrongAt l i r = some (i + k) ∧ r[k]? = some a ∧ firstWrong l i r = some a
  | [], i => .inl ⟨rfl, rfl⟩
  | a :: r, i => by
    cases hw : Bz.wrong l i a
    · rcases firstWrong_at l r (i + 1) with ⟨h1, h2⟩ | ⟨k, b, h1, h2, h3⟩
      · exact .inl ⟨by rw [wrongAt, hw]; exact h1, by rw [firstWrong, hw]; exact h2⟩
      · exact .inr ⟨k + 1, b, by rw [wrongAt, hw, if_neg (by decide), h1]; congr 1; omega, h2, by rw [firstWrong, hw]; exact h3⟩
    · exact .inr ⟨0, a, by rw [wrongAt, hw]; rfl, rfl, by rw [firstWrong, hw]; rfl⟩

def valencesOk (p : St) : R St := match firstWrong p.bonds 0 (withHy p).atoms with
  | some a => .error (6, (a.pl : Int))
  | none => .ok (withHy p)

set_option maxRecDepth 100000 in
set_option maxHeartbeats 2000000 in
theorem valencesRight_any (h : Rd w B s p) (o : Ok s p) (hs : s.size ≤ 160) (hne : 0 < p.atoms.length) :
    Calls Tryz.prog 59 #[.pointer (some ⟨B, 0, none⟩)] w (StPost w B s (valencesOk p)) := by
  have hSH := setHydrogens_any h o hs hne
  go_enter Tryz.func59, Tryz.ntmps59
  go_wp2_with fail
  refine hSH.mono ?_
  rintro e w1 ⟨rfl, hr1', hf1⟩
  have hr1 : Rd w1 B s (withHy p) := hr1'
  clear hr1'
  have o1 := withHy_wf o hs
  have hFW := firstWrong_any hr1 o1 hs
  have hB1 := hr1.lt
  clear hSH
  go_wp2_with fail
  refine hFW.mono ?_
  rintro e w2 ⟨hm, hb⟩
  clear hFW
  rcases firstWrong_at p.bonds (withHy p).atoms 0 with ⟨h1, h2⟩ | ⟨k, a, h1, h2, h3⟩
  · have HV : Hid (valencesOk p = .ok (withHy p)) := by unfold Hid valencesOk; rw [h2]
    have hm' : e = .returned (.tuple #[.int .i64 0, .bool false]) := by
      have hh : wrongAt (withHy p).bonds 0 (withHy p).atoms = none := h1
      rw [hh] at hm; exact hm
    subst hm'
    clear hm h1 h2
    go_wp2_with fail
    go_ret
    exact StPost.ok HV.out rfl (Rd.below hr1 hb) (hf1.trans (Fr.below hB1 hb))
  · have HV : Hid (valencesOk p = .error (6, (a.pl : Int))) := by unfold Hid valencesOk; rw [h3]
    have hm' : e = .returned (.tuple #[.int .i64 (k : Nat), .bool true]) := by
      have hh : wrongAt (withHy p).bonds 0 (withHy p).atoms = some (0 + k) := h1
      rw [hh, Nat.zero_add] at hm; exact hm
    subst hm'
    have hr2 := Rd.below hr1 hb
    obtain ⟨g, cap, hA, hg⟩ := hr2.atI h2
    have hk : k < (withHy p).atoms.length := (List.getElem?_eq_some_iff.1 h2).1
    have hk' : (k : Int) < ((withHy p).atoms.length : Int) := by omega
    have hn1 := o1.atoms
    have q0 := hA.sl
    have q4 := hA.c4
    have hfa := fail_any hr2.drew 6 (a.pl : Int)
    clear hm h1 h2 h3 hA
    generalize (withHy p).atoms.length = nn at *
    go_wp2_with fail
    go_region_with (go_at_call 57; refine hfa.mono ?_; rintro e w' ⟨rfl, hw, hf6⟩)
    all_goals
      go_wp2_with fail
      go_ret
      exact StPost.error HV.out rfl hw (((hf1.trans (Fr.below hB1 hb)).drew).trans hf6)

theorem start_ok (s : ByteArray) : Ok s Bz.start := ⟨Nat.zero_le _, by simp [Bz.start], by simp [Bz.start], by intro n o h; simp [Bz.start] at h, by simp [Bz.start], by simp [Bz.start], by simp [Bz.start]⟩

/-- What stands behind the chain. -/
def finish (s : ByteArray) (p : St) : R St :=
  if p.pos < s.size then .error (2, (p.pos : Int))
  else if leftmost p.rings s.size 100 < s.size then .error (4, ((leftmost p.rings s.size 100 : Nat) : Int))
  else valencesOk p

def wholeR (s : ByteArray) : R St := match Bz.chain s (s.size + 1) ⟨0, 0, -1⟩ Bz.start with
  | .error e => .error e
  | .ok p => finish s p

theorem chain_ne {s : ByteArray} {n : Nat} {g : Hung} {p q : St} (h : Bz.chain s n g p = .ok q) (o : Ok s p) : 0 < q.atoms.length := by
  cases n with
  | zero => simp [Bz.chain] at h
  | succ n =>
    unfold Bz.chain at h
    split at h
    · cases h
    · rename_i k p1 hk
      obtain ⟨o1, h1, h2, h3⟩ := knot_wf (chain_wf s n) hk o
      obtain ⟨o2, h4, h5⟩ := linked_wf (chain_wf s n) _ h o1 h1
      omega

set_option maxRecDepth 100000 in
set_option maxHeartbeats 2000000 in
theorem whole_any (h : Rd w B s Bz.start) (hs : s.size ≤ 160) :
    Calls Tryz.prog 31 #[.pointer (some ⟨B, 0, none⟩)] w (StPost w B s (wholeR s)) := by
  have hCh := chain_any hs (s.size + 1) w B ⟨0, 0, -1⟩ Bz.start h (start_ok s) (.inl rfl) (by omega)
  unfold hungV at hCh
  simp only at hCh
  go_enter Tryz.func31, Tryz.ntmps31
  go_wp2_with fail
  refine hCh.mono ?_
  rintro e w1 ⟨hm, hf1⟩
  clear hCh
  cases hc : Bz.chain s (s.size + 1) ⟨0, 0, -1⟩ Bz.start with
  | error er =>
    rw [hc] at hm
    obtain ⟨rfl, hw⟩ := hm
    have HR : Hid (wholeR s = .error er) := by unfold Hid wholeR; rw [hc]
    clear hc
    go_wp2_with fail
    go_ret
    exact StPost.error HR.out rfl hw hf1
  | ok q =>
    rw [hc] at hm
    obtain ⟨rfl, hr1⟩ := hm
    have HR : Hid (wholeR s = finish s q) := by unfold Hid wholeR; rw [hc]
    obtain ⟨oq, _, _⟩ := chain_wf s _ _ _ _ (start_ok s) (.inl rfl) hc
    have hne := chain_ne hc (start_ok s)
    clear hc
    have hEn := ended_any hr1 oq.pos
    by_cases hlt : q.pos < s.size
    · have hd : (!decide (q.pos < s.size)) = false := by simp [hlt]
      rw [hd] at hEn
      have HF : Hid (finish s q = .error (2, (q.pos : Int))) := by unfold Hid finish; rw [if_pos hlt]
      clear hd
      have qp := hr1.pos
      go_wp2_with fail
      refine hEn.mono ?_
      rintro e w2 ⟨rfl, k2, rfl⟩
      clear hEn
      have hfa := fail_any (hr1.drewN (k2 + 1)) 2 (q.pos : Int)
      go_wp2_with fail
      go_region_with (go_at_call 57; refine hfa.mono ?_; rintro e w' ⟨rfl, hw, hf6⟩)
      all_goals
        go_wp2_with fail
        go_ret
        exact StPost.error (HR.out.trans HF.out) rfl hw ((hf1.drewN _).trans hf6)
    · have hd : (!decide (q.pos < s.size)) = true := by simp [hlt]
      rw [hd] at hEn
      clear hd
      go_wp2_with fail
      refine hEn.mono ?_
      rintro e w2 ⟨rfl, k2, rfl⟩
      clear hEn
      have hRC := ringsClosed_any (hr1.drewN k2) hs
      unfold RcPost at hRC
      by_cases hle : leftmost q.rings s.size 100 < s.size
      · simp only [if_pos hle] at hRC
        have HF : Hid (finish s q = .error (4, ((leftmost q.rings s.size 100 : Nat) : Int))) := by unfold Hid finish; rw [if_neg hlt, if_pos hle]
        clear hle hlt
        go_wp2_with fail
        refine hRC.mono ?_
        rintro e w3 ⟨rfl, hw, hf3⟩
        go_wp2_with fail
        go_ret
        exact StPost.error (HR.out.trans HF.out) rfl hw ((hf1.drewN _).trans hf3)
      · simp only [if_neg hle] at hRC
        have HF : Hid (finish s q = valencesOk q) := by unfold Hid finish; rw [if_neg hlt, if_neg hle]
        clear hle hlt
        go_wp2_with fail
        refine hRC.mono ?_
        rintro e w3 ⟨rfl, hr3, hf3⟩
        clear hRC
        have hVR := valencesRight_any hr3 oq hs hne
        go_wp2_with fail
        refine hVR.mono ?_
        rintro e w4 ⟨hm, hf4⟩
        clear hVR
        have HFF : Hid _ := HR.out.trans HF.out
        cases hv : valencesOk q with
        | ok r =>
          rw [hv] at hm HFF
          obtain ⟨rfl, hr4⟩ := hm
          clear hv
          go_wp2_with fail
          go_ret
          exact StPost.ok HFF.out rfl hr4 (((hf1.drewN _).trans hf3).trans hf4)
        | error er =>
          rw [hv] at hm HFF
          obtain ⟨rfl, hw4⟩ := hm
          clear hv
          go_wp2_with fail
          go_ret
          exact StPost.error HFF.out rfl hw4 (((hf1.drewN _).trans hf3).trans hf4)
end
theorem wpList_build {P : Program} {ops : Array Oper} {rest : List Oper} {op : Oper} {a : Act} {w : World} {Q : Exit → Act → World → Prop} (hgd : op.guard = none) (t : TypeId) (parts : Array (Nat × Operand)) (ho : op.op = .build t parts) (vals : Array (Nat × Value)) (hv : (parts.map fun (i, x) => (i, a.eval x)) = vals) (v : Value)
    (hr : (Instr.build t vals).run P w = .ok v w) (h : wpList P ops Q rest (a.put op.dst v) w) : wpList P ops Q (op :: rest) a w :=
  wpList_plain hgd fun _ hK => by
    unfold Oper.wp execOp
    simp only [ho, hv, Sem.run_bind, Sem.run_pure, hr, Result.andThen_ok]
    exact hK _ _ h

theorem wpList_alloc {P : Program} {ops : Array Oper} {rest : List Oper} {op : Oper} {a : Act} {w : World} {Q : Exit → Act → World → Prop} (hgd : op.guard = none) (t : TypeId) (ho : op.op = .alloc t) (v : Value) (w' : World)
    (hr : (Instr.alloc t true (.tuple #[])).run P w = .ok v w') (h : wpList P ops Q rest (a.put op.dst v) w') : wpList P ops Q (op :: rest) a w :=
  wpList_plain hgd fun _ hK => by
    unfold Oper.wp execOp
    simp only [ho, Sem.run_bind, Sem.run_pure, hr, Result.andThen_ok]
    exact hK _ _ h

def readerList (s : ByteArray) : List Value := [.string s, .int .i64 0] ++ List.replicate 24 (.int .u32 0) ++ [.slice none 0 0, .slice none 0 0, .int .i64 0, .int .i64 0] ++ ringList (fun _ => none) 100

theorem build_reader (s : ByteArray) (w : World) : (Instr.build 97 #[(0, .agg #[.string s, .int .i64 0])]).run Tryz.prog w = .ok (.agg (readerList s).toArray) w := by kernel_rfl
theorem alloc_reader (w : World) : (Instr.alloc 97 true (.tuple #[])).run Tryz.prog w = .ok (.pointer (some ⟨w.heap.size, 0, none⟩)) (w.alloc (.cells (readerList ⟨#[]⟩).toArray 97)) := by kernel_rfl
theorem Tryz.sizeReader : (Tryz.prog.info? 97).map (·.size) = some 530 := by kernel_rfl

theorem readerList_len (s : ByteArray) : (readerList s).length = 530 := by
  unfold readerList
  simp only [List.length_append, List.length_replicate, ringList_len]
  rfl

theorem readerList_one (s : ByteArray) : ((readerList s).toArray).all (·.oneCell') = true := by
  have h1 : ∀ n, ∀ v ∈ ringList (fun _ => none) n, v.oneCell' = true := by
    intro n
    induction n with
    | zero => intro v hv; simp [ringList] at hv
    | succ n ih =>
      intro v hv
      rw [ringList] at hv
      rcases List.mem_append.1 hv with hv | hv
      · exact ih v hv
      · simp [opnCells] at hv
        rcases hv with rfl | rfl | rfl <;> rfl
  apply all_oneCell_toArray
  intro v hv
  unfold readerList at hv
  simp only [List.mem_append, List.mem_cons, List.mem_replicate] at hv
  rcases hv with ((hv | hv) | hv) | hv
  · rcases hv with rfl | rfl | hv
    · rfl
    · rfl
    · cases hv
  · rw [hv.2]; rfl
  · rcases hv with rfl | rfl | rfl | rfl | hv
    · rfl
    · rfl
    · rfl
    · rfl
    · cases hv
  · exact h1 100 v hv

theorem readerList_at (s : ByteArray) : (readerList s)[0]? = some (.string s) ∧ (readerList s)[1]? = some (.int .i64 0) ∧ (∀ k, k < 24 → (readerList s)[2 + k]? = some (.int .u32 0)) ∧
    (readerList s)[26]? = some (.slice none 0 0) ∧ (readerList s)[27]? = some (.slice none 0 0) ∧ (readerList s)[28]? = some (.int .i64 0) ∧ (readerList s)[29]? = some (.int .i64 0) ∧
    ∀ j, j < 500 → (readerList s)[30 + j]? = (ringList (fun _ => none) 100)[j]? := by
  unfold readerList
  refine ⟨rfl, rfl, ?_, rfl, rfl, rfl, rfl, ?_⟩
  · intro k hk
    rw [List.getElem?_append_left (by simp; omega), List.getElem?_append_left (by simp; omega), List.getElem?_append_right (by simp)]
    show (List.replicate 24 (Value.int .u32 0))[2 + k - 2]? = _
    rw [Nat.add_sub_cancel_left, List.getElem?_replicate, if_pos hk]
  · intro j _
    rw [List.getElem?_append_right (by simp)]
    show (ringList (fun _ => none) 100)[30 + j - 30]? = _
    rw [Nat.add_sub_cancel_left]

/-- The reader as it begins. -/
theorem rd_start (s : ByteArray) (w : World) : Rd (((w.alloc (.cells (readerList ⟨#[]⟩).toArray 97))).setCells w.heap.size 0 (readerList s)) w.heap.size s Bz.start := by
  have hin : ∀ (j : Nat), j < 530 → ((w.alloc (.cells (readerList ⟨#[]⟩).toArray 97)).setCells w.heap.size 0 (readerList s)).cell? ⟨w.heap.size, j, none⟩ = (readerList s)[j]? := by
    intro j hj
    have := World.cell?_setCells_in w.heap.size (readerList s) 0 (w.alloc (.cells (readerList ⟨#[]⟩).toArray 97)) (by
      intro i hi
      rw [readerList_len] at hi
      simp only [Nat.zero_add, World.cell?_alloc_new]
      simp
      rw [readerList_len]
      exact hi) j (by rw [readerList_len]; exact hj)
    simp only [Nat.zero_add] at this
    rw [this, List.getElem?_eq_getElem]
  obtain ⟨h0, h1, h2, h3, h4, h5, h6, h7⟩ := readerList_at s
  refine ⟨by rw [hin _ (by omega)]; exact h0, by rw [hin _ (by omega)]; exact h1, fun k hk => ⟨0, by rw [hin _ (by omega)]; exact h2 k hk, by omega, ?_⟩,
    ⟨_, by rw [hin _ (by omega)]; exact h3, World.ownsRow_nil _ _ _ _⟩, ⟨_, by rw [hin _ (by omega)]; exact h4, World.ownsRow_nil _ _ _ _⟩,
    ⟨_, by rw [hin _ (by omega)]; exact h5⟩, ⟨_, by rw [hin _ (by omega)]; exact h6⟩, ?_, ?_⟩
  · intro j _
    simp [Bz.start, bonded]
  · intro n j v hn hv
    have hj : j < 5 := by have := (List.getElem?_eq_some_iff.1 hv).1; rwa [opnCells_length] at this
    rw [hin _ (by omega), Nat.add_assoc, h7 _ (by omega), ringList_get _ 100 n j hn hj]
    exact hv
  · intro i
    rw [World.frozen?_setCells]
    simp

def zeroMol : Array Value := #[.int .u32 0, .int .u32 0, .int .u32 0, .int .u32 0, .int .u32 0, .int .u32 0, .int .u32 0, .int .u32 0, .int .u32 0, .int .u32 0, .int .u32 0, .int .u32 0, .int .u32 0, .int .u32 0, .int .u32 0, .int .u32 0, .int .u32 0, .int .u32 0, .int .u32 0, .int .u32 0, .int .u32 0, .int .u32 0, .int .u32 0, .int .u32 0, .slice none 0 0, .slice none 0 0]

theorem alloc_mol (w : World) : (Instr.alloc 69 true (.tuple #[])).run Tryz.prog w = .ok (.pointer (some ⟨w.heap.size, 0, none⟩)) (w.alloc (.cells zeroMol 69)) := by kernel_rfl
theorem build_mol (w : World) : (Instr.build 69 #[]).run Tryz.prog w = .ok (.agg zeroMol) w := by kernel_rfl
theorem Tryz.sizeMol : (Tryz.prog.info? 69).map (·.size) = some 26 := by kernel_rfl

theorem mol_there {wx : World} (L : Nat) (h : ∀ j, j < 26 → ∃ v, wx.cell? ⟨L, j, none⟩ = some v) (hf : ∀ j, wx.frozen? ⟨L, j, none⟩ = false) : wx.there L 0 26 := by
  intro j hj
  obtain ⟨v, hv⟩ := h j hj
  rw [Nat.zero_add]
  exact ⟨by rw [hv]; rfl, hf j⟩

theorem zeroMol_get (j : Nat) (hj : j < 26) : ∃ v, zeroMol[j]? = some v := by
  have : zeroMol.size = 26 := rfl
  exact ⟨zeroMol[j], Array.getElem?_eq_getElem (by omega)⟩

theorem there_new (w : World) : (w.alloc (.cells zeroMol 69)).there w.heap.size 0 26 := mol_there _ (fun j hj => by
  obtain ⟨v, hv⟩ := zeroMol_get j hj
  exact ⟨v, by rw [World.cell?_alloc_new]; exact hv⟩) (fun j => by simp)

theorem below_setCells {B b : Nat} {a : World} (hb : B ≤ b) : ∀ (vs : List Value) (o : Nat) (w : World), Below B a w → Below B a (w.setCells b o vs)
  | [], _, _, h => h
  | v :: r, o, _, h => below_setCells hb r (o + 1) _ (h.setCell hb v)

theorem mol_stored {wx : World} {L : Nat} (cs : List Value) (hl : cs.length = 26) (ht : wx.there L 0 26) : (loadVar 69 ⟨L, 0, none⟩).run Tryz.prog (wx.setCells L 0 cs) = .ok (.agg cs.toArray) (wx.setCells L 0 cs) :=
  run_loadVar_mid _ L 0 _ cs _ (World.rangeAt_setCells_same wx L 0 cs (by rw [hl]; exact ht)) Tryz.underlying69 rfl (by rw [hl]; exact Tryz.sizeMol)

theorem zeroMol_one : zeroMol.all (·.oneCell') = true := by kernel_rfl

set_option maxRecDepth 100000 in
set_option maxHeartbeats 200000 in
theorem read_long (s : ByteArray) (w : World) (hs : 160 < s.size) (hm : s.size ≤ maxLen) :
    Calls Tryz.prog 22 #[.string s] w fun e w' => e = .returned (.tuple #[.agg zeroMol, .int .i64 1, .int .i64 0]) ∧ Below w.heap.size w w' := by
  unfold maxLen at hm
  have hlt : (160 : Int) < (s.size : Int) := by omega
  have HT : Hid ((w.alloc (.cells zeroMol 69)).there w.heap.size 0 26) := there_new w
  have HB : Hid (Below w.heap.size w ((w.alloc (.cells zeroMol 69)).setCells w.heap.size 0 zeroMol.toList)) := below_setCells (Nat.le_refl _) _ _ _ ((Below.refl _ _).alloc (Nat.le_refl _) _)
  have HLD := mol_stored (wx := w.alloc (.cells zeroMol 69)) (L := w.heap.size) zeroMol.toList rfl HT.out
  go_enter Tryz.func22, Tryz.ntmps22
  go_upto_region 1 with (refine wpList_alloc rfl 69 rfl _ _ (alloc_mol _) ?_)
  go_upto_region 2 with fail
  go_wp2_with (first | (refine wpList_build rfl 69 #[] rfl #[] (by simp) (.agg zeroMol) (build_mol _) ?_) | (refine wpList_store_mid rfl 69 (.tmp 2) (.tmp 9) rfl w.heap.size 0 zeroMol (by rfl) (by rfl) HT.out Tryz.sizeMol zeroMol_one ?_))
  refine bodyPost_ret (v := .tuple #[.agg zeroMol, .int .i64 1, .int .i64 0]) ?_ rfl ⟨rfl, HB.out⟩
  simp [results, Tryz.results22, asAddr, HLD]
section
variable {w : World} {B : Nat} {s : ByteArray} {p : St}
/-- The cells of the molecule within the reader: the graph's, and the two lists. -/
theorem Rd.molCells (h : Rd w B s p) : ∃ ns : List Value, ∃ av bv, ns.length = 24 ∧ (∀ v ∈ ns, v.oneCell' = true) ∧ w.rangeAt B 2 (ns ++ [av, bv]) ∧ w.ownsRow (B + 1) 124 6 av p.atoms.length (p.atoms.flatMap atmCells) ∧
    w.ownsRow (B + 1) 102 4 bv p.bonds.length (p.bonds.flatMap pbCells) := by
  obtain ⟨av, hav, oa⟩ := h.atoms
  obtain ⟨bv, hbv, ob⟩ := h.bonds
  have hn : ∀ n, n ≤ 24 → ∃ ns : List Value, ns.length = n ∧ (∀ v ∈ ns, v.oneCell' = true) ∧ ∀ j v, ns[j]? = some v → w.cell? ⟨B, 2 + j, none⟩ = some v := by
    intro n
    induction n with
    | zero => intro _; exact ⟨[], rfl, by simp, by simp⟩
    | succ n ih =>
      intro hn
      obtain ⟨ns, h1, h2, h3⟩ := ih (by omega)
      obtain ⟨m, hm, _, _⟩ := h.near n (by omega)
      refine ⟨ns ++ [.int .u32 m], by simp [h1], ?_, ?_⟩
      · intro v hv
        rcases List.mem_append.1 hv with hv | hv
        · exact h2 v hv
        · simp at hv; subst hv; rfl
      · intro j v hj
        by_cases e : j < n
        · rw [List.getElem?_append_left (by omega)] at hj
          exact h3 j v hj
        · rw [List.getElem?_append_right (by omega), h1] at hj
          have : j = n := by
            have := (List.getElem?_eq_some_iff.1 hj).1
            simp at this
            omega
          subst this
          simp at hj
          subst hj
          exact hm
  obtain ⟨ns, h1, h2, h3⟩ := hn 24 (Nat.le_refl _)
  refine ⟨ns, av, bv, h1, h2, ?_, oa, ob⟩
  intro j v hj
  by_cases e : j < 24
  · rw [List.getElem?_append_left (by omega)] at hj
    exact h3 j v hj
  · rw [List.getElem?_append_right (by omega), h1] at hj
    have hj2 : j - 24 < 2 := by have := (List.getElem?_eq_some_iff.1 hj).1; simpa using this
    by_cases e2 : j = 24
    · subst e2; simp at hj; subst hj; exact hav
    · have : j = 25 := by omega
      subst this; simp at hj; subst hj; exact hbv

/-- What Read hands on of a text that is right. -/
structure ReadOk (w w' : World) (q : St) (ns : List Value) (av bv : Value) : Prop where
  len : ns.length = 24
  one : ∀ v ∈ ns, v.oneCell' = true
  atoms : w'.ownsRow w.heap.size 124 6 av q.atoms.length (q.atoms.flatMap atmCells)
  bonds : w'.ownsRow w.heap.size 102 4 bv q.bonds.length (q.bonds.flatMap pbCells)
  below : Below w.heap.size w w'

theorem ownsRow_setCellsBelow {base b : Nat} {e : TypeId} {size : Nat} {v : Value} {n : Nat} {xs : List Value} (hb : b < base) : ∀ (vs : List Value) (o : Nat) (w : World), w.ownsRow base e size v n xs → (w.setCells b o vs).ownsRow base e size v n xs
  | [], _, _, h => h
  | u :: r, o, _, h => ownsRow_setCellsBelow hb r (o + 1) _ (ownsRow_setCell_below h (by simpa using hb) u)

theorem oneCell_slice {w : World} {base : Nat} {e : TypeId} {size : Nat} {v : Value} {n : Nat} {xs : List Value} (h : w.ownsRow base e size v n xs) : v.oneCell' = true := by
  obtain ⟨ao, cap, rfl⟩ := ownsRow_shape h
  rfl

theorem frame_below {w w1 : World} {L : Nat} (hL : L = w.heap.size) {B : Nat} (hB : B = L + 1) (o o' : Obj) (cs : List Value) (h : Fr B (((w.alloc o).alloc o').setCells B 0 cs) w1) (hr : ∀ k, Mine (((w.alloc o).alloc o').setCells B 0 cs) B k → B ≤ k) : Below w.heap.size w w1 := by
  subst hL hB
  have h0 : Below w.heap.size w (((w.alloc o).alloc o').setCells (w.heap.size + 1) 0 cs) := below_setCells (by omega) _ _ _ (((Below.refl _ _).alloc (Nat.le_refl _) _).alloc (by simp) _)
  have h1 := h0.size
  refine ⟨h.os.trans h0.os, h.tape.trans h0.tape, h.output.trans h0.output, Nat.le_trans h0.size h.size, fun k hk => ?_⟩
  rw [h.block k (by omega) (fun e => by have := hr k e; omega)]
  exact h0.block k hk

set_option maxRecDepth 100000 in
set_option maxHeartbeats 1000000 in
theorem read_ok (s : ByteArray) (w : World) (hs : s.size ≤ 160) (q : St) (hq : wholeR s = .ok q) :
    Calls Tryz.prog 22 #[.string s] w fun e w' => ∃ ns av bv, e = .returned (.tuple #[.agg (ns ++ [av, bv]).toArray, .int .i64 0, .int .i64 0]) ∧ ReadOk w w' q ns av bv := by
  have hlt : ¬ (160 : Int) < (s.size : Int) := by omega
  have hR := rd_start s (w.alloc (.cells zeroMol 69))
  have hsz : (w.alloc (.cells zeroMol 69)).heap.size = w.heap.size + 1 := by simp
  rw [hsz] at hR
  have hW := whole_any hR hs
  have HTh : Hid (((w.alloc (.cells zeroMol 69)).alloc (.cells (readerList ⟨#[]⟩).toArray 97)).there (w.heap.size + 1) 0 530) := by
    intro j hj
    have e : (w.alloc (.cells zeroMol 69)).heap.size = w.heap.size + 1 := hsz
    rw [← e, Nat.zero_add]
    refine ⟨?_, by simp⟩
    rw [World.cell?_alloc_new]
    simp
    rw [readerList_len]
    exact hj
  have HRd : Hid (Rd (((w.alloc (.cells zeroMol 69)).alloc (.cells (readerList ⟨#[]⟩).toArray 97)).setCells (w.heap.size + 1) 0 (readerList s)) (w.heap.size + 1) s Bz.start) := hR
  clear hR hsz
  go_enter Tryz.func22, Tryz.ntmps22
  go_upto_region 1 with (refine wpList_alloc rfl 69 rfl _ _ (alloc_mol _) ?_)
  go_upto_region 3 with fail
  go_upto_region 4 with (first | (refine wpList_build rfl 97 #[(0, .tmp 11)] rfl #[(0, .agg #[.string s, .int .i64 0])] (by simp [Act.eval]) (.agg (readerList s).toArray) (build_reader s _) ?_; simp only [Act.put, List.setIfInBounds_toArray, List.set_cons_zero, List.set_cons_succ]) | (refine wpList_alloc rfl 97 rfl _ _ (alloc_reader _) ?_; simp only [Act.put, List.setIfInBounds_toArray, List.set_cons_zero, List.set_cons_succ]; have tokS : True := trivial) | (have _t := tokS; go_must (refine wpList_store_mid rfl 97 (.tmp 5) (.tmp 12) rfl (w.heap.size + 1) 0 (readerList s).toArray (by simp [Act.eval]) (by simp [Act.eval]) (by simp only [List.size_toArray, readerList_len]; exact HTh.out) (by simp only [List.size_toArray, readerList_len]; exact Tryz.sizeReader) (readerList_one s) ?_); simp only [Act.put]; clear tokS))
  go_wp2_with fail
  refine hW.mono ?_
  rintro e w1 ⟨hm, hf1⟩
  clear hW
  rw [hq] at hm
  obtain ⟨rfl, hr1⟩ := hm
  have hbel : Below w.heap.size w w1 := frame_below rfl rfl _ _ _ hf1 (fun k hk => (HRd.out.mine hk).1)
  have hL0 : ∀ j, w1.cell? ⟨w.heap.size, j, none⟩ = zeroMol[j]? ∧ w1.frozen? ⟨w.heap.size, j, none⟩ = false := by
    intro j
    have hnm : ¬ Mine (((w.alloc (.cells zeroMol 69)).alloc (.cells (readerList ⟨#[]⟩).toArray 97)).setCells (w.heap.size + 1) 0 (readerList s)) (w.heap.size + 1) w.heap.size := fun e => by have := (HRd.out.mine e).1; omega
    have hlt0 : w.heap.size < (((w.alloc (.cells zeroMol 69)).alloc (.cells (readerList ⟨#[]⟩).toArray 97)).setCells (w.heap.size + 1) 0 (readerList s)).heap.size := by
      have := (below_setCells (B := 0) (Nat.zero_le (w.heap.size + 1)) (readerList s) 0 _ (Below.refl 0 ((w.alloc (.cells zeroMol 69)).alloc (.cells (readerList ⟨#[]⟩).toArray 97)))).size
      simp at this
      omega
    rw [hf1.cell hlt0 hnm, hf1.frozen hlt0 hnm, World.frozen?_setCells, World.cell?_setCells_out _ _ _ _ _ (by intro e; simp at e)]
    rw [World.cell?_alloc_lt _ _ _ (by simp), World.cell?_alloc_new, World.frozen?_alloc_past _ _ _ (by simp), World.frozen?_alloc_new]
    exact ⟨rfl, rfl⟩
  have HTL : Hid (w1.there w.heap.size 0 26) := mol_there _ (fun j hj => by obtain ⟨v, hv⟩ := zeroMol_get j hj; exact ⟨v, (hL0 j).1.trans hv⟩) (fun j => (hL0 j).2)
  obtain ⟨ns, av, bv, h1, h2, h3, h4, h5⟩ := hr1.molCells
  have hlen : (ns ++ [av, bv]).length = 26 := by simp [h1]
  have hone : ∀ v ∈ ns ++ [av, bv], v.oneCell' = true := by
    intro v hv
    rcases List.mem_append.1 hv with hv | hv
    · exact h2 v hv
    · simp at hv
      rcases hv with rfl | rfl
      · exact oneCell_slice h4
      · exact oneCell_slice h5
  have HRG : Hid (w1.rangeAt (w.heap.size + 1) 2 (ns ++ [av, bv])) := h3
  have HLD := mol_stored (wx := w1) (L := w.heap.size) (ns ++ [av, bv]) hlen HTL.out
  have HFIN : Hid (ReadOk w (w1.setCells w.heap.size 0 (ns ++ [av, bv])) q ns av bv) :=
    ⟨h1, h2, ownsRow_mono (ownsRow_setCellsBelow (by omega) _ _ _ h4) (by omega), ownsRow_mono (ownsRow_setCellsBelow (by omega) _ _ _ h5) (by omega), below_setCells (Nat.le_refl _) _ _ _ hbel⟩
  have HONE : Hid _ := all_oneCell_toArray hone
  clear h3 h4 h5 hL0 hq hone
  generalize hcs : ns ++ [av, bv] = cs at *
  have HCS : Hid (ns ++ [av, bv] = cs) := hcs
  clear hcs h1 h2
  go_upto_region 6 with fail
  go_wp2_with (first | (refine wpList_load_mid rfl 69 (.tmp 22) rfl (w.heap.size + 1) 2 (by simp [Act.eval]) cs _ HRG.out Tryz.underlying69 rfl (by rw [hlen]; exact Tryz.sizeMol) ?_; simp only [Act.put, List.setIfInBounds_toArray, List.set_cons_zero, List.set_cons_succ]; have tokT : True := trivial) | (have _t := tokT; refine wpList_store_mid rfl 69 (.tmp 2) (.tmp 23) rfl w.heap.size 0 cs.toArray (by simp [Act.eval]) (by simp [Act.eval]) (by simp only [List.size_toArray, hlen]; exact HTL.out) (by simp only [List.size_toArray, hlen]; exact Tryz.sizeMol) HONE.out ?_; simp only [Act.put]; clear tokT))
  refine bodyPost_ret (v := .tuple #[.agg cs.toArray, .int .i64 0, .int .i64 0]) ?_ rfl ⟨ns, av, bv, by rw [HCS.out], HFIN.out⟩
  simp [results, Tryz.results22, asAddr, HLD]
end
theorem bracket_nz {s : ByteArray} {i : Nat} {er : Int × Int} (h : Bz.bracket s i = .error er) : er.1 ≠ 0 := by
  unfold Bz.bracket at h
  simp only [] at h
  split at h <;> cases h
  simp

theorem atom_nz {s : ByteArray} {p : St} {g : Hung} {er : Int × Int} (h : Bz.atom s g p = .error er) : er.1 ≠ 0 := by
  unfold Bz.atom at h
  simp only [] at h
  split at h
  · split at h <;> cases h <;> simp
  · split at h
    · cases h; simp
    split at h
    · cases h; simp
    split at h
    · rename_i e he
      cases h
      split at he
      · exact bracket_nz he
      · cases he
    · cases h

theorem bondEnd_nz {s : ByteArray} {p : St} {a : Nat} {er : Int × Int} (h : Bz.bondEnd s a p = .error er) : er.1 ≠ 0 := by
  unfold Bz.bondEnd at h
  simp only [] at h
  split at h
  · split at h <;> cases h
    simp
  · cases h

theorem link_nz {s : ByteArray} {p : St} {a : Nat} {er : Int × Int} (h : Bz.link s a p = .error er) : er.1 ≠ 0 := by
  unfold Bz.link at h
  split at h
  · cases h
  · exact bondEnd_nz h

theorem ringNumber_nz {s : ByteArray} {i : Nat} {er : Int × Int} (h : Bz.ringNumber s i = .error er) : er.1 ≠ 0 := by
  unfold Bz.ringNumber at h
  repeat' split at h
  all_goals first | (cases h; done) | (cases h; simp)

theorem closeRing_nz {a b : Hung} {k : Nat} {p : St} {er : Int × Int} (h : Bz.closeRing a b k p = .error er) : er.1 ≠ 0 := by
  unfold Bz.closeRing at h
  simp only [] at h
  repeat' split at h
  all_goals first | (cases h; done) | (cases h; simp)

theorem ring_nz {s : ByteArray} {p : St} {a : Nat} {er : Int × Int} (h : Bz.ring s a p = .error er) : er.1 ≠ 0 := by
  unfold Bz.ring at h
  split at h
  · rename_i e he; cases h; exact bondEnd_nz he
  split at h
  · rename_i e he; cases h; exact ringNumber_nz he
  split at h
  · cases h
  · exact closeRing_nz h

theorem ringsOf_nz {s : ByteArray} {a : Nat} {er : Int × Int} : ∀ (n : Nat) {p : St}, Bz.ringsOf s a n p = .error er → er.1 ≠ 0
  | 0, _, h => by cases h
  | n + 1, p, h => by
    unfold Bz.ringsOf at h
    split at h
    · split at h
      · rename_i e he; cases h; exact ring_nz he
      · exact ringsOf_nz n h
    · cases h

/-- From place lo on a chain's errors have numbers. -/
def ChainNz (s : ByteArray) (c : Hung → St → R St) (lo : Nat) : Prop := ∀ g q er, Ok s q → HungOk g q → lo ≤ q.pos → c g q = .error er → er.1 ≠ 0

section
variable {s : ByteArray} {c : Hung → St → R St} {lo : Nat}
theorem branch_nz (hn : ChainNz s c lo) {a : Nat} {p : St} {er : Int × Int} (h : Bz.branch s c a p = .error er) (o : Ok s p) (ha : a < p.atoms.length) (hlo : lo ≤ p.pos) : er.1 ≠ 0 := by
  unfold Bz.branch at h
  split at h
  · rename_i e he; cases h; exact link_nz he
  · rename_i g q hq
    obtain ⟨o1, h1, _, h3⟩ := link_wf hq o ha
    split at h
    · rename_i e he; cases h; exact hn g q _ o1 h1 (by omega) he
    · split at h <;> cases h
      simp

theorem branches_nz (hc : ChainOk s c) (hn : ChainNz s c (lo + 1)) {a : Nat} {er : Int × Int} : ∀ (n : Nat) {p : St}, Bz.branches s c a n p = .error er → Ok s p → a < p.atoms.length → lo ≤ p.pos → er.1 ≠ 0
  | 0, _, h, _, _, _ => by cases h
  | n + 1, p, h, o, ha, hlo => by
    unfold Bz.branches at h
    split at h
    · rename_i h40
      have hlt : p.pos < s.size := lt_of_byteAt (by rw [h40]; decide)
      have o1 := o.step hlt
      split at h
      · rename_i e he; cases h; exact branch_nz hn he o1 ha (by simp; omega)
      · rename_i q hq
        obtain ⟨o2, h2, h3⟩ := branch_wf hc hq o1 ha
        exact branches_nz hc hn n h o2 (by simp at h3; omega) (by simp at h2; omega)
    · cases h

theorem knot_nz (hc : ChainOk s c) (hn : ChainNz s c (lo + 1)) {g : Hung} {p : St} {er : Int × Int} (h : Bz.knot s c g p = .error er) (o : Ok s p) (hlo : lo ≤ p.pos) : er.1 ≠ 0 := by
  unfold Bz.knot at h
  split at h
  · rename_i e he; cases h; exact atom_nz he
  · rename_i k q hq
    obtain ⟨o1, h1, h2, _⟩ := atom_wf hq o
    split at h
    · rename_i e he; cases h; exact ringsOf_nz _ he
    · rename_i q2 hq2
      obtain ⟨o2, h3, h4⟩ := ringsOf_wf _ hq2 o1 h1
      split at h
      · rename_i e he; cases h; exact branches_nz hc hn _ he o2 (by omega) (by omega)
      · cases h

theorem linkedKnot_nz (hc : ChainOk s c) (hn : ChainNz s c (lo + 1)) {a : Nat} {p : St} {er : Int × Int} (h : Bz.linkedKnot s c a p = .error er) (o : Ok s p) (ha : a < p.atoms.length) (hlo : lo ≤ p.pos) : er.1 ≠ 0 := by
  unfold Bz.linkedKnot at h
  split at h
  · rename_i e he; cases h; exact link_nz he
  · rename_i g q hq
    obtain ⟨o1, _, _, h3⟩ := link_wf hq o ha
    exact knot_nz hc hn h o1 (by omega)

theorem linked_nz (hc : ChainOk s c) (hn : ChainNz s c (lo + 1)) {er : Int × Int} : ∀ (n : Nat) {a : Nat} {p : St}, Bz.linked s c n a p = .error er → Ok s p → a < p.atoms.length → lo ≤ p.pos → er.1 ≠ 0
  | 0, _, _, h, _, _, _ => by cases h
  | n + 1, a, p, h, o, ha, hlo => by
    unfold Bz.linked at h
    split at h
    · split at h
      · rename_i e he; cases h; exact linkedKnot_nz hc hn he o ha hlo
      · rename_i k q hq
        obtain ⟨o1, h1, h2, _⟩ := linkedKnot_wf hc hq o ha
        exact linked_nz hc hn n h o1 h1 (by omega)
    · cases h
end
theorem chain_nz (s : ByteArray) : ∀ n lo, s.size < n + lo → ChainNz s (Bz.chain s n) lo
  | 0, lo, hl, _, q, _, o, _, hlo, _ => by have := o.pos; omega
  | n + 1, lo, hl, g, q, er, o, hg, hlo, h => by
    have hn := chain_nz s n (lo + 1) (by omega)
    unfold Bz.chain at h
    split at h
    · rename_i e he; cases h; exact knot_nz (chain_wf s n) hn he o hlo
    · rename_i k q2 hq
      obtain ⟨o1, h1, h2, _⟩ := knot_wf (chain_wf s n) hq o
      exact linked_nz (chain_wf s n) hn _ h o1 h1 (by omega)

theorem whole_nz {s : ByteArray} {er : Int × Int} (h : wholeR s = .error er) : er.1 ≠ 0 := by
  unfold wholeR at h
  split at h
  · rename_i e he; cases h; exact chain_nz s (s.size + 1) 0 (by omega) _ _ _ (start_ok s) (.inl rfl) (Nat.zero_le _) he
  · unfold finish valencesOk at h
    split at h
    · cases h; simp
    split at h
    · cases h; simp
    split at h <;> cases h
    simp

end Go.Proofs.YtcabaecbmkgclaaGreatDoor
