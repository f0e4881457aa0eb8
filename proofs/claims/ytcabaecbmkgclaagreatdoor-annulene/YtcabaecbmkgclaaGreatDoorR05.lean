/-
  What closeRing does.
  What the reader's ring does.
  What the reader's atom does.
-/
import Derived.Test.YtcabaecbmkgclaaGreatDoorR04
import Derived.Deep.DeepCutAuto
import Derived.Deep.RegionHeld3
namespace Go.Proofs.YtcabaecbmkgclaaGreatDoor
open Go.RowKit Bz
section
variable {w : World} {B : Nat} {s : ByteArray} {p : St}
def StPost (w : World) (B : Nat) (s : ByteArray) (r : R St) (e : Ending) (w' : World) : Prop :=
  (match r with
  | .ok q => e = .returned (.bool true) ∧ Rd w' B s q
  | .error er => e = .returned (.bool false) ∧ Wrong w' B er) ∧ Fr B w w'

theorem StPost.ok {w w' : World} {r : R St} {e : Ending} {q : St} (hr : r = .ok q) (he : e = .returned (.bool true)) (h1 : Rd w' B s q) (h2 : Fr B w w') : StPost w B s r e w' := by subst hr; exact ⟨⟨he, h1⟩, h2⟩
theorem StPost.error {w w' : World} {r : R St} {e : Ending} {er : Int × Int} (hr : r = .error er) (he : e = .returned (.bool false)) (h1 : Wrong w' B er) (h2 : Fr B w w') : StPost w B s r e w' := by subst hr; exact ⟨⟨he, h1⟩, h2⟩

/-- Two boxes of three cells behind the reader. -/
structure TwoBx (w wc : World) (B : Nat) (s : ByteArray) (p : St) (x y z x' y' z' : Value) : Prop where
  rd : RdN wc B s p w.heap.size
  b0 : B3 wc w.heap.size x y z
  b1 : B3 wc (w.heap.size + 1) x' y' z'
  fr : Fr B w wc

theorem twoBx_mk (h : Rd w B s p) (x y z x' y' z' : Value) (t t' : TypeId) (k : Nat) : TwoBx w (((w.alloc (.cells #[x, y, z] t)).alloc (.cells #[x', y', z'] t')).drewN k) B s p x y z x' y' z' := by
  have hB := h.lt
  refine ⟨(by repeat (first | with_reducible exact Rd.n h | with_reducible refine RdN.drewN ?_ _ | with_reducible refine RdN.drew ?_ | with_reducible refine RdN.setL ?_ (by simp) _ _ | with_reducible refine RdN.allocL ?_ (by simp; try omega) _ | with_reducible refine RdN.setPos ?_ _ _ (by go_num))), ⟨?_, ?_, ?_, ?_⟩, ⟨?_, ?_, ?_, ?_⟩, (by repeat (first | with_reducible exact Fr.refl _ _ | with_reducible refine Fr.drewN ?_ _ | with_reducible refine Fr.drew ?_ | with_reducible refine Fr.setPos ?_ _ | with_reducible refine Fr.setL ?_ (by simp) hB _ _ | with_reducible refine Fr.allocL ?_ hB _))⟩
  · simp [go_sem]
  · simp [go_sem]
  · simp [go_sem]
  · intro i; simp [go_sem]
  · simp [go_sem]
  · simp [go_sem]
  · simp [go_sem]
  · intro i; simp [go_sem]

theorem TwoBx.drewN {w wc : World} {x y z x' y' z' : Value} (h : TwoBx w wc B s p x y z x' y' z') (k : Nat) : TwoBx w (wc.drewN k) B s p x y z x' y' z' :=
  ⟨h.rd.drewN k, ⟨h.b0.c0, h.b0.c1, h.b0.c2, h.b0.fz⟩, ⟨h.b1.c0, h.b1.c1, h.b1.c2, h.b1.fz⟩, h.fr.drewN k⟩

theorem closeRing_eq (fm fs lm ls : Int) (fa la place : Nat) (p : St) (m : Bool) (hm : m = !(aro p fa && aro p la)) :
    closeRing ⟨fm, fs, fa⟩ ⟨lm, ls, la⟩ place p = if (lm == 58 && m) = true then .error (3, ls) else if (fm == 58 && lm == 0 && m) = true then .error (3, (place : Int))
      else if (fa : Int) = la ∨ bonded p.bonds fa la = true ∨ clash fm lm = true then .error (4, (place : Int)) else .ok (bind p fa la (order p (given fm lm) fa la) place) := by
  have e1 : (lm = 58 ∧ m = true) ↔ ((lm == 58 && m) = true) := by simp
  have e2 : (fm = 58 ∧ lm = 0 ∧ m = true) ↔ ((fm == 58 && lm == 0 && m) = true) := by simp [and_assoc]
  unfold closeRing
  simp only [Int.toNat_natCast]
  rw [← hm]
  by_cases h1 : lm = 58 ∧ m = true
  · rw [if_pos h1, if_pos (e1.1 h1)]
  · rw [if_neg h1, if_neg (fun e => h1 (e1.2 e))]
    by_cases h2 : fm = 58 ∧ lm = 0 ∧ m = true
    · rw [if_pos h2, if_pos (e2.1 h2)]
    · rw [if_neg h2, if_neg (fun e => h2 (e2.2 e))]

set_option maxRecDepth 100000 in
set_option maxHeartbeats 2000000 in
theorem closeRing_any (h : Rd w B s p) (fm fs lm ls : Int) (fa la place : Nat) (ha : fa < p.atoms.length) (hb : la < p.atoms.length) (hn : p.atoms.length ≤ 24) (hbo : p.bonds.length ≤ 1000) :
    Calls Tryz.prog 135 #[.pointer (some ⟨B, 0, none⟩), hungV ⟨fm, fs, fa⟩, hungV ⟨lm, ls, la⟩, .int .i64 place] w (StPost w B s (closeRing ⟨fm, fs, fa⟩ ⟨lm, ls, la⟩ place p)) := by
  have hB := h.lt
  have HB2 : Hid (∀ o o' k, Calls Tryz.prog 154 #[.pointer (some ⟨B, 2, none⟩), .int .i64 fa, .int .i64 la] (((w.alloc o).alloc o').drewN k) fun e w' => e = .returned (.bool (aro p fa && aro p la)) ∧ w' = ((w.alloc o).alloc o').drewN k) := fun o o' k => both_any (((h.alloc o).alloc o').drewN k) fa la ha hb hn
  have HT : Hid (∀ k, TwoBx w (((w.alloc (.cells #[.int .u8 fm, .int .i64 fs, .int .i64 (fa : Int)] 92)).alloc (.cells #[.int .u8 lm, .int .i64 ls, .int .i64 (la : Int)] 92)).drewN k) B s p (.int .u8 fm) (.int .i64 fs) (.int .i64 (fa : Int)) (.int .u8 lm) (.int .i64 ls) (.int .i64 (la : Int))) := fun k => twoBx_mk h _ _ _ _ _ _ _ _ k
  generalize hX : (aro p fa && aro p la) = X at HB2
  obtain ⟨mixed, hmx⟩ : ∃ m, m = !X := ⟨_, rfl⟩
  obtain ⟨A, hA⟩ : ∃ A, A = (lm == 58 && mixed) := ⟨_, rfl⟩
  obtain ⟨A', hA'⟩ : ∃ A', A' = (fm == 58 && lm == 0 && mixed) := ⟨_, rfl⟩
  have HR : Hid (closeRing ⟨fm, fs, fa⟩ ⟨lm, ls, la⟩ place p = if A = true then .error (3, ls) else if A' = true then .error (3, (place : Int)) else if (fa : Int) = la ∨ bonded p.bonds fa la = true ∨ clash fm lm = true then .error (4, (place : Int))
      else .ok (bind p fa la (order p (given fm lm) fa la) place)) := by
    subst hA hA'
    exact closeRing_eq fm fs lm ls fa la place p mixed (by rw [hmx, hX])
  have HA : Hid (A = (lm == 58 && mixed)) := hA
  have HA' : Hid (A' = (fm == 58 && lm == 0 && mixed)) := hA'
  have HM : Hid (mixed = !X) := hmx
  clear hA hA' hX hmx
  unfold hungV
  simp only
  go_enter Tryz.func135, Tryz.ntmps135
  go_upto_region 1 with fail
  go_cut [9] (fun v wc => v = .bool mixed ∧ TwoBx w wc B s p (.int .u8 fm) (.int .i64 fs) (.int .i64 (fa : Int)) (.int .u8 lm) (.int .i64 ls) (.int .i64 (la : Int)))
  case first =>
    go_quiet ((go_at_call 154; exact Calls.quiet_of_same (HB2.out _ _ _)))
    go_wp2_with fail
    go_meet
    case rel => exact ⟨by rw [HM.out], HT.out _⟩
  case rest =>
    obtain ⟨rfl, T0⟩ := hcut
    clear HT HB2 HM
    have c10 := T0.b0.c0
    have c11 := T0.b0.c1
    have c12 := T0.b0.c2
    have c20 := T0.b1.c0
    have c21 := T0.b1.c1
    have c22 := T0.b1.c2
    go_upto_region 2 with fail
    go_cut [19] (fun v w2 => v = .bool A ∧ w2 = wc)
    case first =>
      by_cases hl : lm = 58
      · have tl : (lm == 58) = true := by simpa using hl
        clear hl
        rw [tl] at HA
        go_wp2_with fail
        go_meet
        case rel => exact ⟨by rw [HA.out]; rfl, rfl⟩
      · have tl : (lm == 58) = false := by simpa using hl
        clear hl
        rw [tl] at HA
        go_wp2_with fail
        go_meet
        case rel => exact ⟨by rw [HA.out]; rfl, rfl⟩
    case rest =>
      obtain ⟨rfl, rfl⟩ := hcut
      cases A
      · simp only [Bool.false_eq_true, if_false] at HR
        clear HA
        go_upto_region 4 with fail
        go_cut [34] (fun v w2 => v = .bool A' ∧ w2 = wc)
        case first =>
          by_cases hf : fm = 58
          · have tf : (fm == 58) = true := by simpa using hf
            by_cases hl : lm = 0
            · have tl : (lm == 0) = true := by simpa using hl
              clear hf hl
              rw [tf, tl] at HA'
              go_wp2_with fail
              go_meet
              case rel => exact ⟨by rw [HA'.out]; rfl, rfl⟩
            · have tl : (lm == 0) = false := by simpa using hl
              clear hf hl
              rw [tf, tl] at HA'
              go_wp2_with fail
              go_meet
              case rel => exact ⟨by rw [HA'.out]; rfl, rfl⟩
          · have tf : (fm == 58) = false := by simpa using hf
            clear hf
            rw [tf] at HA'
            go_wp2_with fail
            go_meet
            case rel => exact ⟨by rw [HA'.out]; rfl, rfl⟩
        case rest =>
          obtain ⟨rfl, rfl⟩ := hcut
          cases A'
          · simp only [Bool.false_eq_true, if_false] at HR
            clear HA'
            have hfa := fail_any T0.rd.rd 4 (place : Int)
            have HF : Hid (∀ k, Calls Tryz.prog 57 #[.pointer (some ⟨B, 28, none⟩), .int .i64 4, .int .i64 place] (wc.drewN k) fun r w' => r = .returned (.bool false) ∧ Wrong w' B (4, place) ∧ Fr B (wc.drewN k) w') := fun k => fail_any (T0.rd.rd.drewN k) 4 (place : Int)
            have HJ : Hid (∀ k, Calls Tryz.prog 64 #[.pointer (some ⟨B, 2, none⟩), .int .i64 fa, .int .i64 la] (wc.drewN k) fun e w' => e = .returned (.bool (bonded p.bonds fa la)) ∧ w' = wc.drewN k) := fun k => joined_any (T0.rd.rd.drewN k) fa la (by omega) (by omega)
            by_cases hfl : fa = la
            · have tfl : ((fa : Int) == (la : Int)) = true := by simp; omega
              rw [if_pos (.inl (by omega))] at HR
              have HFL : Hid (fa = la) := hfl
              clear hfl HF HJ
              go_wp2_with fail
              refine hfa.mono ?_
              rintro e w' ⟨rfl, hw, hf6⟩
              go_wp2_with fail
              go_ret
              exact StPost.error HR.out rfl hw (T0.fr.trans hf6)
            · have tfl : ((fa : Int) == (la : Int)) = false := by simp; omega
              clear hfa
              generalize hbd : bonded p.bonds fa la = bd at HJ HR
              cases bd
              · have HC : Hid (∀ w, Calls Tryz.prog 155 #[.int .u8 fm, .int .u8 lm] w fun e w' => e = .returned (.bool (clash fm lm)) ∧ w' = w) := fun w => clash_any fm lm w
                generalize hcl : clash fm lm = cl at HC HR
                cases cl
                · rw [if_neg (by simp; omega)] at HR
                  have HBD : Hid (fa ≠ la) := hfl
                  clear hbd hcl hfl
                  go_wp2_with fail
                  go_quiet ((go_at_call 64; exact Calls.quiet_of_same (HJ.out _)))
                  go_wp2_with fail
                  refine (HC.out _).mono ?_
                  rintro e w' ⟨rfl, rfl⟩
                  go_wp2_with fail
                  have n0 : ¬ Mine wc B w.heap.size := fun e => Nat.lt_irrefl _ (T0.rd.mine _ e)
                  have n1 : ¬ Mine wc B (w.heap.size + 1) := fun e => by have := T0.rd.mine _ e; omega
                  have HO : Hid (∀ k, Calls Tryz.prog 130 #[.pointer (some ⟨B, 0, none⟩), .int .u8 (given fm lm), .int .i64 fa, .int .i64 la] (wc.drewN k) fun e w' => e = .returned (.int .i64 (order p (given fm lm) fa la)) ∧ w' = wc.drewN k) := fun k => order_any (T0.rd.rd.drewN k) _ fa la ha hb hn
                  have HBi : Hid (∀ k, Calls Tryz.prog 129 #[.pointer (some ⟨B, 2, none⟩), .int .i64 fa, .int .i64 la, .int .i64 (order p (given fm lm) fa la), .int .i64 place] (wc.drewN k) fun e w' => e = .returned (.tuple #[]) ∧ Rd w' B s (bind p fa la (order p (given fm lm) fa la) place) ∧ Fr B (wc.drewN k) w' ∧
                      w'.cell? ⟨w.heap.size, 0, none⟩ = some (.int .u8 fm) ∧ w'.cell? ⟨w.heap.size, 2, none⟩ = some (.int .i64 fa) ∧ w'.cell? ⟨w.heap.size + 1, 0, none⟩ = some (.int .u8 lm) ∧ w'.cell? ⟨w.heap.size + 1, 2, none⟩ = some (.int .i64 la)) := by
                    intro k
                    refine (bind_any (T0.rd.rd.drewN k) fa la (order p (given fm lm) fa la) place (by omega) (by omega) HBD.out hbo).mono ?_
                    rintro e w' ⟨he, hr, hf⟩
                    have x0 := (T0.drewN k).b0.fr hf n0
                    have x1 := (T0.drewN k).b1.fr hf n1
                    exact ⟨he, hr, hf, x0.c0, x0.c2, x1.c0, x1.c2⟩
                  generalize hord : order p (given fm lm) fa la = od at HO HBi HR
                  generalize hgv : given fm lm = gv at HO
                  have HG : Hid (∀ w, Calls Tryz.prog 156 #[.int .u8 fm, .int .u8 lm] w fun e w' => e = .returned (.int .u8 gv) ∧ w' = w) := by
                    intro w
                    have := given_any fm lm w
                    rw [hgv] at this
                    exact this
                  clear hord hgv HF HJ HC HBD
                  go_region_held3 (fun w' => w'.cell? ⟨w.heap.size, 0, none⟩ = some (.int .u8 fm) ∧ w'.cell? ⟨w.heap.size, 2, none⟩ = some (.int .i64 fa) ∧ w'.cell? ⟨w.heap.size + 1, 0, none⟩ = some (.int .u8 lm) ∧ w'.cell? ⟨w.heap.size + 1, 2, none⟩ = some (.int .i64 la)) (go_keep) (first | (go_at_call 156; refine (HG.out _).mono ?_; rintro e w' ⟨rfl, rfl⟩) | (go_at_call 130; refine (HO.out _).mono ?_; rintro e w' ⟨rfl, rfl⟩) | (go_at_call 129; refine (HBi.out _).mono ?_; rintro e w' ⟨rfl, hr, hf, i0, i1, i2, i3⟩))
                  all_goals
                    go_wp2_with fail
                    go_ret
                    exact StPost.ok HR.out rfl hr ((T0.fr.drewN _).trans hf)
                · rw [if_pos (by simp)] at HR
                  clear hbd hcl hfl
                  go_wp2_with fail
                  go_quiet ((go_at_call 64; exact Calls.quiet_of_same (HJ.out _)))
                  go_wp2_with fail
                  refine (HC.out _).mono ?_
                  rintro e w' ⟨rfl, rfl⟩
                  go_wp2_with fail
                  refine (HF.out _).mono ?_
                  rintro e w' ⟨rfl, hw, hf6⟩
                  go_wp2_with fail
                  go_ret
                  exact StPost.error HR.out rfl hw ((T0.fr.drewN _).trans hf6)
              · rw [if_pos (by simp)] at HR
                clear hbd hfl
                go_wp2_with fail
                go_quiet ((go_at_call 64; exact Calls.quiet_of_same (HJ.out _)))
                go_wp2_with fail
                refine (HF.out _).mono ?_
                rintro e w' ⟨rfl, hw, hf6⟩
                go_wp2_with fail
                go_ret
                exact StPost.error HR.out rfl hw ((T0.fr.drewN _).trans hf6)
          · simp only [if_true] at HR
            have hfa := fail_any T0.rd.rd 3 (place : Int)
            go_wp2_with fail
            refine hfa.mono ?_
            rintro e w' ⟨rfl, hw, hf6⟩
            go_wp2_with fail
            go_ret
            exact StPost.error HR.out rfl hw (T0.fr.trans hf6)
      · simp only [if_true] at HR
        clear HA HA'
        have hfa := fail_any T0.rd.rd.drew 3 ls
        go_wp2_with fail
        go_region_with (go_at_call 57; refine hfa.mono ?_; rintro e w' ⟨rfl, hw, hf6⟩)
        all_goals
          go_wp2_with fail
          go_ret
          exact StPost.error HR.out rfl hw (T0.fr.drew.trans hf6)
end
section
variable {w : World} {B : Nat} {s : ByteArray} {p : St}
def set5 (w : World) (B i : Nat) (v0 v1 v2 v3 v4 : Value) : World :=
  ((((w.setCell ⟨B, i, none⟩ v0).setCell ⟨B, i + 1, none⟩ v1).setCell ⟨B, i + 2, none⟩ v2).setCell ⟨B, i + 3, none⟩ v3).setCell ⟨B, i + 4, none⟩ v4

theorem set5_other (w : World) (B i : Nat) (v0 v1 v2 v3 v4 : Value) (k : Nat) (hk : k < i ∨ i + 5 ≤ k) : (set5 w B i v0 v1 v2 v3 v4).cell? ⟨B, k, none⟩ = w.cell? ⟨B, k, none⟩ := by
  unfold set5
  rw [cell_set_ne (by omega), cell_set_ne (by omega), cell_set_ne (by omega), cell_set_ne (by omega), cell_set_ne (by omega)]

theorem set5_at (w : World) (B i : Nat) (v0 v1 v2 v3 v4 : Value) (hc : ∀ j, j < 5 → ∃ u, w.cell? ⟨B, i + j, none⟩ = some u) (j : Nat) (u : Value) (hj : [v0, v1, v2, v3, v4][j]? = some u) :
    (set5 w B i v0 v1 v2 v3 v4).cell? ⟨B, i + j, none⟩ = some u := by
  unfold set5
  match j, hj with
  | 0, hj =>
    simp at hj; subst hj
    obtain ⟨u, hu⟩ := hc 0 (by omega)
    rw [cell_set_ne (by omega), cell_set_ne (by omega), cell_set_ne (by omega), cell_set_ne (by omega)]
    exact World.cell?_setCell_same _ _ _ hu
  | 1, hj =>
    simp at hj; subst hj
    obtain ⟨u, hu⟩ := hc 1 (by omega)
    rw [cell_set_ne (by omega), cell_set_ne (by omega), cell_set_ne (by omega)]
    exact World.cell?_setCell_same _ _ _ (by rw [cell_set_ne (by omega)]; exact hu)
  | 2, hj =>
    simp at hj; subst hj
    obtain ⟨u, hu⟩ := hc 2 (by omega)
    rw [cell_set_ne (by omega), cell_set_ne (by omega)]
    exact World.cell?_setCell_same _ _ _ (by rw [cell_set_ne (by omega), cell_set_ne (by omega)]; exact hu)
  | 3, hj =>
    simp at hj; subst hj
    obtain ⟨u, hu⟩ := hc 3 (by omega)
    rw [cell_set_ne (by omega)]
    exact World.cell?_setCell_same _ _ _ (by rw [cell_set_ne (by omega), cell_set_ne (by omega), cell_set_ne (by omega)]; exact hu)
  | 4, hj =>
    simp at hj; subst hj
    obtain ⟨u, hu⟩ := hc 4 (by omega)
    exact World.cell?_setCell_same _ _ _ (by rw [cell_set_ne (by omega), cell_set_ne (by omega), cell_set_ne (by omega), cell_set_ne (by omega)]; exact hu)
  | j + 5, hj => simp at hj

theorem Rd.ringCell (h : Rd w B s p) (n : Nat) (hn : n < 100) (j : Nat) (hj : j < 5) : ∃ u, w.cell? ⟨B, 30 + n * 5 + j, none⟩ = some u := by
  have : j < (opnCells (p.rings n)).length := by rw [opnCells_length]; exact hj
  exact ⟨_, h.rings n j _ hn (List.getElem?_eq_getElem this)⟩

theorem Rd.setRing (h : Rd w B s p) (n : Nat) (hn : n < 100) (o : Option Opn) (v0 v1 v2 v3 v4 : Value) (hv : opnCells o = [v0, v1, v2, v3, v4]) : Rd (set5 w B (30 + n * 5) v0 v1 v2 v3 v4) B s { p with rings := setRing p.rings n o } := by
  have hc : ∀ k, k < 30 → (set5 w B (30 + n * 5) v0 v1 v2 v3 v4).cell? ⟨B, k, none⟩ = w.cell? ⟨B, k, none⟩ := fun k hk => set5_other _ _ _ _ _ _ _ _ _ (by omega)
  obtain ⟨va, ha, oa⟩ := h.atoms
  obtain ⟨vb, hb, ob⟩ := h.bonds
  refine ⟨by rw [hc _ (by omega)]; exact h.text, by rw [hc _ (by omega)]; exact h.pos, fun k hk => by rw [hc _ (by omega)]; exact h.near k hk,
    ⟨va, by rw [hc _ (by omega)]; exact ha, ?_⟩, ⟨vb, by rw [hc _ (by omega)]; exact hb, ?_⟩,
    by rw [hc _ (by omega)]; exact h.err, by rw [hc _ (by omega)]; exact h.plc, ?_, fun i => by unfold set5; simp only [World.frozen?_setCell]; exact h.free i⟩
  · unfold set5; exact ownsRow_setB (ownsRow_setB (ownsRow_setB (ownsRow_setB (ownsRow_setB oa _ _) _ _) _ _) _ _) _ _
  · unfold set5; exact ownsRow_setB (ownsRow_setB (ownsRow_setB (ownsRow_setB (ownsRow_setB ob _ _) _ _) _ _) _ _) _ _
  · intro m j v hm hj
    have hj5 : j < 5 := by have := (List.getElem?_eq_some_iff.1 hj).1; rwa [opnCells_length] at this
    by_cases e : m = n
    · subst e
      simp only [Bz.setRing, if_true, hv] at hj
      exact set5_at w B (30 + m * 5) v0 v1 v2 v3 v4 (fun j hj => h.ringCell m hn j hj) j v hj
    · simp only [Bz.setRing, e, if_false] at hj
      rw [set5_other _ _ _ _ _ _ _ _ _ (by omega)]
      exact h.rings m j v hm hj

theorem Fr.set5 {B : Nat} {a w : World} (h : Fr B a w) (i : Nat) (hi : 30 ≤ i) (v0 v1 v2 v3 v4 : Value) : Fr B a (set5 w B i v0 v1 v2 v3 v4) := by
  unfold Proofs.YtcabaecbmkgclaaGreatDoor.set5
  exact ((((h.setCell (.inl rfl) (fun _ => ⟨by simp; omega, by simp; omega⟩) _).setCell (.inl rfl) (fun _ => ⟨by simp; omega, by simp; omega⟩) _).setCell (.inl rfl) (fun _ => ⟨by simp; omega, by simp; omega⟩) _).setCell (.inl rfl) (fun _ => ⟨by simp; omega, by simp; omega⟩) _).setCell (.inl rfl) (fun _ => ⟨by simp; omega, by simp; omega⟩) _

theorem keep5 {w : World} {B L i : Nat} (hL : L ≠ B) (hl : L < w.heap.size) (v0 v1 v2 v3 v4 : Value) (o : Obj) (k : Nat) :
    ((((((w.setCell ⟨B, i, none⟩ v0).setCell ⟨B, i + 1, none⟩ v1).setCell ⟨B, i + 2, none⟩ v2).setCell ⟨B, i + 3, none⟩ v3).setCell ⟨B, i + 4, none⟩ v4).alloc o).drew.cell? ⟨L, k, none⟩ = w.cell? ⟨L, k, none⟩ := by
  have hne : ∀ (w : World) (j : Nat) (u : Value), (w.setCell ⟨B, j, none⟩ u).cell? ⟨L, k, none⟩ = w.cell? ⟨L, k, none⟩ := fun w j u => World.cell?_setCell_other w _ _ u (fun e => hL (by simpa using (congrArg Addr.block e).symm))
  rw [World.cell?_drew, World.cell?_alloc_lt _ _ _ (by simpa using hl), hne, hne, hne, hne, hne]

theorem ringNumber_lt {s : ByteArray} {i n j : Nat} (h : ringNumber s i = .ok (n, j)) : n < 100 := by
  unfold ringNumber at h
  split at h
  · split at h
    · split at h
      · rename_i _ h1 h2
        simp only [Except.ok.injEq, Prod.mk.injEq] at h
        have := (isDigit_iff _).1 h1
        have := (isDigit_iff _).1 h2
        omega
      · cases h
    · cases h
  · split at h
    · rename_i _ h1
      simp only [Except.ok.injEq, Prod.mk.injEq] at h
      have := (isDigit_iff _).1 h1
      omega
    · cases h

theorem bondEnd_ok {s : ByteArray} {a : Nat} {p q : St} {g : Hung} (h : bondEnd s a p = .ok (g, q)) (hp : p.pos ≤ s.size) :
    q.atoms = p.atoms ∧ q.bonds = p.bonds ∧ q.rings = p.rings ∧ p.pos ≤ q.pos ∧ q.pos ≤ s.size ∧ g.atom = (a : Int) := by
  unfold bondEnd at h
  simp only at h
  split at h
  · rename_i hs
    split at h
    · cases h
    · simp only [Except.ok.injEq, Prod.mk.injEq] at h
      obtain ⟨rfl, rfl⟩ := h
      have : p.pos < s.size := lt_of_byteAt (by intro e; rw [e] at hs; simp [isSign] at hs)
      exact ⟨rfl, rfl, rfl, by simp, by simp; omega, rfl⟩
  · simp only [Except.ok.injEq, Prod.mk.injEq] at h
    obtain ⟨rfl, rfl⟩ := h
    exact ⟨rfl, rfl, rfl, Nat.le_refl _, hp, rfl⟩

theorem ringNumber_pos {s : ByteArray} {i n j : Nat} (h : ringNumber s i = .ok (n, j)) : i < j ∧ j ≤ s.size := by
  unfold ringNumber at h
  split at h
  · split at h
    · split at h
      · rename_i _ h1 h2
        simp only [Except.ok.injEq, Prod.mk.injEq] at h
        have := digit_lt ((isDigit_iff _).1 h2)
        omega
      · cases h
    · cases h
  · split at h
    · rename_i _ h1
      simp only [Except.ok.injEq, Prod.mk.injEq] at h
      have := digit_lt ((isDigit_iff _).1 h1)
      omega
    · cases h

set_option maxRecDepth 100000 in
set_option maxHeartbeats 2000000 in
theorem ring_any (h : Rd w B s p) (hs : s.size ≤ 160) (hp : p.pos ≤ s.size) (a : Nat) (ha : a < p.atoms.length) (hn : p.atoms.length ≤ 24) (hbo : p.bonds.length ≤ 1000)
    (hri : ∀ n o, p.rings n = some o → ∃ fa : Nat, o.hung.atom = fa ∧ fa < p.atoms.length) :
    Calls Tryz.prog 104 #[.pointer (some ⟨B, 0, none⟩), .int .i64 a] w (StPost w B s (ring s a p)) := by
  have hB := h.lt
  have hBE := bondEnd_any h hs hp a ha hn
  go_enter Tryz.func104, Tryz.ntmps104
  go_wp2_with fail
  refine hBE.mono ?_
  rintro e w1 ⟨hm, hf1⟩
  cases hbe : bondEnd s a p with
  | error er =>
    rw [hbe] at hm
    obtain ⟨⟨g, rfl⟩, hw1⟩ := hm
    have HR : Hid (ring s a p = .error er) := by unfold Hid ring; rw [hbe]
    clear hbe hri hBE
    unfold hungV
    go_wp2_with fail
    go_ret
    refine StPost.error HR.out rfl ⟨?_, ?_⟩ (hf1.alloc (Nat.lt_of_lt_of_le hB hf1.size) _)
    · rw [World.cell?_alloc_lt _ _ _ (Nat.lt_of_lt_of_le hB hf1.size)]; exact hw1.err
    · rw [World.cell?_alloc_lt _ _ _ (Nat.lt_of_lt_of_le hB hf1.size)]; exact hw1.plc
  | ok x =>
    obtain ⟨g, q⟩ := x
    rw [hbe] at hm
    obtain ⟨rfl, hr1⟩ := hm
    simp only at hr1
    obtain ⟨qa, qb, qr, qp, qs, ga⟩ := bondEnd_ok hbe hp
    have HBE : Hid (bondEnd s a p = .ok (g, q)) := hbe
    rw [← qa] at ha hn hri
    rw [← qb] at hbo
    rw [← qr] at hri
    obtain ⟨gm, gs, gat⟩ := g
    simp only at ga
    subst ga
    have HQ : Hid (∀ n o, q.rings n = some o → ∃ fa : Nat, o.hung.atom = fa ∧ fa < q.atoms.length) := hri
    clear hbe hBE qa qb qr qp h hp hri
    have hB1 := hr1.lt
    have q1 := hr1.pos
    have b0 := b3_new w1 (.int .u8 gm) (.int .i64 gs) (.int .i64 (a : Int)) 92
    have n0 := hr1.notMine (.cells #[.int .u8 gm, .int .i64 gs, .int .i64 (a : Int)] 92)
    have r2 := hr1.alloc (.cells #[.int .u8 gm, .int .i64 gs, .int .i64 (a : Int)] 92)
    have f2 := hf1.alloc hB1 (.cells #[.int .u8 gm, .int .i64 gs, .int .i64 (a : Int)] 92)
    have hRN := ringNumber_any r2 hs qs
    unfold hungV
    simp only
    go_wp2_with fail
    refine hRN.mono ?_
    rintro e w2 ⟨hm, hf3⟩
    have x0 := b0.fr hf3 n0
    have m0 := hf3.notMine (by simp) n0
    have f3 := f2.trans hf3
    clear hRN
    cases hrn : ringNumber s q.pos with
    | error er =>
      rw [hrn] at hm
      obtain ⟨v, j, rfl, hr3, rfl, hj⟩ := hm
      have HR : Hid (ring s a p = .error (2, (j : Int))) := by unfold Hid ring; rw [HBE.out]; simp only; rw [hrn]
      clear hrn HBE
      have q3 := hr3.pos
      simp only at q3
      go_wp2_with fail
      go_region_with (go_at_call 57; refine (fail_any hr3.drew _ _).mono ?_; rintro e w' ⟨rfl, hw, hf6⟩)
      all_goals
        go_wp2_with fail
        go_ret
        exact StPost.error HR.out rfl hw (f3.drew.trans hf6)
    | ok y =>
      obtain ⟨n, j⟩ := y
      rw [hrn] at hm
      obtain ⟨rfl, hr3⟩ := hm
      simp only at hr3
      have hn100 := ringNumber_lt hrn
      have hn100' : (n : Int) < 100 := by omega
      have HRN : Hid (ringNumber s q.pos = .ok (n, j)) := hrn
      clear hrn
      have B2 := hr3.lt
      have z0 := hr3.free (30 + n * 5)
      have z1 := hr3.free (30 + n * 5 + 1)
      have z2 := hr3.free (30 + n * 5 + 2)
      have z3 := hr3.free (30 + n * 5 + 3)
      have z4 := hr3.free (30 + n * 5 + 4)
      have d0 := x0.c0
      have d1 := x0.c1
      have d2 := x0.c2
      have hL2 : w1.heap.size < w2.heap.size := x0.lt
      have hBL : B < w1.heap.size := hB1
      cases hrg : q.rings n with
      | none =>
        have HR : Hid (ring s a p = .ok { q with pos := j, rings := setRing q.rings n (some ⟨⟨gm, gs, a⟩, q.pos⟩) }) := by
          unfold Hid ring; rw [HBE.out]; simp only; rw [HRN.out]; simp only; rw [hrg]
        have hrr : ∀ jj v, (opnCells none)[jj]? = some v → w2.cell? ⟨B, 30 + n * 5 + jj, none⟩ = some v := by
          intro jj v hv
          have := hr3.rings n jj v hn100
          simp only [hrg] at this
          exact this hv
        have c0 : w2.cell? ⟨B, 30 + n * 5, none⟩ = some (.int .u8 0) := hrr 0 _ rfl
        have c1 := hrr 1 _ rfl
        have c2 := hrr 2 _ rfl
        have c3 := hrr 3 _ rfl
        have c4 := hrr 4 _ rfl
        have hfin := ((hr3.setRing n hn100 (some ⟨⟨gm, gs, a⟩, q.pos⟩) _ _ _ _ _ rfl).alloc (.cells #[.int .u8 0, .int .i64 0, .int .i64 0, .int .i64 0, .bool false] 94)).drew
        have hff := (((f3.set5 (30 + n * 5) (by omega) (.int .u8 gm) (.int .i64 gs) (.int .i64 (a : Int)) (.int .i64 (q.pos : Int)) (.bool true))).allocL hB (.cells #[.int .u8 0, .int .i64 0, .int .i64 0, .int .i64 0, .bool false] 94)).drew
        have hLB : w1.heap.size ≠ B := by omega
        unfold set5 at hfin hff
        have HF : Hid _ := hfin
        have HFF : Hid _ := hff
        clear hrr hrg HBE HRN hfin hff
        go_wp2_with fail
        go_region_held3 (fun w' => w'.cell? ⟨w1.heap.size, 0, none⟩ = some (.int .u8 gm) ∧ w'.cell? ⟨w1.heap.size, 1, none⟩ = some (.int .i64 gs) ∧ w'.cell? ⟨w1.heap.size, 2, none⟩ = some (.int .i64 a)) (first | with_reducible exact ⟨(keep5 hLB hL2 _ _ _ _ _ _ _).trans d0, (keep5 hLB hL2 _ _ _ _ _ _ _).trans d1, (keep5 hLB hL2 _ _ _ _ _ _ _).trans d2⟩ | go_keep) (fail)
        all_goals
          go_wp2_with fail
          go_ret
          exact StPost.ok HR.out rfl HF.out HFF.out
      | some o =>
        obtain ⟨fa, hfa, hfl⟩ := HQ.out n o hrg
        obtain ⟨⟨fm, fs, fat⟩, fpl⟩ := o
        simp only at hfa
        subst hfa
        have HR : Hid (ring s a p = closeRing ⟨fm, fs, fa⟩ ⟨gm, gs, a⟩ q.pos { q with pos := j, rings := setRing q.rings n none }) := by
          unfold Hid ring; rw [HBE.out]; simp only; rw [HRN.out]; simp only; rw [hrg]
        have hrr : ∀ jj v, (opnCells (some ⟨⟨fm, fs, fa⟩, fpl⟩))[jj]? = some v → w2.cell? ⟨B, 30 + n * 5 + jj, none⟩ = some v := by
          intro jj v hv
          have := hr3.rings n jj v hn100
          simp only [hrg] at this
          exact this hv
        have c0 : w2.cell? ⟨B, 30 + n * 5, none⟩ = some (.int .u8 fm) := hrr 0 _ rfl
        have c1 := hrr 1 _ rfl
        have c2 := hrr 2 _ rfl
        have c3 := hrr 3 _ rfl
        have c4 := hrr 4 _ rfl
        have hfin := (hr3.setRing n hn100 none _ _ _ _ _ rfl).alloc (.cells #[.int .u8 fm, .int .i64 fs, .int .i64 (fa : Int), .int .i64 (fpl : Int), .bool true] 94)
        have hff := (f3.set5 (30 + n * 5) (by omega) (.int .u8 0) (.int .i64 0) (.int .i64 0) (.int .i64 0) (.bool false)).allocL hB (.cells #[.int .u8 fm, .int .i64 fs, .int .i64 (fa : Int), .int .i64 (fpl : Int), .bool true] 94)
        have hcr := closeRing_any hfin fm fs gm gs fa a q.pos hfl ha hn hbo
        unfold hungV set5 at hcr
        unfold set5 at hff
        have HFF : Hid _ := hff
        clear hrr hrg HBE HRN hfin hff HQ
        go_wp2_with fail
        refine hcr.mono ?_
        rintro e w4 ⟨hm, hf4⟩
        cases hcl : closeRing ⟨fm, fs, fa⟩ ⟨gm, gs, a⟩ q.pos { q with pos := j, rings := setRing q.rings n none } with
        | ok r =>
          rw [hcl] at hm
          obtain ⟨rfl, hr4⟩ := hm
          have HCL : Hid _ := HR.out.trans hcl
          clear hcl
          go_wp2_with fail
          go_ret
          exact StPost.ok HCL.out rfl hr4 (HFF.out.trans hf4)
        | error er =>
          rw [hcl] at hm
          obtain ⟨rfl, hw4⟩ := hm
          have HCL : Hid _ := HR.out.trans hcl
          clear hcl
          go_wp2_with fail
          go_ret
          exact StPost.error HCL.out rfl hw4 (HFF.out.trans hf4)
end
/-- An atom as it is written, and where it ends. -/
def atomHead (s : ByteArray) (h : Hung) (p : St) : R (Atm × Nat) :=
  match element s (if byteAt s p.pos == 91 then p.pos + 1 else p.pos) with
  | none => if (byteAt s p.pos == 91) && full p then .error (5, (p.pos : Int)) else .error (2, ((if byteAt s p.pos == 91 then p.pos + 1 else p.pos : Nat) : Int))
  | some (el, ar, n) =>
    if h.mark = 58 ∧ ar = false then .error (3, h.spot)
    else if full p then .error (5, (p.pos : Int))
    else
      match (if byteAt s p.pos == 91 then bracket s ((if byteAt s p.pos == 91 then p.pos + 1 else p.pos) + n) else .ok (0, 0, (if byteAt s p.pos == 91 then p.pos + 1 else p.pos) + n)) with
      | .error e => .error e
      | .ok (ch, hy, j) => .ok (⟨el, ar, ch, hy, p.pos, byteAt s p.pos == 91⟩, j)

def atomTail (h : Hung) (p : St) (a : Atm) (j : Nat) : Nat × St :=
  let q : St := { p with pos := j, atoms := p.atoms ++ [a] }
  (p.atoms.length, if h.atom = -1 then q else bind q h.atom.toNat p.atoms.length (order q h.mark h.atom p.atoms.length) a.pl)

theorem atom_eq (s : ByteArray) (h : Hung) (p : St) : atom s h p = match atomHead s h p with
    | .error e => .error e
    | .ok (a, j) => .ok (atomTail h p a j) := by
  unfold atom atomHead
  simp only
  split
  · rename_i he; rw [he]; split <;> rfl
  · rename_i el ar n he
    rw [he]
    simp only
    split
    · rfl
    · split
      · rfl
      · split
        · rename_i e hb; rw [hb]
        · rename_i ch hy j hb; rw [hb]; rfl

section
variable {w : World} {B : Nat} {s : ByteArray} {p : St}
/-- The reader, the end that the atom hangs on, and the atom in its box. -/
structure AtA (w wc : World) (B : Nat) (s : ByteArray) (p : St) (g : Hung) (a : Atm) : Prop where
  rd : Rd wc B s p
  hb : B3 wc w.heap.size (.int .u8 g.mark) (.int .i64 g.spot) (.int .i64 g.atom)
  nh : ¬ Mine wc B w.heap.size
  bx : Bx wc (w.heap.size + 1) a
  nm : ¬ Mine wc B (w.heap.size + 1)
  fr : Fr B w wc

theorem AtA.step {wc w1 : World} {g : Hung} {a : Atm} {q : St} (h : AtA w wc B s p g a) (hr : Rd w1 B s q) (hf : Fr B wc w1) : AtA w w1 B s q g a :=
  ⟨hr, h.hb.fr hf h.nh, hf.notMine h.hb.lt h.nh, h.bx.fr hf h.nm, hf.notMine h.bx.lt h.nm, h.fr.trans hf⟩

theorem AtA.stepX {wc w1 : World} {g : Hung} {a a' : Atm} {q : St} (h : AtA w wc B s p g a) (hr : Rd w1 B s q) (hb : Bx w1 (w.heap.size + 1) a') (hf : FrX B (w.heap.size + 1) wc w1) : AtA w w1 B s q g a' :=
  ⟨hr, h.hb.same (hf.block _ h.hb.lt h.nh (by omega)), hf.notMine h.hb.lt h.nh, hb, hf.notMine h.bx.lt h.nm, h.fr.transX (by omega) hf⟩

theorem AtA.setBox {wc : World} {g : Hung} {a a' : Atm} (h : AtA w wc B s p g a) (i : Nat) (u : Value) (hb : Bx (wc.setCell ⟨w.heap.size + 1, i, none⟩ u) (w.heap.size + 1) a') : AtA w (wc.setCell ⟨w.heap.size + 1, i, none⟩ u) B s p g a' :=
  h.stepX (h.rd.setOther h.nm u) hb (((Fr.refl B wc).x _).set (Rd.ne_of_notMine h.nm) i u)

theorem ata_mk (h : Rd w B s p) (g : Hung) (t t' : TypeId) : AtA w ((w.alloc (.cells #[.int .u8 g.mark, .int .i64 g.spot, .int .i64 g.atom] t)).alloc (.cells #[.string ⟨#[]⟩, .bool false, .int .i64 0, .int .i64 0, .int .i64 p.pos, .bool false] t')) B s p g ⟨⟨#[]⟩, false, 0, 0, p.pos, false⟩ := by
  have hB := h.lt
  refine ⟨(h.alloc _).alloc _, ⟨?_, ?_, ?_, ?_⟩, ?_, ⟨?_, ?_, ?_, ?_, ?_, ?_, ?_⟩, ?_, (by repeat (first | with_reducible exact Fr.refl _ _ | with_reducible refine Fr.drewN ?_ _ | with_reducible refine Fr.drew ?_ | with_reducible refine Fr.setPos ?_ _ | with_reducible refine Fr.setL ?_ (by simp) hB _ _ | with_reducible refine Fr.allocL ?_ hB _))⟩
  · simp [go_sem]
  · simp [go_sem]
  · simp [go_sem]
  · intro i; simp [go_sem]
  · intro e
    have := ((h.n.allocL (Nat.le_refl _) _).allocL (by simp) _).mine _ e
    omega
  · simp [go_sem]
  · simp [go_sem]
  · simp [go_sem]
  · simp [go_sem]
  · simp [go_sem]
  · simp [go_sem]
  · intro i; simp [go_sem]
  · intro e
    have := ((h.n.allocL (Nat.le_refl _) _).allocL (by simp) _).mine _ e
    omega

def AtPost (w : World) (B : Nat) (s : ByteArray) (r : R (Nat × St)) (e : Ending) (w' : World) : Prop :=
  (match r with
  | .ok x => e = .returned (.tuple #[.int .i64 x.1, .bool true]) ∧ Rd w' B s x.2
  | .error er => (∃ v : Int, e = .returned (.tuple #[.int .i64 v, .bool false])) ∧ Wrong w' B er) ∧ Fr B w w'

theorem AtPost.ok {w w' : World} {r : R (Nat × St)} {e : Ending} {k : Nat} {q : St} (hr : r = .ok (k, q)) (he : e = .returned (.tuple #[.int .i64 k, .bool true])) (h1 : Rd w' B s q) (h2 : Fr B w w') : AtPost w B s r e w' := by subst hr; exact ⟨⟨he, h1⟩, h2⟩
theorem AtPost.error {w w' : World} {r : R (Nat × St)} {e : Ending} {er : Int × Int} (v : Int) (hr : r = .error er) (he : e = .returned (.tuple #[.int .i64 v, .bool false])) (h1 : Wrong w' B er) (h2 : Fr B w w') : AtPost w B s r e w' := by subst hr; exact ⟨⟨⟨v, he⟩, h1⟩, h2⟩

theorem head_none {g : Hung} {br : Bool} {i : Nat} (hbr : (byteAt s p.pos == 91) = br) (hi : (if br = true then p.pos + 1 else p.pos) = i) (he : element s i = none) :
    atomHead s g p = .error (if br && full p then (5, (p.pos : Int)) else (2, (i : Int))) := by
  unfold atomHead; rw [hbr, hi, he]; simp only; split <;> rfl
theorem head_bond {g : Hung} {br : Bool} {i n : Nat} {el : ByteArray} {ar : Bool} (hbr : (byteAt s p.pos == 91) = br) (hi : (if br = true then p.pos + 1 else p.pos) = i) (he : element s i = some (el, ar, n)) (h1 : g.mark = 58 ∧ ar = false) :
    atomHead s g p = .error (3, g.spot) := by
  unfold atomHead; rw [hbr, hi, he]; simp only; rw [if_pos h1]
theorem head_full {g : Hung} {br : Bool} {i n : Nat} {el : ByteArray} {ar : Bool} (hbr : (byteAt s p.pos == 91) = br) (hi : (if br = true then p.pos + 1 else p.pos) = i) (he : element s i = some (el, ar, n)) (h1 : ¬ (g.mark = 58 ∧ ar = false)) (hf : full p = true) :
    atomHead s g p = .error (5, (p.pos : Int)) := by
  unfold atomHead; rw [hbr, hi, he]; simp only; rw [if_neg h1, if_pos hf]
theorem head_plain {g : Hung} {i n : Nat} {el : ByteArray} {ar : Bool} (hbr : (byteAt s p.pos == 91) = false) (hi : p.pos = i) (he : element s i = some (el, ar, n)) (h1 : ¬ (g.mark = 58 ∧ ar = false)) (hf : full p = false) :
    atomHead s g p = .ok (⟨el, ar, 0, 0, p.pos, false⟩, i + n) := by
  subst hi
  unfold atomHead; rw [hbr]; simp only [Bool.false_eq_true, if_false]; rw [he]; simp only; rw [if_neg h1, hf]; rfl
theorem head_bracket {g : Hung} {i n : Nat} {el : ByteArray} {ar : Bool} (hbr : (byteAt s p.pos == 91) = true) (hi : p.pos + 1 = i) (he : element s i = some (el, ar, n)) (h1 : ¬ (g.mark = 58 ∧ ar = false)) (hf : full p = false) :
    atomHead s g p = match bracket s (i + n) with
      | .error e => .error e
      | .ok (ch, hy, j) => .ok (⟨el, ar, ch, hy, p.pos, true⟩, j) := by
  subst hi
  unfold atomHead; rw [hbr]; simp only [if_true]; rw [he]; simp only; rw [if_neg h1, hf]; rfl

theorem element_pos {s : ByteArray} {i n : Nat} {el : ByteArray} {ar : Bool} (he : element s i = some (el, ar, n)) : i + n ≤ s.size ∧ 0 < n := by
  unfold element at he
  simp only at he
  split at he
  · rename_i h; simp only [Option.some.injEq, Prod.mk.injEq] at he; obtain ⟨_, _, rfl⟩ := he; have := byte_lt h.2 (by decide); omega
  · split at he
    · rename_i h; simp only [Option.some.injEq, Prod.mk.injEq] at he; obtain ⟨_, _, rfl⟩ := he; have := byte_lt h.2 (by decide); omega
    · split at he
      · rename_i h; simp only [Option.some.injEq, Prod.mk.injEq] at he; obtain ⟨_, _, rfl⟩ := he; have := lt_of_byteAt (s := s) (i := i) (by omega); omega
      · split at he
        · rename_i h; simp only [Option.some.injEq, Prod.mk.injEq] at he; obtain ⟨_, _, rfl⟩ := he; have := lt_of_byteAt (s := s) (i := i) (by omega); omega
        · cases he

theorem head_room {g : Hung} {x : Atm × Nat} (hh : atomHead s g p = .ok x) (hn : p.atoms.length ≤ 24) : p.atoms.length < 24 := by
  have : full p = false := by
    cases hf : full p
    · rfl
    · unfold atomHead at hh
      split at hh
      · split at hh <;> cases hh
      · split at hh
        · cases hh
        · cases hh
  unfold full at this
  simp at this
  omega

/-- Behind the test: the atom stands in its box, or something is wrong. -/
def HeadAt (w : World) (B : Nat) (s : ByteArray) (p : St) (g : Hung) (v : Value) (wc : World) : Prop :=
  match atomHead s g p with
  | .ok x => v = .bool false ∧ AtA w wc B s { p with pos := x.2 } g x.1
  | .error er => v = .bool true ∧ Wrong wc B er ∧ Fr B w wc

set_option maxRecDepth 100000 in
set_option maxHeartbeats 2000000 in
theorem atom_any (h : Rd w B s p) (hs : s.size ≤ 160) (hp : p.pos ≤ s.size) (g : Hung) (hn : p.atoms.length ≤ 24) (hbo : p.bonds.length ≤ 1000) (hga : g.atom = -1 ∨ ∃ fa : Nat, g.atom = fa ∧ fa < p.atoms.length) :
    Calls Tryz.prog 102 #[.pointer (some ⟨B, 0, none⟩), hungV g] w (AtPost w B s (atom s g p)) := by
  have hB := h.lt
  have q0 := h.pos
  have A0 := ata_mk h g 92 124
  have hT := take1 A0.rd hs hp 91 91 rfl (by decide)
  unfold hungV
  go_enter Tryz.func102, Tryz.ntmps102
  go_wp2_with fail
  refine hT.mono ?_
  rintro e w1 ⟨rfl, hr1, hf1⟩
  have A1 := A0.step hr1 hf1
  clear hT A0 hr1 hf1
  generalize hbr : (byteAt s p.pos == 91) = br at *
  obtain ⟨i, hi⟩ : ∃ i, (if br = true then p.pos + 1 else p.pos) = i := ⟨_, rfl⟩
  have hpi : (if byteAt s p.pos = 91 then { p with pos := p.pos + 1 } else p) = { p with pos := i } := by
    subst hi hbr
    by_cases e : byteAt s p.pos = 91 <;> simp [e]
  have hisz : i ≤ s.size := by
    subst hi hbr
    split
    · rename_i e; have := byte_lt (s := s) (i := p.pos) (c := 91) (by simpa using e) (by decide); omega
    · exact hp
  rw [hpi] at A1
  have A2 := A1.setBox 5 (.bool br) (A1.bx.setBr _)
  simp only at A2
  have c5 := A1.bx.c5
  have f5 := A1.bx.fz 5
  have HI : Hid ((if br = true then p.pos + 1 else p.pos) = i) := hi
  have HBR : Hid ((byteAt s p.pos == 91) = br) := hbr
  clear hpi hi hbr A1
  go_upto_region 3 with fail
  go_cut [38] (fun v wc => HeadAt w B s p g v wc)
  case first =>
    cases hel : element s i with
    | none =>
      have hNN := name_no A2.rd hs hisz hn _ _ A2.bx A2.nm hel
      have HH : Hid _ := head_none (g := g) HBR.out HI.out hel
      clear hel
      go_wp2_with fail
      refine hNN.mono ?_
      rintro e w2 ⟨rfl, hw2, hf2⟩
      go_wp2_with fail
      go_meet
      case rel => unfold HeadAt; rw [HH.out]; exact ⟨rfl, hw2, A2.fr.transX (by omega) hf2⟩
    | some x =>
      obtain ⟨el, ar, n⟩ := x
      have hNO := name_ok A2.rd hs hisz _ _ A2.bx A2.nm _ hel
      have hin := element_pos hel
      simp only at hNO
      go_wp2_with fail
      refine hNO.mono ?_
      rintro e w2 ⟨rfl, hr2, hb2, hm2, hf2⟩
      have A3 := A2.stepX hr2 hb2 hf2
      clear hNO A2 hr2 hb2 hm2 hf2
      have g0 := A3.hb.c0
      have g1 := A3.hb.c1
      have g2 := A3.hb.c2
      have a0 := A3.bx.c0
      have a1 := A3.bx.c1
      have a2 := A3.bx.c2
      have a3 := A3.bx.c3
      have a4 := A3.bx.c4
      have a5 := A3.bx.c5
      simp only at a0 a1 a2 a3 a4 a5
      by_cases hbo1 : g.mark = 58 ∧ ar = false
      · have HH : Hid _ := head_bond (g := g) HBR.out HI.out hel hbo1
        have hF := fits_bond A3.rd g ⟨el, ar, 0, 0, p.pos, br⟩ hbo1.1 hbo1.2
        unfold hungV atmV at hF
        simp only at hF
        clear hbo1 hel
        go_wp2_with fail
        refine hF.mono ?_
        rintro e w3 ⟨rfl, hw3, hf3⟩
        go_wp2_with fail
        go_meet
        case rel => unfold HeadAt; rw [HH.out]; exact ⟨rfl, hw3, A3.fr.trans hf3⟩
      · cases hfu : full p
        · have hF := fits_ok A3.rd hn g ⟨el, ar, 0, 0, p.pos, br⟩ hbo1 hfu
          unfold hungV atmV at hF
          simp only at hF
          cases br
          · have HH : Hid _ := head_plain (g := g) HBR.out HI.out hel hbo1 hfu
            clear hbo1 hel hfu
            go_wp2_with fail
            refine hF.mono ?_
            rintro e w3 ⟨rfl, hr3, hf3⟩
            have A4 := A3.step hr3 hf3
            have a5' := A4.bx.c5
            simp only at a5'
            go_wp2_with fail
            go_meet
            case rel => unfold HeadAt; rw [HH.out]; exact ⟨rfl, A4⟩
          · have HH : Hid _ := head_bracket (g := g) HBR.out HI.out hel hbo1 hfu
            clear hbo1 hel hfu
            go_wp2_with fail
            refine hF.mono ?_
            rintro e w3 ⟨rfl, hr3, hf3⟩
            have A4 := A3.step hr3 hf3
            have a5' := A4.bx.c5
            simp only at a5'
            have hBk := bracket_any A4.rd hs hin.1 _ _ A4.bx A4.nm rfl rfl
            unfold BrPost at hBk
            simp only at hBk
            go_wp2_with fail
            refine hBk.mono ?_
            intro e w4 hm
            cases hbk : bracket s (i + n) with
            | ok y =>
              obtain ⟨ch, hy, j⟩ := y
              rw [hbk] at hm HH
              obtain ⟨rfl, hr4, hb4, hm4, hf4⟩ := hm
              simp only at hr4 hb4 HH
              have A5 := A4.stepX hr4 hb4 hf4
              clear hbk
              go_wp2_with fail
              go_meet
              case rel => unfold HeadAt; rw [HH.out]; exact ⟨rfl, A5⟩
            | error er =>
              rw [hbk] at hm HH
              obtain ⟨rfl, hw4, hf4⟩ := hm
              simp only at HH
              clear hbk
              go_wp2_with fail
              go_meet
              case rel => unfold HeadAt; rw [HH.out]; exact ⟨rfl, hw4, A4.fr.transX (by omega) hf4⟩
        · have HH : Hid _ := head_full (g := g) HBR.out HI.out hel hbo1 hfu
          have hF := fits_full A3.rd hn g ⟨el, ar, 0, 0, p.pos, br⟩ hbo1 hfu
          unfold hungV atmV at hF
          simp only at hF
          clear hbo1 hel hfu
          go_wp2_with fail
          refine hF.mono ?_
          rintro e w3 ⟨rfl, hw3, hf3⟩
          go_wp2_with fail
          go_meet
          case rel => unfold HeadAt; rw [HH.out]; exact ⟨rfl, hw3, A3.fr.trans hf3⟩
  case rest =>
    clear A2 c5 f5 HI HBR
    unfold HeadAt at hcut
    have HE : Hid _ := atom_eq s g p
    cases hh : atomHead s g p with
    | error er =>
      rw [hh] at hcut HE
      obtain ⟨rfl, hw, hf⟩ := hcut
      simp only at HE
      clear hh
      go_wp2_with fail
      go_ret2
      exact AtPost.error 0 HE.out rfl hw hf
    | ok x =>
      obtain ⟨at_, j⟩ := x
      rw [hh] at hcut HE
      obtain ⟨rfl, A5⟩ := hcut
      simp only at HE A5
      have hlen : p.atoms.length < 24 := head_room hh hn
      clear hh
      have hAd := add_any A5.rd.drew at_ hlen
      unfold atmV at hAd
      simp only at hAd
      have a0 := A5.bx.c0
      have a1 := A5.bx.c1
      have a2 := A5.bx.c2
      have a3 := A5.bx.c3
      have a4 := A5.bx.c4
      have a5 := A5.bx.c5
      go_wp2_with fail
      go_region_with (go_at_call 128; refine hAd.mono ?_; rintro e w5 ⟨rfl, hr5, hf5⟩)
      have A6 := A5.step hr5 ((Fr.refl B _).drew.trans hf5)
      have g2 := A6.hb.c2
      have g0 := A6.hb.c0
      have g4 := A6.bx.c4
      clear hAd A5 a0 a1 a2 a3 a4 a5
      rcases hga with hga | ⟨fa, hga, hfa⟩
      · have HT : Hid (atomTail g p at_ j = (p.atoms.length, { p with pos := j, atoms := p.atoms ++ [at_] })) := by unfold Hid atomTail; simp only; rw [if_pos hga]
        rw [hga] at g2
        clear hga
        go_wp2_with fail
        go_ret2
        exact AtPost.ok (HE.out.trans (congrArg _ HT.out)) rfl A6.rd A6.fr
      · have HT : Hid (atomTail g p at_ j = (p.atoms.length, bind { p with pos := j, atoms := p.atoms ++ [at_] } fa p.atoms.length (order { p with pos := j, atoms := p.atoms ++ [at_] } g.mark fa p.atoms.length) at_.pl)) := by
          unfold Hid atomTail; simp only; rw [if_neg (by rw [hga]; omega), hga, Int.toNat_natCast]
        rw [hga] at g2
        have tne : ((fa : Int) != -1) = true := by simp
        have HO : Hid (∀ w, Rd w B s { p with pos := j, atoms := p.atoms ++ [at_] } → Calls Tryz.prog 130 #[.pointer (some ⟨B, 0, none⟩), .int .u8 g.mark, .int .i64 fa, .int .i64 p.atoms.length] w fun e w' => e = .returned (.int .i64 (order { p with pos := j, atoms := p.atoms ++ [at_] } g.mark fa p.atoms.length)) ∧ w' = w) :=
          fun w h => order_any h g.mark fa p.atoms.length (by simp; omega) (by simp) (by simp; omega)
        have HBi : Hid (∀ o, Calls Tryz.prog 129 #[.pointer (some ⟨B, 2, none⟩), .int .i64 fa, .int .i64 p.atoms.length, .int .i64 o, .int .i64 at_.pl] w5.drew fun e w' => e = .returned (.tuple #[]) ∧ Rd w' B s (bind { p with pos := j, atoms := p.atoms ++ [at_] } fa p.atoms.length o at_.pl) ∧ Fr B w5.drew w' ∧
            w'.cell? ⟨w.heap.size, 0, none⟩ = some (.int .u8 g.mark) ∧ w'.cell? ⟨w.heap.size, 2, none⟩ = some (.int .i64 fa) ∧ w'.cell? ⟨w.heap.size + 1, 4, none⟩ = some (.int .i64 at_.pl)) := by
          intro o
          refine (bind_any A6.rd.drew fa p.atoms.length o at_.pl (by omega) (by omega) (by omega) hbo).mono ?_
          rintro e w' ⟨he, hr, hf⟩
          have x0 := A6.hb.drew.fr hf A6.nh
          exact ⟨he, hr, hf, x0.c0, by have := x0.c2; rw [hga] at this; exact this, (A6.bx.same (w' := w5.drew) rfl |>.fr hf A6.nm).c4⟩
        generalize hod : order { p with pos := j, atoms := p.atoms ++ [at_] } g.mark fa p.atoms.length = od at HO HT
        clear hod
        clear hga
        go_wp2_with fail
        go_region_held3 (fun w' => w'.cell? ⟨w.heap.size, 0, none⟩ = some (.int .u8 g.mark) ∧ w'.cell? ⟨w.heap.size, 2, none⟩ = some (.int .i64 fa) ∧ w'.cell? ⟨w.heap.size + 1, 4, none⟩ = some (.int .i64 at_.pl)) (go_keep) (first | (go_at_call 130; refine (HO.out _ A6.rd.drew).mono ?_; rintro e w' ⟨rfl, rfl⟩) | (go_at_call 129; refine (HBi.out _).mono ?_; rintro e w' ⟨rfl, hr, hf, i0, i1, i2⟩))
        all_goals
          go_wp2_with fail
          go_ret2
          exact AtPost.ok (HE.out.trans (congrArg _ HT.out)) rfl hr (A6.fr.drew.trans hf)
end
end Go.Proofs.YtcabaecbmkgclaaGreatDoor
