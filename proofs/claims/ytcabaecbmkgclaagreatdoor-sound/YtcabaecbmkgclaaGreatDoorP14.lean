/-
  What the molecule's Doubled does.
  What wrong and FirstWrong do.
  What SetHydrogens does.
  What ringsClosed does.
  What branch does, by what chain does.
  What knot does, by what chain does.
  What chain does.
-/
import Derived.Test.YtcabaecbmkgclaaGreatDoorP13
import Derived.Deep.MidRow
import Derived.Deep.LoopGhost

namespace Go.Proofs.YtcabaecbmkgclaaGreatDoor.Kd
open Go.RowKit Bz Mt Mg Rf

section
variable {w : World} {B base : Nat} {s : ByteArray} {p : St}

set_option maxRecDepth 100000 in
set_option maxHeartbeats 4000000 in
theorem doubled_any (h : Kd w B base p) (o : Ok s p) (hs : s.size ≤ 160) {pv : Value} {P : List (Nat × Nat)} (hP : NPr w pv P) (hPl : P.length ≤ 1000) :
    Calls Tryz.prog 40 #[.pointer (some ⟨B, 0, none⟩), pv] w fun e w' => ∃ v, e = .returned v ∧ Ints w' w.heap.size v (p.bonds.map (ordN P)) ∧ Below w.heap.size w w' := by
  obtain ⟨i0, hi0, hz0, hz1, hz2⟩ := info_parts Mg.Tryz.infoInt
  have HK : Hid (Kd w B base p) := h
  have HO : Hid (Ok s p) := o
  have HPN : Hid (NPr w pv P) := hP
  have hbl : p.bonds.length ≤ 160 := by have := o.bonds; have := o.pos; omega
  have hBl := h.lt
  have HF : Hid ((p.bonds.map (ordN P)).length = p.bonds.length) := (by simp : (p.bonds.map (ordN P)).length = p.bonds.length)
  obtain ⟨bv, hbv0, hbo⟩ := h.bonds
  obtain ⟨bso, bcap, hbs⟩ := ownsRow_shape hbo
  subst hbs
  obtain ⟨po, pc, hpv, _, _⟩ := hP
  subst hpv
  have HBV : Hid (w.cell? ⟨B, 25, none⟩ = some (.slice bso p.bonds.length bcap)) := hbv0
  clear hbo h o
  go_enter Tryz.func40, Tryz.ntmps40
  go_wp2_with (at_make; go_must (refine wpList_make_full _ rfl _ _ 25 rfl w.heap.size 3 i0 (.int .i64 0) 1 Tryz.underlying25 hi0 hz0 hz1 .i64 .i64 _ _ p.bonds.length rfl rfl rfl rfl ?c1 ?c2 ?c3 ?_))
  case c1 => rw [hz2]; omega
  case c2 => unfold maxLen; omega
  case c3 => exact Nat.le_refl _
  intro w1 hown hgrow
  have HST : Hid (RwAt w w1 w.heap.size p.bonds.length (p.bonds.map (ordN P)) 0) := ⟨by rw [osAt_zero]; exact ints_made hown, (Below.refl _ w).grown hgrow (Nat.le_refl _) (by simp), Nat.le_refl _⟩
  have hbv := (HST.out.below.cell (p := ⟨B, 25, none⟩) hBl).trans hbv0
  clear hown hgrow hbv0
  generalize w.heap.size = D at HST ⊢
  go_wp2_with fail
  go_loopg [19] (p.bonds.length + 1) (fun k v19 wr => ∃ i : Nat, i ≤ p.bonds.length ∧ p.bonds.length - i < k ∧ v19 = .int .i64 (i : Nat) ∧ RwAt w wr D p.bonds.length (p.bonds.map (ordN P)) i)
  case atStart => exact ⟨0, by omega, by omega, rfl, HST.out⟩
  case round =>
    clear HST hbv
    obtain ⟨i, hi, hk, rfl, hat⟩ := hrel
    have HAT : Hid (RwAt w wr D p.bonds.length (p.bonds.map (ordN P)) i) := hat
    clear hat
    by_cases hlt : i < p.bonds.length
    · have hlt' : (i : Int) < (p.bonds.length : Int) := by omega
      have gi := List.getElem?_eq_getElem hlt
      obtain ⟨g, cap, hv, hc, _, _, hgl⟩ := HK.out.bondsAt (by omega)
      have es := hv.symm.trans HBV.out
      simp only [Option.some.injEq, Value.slice.injEq, true_and] at es
      obtain ⟨rfl, rfl⟩ := es
      have c0 := (HAT.out.below.cell (p := ⟨g, i * 4, none⟩) hgl).trans (hc i _ 0 _ gi rfl)
      have c1 := (HAT.out.below.cell (p := ⟨g, i * 4 + 1, none⟩) hgl).trans (hc i _ 1 _ gi rfl)
      have c2 := (HAT.out.below.cell (p := ⟨g, i * 4 + 2, none⟩) hgl).trans (hc i _ 2 _ gi rfl)
      have c3 := (HAT.out.below.cell (p := ⟨g, i * 4 + 3, none⟩) hgl).trans (hc i _ 3 _ gi rfl)
      have hord := HO.out.ords _ (List.mem_of_getElem? gi)
      have gx : (p.bonds.map (ordN P))[i]? = some (ordN P p.bonds[i]) := by rw [List.getElem?_map, gi]; rfl
      generalize p.bonds[i] = b at *
      obtain ⟨ba, bb, bo, bpl⟩ := b
      simp only at c0 c1 c2 c3 hord
      obtain ⟨m, rfl⟩ := Int.eq_ofNat_of_zero_le (show 0 ≤ bo by omega)
      have HGX : Hid ((p.bonds.map (ordN P))[i]? = some (ordN P ⟨ba, bb, (m : Int), bpl⟩)) := gx
      clear gi hc hv gx
      have HA2 : Hid (RwAt w (wr.alloc (.cells #[.int .i64 (ba : Int), .int .i64 (bb : Int), .int .i64 (m : Int), .int .i64 (bpl : Int)] 102)) D p.bonds.length (p.bonds.map (ordN P)) i) := HAT.out.on ((Below.refl _ _).alloc (Nat.le_refl _) _)
      have q0 : (wr.alloc (.cells #[.int .i64 (ba : Int), .int .i64 (bb : Int), .int .i64 (m : Int), .int .i64 (bpl : Int)] 102)).cell? ⟨wr.heap.size, 0, none⟩ = some (.int .i64 (ba : Int)) := by rw [World.cell?_alloc_new]; rfl
      have q1 : (wr.alloc (.cells #[.int .i64 (ba : Int), .int .i64 (bb : Int), .int .i64 (m : Int), .int .i64 (bpl : Int)] 102)).cell? ⟨wr.heap.size, 1, none⟩ = some (.int .i64 (bb : Int)) := by rw [World.cell?_alloc_new]; rfl
      have q2 : (wr.alloc (.cells #[.int .i64 (ba : Int), .int .i64 (bb : Int), .int .i64 (m : Int), .int .i64 (bpl : Int)] 102)).cell? ⟨wr.heap.size, 2, none⟩ = some (.int .i64 (m : Int)) := by rw [World.cell?_alloc_new]; rfl
      clear HAT
      go_upto_region 6 with fail
      generalize wr.alloc (.cells #[.int .i64 (ba : Int), .int .i64 (bb : Int), .int .i64 (m : Int), .int .i64 (bpl : Int)] 102) = wq at *
      generalize wr.heap.size = X at *
      clear c0 c1 c2 c3
      cases h4 : ((m : Int) == 4)
      · have h4n : ((m : Int) != 4) = true := by simp [bne, h4]
        have HOR : Hid (ordN P ⟨ba, bb, (m : Int), bpl⟩ = m) := by
          unfold Hid ordN
          rw [if_neg (by simpa using h4)]
          simp
        obtain ⟨⟨y, cy⟩, fy⟩ := HA2.out.cell HF.out hlt
        have HN : Hid (RwAt w (wq.setCell ⟨D, i, none⟩ (.int .i64 (m : Int))) D p.bonds.length (p.bonds.map (ordN P)) (i + 1)) := by
          have := HA2.out.set HF.out hlt HGX.out
          rw [HOR.out] at this
          exact this
        go_wp2_with fail
        go_roundg (p.bonds.length - i)
        case measure => omega
        case rel => exact ⟨i + 1, by omega, by omega, by go_num, HN.out⟩
      · have h4n : ((m : Int) != 4) = false := by simp [bne, h4]
        have PC := pcontains_any wq (HPN.out.below HA2.out.below) ba bb hPl
        by_cases hin : (ba, bb) ∈ P
        · rw [decide_eq_true hin] at PC
          have HOR : Hid (ordN P ⟨ba, bb, (m : Int), bpl⟩ = 2) := by
            unfold Hid ordN
            rw [if_pos (by simpa using h4), if_pos hin]
          clear hin
          go_wp2_with fail
          refine PC.mono ?_
          rintro e w2 ⟨rfl, hb2⟩
          have HA3 : Hid (RwAt w w2 D p.bonds.length (p.bonds.map (ordN P)) i) := HA2.out.on hb2
          obtain ⟨⟨y, cy⟩, fy⟩ := HA3.out.cell HF.out hlt
          have HN : Hid (RwAt w (w2.setCell ⟨D, i, none⟩ (.int .i64 2)) D p.bonds.length (p.bonds.map (ordN P)) (i + 1)) := by
            have := HA3.out.set HF.out hlt HGX.out
            rw [HOR.out] at this
            exact this
          clear PC hb2
          go_wp2_with fail
          go_roundg (p.bonds.length - i)
          case measure => omega
          case rel => exact ⟨i + 1, by omega, by omega, by go_num, HN.out⟩
        · rw [decide_eq_false hin] at PC
          have HOR : Hid (ordN P ⟨ba, bb, (m : Int), bpl⟩ = 1) := by
            unfold Hid ordN
            rw [if_pos (by simpa using h4), if_neg hin]
          clear hin
          go_wp2_with fail
          refine PC.mono ?_
          rintro e w2 ⟨rfl, hb2⟩
          have HA3 : Hid (RwAt w w2 D p.bonds.length (p.bonds.map (ordN P)) i) := HA2.out.on hb2
          obtain ⟨⟨y, cy⟩, fy⟩ := HA3.out.cell HF.out hlt
          have HN : Hid (RwAt w (w2.setCell ⟨D, i, none⟩ (.int .i64 1)) D p.bonds.length (p.bonds.map (ordN P)) (i + 1)) := by
            have := HA3.out.set HF.out hlt HGX.out
            rw [HOR.out] at this
            exact this
          clear PC hb2
          go_wp2_with fail
          go_roundg (p.bonds.length - i)
          case measure => omega
          case rel => exact ⟨i + 1, by omega, by omega, by go_num, HN.out⟩
    · have hlt' : ¬ (i : Int) < (p.bonds.length : Int) := by omega
      have HE : Hid (Ints wr w.heap.size (.slice (some ⟨D, 0, none⟩) p.bonds.length p.bonds.length) (p.bonds.map (ordN P))) := by
        have := HAT.out.row
        rw [show i = p.bonds.length by omega, osAt_full HF.out] at this
        exact this
      go_wp2_with fail
      go_ret
      exact ⟨_, rfl, HE.out, HAT.out.below⟩
end
end Go.Proofs.YtcabaecbmkgclaaGreatDoor.Kd

namespace Go.Proofs.YtcabaecbmkgclaaGreatDoor
open Go.RowKit Bz

section
variable {w : World} {B : Nat} {s : ByteArray} {p : St}

set_option maxRecDepth 100000 in
set_option maxHeartbeats 2000000 in
theorem wrong_any (h : Rd w B s p) (o : Ok s p) (hs : s.size ≤ 160) (i : Nat) (a : Atm) (hi : p.atoms[i]? = some a) :
    Calls Tryz.prog 109 #[.pointer (some ⟨B, 2, none⟩), .int .i64 i] w fun e w' => e = .returned (.bool (Bz.wrong p.bonds i a)) ∧ Below w.heap.size w w' := by
  obtain ⟨g, cap, hA, hg⟩ := h.atI hi
  have hB := h.lt
  have hl : i < p.atoms.length := (List.getElem?_eq_some_iff.1 hi).1
  have hl' : (i : Int) < (p.atoms.length : Int) := by omega
  have hn := o.atoms
  have q0 := hA.sl
  have q1 := hA.c0
  have q2 := hA.c1
  have q3 := hA.c2
  have q4 := hA.c3
  have q5 := hA.c4
  have q6 := hA.c5
  clear hA
  have hbA : Below w.heap.size w (w.alloc (.cells #[.string a.el, .bool a.aro, .int .i64 a.ch, .int .i64 a.hy, .int .i64 a.pl, .bool a.br] 124)) := (Below.refl _ _).alloc (Nat.le_refl _) _
  cases har : a.aro
  · have HW : Hid (Bz.wrong p.bonds i a = !((valences a.el a.ch).contains (fill p i a))) := by unfold Hid Bz.wrong fill; rw [har]; rfl
    rw [har] at q2 hbA
    clear har
    go_enter Tryz.func109, Tryz.ntmps109
    go_wp2_with fail
    refine (valencesOf_any _ _ _).mono ?_
    rintro e w1 ⟨v, rfl, hv, hb⟩
    have hb1 : Below w.heap.size w w1 := hbA.trans (hb.mono hbA.size)
    have hF := filled_any (h.below hb1) o hs i a hi
    go_wp2_with fail
    refine hF.mono ?_
    rintro e w2 ⟨rfl, hb2⟩
    have hb3 : Below w.heap.size w w2 := hb1.trans (hb2.mono hb1.size)
    have hCo := contains_any w2 v _ (fill p i a) (intsAt_below hv hb2) (by have := (valences_len a.el a.ch).1; omega)
    clear hF hv hb hb2
    go_wp2_with fail
    refine hCo.mono ?_
    rintro e w3 ⟨rfl, rfl⟩
    go_wp2_with fail
    go_ret
    exact ⟨ret_bool (by rw [HW.out]; simp), hb3⟩
  · obtain ⟨x, r, hx⟩ : ∃ x r, valences a.el a.ch = x :: r := by
      cases hv : valences a.el a.ch with
      | nil => exact absurd hv (o.aros a (List.mem_of_getElem? hi) har)
      | cons x r => exact ⟨x, r, rfl⟩
    have HW : Hid (Bz.wrong p.bonds i a = (!(fill p i a == x - 1) && !(fill p i a == x))) := by unfold Hid Bz.wrong fill; rw [har, hx]; rfl
    rw [har] at q2 hbA
    have hCa := candidate_yes (h.below hbA) o hs i a hi har x r hx
    have HFi : Hid (∀ wx, Below w.heap.size w wx → Calls Tryz.prog 138 #[.pointer (some ⟨B, 2, none⟩), .int .i64 i] wx fun e w' => e = .returned (.bool (fill p i a == x)) ∧ Below wx.heap.size wx w') := fun wx hwx => finished_any (h.below hwx) o hs i a hi x r hx
    clear har hx
    cases hc : (fill p i a == x - 1)
    · rw [hc] at hCa HW
      clear hc
      go_enter Tryz.func109, Tryz.ntmps109
      go_wp2_with fail
      refine hCa.mono ?_
      rintro e w1 ⟨rfl, hb⟩
      have hb1 : Below w.heap.size w w1 := hbA.trans (hb.mono hbA.size)
      go_wp2_with fail
      refine (HFi.out _ hb1).mono ?_
      rintro e w2 ⟨rfl, hb2⟩
      have hb3 : Below w.heap.size w w2 := hb1.trans (hb2.mono hb1.size)
      clear hCa hb hb2
      go_wp2_with fail
      go_ret
      exact ⟨ret_bool (by rw [HW.out]; simp), hb3⟩
    · rw [hc] at hCa HW
      clear hc
      go_enter Tryz.func109, Tryz.ntmps109
      go_wp2_with fail
      refine hCa.mono ?_
      rintro e w1 ⟨rfl, hb⟩
      have hb1 : Below w.heap.size w w1 := hbA.trans (hb.mono hbA.size)
      clear hCa hb
      go_wp2_with fail
      go_ret
      exact ⟨ret_bool (by rw [HW.out]; simp), hb1⟩

/-- The number of the first atom from i on whose valence is wrong. -/
def wrongAt (l : List Bnd) : Nat → List Atm → Option Nat
  | _, [] => none
  | i, a :: r => if Bz.wrong l i a then some i else wrongAt l (i + 1) r

def FwPost (w : World) (r : Option Nat) (e : Ending) (w' : World) : Prop :=
  (match r with
  | some k => e = .returned (.tuple #[.int .i64 k, .bool true])
  | none => e = .returned (.tuple #[.int .i64 0, .bool false])) ∧ Below w.heap.size w w'

theorem FwPost.some {w w' : World} {r : Option Nat} {e : Ending} {k : Nat} (hr : r = .some k) (he : e = .returned (.tuple #[.int .i64 k, .bool true])) (hb : Below w.heap.size w w') : FwPost w r e w' := by subst hr; exact ⟨he, hb⟩
theorem FwPost.none {w w' : World} {r : Option Nat} {e : Ending} (hr : r = .none) (he : e = .returned (.tuple #[.int .i64 0, .bool false])) (hb : Below w.heap.size w w') : FwPost w r e w' := by subst hr; exact ⟨he, hb⟩

theorem drop_consA {l : List Atm} {i : Nat} {x : Atm} (h : l[i]? = some x) : l.drop i = x :: l.drop (i + 1) := by
  obtain ⟨h1, h2⟩ := List.getElem?_eq_some_iff.1 h
  rw [List.drop_eq_getElem_cons h1, h2]

set_option maxRecDepth 100000 in
set_option maxHeartbeats 2000000 in
theorem firstWrong_any (h : Rd w B s p) (o : Ok s p) (hs : s.size ≤ 160) :
    Calls Tryz.prog 83 #[.pointer (some ⟨B, 2, none⟩)] w (FwPost w (wrongAt p.bonds 0 p.atoms)) := by
  obtain ⟨ao, cap, hc⟩ := h.atomsLen
  have hn := o.atoms
  go_enter Tryz.func83, Tryz.ntmps83
  go_wp2_with fail
  go_loopg [10] (p.atoms.length + 1) (fun k vi wr => ∃ i : Nat, i ≤ p.atoms.length ∧ p.atoms.length - i ≤ k ∧ vi = .int .i64 i ∧ wrongAt p.bonds 0 p.atoms = wrongAt p.bonds i (p.atoms.drop i) ∧ Below w.heap.size w wr)
  case atStart => exact ⟨0, by omega, by omega, rfl, by simp, Below.refl _ _⟩
  case round =>
    obtain ⟨i, hi, hk, rfl, hm, hb⟩ := hrel
    have HM : Hid _ := hm
    clear hm
    by_cases hlt : i < p.atoms.length
    · have gi := List.getElem?_eq_getElem hlt
      have hd := drop_consA gi
      have hW := wrong_any (h.below hb) o hs i _ gi
      have hlt' : (i : Int) < (p.atoms.length : Int) := by omega
      generalize p.atoms[i] = a at *
      cases hw : Bz.wrong p.bonds i a
      · rw [hw] at hW
        have HE : Hid _ := HM.out.trans (show wrongAt p.bonds i (p.atoms.drop i) = wrongAt p.bonds (i + 1) (p.atoms.drop (i + 1)) by rw [hd, wrongAt, hw]; rfl)
        clear hw hd gi
        go_wp2_with fail
        refine hW.mono ?_
        rintro e w1 ⟨rfl, hb1⟩
        have hb2 : Below w.heap.size w w1 := hb.trans (hb1.mono hb.size)
        clear hW hb1
        go_wp2_with fail
        go_roundg (p.atoms.length - (i + 1))
        case measure => omega
        case rel => exact ⟨i + 1, by omega, Nat.le_refl _, by go_num, HE.out, hb2⟩
      · rw [hw] at hW
        have HE : Hid _ := HM.out.trans (show wrongAt p.bonds i (p.atoms.drop i) = some i by rw [hd, wrongAt, hw]; rfl)
        clear hw hd gi
        go_wp2_with fail
        refine hW.mono ?_
        rintro e w1 ⟨rfl, hb1⟩
        have hb2 : Below w.heap.size w w1 := hb.trans (hb1.mono hb.size)
        clear hW hb1
        go_wp2_with fail
        go_ret2
        exact FwPost.some HE.out rfl hb2
    · have hlt' : ¬ (i : Int) < (p.atoms.length : Int) := by omega
      have HE : Hid _ := HM.out.trans (show wrongAt p.bonds i (p.atoms.drop i) = none by rw [List.drop_eq_nil_of_le (by omega)]; rfl)
      go_wp2_with fail
      go_ret2
      exact FwPost.none HE.out rfl hb
end
end Go.Proofs.YtcabaecbmkgclaaGreatDoor

namespace Go.Proofs.YtcabaecbmkgclaaGreatDoor
open Go.RowKit Bz

theorem flatMap_set (l : List Atm) : ∀ (i : Nat) (a : Atm) (x : Int), l[i]? = some a → (l.flatMap atmCells).set (i * 6 + 3) (.int .i64 x) = (l.set i { a with hy := x }).flatMap atmCells := by
  induction l with
  | nil => intro i a x h; simp at h
  | cons b r ih =>
    intro i a x h
    match i, h with
    | 0, h => simp at h; subst h; rfl
    | i + 1, h =>
      simp at h
      rw [List.flatMap_cons, List.set_cons_succ, List.flatMap_cons, ← ih i a x h]
      have : (i + 1) * 6 + 3 = (i * 6 + 3) + (atmCells b).length := by rw [atmCells_len]; omega
      rw [this, List.set_append_right _ _ (by omega), Nat.add_sub_cancel]

section
variable {w : World} {B : Nat} {s : ByteArray} {p : St}

theorem Rd.setHy (h : Rd w B s p) {g cap i : Nat} {a : Atm} (hi : p.atoms[i]? = some a) (hsl : w.cell? ⟨B, 26, none⟩ = some (.slice (some ⟨g, 0, none⟩) p.atoms.length cap)) (x : Int) :
    Rd (w.setCell ⟨g, i * 6 + 3, none⟩ (.int .i64 x)) B s { p with atoms := p.atoms.set i { a with hy := x } } := by
  obtain ⟨va, ha, oa⟩ := h.atoms
  obtain ⟨vb, hb, ob⟩ := h.bonds
  rw [hsl] at ha
  cases ha
  have hgB := (oa.lt g rfl).1
  have hB : (w.setCell ⟨g, i * 6 + 3, none⟩ (.int .i64 x)).heap[B]? = w.heap[B]? := Below.heap_setCell w _ _ B (by simp; omega)
  have hc : ∀ k, (w.setCell ⟨g, i * 6 + 3, none⟩ (.int .i64 x)).cell? ⟨B, k, none⟩ = w.cell? ⟨B, k, none⟩ := fun k => World.cell?_of_block (w := w) hB
  have hf : ∀ k, (w.setCell ⟨g, i * 6 + 3, none⟩ (.int .i64 x)).frozen? ⟨B, k, none⟩ = w.frozen? ⟨B, k, none⟩ := fun k => World.frozen?_of_block (w := w) hB
  have hst := (oa.stored (i * 6 + 3) (.int .i64 x)).1
  rw [flatMap_set _ _ _ _ hi] at hst
  refine ⟨by rw [hc]; exact h.text, by rw [hc]; exact h.pos, fun k hk => by rw [hc]; exact h.near k hk,
    ⟨_, by rw [hc]; exact hsl, by simpa using hst⟩, ⟨vb, by rw [hc]; exact hb, ?_⟩, by rw [hc]; exact h.err, by rw [hc]; exact h.plc, fun n j v hn hv => by rw [hc]; exact h.rings n j v hn hv, fun k => by rw [hf]; exact h.free k⟩
  exact ownsRow_setCell_other ob (fun e => ownBlock_ne oa ob (by decide) g rfl e) _

theorem Fr.setRow {B g i : Nat} {a w : World} (h : Fr B a w) (hm : Mine w B g) (hg : g ≠ B) (u : Value) : Fr B a (w.setCell ⟨g, i, none⟩ u) := by
  have hB : (w.setCell ⟨g, i, none⟩ u).heap[B]? = w.heap[B]? := Below.heap_setCell w _ u B (by simpa using fun e => hg e.symm)
  refine ⟨h.os, h.tape, h.output, by simpa using h.size, fun k hk hn => ?_, fun k hk hk' => h.mine k hk ((Mine.same hB).1 hk')⟩
  rw [Below.heap_setCell w _ u k (by rintro rfl; exact hn (h.mine _ hk hm))]
  exact h.block k hk hn

theorem Rd.belowAt {w' : World} (h : Rd w B s p) (hb : Below w.heap.size w w') : Rd w' B s p := h.same fun k hk => hb.block k (h.mine hk).2

/-- The first k atoms have their hydrogens. -/
def hyTo (l : List Bnd) (at_ : List Atm) (k : Nat) : List Atm := at_.mapIdx fun i a => if i < k then withHydrogens l i a else a

theorem hyTo_get (l : List Bnd) (at_ : List Atm) (k i : Nat) : (hyTo l at_ k)[i]? = (at_[i]?).map fun a => if i < k then withHydrogens l i a else a := by
  unfold hyTo; rw [List.getElem?_mapIdx]

theorem hyTo_len (l : List Bnd) (at_ : List Atm) (k : Nat) : (hyTo l at_ k).length = at_.length := by unfold hyTo; simp

theorem hyTo_br (l : List Bnd) (at_ : List Atm) (k : Nat) (a : Atm) (ha : at_[k]? = some a) (hb : a.br = true) : hyTo l at_ (k + 1) = hyTo l at_ k := by
  apply List.ext_getElem?
  intro i
  rw [hyTo_get, hyTo_get]
  cases hi : at_[i]? with
  | none => rfl
  | some b =>
    simp only [Option.map_some, Option.some.injEq]
    by_cases e : i = k
    · subst e
      rw [ha] at hi
      cases hi
      rw [if_pos (by omega), if_neg (by omega)]
      unfold withHydrogens
      rw [hb]; rfl
    · by_cases e2 : i < k
      · rw [if_pos (by omega), if_pos e2]
      · rw [if_neg (by omega), if_neg e2]

theorem hyTo_set (l : List Bnd) (at_ : List Atm) (k : Nat) (a : Atm) (ha : at_[k]? = some a) (hb : a.br = false) : hyTo l at_ (k + 1) = (hyTo l at_ k).set k { a with hy := implied a (Bz.sum l k) } := by
  apply List.ext_getElem?
  intro i
  rw [List.getElem?_set, hyTo_get, hyTo_get]
  have hk : k < (hyTo l at_ k).length := by rw [hyTo_len]; exact (List.getElem?_eq_some_iff.1 ha).1
  by_cases e : k = i
  · subst e
    rw [if_pos rfl, if_pos hk, ha]
    simp only [Option.map_some, Option.some.injEq]
    rw [if_pos (by omega)]
    unfold withHydrogens
    rw [hb]; rfl
  · rw [if_neg e]
    cases hi : at_[i]? with
    | none => rfl
    | some b =>
      simp only [Option.map_some, Option.some.injEq]
      by_cases e2 : i < k
      · rw [if_pos (by omega), if_pos e2]
      · rw [if_neg (by omega), if_neg e2]

theorem hyTo_at (l : List Bnd) (at_ : List Atm) (k : Nat) : (hyTo l at_ k)[k]? = at_[k]? := by
  rw [hyTo_get]
  cases at_[k]? with
  | none => rfl
  | some a => simp

theorem hyTo_all (l : List Bnd) (at_ : List Atm) : hyTo l at_ at_.length = at_.mapIdx (withHydrogens l) := by
  apply List.ext_getElem?
  intro i
  rw [hyTo_get, List.getElem?_mapIdx]
  cases hi : at_[i]? with
  | none => rfl
  | some a => simp only [Option.map_some]; rw [if_pos (List.getElem?_eq_some_iff.1 hi).1]

theorem hyTo_zero (l : List Bnd) (at_ : List Atm) : hyTo l at_ 0 = at_ := by
  apply List.ext_getElem?
  intro i
  rw [hyTo_get]
  cases at_[i]? <;> simp

theorem other_block {w : World} {g L i j : Nat} (h : L ≠ g) (u : Value) : (w.setCell ⟨g, i, none⟩ u).cell? ⟨L, j, none⟩ = w.cell? ⟨L, j, none⟩ :=
  World.cell?_setCell_other w _ _ u (fun e => h (by simpa using (congrArg Addr.block e).symm))

set_option maxRecDepth 100000 in
set_option maxHeartbeats 2000000 in
theorem setHydrogens_any (h : Rd w B s p) (o : Ok s p) (hs : s.size ≤ 160) (hne : 0 < p.atoms.length) :
    Calls Tryz.prog 82 #[.pointer (some ⟨B, 2, none⟩)] w fun e w' => e = .returned (.tuple #[]) ∧ Rd w' B s { p with atoms := p.atoms.mapIdx (withHydrogens p.bonds) } ∧ Fr B w w' := by
  obtain ⟨g, cap, hsl, _, _, hBg, hgl⟩ := h.atomsAt hne
  have hn := o.atoms
  have HALL : Hid _ := hyTo_all p.bonds p.atoms
  go_enter Tryz.func82, Tryz.ntmps82
  go_wp2_with fail
  go_loopg [9] (p.atoms.length + 1) (fun k vi wr => ∃ i : Nat, i ≤ p.atoms.length ∧ p.atoms.length - i ≤ k ∧ vi = .int .i64 i ∧ Rd wr B s { p with atoms := hyTo p.bonds p.atoms i } ∧ wr.cell? ⟨B, 26, none⟩ = some (.slice (some ⟨g, 0, none⟩) p.atoms.length cap) ∧ Fr B w wr)
  case atStart => exact ⟨0, by omega, by omega, rfl, by rw [hyTo_zero]; exact h, hsl, Fr.refl _ _⟩
  case round =>
    obtain ⟨i, hi, hk, rfl, hr, hs26, hf⟩ := hrel
    by_cases hlt : i < p.atoms.length
    · have gi := List.getElem?_eq_getElem hlt
      have gi2 : (hyTo p.bonds p.atoms i)[i]? = some p.atoms[i] := (hyTo_at _ _ _).trans gi
      have hlt' : (i : Int) < (p.atoms.length : Int) := by omega
      obtain ⟨g', cap', hA, hg'⟩ := hr.atI (i := i) gi2
      have e1 := hA.sl
      rw [hs26] at e1
      simp only [Option.some.injEq, Value.slice.injEq, Addr.mk.injEq, and_true] at e1
      obtain ⟨rfl, e2, rfl⟩ := e1
      clear e2
      generalize p.atoms[i] = a at *
      have q1 := hA.c0
      have q2 := hA.c1
      have q3 := hA.c2
      have q4 := hA.c3
      have q5 := hA.c4
      have q6 := hA.c5
      clear hA
      cases hbr : a.br
      · rw [hbr] at q6
        have HE : Hid _ := hyTo_set p.bonds p.atoms i a gi hbr
        clear hbr
        have hB2 := hr.lt
        have hsb := sum_bound o hs i
        have W0 : Below wr.heap.size wr (wr.alloc (.cells #[.string a.el, .bool a.aro, .int .i64 a.ch, .int .i64 a.hy, .int .i64 a.pl, .bool false] 124)).drew := ((Below.refl _ _).alloc (Nat.le_refl _) _).drew
        have hrs : ∀ j, wr.frozen? ⟨g, j, none⟩ = false := by
          obtain ⟨g2, cap2, hv2, _, hfz, _, _⟩ := hr.atomsAt (by show 0 < (hyTo p.bonds p.atoms i).length; rw [hyTo_len]; omega)
          rw [hs26] at hv2
          simp only [Option.some.injEq, Value.slice.injEq, Addr.mk.injEq, and_true] at hv2
          rw [hv2.1]
          exact hfz
        have hfr3 := hrs (i * 6 + 3)
        have cells : ∀ wx, Below (wr.heap.size + 1) (wr.alloc (.cells #[.string a.el, .bool a.aro, .int .i64 a.ch, .int .i64 a.hy, .int .i64 a.pl, .bool false] 124)) wx →
            wx.cell? ⟨B, 26, none⟩ = some (.slice (some ⟨g, 0, none⟩) p.atoms.length cap) ∧ wx.cell? ⟨wr.heap.size, 0, none⟩ = some (.string a.el) ∧ wx.cell? ⟨wr.heap.size, 1, none⟩ = some (.bool a.aro) ∧ wx.cell? ⟨wr.heap.size, 2, none⟩ = some (.int .i64 a.ch) ∧ wx.cell? ⟨wr.heap.size, 3, none⟩ = some (.int .i64 a.hy) ∧
            wx.cell? ⟨g, i * 6 + 3, none⟩ = some (.int .i64 a.hy) ∧ wx.frozen? ⟨g, i * 6 + 3, none⟩ = false := by
          intro wx hb
          refine ⟨?_, ?_, ?_, ?_, ?_, ?_, ?_⟩
          · rw [hb.cell (p := ⟨B, 26, none⟩) (by simp; omega), World.cell?_alloc_lt _ _ _ hB2]; exact hs26
          · rw [hb.cell (p := ⟨wr.heap.size, 0, none⟩) (by simp)]; simp
          · rw [hb.cell (p := ⟨wr.heap.size, 1, none⟩) (by simp)]; simp
          · rw [hb.cell (p := ⟨wr.heap.size, 2, none⟩) (by simp)]; simp
          · rw [hb.cell (p := ⟨wr.heap.size, 3, none⟩) (by simp)]; simp
          · rw [hb.cell (p := ⟨g, i * 6 + 3, none⟩) (by simp; omega), World.cell?_alloc_lt _ _ _ hg']; exact q4
          · rw [hb.frozen (p := ⟨g, i * 6 + 3, none⟩) (by simp; omega), World.frozen?_alloc_past _ _ _ hg']; exact hfr3
        have HSu : Hid (∀ wx, Below (wr.heap.size + 1) (wr.alloc (.cells #[.string a.el, .bool a.aro, .int .i64 a.ch, .int .i64 a.hy, .int .i64 a.pl, .bool false] 124)) wx → Calls Tryz.prog 84 #[.pointer (some ⟨B, 2, none⟩), .int .i64 i] wx fun e w' => e = .returned (.int .i64 (Bz.sum p.bonds i)) ∧
            Below (wr.heap.size + 1) (wr.alloc (.cells #[.string a.el, .bool a.aro, .int .i64 a.ch, .int .i64 a.hy, .int .i64 a.pl, .bool false] 124)) w' ∧
            w'.cell? ⟨B, 26, none⟩ = some (.slice (some ⟨g, 0, none⟩) p.atoms.length cap) ∧ w'.cell? ⟨wr.heap.size, 0, none⟩ = some (.string a.el) ∧ w'.cell? ⟨wr.heap.size, 1, none⟩ = some (.bool a.aro) ∧ w'.cell? ⟨wr.heap.size, 2, none⟩ = some (.int .i64 a.ch) ∧ w'.cell? ⟨wr.heap.size, 3, none⟩ = some (.int .i64 a.hy) ∧
            w'.cell? ⟨g, i * 6 + 3, none⟩ = some (.int .i64 a.hy) ∧ w'.frozen? ⟨g, i * 6 + 3, none⟩ = false) := by
          intro wx hb
          have hrx := (hr.alloc (.cells #[.string a.el, .bool a.aro, .int .i64 a.ch, .int .i64 a.hy, .int .i64 a.pl, .bool false] 124)).belowAt (by simpa using hb)
          refine (sum_any hrx i (by have := o.bonds; have := o.pos; show p.bonds.length ≤ 1000; omega) o.ords).mono ?_
          rintro e w' ⟨he, hb'⟩
          have hb2 := hb.trans (hb'.mono (by have := hb.size; simpa using this))
          exact ⟨he, hb2, cells w' hb2⟩
        have HIm : Hid (∀ wx, Below (wr.heap.size + 1) (wr.alloc (.cells #[.string a.el, .bool a.aro, .int .i64 a.ch, .int .i64 a.hy, .int .i64 a.pl, .bool false] 124)) wx → Calls Tryz.prog 108 #[.agg #[.string a.el, .bool a.aro, .int .i64 a.ch, .int .i64 a.hy], .int .i64 (Bz.sum p.bonds i)] wx fun e w' => e = .returned (.int .i64 (implied a (Bz.sum p.bonds i))) ∧
            Below (wr.heap.size + 1) (wr.alloc (.cells #[.string a.el, .bool a.aro, .int .i64 a.ch, .int .i64 a.hy, .int .i64 a.pl, .bool false] 124)) w' ∧
            w'.cell? ⟨B, 26, none⟩ = some (.slice (some ⟨g, 0, none⟩) p.atoms.length cap) ∧ w'.cell? ⟨wr.heap.size, 0, none⟩ = some (.string a.el) ∧ w'.cell? ⟨wr.heap.size, 1, none⟩ = some (.bool a.aro) ∧ w'.cell? ⟨wr.heap.size, 2, none⟩ = some (.int .i64 a.ch) ∧ w'.cell? ⟨wr.heap.size, 3, none⟩ = some (.int .i64 a.hy) ∧
            w'.cell? ⟨g, i * 6 + 3, none⟩ = some (.int .i64 a.hy) ∧ w'.frozen? ⟨g, i * 6 + 3, none⟩ = false) := by
          intro wx hb
          refine (implied_any a (Bz.sum p.bonds i) ⟨hsb.1, by omega⟩ wx).mono ?_
          rintro e w' ⟨he, hb'⟩
          have hb2 := hb.trans (hb'.mono (by have := hb.size; simpa using this))
          exact ⟨he, hb2, cells w' hb2⟩
        have hbA : Below (wr.heap.size + 1) (wr.alloc (.cells #[.string a.el, .bool a.aro, .int .i64 a.ch, .int .i64 a.hy, .int .i64 a.pl, .bool false] 124)) (wr.alloc (.cells #[.string a.el, .bool a.aro, .int .i64 a.ch, .int .i64 a.hy, .int .i64 a.pl, .bool false] 124)).drew := (Below.refl _ _).drew
        have HFIN : Hid (∀ wx, Below (wr.heap.size + 1) (wr.alloc (.cells #[.string a.el, .bool a.aro, .int .i64 a.ch, .int .i64 a.hy, .int .i64 a.pl, .bool false] 124)) wx →
            Rd (wx.setCell ⟨g, i * 6 + 3, none⟩ (.int .i64 (implied a (Bz.sum p.bonds i)))) B s { p with atoms := hyTo p.bonds p.atoms (i + 1) } ∧ (wx.setCell ⟨g, i * 6 + 3, none⟩ (.int .i64 (implied a (Bz.sum p.bonds i)))).cell? ⟨B, 26, none⟩ = some (.slice (some ⟨g, 0, none⟩) p.atoms.length cap) ∧
            Fr B w (wx.setCell ⟨g, i * 6 + 3, none⟩ (.int .i64 (implied a (Bz.sum p.bonds i))))) := by
          intro wx hb
          have hrx := (hr.alloc (.cells #[.string a.el, .bool a.aro, .int .i64 a.ch, .int .i64 a.hy, .int .i64 a.pl, .bool false] 124)).belowAt (by simpa using hb)
          have c26 := (cells wx hb).1
          have hfx : Fr B w wx := (hf.alloc hB2 _).trans (Fr.below (by simp; omega) (by simpa using hb))
          have hset := hrx.setHy (i := i) (cap := cap) gi2 (by simp only [hyTo_len]; exact c26) (implied a (Bz.sum p.bonds i))
          rw [HE.out]
          refine ⟨hset, ?_, hfx.setRow (.inr (.inl ⟨_, c26, rfl⟩)) (show g ≠ B by omega) _⟩
          rw [other_block (by omega)]
          exact c26
        have hgB1 : B ≠ g := by omega
        have hgL : wr.heap.size ≠ g := by omega
        clear cells HE gi gi2 hrs
        generalize implied a (Bz.sum p.bonds i) = im at *
        generalize Bz.sum p.bonds i = sm at *
        go_wp2_with fail
        go_region_held3 (fun w' => w'.cell? ⟨B, 26, none⟩ = some (.slice (some ⟨g, 0, none⟩) p.atoms.length cap) ∧ w'.cell? ⟨wr.heap.size, 0, none⟩ = some (.string a.el) ∧ w'.cell? ⟨wr.heap.size, 1, none⟩ = some (.bool a.aro) ∧ w'.cell? ⟨wr.heap.size, 2, none⟩ = some (.int .i64 a.ch) ∧ w'.cell? ⟨wr.heap.size, 3, none⟩ = some (.int .i64 a.hy)) (first | with_reducible exact ⟨(other_block hgB1 _).trans j0, (other_block hgL _).trans j1, (other_block hgL _).trans j2, (other_block hgL _).trans j3, (other_block hgL _).trans j4⟩ | go_keep) (first | (go_at_call 84; refine (HSu.out _ (by assumption)).mono ?_; rintro e w' ⟨rfl, hb, i0, i1, i2, i3, i4, i5, i6⟩) | (go_at_call 108; refine (HIm.out _ (by assumption)).mono ?_; rintro e w' ⟨rfl, hb', j0, j1, j2, j3, j4, j5, j6⟩))
        all_goals
          go_wp2_with fail
          go_roundg (p.atoms.length - (i + 1))
          case measure => omega
          case rel =>
            have X := HFIN.out _ hb'
            exact ⟨i + 1, by omega, Nat.le_refl _, by go_num, X.1, X.2.1, X.2.2⟩
      · rw [hbr] at q6
        have HE : Hid _ := hyTo_br p.bonds p.atoms i a gi hbr
        have hB2 := hr.lt
        clear hbr gi gi2
        go_wp2_with fail
        go_roundg (p.atoms.length - (i + 1))
        case measure => omega
        case rel => exact ⟨i + 1, by omega, Nat.le_refl _, by go_num, by rw [HE.out]; exact hr.alloc _, by rw [World.cell?_alloc_lt _ _ _ hB2]; exact hs26, hf.alloc hB2 _⟩
    · have hlt' : ¬ (i : Int) < (p.atoms.length : Int) := by omega
      have hi' : i = p.atoms.length := by omega
      rw [hi', HALL.out] at hr
      clear hi'
      go_wp2_with fail
      go_end0
      exact ⟨rfl, hr, hf⟩
end
end Go.Proofs.YtcabaecbmkgclaaGreatDoor

namespace Go.Proofs.YtcabaecbmkgclaaGreatDoor
open Go.RowKit Bz

section
variable {w : World} {B : Nat} {s : ByteArray} {p : St}

def ringList (f : Nat → Option Opn) : Nat → List Value
  | 0 => []
  | n + 1 => ringList f n ++ opnCells (f n)

theorem ringList_len (f : Nat → Option Opn) : ∀ n, (ringList f n).length = n * 5
  | 0 => rfl
  | n + 1 => by rw [ringList, List.length_append, ringList_len f n, opnCells_length]; omega

theorem ringList_get (f : Nat → Option Opn) : ∀ (n m j : Nat), m < n → j < 5 → (ringList f n)[m * 5 + j]? = (opnCells (f m))[j]?
  | 0, _, _, h, _ => absurd h (Nat.not_lt_zero _)
  | n + 1, m, j, h, hj => by
    rw [ringList]
    by_cases e : m = n
    · subst e
      rw [List.getElem?_append_right (by rw [ringList_len]; omega), ringList_len]
      congr 1
      omega
    · rw [List.getElem?_append_left (by rw [ringList_len]; omega)]
      exact ringList_get f n m j (by omega) hj

theorem Rd.ringRange (h : Rd w B s p) : w.rangeAt B 30 (ringList p.rings 100) := by
  intro j v hj
  have hl : j < 500 := by
    have := (List.getElem?_eq_some_iff.1 hj).1
    rwa [ringList_len] at this
  have hd : j = (j / 5) * 5 + j % 5 := by omega
  rw [hd, ringList_get p.rings 100 (j / 5) (j % 5) (by omega) (by omega)] at hj
  have := h.rings (j / 5) (j % 5) v (by omega) hj
  rw [hd, ← Nat.add_assoc]
  exact this

theorem Tryz.sizeOpen : (Tryz.prog.info? 94).map (·.size) = some 5 := by kernel_rfl
theorem Tryz.sizeRings : (Tryz.prog.info? 95).map (·.size) = some 500 := by kernel_rfl

theorem ring_extract (f : Nat → Option Opn) (i : Nat) (hi : i < 100) : (ringList f 100).toArray.extract (i * 5) (i * 5 + 5) = (opnCells (f i)).toArray := by
  apply Array.toList_inj.1
  rw [Array.toList_extract]
  apply List.ext_getElem?
  intro k
  simp only [List.extract_eq_take_drop, List.getElem?_take, List.getElem?_drop]
  by_cases hk : k < 5
  · rw [if_pos (by omega), ringList_get f 100 i k hi hk]
  · rw [if_neg (by omega)]
    symm
    rw [List.getElem?_eq_none]
    rw [opnCells_length]
    omega

theorem index_ring (f : Nat → Option Opn) (i : Nat) (hi : i < 100) (w : World) :
    (Instr.index 95 (.agg (ringList f 100).toArray) (.int .i64 i)).run Tryz.prog w = .ok (.agg (opnCells (f i)).toArray) w := by
  have hs := Tryz.sizeOpen
  cases hq : Tryz.prog.info? 94 with
  | none => rw [hq] at hs; cases hs
  | some q =>
    rw [hq] at hs
    simp only [Option.map_some, Option.some.injEq] at hs
    rw [← ring_extract f i hi]
    have h1 : (0 : Int) ≤ (i : Int) ∧ (i : Int) < 100 := by omega
    have hp : (Go.part 94 (ringList f 100).toArray (i * 5)).run Tryz.prog w = .ok (.agg ((ringList f 100).toArray.extract (i * 5) (i * 5 + 5))) w := by
      simp [Go.part, isAgg, run_underlying Tryz.underlying94, sizeOf, typeInfo, hq, hs]
    simp [Instr.index, asIntOf, run_underlying Tryz.underlying95, sizeOf, typeInfo, hq, hs, h1, hp]
    intro hge
    omega

def RcPost (w : World) (B : Nat) (s : ByteArray) (p : St) (e : Ending) (w' : World) : Prop :=
  if leftmost p.rings s.size 100 < s.size then e = .returned (.bool false) ∧ Wrong w' B (4, (leftmost p.rings s.size 100 : Nat)) ∧ Fr B w w'
  else e = .returned (.bool true) ∧ Rd w' B s p ∧ Fr B w w'

theorem leftmost_le (f : Nat → Option Opn) (d : Nat) : ∀ n, leftmost f d n ≤ d
  | 0 => Nat.le_refl _
  | n + 1 => by
    rw [leftmost]
    split
    · have := leftmost_le f d n; omega
    · exact leftmost_le f d n

set_option maxRecDepth 100000 in
set_option maxHeartbeats 2000000 in
theorem ringsClosed_any (h : Rd w B s p) (_hs : s.size ≤ 160) :
    Calls Tryz.prog 58 #[.pointer (some ⟨B, 0, none⟩)] w (RcPost w B s p) := by
  have hB := h.lt
  have ht := h.text
  have HIX : Hid (∀ i, i < 100 → ∀ w, (Instr.index 95 (.agg (ringList p.rings 100).toArray) (.int .i64 (i : Nat))).run Tryz.prog w = .ok (.agg (opnCells (p.rings i)).toArray) w) := fun i hi w => index_ring p.rings i hi w
  go_enter Tryz.func58, Tryz.ntmps58
  go_wp2_with (refine wpList_load_mid rfl 95 _ rfl B 30 rfl (ringList p.rings 100) _ h.ringRange Tryz.underlying95 rfl (by rw [ringList_len]; exact Tryz.sizeRings) ?_)
  go_loopg [3, 16] 101 (fun k vp vi wr => ∃ i : Nat, i ≤ 100 ∧ 100 - i ≤ k ∧ vi = .int .i64 i ∧ vp = .int .i64 (leftmost p.rings s.size i : Nat) ∧ Below w.heap.size w wr)
  case atStart => exact ⟨0, by omega, by omega, rfl, rfl, Below.refl _ _⟩
  case round =>
    obtain ⟨i, hi, hk, rfl, rfl, hb⟩ := hrel
    have hsz := hb.size
    by_cases hlt : i < 100
    · have hix := fun w => HIX.out i hlt w
      have hlt' : (i : Int) < 100 := by omega
      cases hr : p.rings i with
      | none =>
        rw [hr] at hix
        simp only [opnCells] at hix
        have HE : Hid (leftmost p.rings s.size (i + 1) = leftmost p.rings s.size i) := by unfold Hid; rw [leftmost, hr]
        clear hr
        go_wp2_with fail
        go_roundg (100 - (i + 1))
        case measure => omega
        case rel => exact ⟨i + 1, by omega, Nat.le_refl _, by go_num, by rw [HE.out], hb.alloc hsz _⟩
      | some o =>
        rw [hr] at hix
        simp only [opnCells] at hix
        have HE : Hid (leftmost p.rings s.size (i + 1) = min (leftmost p.rings s.size i) o.place) := by unfold Hid; rw [leftmost, hr]
        clear hr
        generalize leftmost p.rings s.size i = lm at *
        by_cases hmin : o.place < lm
        · have hmin' : (o.place : Int) < (lm : Int) := by omega
          have HE2 : Hid (leftmost p.rings s.size (i + 1) = o.place) := by unfold Hid; rw [HE.out]; omega
          clear HE hmin
          go_wp2_with fail
          go_roundg (100 - (i + 1))
          case measure => omega
          case rel => exact ⟨i + 1, by omega, Nat.le_refl _, by go_num, by rw [HE2.out], hb.alloc hsz _⟩
        · have hmin' : ¬ (o.place : Int) < (lm : Int) := by omega
          have HE2 : Hid (leftmost p.rings s.size (i + 1) = lm) := by unfold Hid; rw [HE.out]; omega
          clear HE hmin
          go_wp2_with fail
          go_roundg (100 - (i + 1))
          case measure => omega
          case rel => exact ⟨i + 1, by omega, Nat.le_refl _, by go_num, by rw [HE2.out], hb.alloc hsz _⟩
    · obtain rfl : i = 100 := by omega
      have ht2 := (hb.cell (p := ⟨B, 0, none⟩) hB).trans ht
      have hrb := h.below hb
      have hfb := Fr.below hB hb
      by_cases hle : leftmost p.rings s.size 100 < s.size
      · have HP : Hid (∀ e w', RcPost w B s p e w' = (e = .returned (.bool false) ∧ Wrong w' B (4, (leftmost p.rings s.size 100 : Nat)) ∧ Fr B w w')) := by intro e w'; unfold RcPost; rw [if_pos hle]
        have hle' : ((leftmost p.rings s.size 100 : Nat) : Int) < (s.size : Int) := by omega
        have hfa := fail_any hrb 4 ((leftmost p.rings s.size 100 : Nat) : Int)
        clear hle
        generalize leftmost p.rings s.size 100 = lm at *
        go_wp2_with fail
        refine hfa.mono ?_
        rintro e w' ⟨rfl, hw, hf6⟩
        go_wp2_with fail
        go_ret
        rw [HP.out]
        exact ⟨rfl, hw, hfb.trans hf6⟩
      · have HP : Hid (∀ e w', RcPost w B s p e w' = (e = .returned (.bool true) ∧ Rd w' B s p ∧ Fr B w w')) := by intro e w'; unfold RcPost; rw [if_neg hle]
        have hle' : ¬ ((leftmost p.rings s.size 100 : Nat) : Int) < (s.size : Int) := by omega
        clear hle
        generalize leftmost p.rings s.size 100 = lm at *
        go_wp2_with fail
        go_ret
        rw [HP.out]
        exact ⟨rfl, hrb, hfb⟩
end
end Go.Proofs.YtcabaecbmkgclaaGreatDoor

namespace Go.Proofs.YtcabaecbmkgclaaGreatDoor
open Go.RowKit Bz

def ChainW (s : ByteArray) (n : Nat) : Prop := ∀ (w : World) (B : Nat) (g : Hung) (p : St), Rd w B s p → Ok s p → HungOk g p → s.size - p.pos < n →
  Calls Tryz.prog 55 #[.pointer (some ⟨B, 0, none⟩), hungV g] w (StPost w B s (Bz.chain s n g p))

section
variable {w : World} {B : Nat} {s : ByteArray} {p : St}

theorem Wrong.alloc {w : World} {B : Nat} {e : Int × Int} (h : Wrong w B e) (o : Obj) : Wrong (w.alloc o) B e :=
  ⟨by rw [World.cell?_alloc_lt _ _ _ (World.block_lt_of_cell? w _ h.err)]; exact h.err, by rw [World.cell?_alloc_lt _ _ _ (World.block_lt_of_cell? w _ h.plc)]; exact h.plc⟩

set_option maxRecDepth 100000 in
set_option maxHeartbeats 2000000 in
theorem branch_any {n : Nat} (hC : ChainW s n) (hs : s.size ≤ 160) (h : Rd w B s p) (o : Ok s p) (a : Nat) (ha : a < p.atoms.length) (hn : s.size - p.pos < n) :
    Calls Tryz.prog 106 #[.pointer (some ⟨B, 0, none⟩), .int .i64 a] w (StPost w B s (Bz.branch s (Bz.chain s n) a p)) := by
  have hB := h.lt
  have hL := link_any h hs o.pos a ha o.atoms
  go_enter Tryz.func106, Tryz.ntmps106
  go_wp2_with fail
  refine hL.mono ?_
  rintro e w1 ⟨hm, hf1⟩
  clear hL
  cases hl : link s a p with
  | error er =>
    rw [hl] at hm
    obtain ⟨⟨g, rfl⟩, hw1⟩ := hm
    have HR : Hid (Bz.branch s (Bz.chain s n) a p = .error er) := by unfold Hid Bz.branch; rw [hl]
    clear hl
    unfold hungV
    go_wp2_with fail
    go_ret
    exact StPost.error HR.out rfl (hw1.alloc _) (hf1.allocL hB _)
  | ok x =>
    obtain ⟨g, q⟩ := x
    rw [hl] at hm
    obtain ⟨rfl, hr1⟩ := hm
    simp only at hr1
    obtain ⟨oq, hg, qa, qp⟩ := link_wf hl o ha
    have hCh := hC _ B g q (hr1.alloc (.cells #[.int .u8 g.mark, .int .i64 g.spot, .int .i64 g.atom] 92)) oq hg (by omega)
    unfold hungV at hCh
    have f1 := hf1.allocL hB (.cells #[.int .u8 g.mark, .int .i64 g.spot, .int .i64 g.atom] 92)
    have HL : Hid _ := hl
    clear hl
    unfold hungV
    go_wp2_with fail
    refine hCh.mono ?_
    rintro e w2 ⟨hm, hf2⟩
    clear hCh
    cases hc : Bz.chain s n g q with
    | error er =>
      rw [hc] at hm
      obtain ⟨rfl, hw2⟩ := hm
      have HR : Hid (Bz.branch s (Bz.chain s n) a p = .error er) := by unfold Hid Bz.branch; rw [HL.out]; simp only; rw [hc]
      clear hc
      go_wp2_with fail
      go_ret
      exact StPost.error HR.out rfl hw2 (f1.trans hf2)
    | ok r =>
      rw [hc] at hm
      obtain ⟨rfl, hr2⟩ := hm
      obtain ⟨o2, _, _⟩ := chain_wf s n g q r oq hg hc
      have HR : Hid (Bz.branch s (Bz.chain s n) a p = if byteAt s r.pos = 41 then .ok { r with pos := r.pos + 1 } else .error (2, (r.pos : Int))) := by unfold Hid Bz.branch; rw [HL.out]; simp only; rw [hc]
      have hT := take1 hr2 hs o2.pos 41 41 rfl (by decide)
      clear hc
      by_cases h41 : byteAt s r.pos = 41
      · simp only [h41, if_true, BEq.rfl] at hT
        rw [if_pos h41] at HR
        clear h41
        go_wp2_with fail
        refine hT.mono ?_
        rintro e w3 ⟨rfl, hr3, hf3⟩
        go_wp2_with fail
        go_ret
        exact StPost.ok HR.out rfl hr3 ((f1.trans hf2).trans hf3)
      · have t41 : (byteAt s r.pos == 41) = false := by simpa using h41
        simp only [h41, t41, if_false] at hT
        rw [if_neg h41] at HR
        clear h41 t41
        go_wp2_with fail
        refine hT.mono ?_
        rintro e w3 ⟨rfl, hr3, hf3⟩
        have q3 := hr3.pos
        go_wp2_with fail
        go_region_with (go_at_call 57; refine (fail_any hr3.drew _ _).mono ?_; rintro e w' ⟨rfl, hw, hf6⟩)
        all_goals
          go_wp2_with fail
          go_ret
          exact StPost.error HR.out rfl hw ((((f1.trans hf2).trans hf3).drew).trans hf6)

set_option maxRecDepth 100000 in
set_option maxHeartbeats 2000000 in
theorem linkedKnot_any {n : Nat} (hs : s.size ≤ 160) (h : Rd w B s p) (o : Ok s p) (a : Nat) (ha : a < p.atoms.length)
    (hK : ∀ (w : World) (g : Hung) (q : St), Rd w B s q → Ok s q → HungOk g q → p.pos ≤ q.pos → Calls Tryz.prog 79 #[.pointer (some ⟨B, 0, none⟩), hungV g] w (AtPost w B s (Bz.knot s (Bz.chain s n) g q))) :
    Calls Tryz.prog 81 #[.pointer (some ⟨B, 0, none⟩), .int .i64 a] w (AtPost w B s (Bz.linkedKnot s (Bz.chain s n) a p)) := by
  have hB := h.lt
  have hL := link_any h hs o.pos a ha o.atoms
  have HK : Hid _ := hK
  clear hK
  go_enter Tryz.func81, Tryz.ntmps81
  go_wp2_with fail
  refine hL.mono ?_
  rintro e w1 ⟨hm, hf1⟩
  clear hL
  cases hl : link s a p with
  | error er =>
    rw [hl] at hm
    obtain ⟨⟨g, rfl⟩, hw1⟩ := hm
    have HR : Hid (Bz.linkedKnot s (Bz.chain s n) a p = .error er) := by unfold Hid Bz.linkedKnot; rw [hl]
    clear hl
    unfold hungV
    go_wp2_with fail
    go_ret2
    exact AtPost.error 0 HR.out rfl (hw1.alloc _) (hf1.allocL hB _)
  | ok x =>
    obtain ⟨g, q⟩ := x
    rw [hl] at hm
    obtain ⟨rfl, hr1⟩ := hm
    simp only at hr1
    obtain ⟨oq, hg, qa, qp⟩ := link_wf hl o ha
    have hCh := HK.out _ g q (hr1.alloc (.cells #[.int .u8 g.mark, .int .i64 g.spot, .int .i64 g.atom] 92)) oq hg qp
    unfold hungV at hCh
    have f1 := hf1.allocL hB (.cells #[.int .u8 g.mark, .int .i64 g.spot, .int .i64 g.atom] 92)
    have HR : Hid (Bz.linkedKnot s (Bz.chain s n) a p = Bz.knot s (Bz.chain s n) g q) := by unfold Hid Bz.linkedKnot; rw [hl]
    clear hl
    unfold hungV
    go_wp2_with fail
    refine hCh.mono ?_
    rintro e w2 ⟨hm, hf2⟩
    clear hCh
    cases hc : Bz.knot s (Bz.chain s n) g q with
    | error er =>
      rw [hc] at hm HR
      obtain ⟨⟨v, rfl⟩, hw2⟩ := hm
      clear hc
      go_wp2_with fail
      go_ret2
      exact AtPost.error v HR.out rfl hw2 (f1.trans hf2)
    | ok r =>
      rw [hc] at hm HR
      obtain ⟨rfl, hr2⟩ := hm
      clear hc
      go_wp2_with fail
      go_ret2
      exact AtPost.ok (k := r.1) (q := r.2) HR.out rfl hr2 (f1.trans hf2)
end
end Go.Proofs.YtcabaecbmkgclaaGreatDoor

namespace Go.Proofs.YtcabaecbmkgclaaGreatDoor
open Go.RowKit Bz

section
variable {w : World} {B : Nat} {s : ByteArray} {p : St}

/-- A loop of the reader's that goes on from state q with m rounds to spare, or has failed. -/
def LoopAt (w : World) (B : Nat) (s : ByteArray) (whole : R St) (rest : Nat → St → R St) (a lo : Nat) (k : Nat) (v : Value) (wr : World) : Prop :=
  (∃ m q, v = .bool true ∧ whole = rest m q ∧ s.size - q.pos < m ∧ s.size - q.pos + 1 ≤ k ∧ Rd wr B s q ∧ Ok s q ∧ a < q.atoms.length ∧ lo ≤ q.pos ∧ Fr B w wr) ∨
  (∃ er, v = .bool false ∧ whole = .error er ∧ Wrong wr B er ∧ Fr B w wr)

theorem ringsOf_go {s : ByteArray} {a m : Nat} {q r : St} (h1 : ringAhead s q = true) (h2 : ring s a q = .ok r) : ringsOf s a (m + 1) q = ringsOf s a m r := by
  rw [ringsOf, if_pos h1, h2]
theorem ringsOf_err {s : ByteArray} {a m : Nat} {q : St} {e : Int × Int} (h1 : ringAhead s q = true) (h2 : ring s a q = .error e) : ringsOf s a (m + 1) q = .error e := by
  rw [ringsOf, if_pos h1, h2]
theorem ringsOf_end {s : ByteArray} {a m : Nat} {q : St} (h1 : ringAhead s q = false) : ringsOf s a (m + 1) q = .ok q := by
  rw [ringsOf, if_neg (by rw [h1]; decide)]
theorem branches_go {s : ByteArray} {c : Hung → St → R St} {a m : Nat} {q r : St} (h1 : byteAt s q.pos = 40) (h2 : branch s c a { q with pos := q.pos + 1 } = .ok r) : branches s c a (m + 1) q = branches s c a m r := by
  rw [branches, if_pos h1, h2]
theorem branches_err {s : ByteArray} {c : Hung → St → R St} {a m : Nat} {q : St} {e : Int × Int} (h1 : byteAt s q.pos = 40) (h2 : branch s c a { q with pos := q.pos + 1 } = .error e) : branches s c a (m + 1) q = .error e := by
  rw [branches, if_pos h1, h2]
theorem branches_end {s : ByteArray} {c : Hung → St → R St} {a m : Nat} {q : St} (h1 : ¬ byteAt s q.pos = 40) : branches s c a (m + 1) q = .ok q := by
  rw [branches, if_neg h1]

set_option maxRecDepth 100000 in
set_option maxHeartbeats 2000000 in
theorem knot_any {n : Nat} (hC : ChainW s n) (hs : s.size ≤ 160) (h : Rd w B s p) (o : Ok s p) (g : Hung) (hg : HungOk g p) (hn : s.size - p.pos ≤ n) :
    Calls Tryz.prog 79 #[.pointer (some ⟨B, 0, none⟩), hungV g] w (AtPost w B s (Bz.knot s (Bz.chain s n) g p)) := by
  have hB := h.lt
  have hA := atom_any (h.alloc (.cells #[.int .u8 g.mark, .int .i64 g.spot, .int .i64 g.atom] 92)) hs o.pos g o.atoms (by have := o.bonds; have := o.pos; omega) hg
  have f0 := (Fr.refl B w).allocL hB (.cells #[.int .u8 g.mark, .int .i64 g.spot, .int .i64 g.atom] 92)
  have HC : Hid _ := hC
  unfold hungV at hA ⊢
  go_enter Tryz.func79, Tryz.ntmps79
  go_wp2_with fail
  refine hA.mono ?_
  rintro e w1 ⟨hm, hf1⟩
  clear hA
  cases ha : atom s g p with
  | error er =>
    rw [ha] at hm
    obtain ⟨⟨v, rfl⟩, hw1⟩ := hm
    have HR : Hid (Bz.knot s (Bz.chain s n) g p = .error er) := by unfold Hid Bz.knot; rw [ha]
    clear ha
    go_wp2_with fail
    refine wp_loop_rounds 1 ?_
    rw [rounds_succ]
    go_wp2_with fail
    refine wp_loop_rounds 1 ?_
    rw [rounds_succ]
    go_wp2_with fail
    go_ret2
    exact AtPost.error v HR.out rfl hw1 (f0.trans hf1)
  | ok x =>
    obtain ⟨a, p1⟩ := x
    rw [ha] at hm
    obtain ⟨rfl, hr1⟩ := hm
    simp only at hr1
    obtain ⟨o1, ha1, hp1, hl1⟩ := atom_wf ha o
    have HA : Hid _ := ha
    clear ha
    go_wp2_with fail
    go_loopg [7] (s.size + 2) (fun k v wr => LoopAt w B s (ringsOf s a (s.size + 1) p1) (ringsOf s a) a p1.pos k v wr)
    case atStart => exact .inl ⟨s.size + 1, p1, rfl, rfl, by omega, by omega, hr1, o1, ha1, Nat.le_refl _, f0.trans hf1⟩
    case round =>
      rcases hrel with ⟨m, q, rfl, hw, hm1, hk, hr, oq, haq, hlo, hf⟩ | ⟨er, rfl, hw, hwr, hf⟩
      · obtain ⟨m', rfl⟩ : ∃ m', m = m' + 1 := ⟨m - 1, by omega⟩
        have hRA := ringAhead_any hr hs oq.pos
        cases hra : ringAhead s q
        · rw [hra] at hRA
          have HP2 : Hid (ringsOf s a (s.size + 1) p1 = .ok q) := hw.trans (ringsOf_end hra)
          clear hra hw
          go_wp2_with fail
          refine hRA.mono ?_
          rintro e w2 ⟨rfl, k2, rfl⟩
          clear hRA
          go_wp2_with fail
          go_loopg [7] (s.size + 2) (fun k v wr => LoopAt w B s (branches s (Bz.chain s n) a (s.size + 1) q) (branches s (Bz.chain s n) a) a q.pos k v wr)
          case atStart => exact .inl ⟨s.size + 1, q, rfl, rfl, by omega, by omega, hr.drewN k2, oq, haq, Nat.le_refl _, hf.drewN k2⟩
          case round =>
            rename_i wr1
            rcases hrel with ⟨m2, q2, rfl, hw2, hm2, hkk, hr2, oq2, haq2, hlo2, hf2⟩ | ⟨er, rfl, hw2, hwr2, hf2⟩
            · obtain ⟨m3, rfl⟩ : ∃ m', m2 = m' + 1 := ⟨m2 - 1, by omega⟩
              have hT := take1 hr2 hs oq2.pos 40 40 rfl (by decide)
              by_cases h40 : byteAt s q2.pos = 40
              · have hlt := byte_lt h40 (by decide)
                simp only [h40, if_true, BEq.rfl] at hT
                have H40 : Hid _ := h40
                clear h40
                go_wp2_with fail
                refine hT.mono ?_
                rintro e w3 ⟨rfl, hr3, hf3⟩
                clear hT
                have hBr := branch_any HC.out hs hr3 (oq2.step hlt) a haq2 (by show s.size - (q2.pos + 1) < n; omega)
                go_wp2_with fail
                refine hBr.mono ?_
                rintro e w4 ⟨hm4, hf4⟩
                clear hBr
                cases hbr : Bz.branch s (Bz.chain s n) a { q2 with pos := q2.pos + 1 } with
                | ok r =>
                  rw [hbr] at hm4
                  obtain ⟨rfl, hr4⟩ := hm4
                  obtain ⟨o4, h41, h42⟩ := branch_wf (chain_wf s n) hbr (oq2.step hlt) haq2
                  have HW : Hid _ := hw2.trans (branches_go (m := m3) H40.out hbr)
                  clear hbr hw2
                  simp only at h41 h42
                  go_wp2_with fail
                  go_roundg (s.size - r.pos + 1)
                  case measure => have := o4.pos; omega
                  case rel => exact .inl ⟨m3, r, rfl, HW.out, by have := o4.pos; omega, Nat.le_refl _, hr4, o4, by omega, by omega, (hf2.trans hf3).trans hf4⟩
                | error er =>
                  rw [hbr] at hm4
                  obtain ⟨rfl, hw4⟩ := hm4
                  have HW : Hid _ := hw2.trans (branches_err (m := m3) H40.out hbr)
                  clear hbr hw2
                  go_wp2_with fail
                  go_roundg 0
                  case measure => omega
                  case rel => exact .inr ⟨er, rfl, HW.out, hw4, (hf2.trans hf3).trans hf4⟩
              · have t40 : (byteAt s q2.pos == 40) = false := by simpa using h40
                simp only [h40, t40, if_false] at hT
                have HR : Hid (Bz.knot s (Bz.chain s n) g p = .ok (a, q2)) := by
                  unfold Hid Bz.knot; rw [HA.out]; simp only; rw [HP2.out]; simp only; rw [hw2.trans (branches_end h40)]
                clear h40 t40 hw2
                go_wp2_with fail
                refine hT.mono ?_
                rintro e w3 ⟨rfl, hr3, hf3⟩
                go_wp2_with fail
                go_ret2
                exact AtPost.ok HR.out rfl hr3 (hf2.trans hf3)
            · have HR : Hid (Bz.knot s (Bz.chain s n) g p = .error er) := by
                unfold Hid Bz.knot; rw [HA.out]; simp only; rw [HP2.out]; simp only; rw [hw2]
              clear hw2
              go_wp2_with fail
              go_ret2
              exact AtPost.error _ HR.out rfl hwr2 hf2
        · rw [hra] at hRA
          have HRA : Hid _ := hra
          clear hra
          have hRi : ∀ k2, _ := fun k2 => ring_any (hr.drewN k2) hs oq.pos a haq oq.atoms (by have := oq.bonds; have := oq.pos; omega) oq.rings
          have HRi : Hid _ := hRi
          clear hRi
          go_wp2_with fail
          refine hRA.mono ?_
          rintro e w2 ⟨rfl, k2, rfl⟩
          clear hRA
          go_wp2_with fail
          refine (HRi.out k2).mono ?_
          rintro e w3 ⟨hm3, hf3⟩
          cases hri : ring s a q with
          | ok r =>
            rw [hri] at hm3
            obtain ⟨rfl, hr3⟩ := hm3
            obtain ⟨o3, h31, h32⟩ := ring_wf hri oq haq
            have HW : Hid _ := hw.trans (ringsOf_go (m := m') HRA.out hri)
            clear hri hw
            go_wp2_with fail
            go_roundg (s.size - r.pos + 1)
            case measure => have := o3.pos; omega
            case rel => exact .inl ⟨m', r, rfl, HW.out, by have := o3.pos; omega, Nat.le_refl _, hr3, o3, by omega, by omega, (hf.drewN k2).trans hf3⟩
          | error er =>
            rw [hri] at hm3
            obtain ⟨rfl, hw3⟩ := hm3
            have HW : Hid _ := hw.trans (ringsOf_err (m := m') HRA.out hri)
            clear hri hw
            go_wp2_with fail
            go_roundg 0
            case measure => omega
            case rel => exact .inr ⟨er, rfl, HW.out, hw3, (hf.drewN k2).trans hf3⟩
      · have HR : Hid (Bz.knot s (Bz.chain s n) g p = .error er) := by
          unfold Hid Bz.knot; rw [HA.out]; simp only; rw [hw]
        clear hw
        go_wp2_with fail
        refine wp_loop_rounds 1 ?_
        rw [rounds_succ]
        go_wp2_with fail
        go_ret2
        exact AtPost.error _ HR.out rfl hwr hf
end
end Go.Proofs.YtcabaecbmkgclaaGreatDoor

namespace Go.Proofs.YtcabaecbmkgclaaGreatDoor
open Go.RowKit Bz

section
variable {w : World} {B : Nat} {s : ByteArray} {p : St}

def LinkAt (w : World) (B : Nat) (s : ByteArray) (whole : R St) (rest : Nat → Nat → St → R St) (lo : Nat) (k : Nat) (va v : Value) (wr : World) : Prop :=
  (∃ m q, ∃ a : Nat, va = .int .i64 a ∧ v = .bool true ∧ whole = rest m a q ∧ s.size - q.pos < m ∧ s.size - q.pos + 1 ≤ k ∧ Rd wr B s q ∧ Ok s q ∧ a < q.atoms.length ∧ lo ≤ q.pos ∧ Fr B w wr) ∨
  (∃ er, ∃ x : Int, va = .int .i64 x ∧ v = .bool false ∧ whole = .error er ∧ Wrong wr B er ∧ Fr B w wr)

theorem linked_go {s : ByteArray} {c : Hung → St → R St} {a m b : Nat} {q r : St} (h1 : q.pos < s.size ∧ byteAt s q.pos ≠ 41) (h2 : Bz.linkedKnot s c a q = .ok (b, r)) : Bz.linked s c (m + 1) a q = Bz.linked s c m b r := by
  rw [Bz.linked, if_pos h1, h2]
theorem linked_err {s : ByteArray} {c : Hung → St → R St} {a m : Nat} {q : St} {e : Int × Int} (h1 : q.pos < s.size ∧ byteAt s q.pos ≠ 41) (h2 : Bz.linkedKnot s c a q = .error e) : Bz.linked s c (m + 1) a q = .error e := by
  rw [Bz.linked, if_pos h1, h2]
theorem linked_end {s : ByteArray} {c : Hung → St → R St} {a m : Nat} {q : St} (h1 : ¬ (q.pos < s.size ∧ byteAt s q.pos ≠ 41)) : Bz.linked s c (m + 1) a q = .ok q := by
  rw [Bz.linked, if_neg h1]

set_option maxRecDepth 100000 in
set_option maxHeartbeats 2000000 in
theorem chain_step {n : Nat} (hC : ChainW s n) (hs : s.size ≤ 160) : ChainW s (n + 1) := by
  intro w B g p h o hg hn
  have hB := h.lt
  have hA := knot_any hC hs (h.alloc (.cells #[.int .u8 g.mark, .int .i64 g.spot, .int .i64 g.atom] 92)) o g hg (by omega)
  have f0 := (Fr.refl B w).allocL hB (.cells #[.int .u8 g.mark, .int .i64 g.spot, .int .i64 g.atom] 92)
  have HC : Hid _ := hC
  unfold hungV at hA ⊢
  go_enter Tryz.func55, Tryz.ntmps55
  go_wp2_with fail
  refine hA.mono ?_
  rintro e w1 ⟨hm, hf1⟩
  clear hA hC
  cases ha : Bz.knot s (Bz.chain s n) g p with
  | error er =>
    rw [ha] at hm
    obtain ⟨⟨v, rfl⟩, hw1⟩ := hm
    have HR : Hid (Bz.chain s (n + 1) g p = .error er) := by unfold Hid; rw [Bz.chain, ha]
    clear ha
    go_wp2_with fail
    refine wp_loop_rounds 1 ?_
    rw [rounds_succ]
    go_wp2_with fail
    go_ret
    exact StPost.error HR.out rfl hw1 (f0.trans hf1)
  | ok x =>
    obtain ⟨a, p1⟩ := x
    rw [ha] at hm
    obtain ⟨rfl, hr1⟩ := hm
    simp only at hr1
    obtain ⟨o1, ha1, hp1, hl1⟩ := knot_wf (chain_wf s n) ha o
    have HR : Hid (Bz.chain s (n + 1) g p = Bz.linked s (Bz.chain s n) (s.size + 1) a p1) := by unfold Hid; rw [Bz.chain, ha]
    clear ha
    go_wp2_with fail
    go_loopg [5, 6] (s.size + 2) (fun k va v wr => LinkAt w B s (Bz.linked s (Bz.chain s n) (s.size + 1) a p1) (Bz.linked s (Bz.chain s n)) p1.pos k va v wr)
    case atStart => exact .inl ⟨s.size + 1, p1, a, rfl, rfl, rfl, by omega, by omega, hr1, o1, ha1, Nat.le_refl _, f0.trans hf1⟩
    case round =>
      rcases hrel with ⟨m, q, b, rfl, rfl, hw, hm1, hk, hr, oq, haq, hlo, hf⟩ | ⟨er, x, rfl, rfl, hw, hwr, hf⟩
      · obtain ⟨m', rfl⟩ : ∃ m', m = m' + 1 := ⟨m - 1, by omega⟩
        have hEn := ended_any hr oq.pos
        by_cases hlt : q.pos < s.size
        · have hd : (!decide (q.pos < s.size)) = false := by simp [hlt]
          rw [hd] at hEn
          clear hd
          have hPk : ∀ k2, _ := fun k2 => peek0 (hr.drewN k2) hs oq.pos
          have HPk : Hid _ := hPk
          clear hPk
          by_cases h41 : byteAt s q.pos = 41
          · have HW : Hid _ := HR.out.trans (hw.trans (linked_end (m := m') (a := b) (c := Bz.chain s n) (q := q) (by simp [h41])))
            rw [h41] at HPk
            clear hw h41
            go_wp2_with fail
            refine hEn.mono ?_
            rintro e w2 ⟨rfl, k2, rfl⟩
            clear hEn
            go_wp2_with fail
            refine (HPk.out k2).mono ?_
            rintro e w3 ⟨rfl, k3, rfl⟩
            go_wp2_with fail
            go_ret
            exact StPost.ok HW.out rfl (hr.drewN _) (hf.drewN _)
          · have t41 : (byteAt s q.pos != 41) = true := by simpa using h41
            have hL : ∀ k2, _ := fun k2 => linkedKnot_any (n := n) hs (hr.drewN k2) oq b haq (fun w g' q' hr' oq' hg' hp' => knot_any HC.out hs hr' oq' g' hg' (by omega))
            have HL : Hid _ := hL
            have H41 : Hid _ := (⟨hlt, h41⟩ : q.pos < s.size ∧ byteAt s q.pos ≠ 41)
            clear hL h41
            generalize byteAt s q.pos = c at HPk t41
            go_wp2_with fail
            refine hEn.mono ?_
            rintro e w2 ⟨rfl, k2, rfl⟩
            clear hEn
            go_wp2_with fail
            refine (HPk.out k2).mono ?_
            rintro e w3 ⟨rfl, k3, rfl⟩
            rw [World.drewN_drewN]
            go_wp2_with fail
            refine (HL.out (k2 + k3)).mono ?_
            rintro e w4 ⟨hm4, hf4⟩
            cases hlk : Bz.linkedKnot s (Bz.chain s n) b q with
            | ok y =>
              obtain ⟨b2, r⟩ := y
              rw [hlk] at hm4
              obtain ⟨rfl, hr4⟩ := hm4
              simp only at hr4
              obtain ⟨o4, h40, h42, h43⟩ := linkedKnot_wf (chain_wf s n) hlk oq haq
              have HW : Hid _ := hw.trans (linked_go (m := m') H41.out hlk)
              clear hlk hw
              go_wp2_with fail
              go_roundg (s.size - r.pos + 1)
              case measure => have := o4.pos; omega
              case rel => exact .inl ⟨m', r, b2, rfl, rfl, HW.out, by have := o4.pos; omega, Nat.le_refl _, hr4, o4, h40, by omega, (hf.drewN _).trans hf4⟩
            | error er =>
              rw [hlk] at hm4
              obtain ⟨⟨v, rfl⟩, hw4⟩ := hm4
              have HW : Hid _ := hw.trans (linked_err (m := m') H41.out hlk)
              clear hlk hw
              go_wp2_with fail
              go_roundg 0
              case measure => omega
              case rel => exact .inr ⟨er, v, rfl, rfl, HW.out, hw4, (hf.drewN _).trans hf4⟩
        · have hd : (!decide (q.pos < s.size)) = true := by simp [hlt]
          rw [hd] at hEn
          have HW : Hid _ := HR.out.trans (hw.trans (linked_end (m := m') (a := b) (c := Bz.chain s n) (q := q) (by simp [hlt])))
          clear hd hw
          go_wp2_with fail
          refine hEn.mono ?_
          rintro e w2 ⟨rfl, k2, rfl⟩
          clear hEn
          go_wp2_with fail
          go_ret
          exact StPost.ok HW.out rfl (hr.drewN _) (hf.drewN _)
      · have HW : Hid _ := HR.out.trans hw
        clear hw
        go_wp2_with fail
        go_ret
        exact StPost.error HW.out rfl hwr hf

theorem chain_any (hs : s.size ≤ 160) : ∀ n, ChainW s n
  | 0 => fun _ _ _ _ _ _ _ h => absurd h (Nat.not_lt_zero _)
  | n + 1 => chain_step (chain_any hs n) hs
end
end Go.Proofs.YtcabaecbmkgclaaGreatDoor
