/-
  The document's atom.
-/
import Derived.Test.YtcabaecbmkgclaaGreatDoorR15
import Derived.Deep.CutRange
namespace Go.Proofs.YtcabaecbmkgclaaGreatDoor
open Go.RowKit Bz
/-- Only at an append of these two. -/
theorem at_append {P : Program} {ops : Array Oper} {o : Oper} {a : Act} {w : World} {K : Act → World → Prop} {Q : Exit → Act → World → Prop} {E : Prop} (s x : Operand) (t : TypeId)
    (_hop : o.op = Op.call { callee := Callee.builtin Builtin.append, args := #[s, x], argTypes := #[t, t] }) (h : if Region.wanted o (yielded ops a.tmps) = true then Oper.wp P o a w K Q else E) :
    if Region.wanted o (yielded ops a.tmps) = true then Oper.wp P o a w K Q else E := h

theorem Tryz.infoAAtom : (Tryz.prog.info? 50).map (fun i => (i.zero, i.size, i.bytes)) = some (some (.agg #[.string ⟨#[]⟩, .bool false, .int .i64 0, .int .i64 0]), 4, 40) := by kernel_rfl
theorem Tryz.infoInt : (Tryz.prog.info? 3).map (fun i => (i.zero, i.size, i.bytes)) = some (some (.int .i64 0), 1, 8) := by kernel_rfl
theorem Tryz.infoBool : (Tryz.prog.info? 4).map (fun i => (i.zero, i.size, i.bytes)) = some (some (.bool false), 1, 1) := by kernel_rfl

def RAtPost (w : World) (B : Nat) (s : ByteArray) (r : R (Nat × St)) (e : Ending) (w' : World) : Prop :=
  (match r with
  | .ok x => e = .returned (.int .i64 x.1) ∧ RS w' B s x.2
  | .error er => (∃ v : Int, e = .returned (.int .i64 v)) ∧ RErr w' B er) ∧ RFr B w w'

theorem RAtPost.ok {w w' : World} {B : Nat} {s : ByteArray} {r : R (Nat × St)} {e : Ending} {k : Nat} {q : St} (hr : r = .ok (k, q)) (he : e = .returned (.int .i64 k)) (h1 : RS w' B s q) (h2 : RFr B w w') : RAtPost w B s r e w' := by subst hr; exact ⟨⟨he, h1⟩, h2⟩
theorem RAtPost.error {w w' : World} {B : Nat} {s : ByteArray} {r : R (Nat × St)} {e : Ending} {er : Int × Int} (v : Int) (hr : r = .error er) (he : e = .returned (.int .i64 v)) (h1 : RErr w' B er) (h2 : RFr B w w') : RAtPost w B s r e w' := by subst hr; exact ⟨⟨⟨v, he⟩, h1⟩, h2⟩

/-- Behind the test: the atom as it is written stands in its box, or something is wrong. -/
def RHead (w : World) (B : Nat) (s : ByteArray) (p : St) (op : List ROpn) (pl : Int) (M : Nat) (r : R (Atm × Nat)) (wc : World) : Prop :=
  match r with
  | .ok x => AtR w wc B s ⟨x.2, p.atoms, p.bonds, op, 0, pl⟩ M x.1
  | .error er => er.1 ≠ 0 ∧ ∃ a j, AtR w wc B s ⟨j, p.atoms, p.bonds, op, er.1, er.2⟩ M a

section
variable {w : World} {B : Nat} {s : ByteArray} {p : St}
theorem full_int (p : St) : ((p.atoms.length : Int) == 24) = full p := by rw [Bool.eq_iff_iff]; simp [full]; omega

theorem atom_err {g : Hung} {er : Int × Int} (h : atomHead s g p = .error er) : Bz.atom s g p = .error er := by rw [atom_eq, h]

theorem head_inner {g : Hung} (hbr : (byteAt s p.pos == 91) = true) (hf : full p = false) (hb : ∀ el ar n, element s (p.pos + 1) = some (el, ar, n) → ¬ (g.mark = 58 ∧ ar = false)) :
    atomHead s g p = match inner s (p.pos + 1) with
      | .error e => .error e
      | .ok (el, ar, ch, hy, j) => .ok (⟨el, ar, ch, hy, p.pos, true⟩, j) := by
  cases he : element s (p.pos + 1) with
  | none =>
    rw [head_none (i := p.pos + 1) hbr rfl he, hf]
    unfold inner
    rw [he]
    rfl
  | some y =>
    obtain ⟨el, ar, n⟩ := y
    rw [head_bracket hbr rfl he (hb el ar n he) hf]
    unfold inner
    rw [he]
    simp only
    cases bracket s (p.pos + 1 + n) <;> rfl

theorem AtR.tag {w0 : World} {q : RSt} {L : Nat} {a : Atm} (h : AtR w0 w B s q L a) (pl : Nat) (br : Bool) : AtR w0 w B s q L { a with pl := pl, br := br } := ⟨h.rd, h.c0, h.c1, h.c2, h.c3, h.fz, h.nm, h.ge, h.fr⟩

theorem charge_ch (s : ByteArray) (i : Nat) : (charge s i).1 = 0 ∨ (charge s i).1 = 1 ∨ (charge s i).1 = -1 := by
  unfold charge
  split
  · exact .inr (.inl rfl)
  · split
    · exact .inr (.inr rfl)
    · exact .inl rfl

theorem head_tag {g : Hung} {a : Atm} {j : Nat} (h : atomHead s g p = .ok (a, j)) : a.pl = p.pos ∧ a.br = (byteAt s p.pos == 91) ∧ (a.ch = 0 ∨ a.ch = 1 ∨ a.ch = -1) ∧ (a.br = false → a.ch = 0) := by
  unfold atomHead at h
  split at h
  · split at h <;> cases h
  · split at h
    · cases h
    · split at h
      · cases h
      · split at h
        · cases h
        · rename_i el ar n he ch hy j' hb
          simp only [Except.ok.injEq, Prod.mk.injEq] at h
          obtain ⟨rfl, rfl⟩ := h
          refine ⟨rfl, rfl, ?_, ?_⟩
          · split at hb
            · unfold bracket at hb
              simp only at hb
              split at hb
              · simp only [Except.ok.injEq, Prod.mk.injEq] at hb
                rw [← hb.1]
                exact charge_ch _ _
              · cases hb
            · simp only [Except.ok.injEq, Prod.mk.injEq] at hb
              exact .inl hb.1.symm
          · intro e
            simp only at e
            rw [e] at hb
            simp only [Bool.false_eq_true, if_false, Except.ok.injEq, Prod.mk.injEq] at hb
            exact hb.1.symm

theorem tie_atom {op : List ROpn} {pl : Int} (t : RTie s ⟨p.pos, p.atoms, p.bonds, op, 0, pl⟩ p) {g : Hung} {a : Atm} {j : Nat} (h : atomHead s g p = .ok (a, j)) (lb : List Bnd) :
    RTie s ⟨j, p.atoms ++ [a], lb, op, 0, pl⟩ ⟨j, p.atoms ++ [a], lb, p.rings⟩ := by
  have hj := head_pos h
  have ht := head_tag h
  refine ⟨rfl, rfl, rfl, rfl, t.opens, t.apart, t.nums, by have := t.count; simp only at this ⊢; omega, ?_⟩
  intro x hx
  rcases List.mem_append.1 hx with hx | hx
  · exact t.chs x hx
  · simp at hx; subst hx; exact ht.2.2

theorem order_tie {q : RSt} {p' : St} (h : q.atoms = p'.atoms) (m : Int) (a b : Nat) : rorder q m a b = Bz.order p' m a b := by
  have ha : ∀ k : Nat, Bz.aro p' (k : Int) = (q.atoms[k]?).any (·.aro) := by
    intro k
    unfold Bz.aro
    rw [h]
    simp only [Int.toNat_natCast]
    cases p'.atoms[k]? <;> rfl
  unfold rorder Bz.order
  rw [ha, ha]

theorem RL.retag {q q' : RSt} {la la' : List Atm} {lc : List Nat} {ld : List Bool} (h : RL w B s q la lc ld) (hl : la'.length = la.length) (hc : la'.flatMap plainCells = la.flatMap plainCells) (h1 : q'.pos = q.pos) (h2 : q'.bonds = q.bonds) (h3 : q'.opens = q.opens) (h4 : q'.e = q.e) (h5 : q'.place = q.place) : RL w B s q' la' lc ld := by
  refine ⟨h.text, by rw [h1]; exact h.pos, by rw [hl, hc]; exact h.atoms, by rw [h2]; exact h.bonds, h.ats, h.brs, by rw [h3]; exact h.opens, by rw [h4]; exact h.err, by rw [h5]; exact h.plc, h.free⟩

def HeadOut (r : R (Atm × Nat)) (a : Atm) (j : Nat) (e' pl' pl : Int) : Prop :=
  match r with
  | .ok x => x.1 = a ∧ x.2 = j ∧ e' = 0 ∧ pl' = pl
  | .error er => e' = er.1 ∧ pl' = er.2 ∧ er.1 ≠ 0

theorem RHead.at {op : List ROpn} {pl : Int} {M : Nat} {r : R (Atm × Nat)} {wc : World} (h : RHead w B s p op pl M r wc) : ∃ a j e' pl', AtR w wc B s ⟨j, p.atoms, p.bonds, op, e', pl'⟩ M a ∧ HeadOut r a j e' pl' pl := by
  unfold RHead at h
  cases r with
  | ok x => exact ⟨x.1, x.2, 0, pl, h, rfl, rfl, rfl, rfl⟩
  | error er =>
    obtain ⟨h0, a, j, ha⟩ := h
    exact ⟨a, j, er.1, er.2, ha, rfl, rfl, h0⟩

theorem RL.newAtom {w5 : World} {a : Atm} {j : Nat} {lb : List Bnd} {op : List ROpn} {e' pl' : Int} {br : Bool} (hl : RL w5 B s ⟨j, p.atoms, lb, op, e', pl'⟩ (p.atoms ++ [a]) (p.atoms.map (·.pl) ++ [p.pos]) (p.atoms.map (·.br) ++ [br])) :
    RRd w5 B s ⟨j, p.atoms ++ [{ a with pl := p.pos, br := br }], lb, op, e', pl'⟩ := by
  refine RL.rrd (p := ⟨j, p.atoms ++ [{ a with pl := p.pos, br := br }], lb, op, e', pl'⟩) ?_
  have := hl.retag (q' := ⟨j, p.atoms ++ [{ a with pl := p.pos, br := br }], lb, op, e', pl'⟩) (la' := p.atoms ++ [{ a with pl := p.pos, br := br }]) (by simp) (by simp [plainCells]) rfl rfl rfl rfl rfl
  simpa using this

theorem ratom_fin {op : List ROpn} {pl : Int} {g : Hung} {a : Atm} {j : Nat} {e' pl' : Int} {w5 : World} {br : Bool} (hbr : (byteAt s p.pos == 91) = br) (tie : RTie s ⟨p.pos, p.atoms, p.bonds, op, 0, pl⟩ p) (hout : HeadOut (atomHead s g p) a j e' pl' pl) (lb : List Bnd)
    (hl : RRd w5 B s ⟨j, p.atoms ++ [{ a with pl := p.pos, br := br }], lb, op, e', pl'⟩) (hf : RFr B w w5)
    (hlb : atomHead s g p = .ok (a, j) → Bz.atom s g p = .ok (p.atoms.length, ⟨j, p.atoms ++ [a], lb, p.rings⟩)) : RAtPost w B s (Bz.atom s g p) (.returned (.int .i64 p.atoms.length)) w5 := by
  cases hr : atomHead s g p with
  | ok x =>
    obtain ⟨x1, x2⟩ := x
    rw [hr] at hout
    obtain ⟨h1, h2, h3, h4⟩ := hout
    simp only at h1 h2
    subst h1 h2 h3 h4
    have ht := head_tag hr
    refine RAtPost.ok (hlb hr) rfl ⟨_, ?_, tie_atom tie hr lb⟩ hf
    have e : ({ x1 with pl := p.pos, br := br } : Atm) = x1 := by
      obtain ⟨t1, t2, _⟩ := ht
      rw [hbr] at t2
      rw [← t1, ← t2]
    rw [e] at hl
    exact hl
  | error er =>
    rw [hr] at hout
    obtain ⟨h1, h2, h3⟩ := hout
    exact RAtPost.error _ (atom_err hr) rfl (hl.wrong h1 h2 h3) hf

set_option maxRecDepth 100000 in
set_option maxHeartbeats 4000000 in
theorem ratom_any {op : List ROpn} {pl : Int} (h : RRd w B s ⟨p.pos, p.atoms, p.bonds, op, 0, pl⟩) (tie : RTie s ⟨p.pos, p.atoms, p.bonds, op, 0, pl⟩ p) (o : Ok s p) (hs : s.size ≤ 160) (g : Hung) (hg : HungOk g p) (sa : Int) (hsa : g.mark = 58 → g.spot = sa) :
    Calls Tryz.prog 92 #[.pointer (some ⟨B, 0, none⟩), .int .i64 g.atom, .int .u8 g.mark, .int .i64 sa] w (RAtPost w B s (Bz.atom s g p)) := by
  have hB := h.lt
  have hps := o.pos
  have A0 := AtR.mk0 h (RFr.refl B w) 50
  have q1 := h.pos
  have q7 := h.err
  simp only at q1 q7
  have R0 := rnext_ok A0.rd rfl
  simp only at R0
  have HT : Hid _ := tie
  have HOk : Hid (Ok s p) := o
  have HG : Hid (HungOk g p) := hg
  clear tie
  go_enter Tryz.func92, Tryz.ntmps92
  go_wp2_with fail
  refine R0.mono ?_
  rintro e w1 ⟨rfl, k1, rfl⟩
  have A1 := A0.drewN k1
  clear R0 A0
  generalize World.drewN _ _ = w1 at *
  have hBR : Hid ((byteAt s p.pos == 91) = (byteAt s p.pos == 91)) := rfl
  generalize hbr : (byteAt s p.pos == 91) = br at *
  have HBR : Hid ((byteAt s p.pos == 91) = br) := hbr
  have hbp : br = true → p.pos < s.size := by intro e; subst e; exact byte_lt (by simpa using hbr) (by decide)
  clear hBR
  obtain ⟨av, hav, oa⟩ := A1.rd.atoms
  obtain ⟨ao, cap, rfl⟩ := ownsRow_shape oa
  simp only at hav
  have hfi := full_int p
  clear oa
  go_upto_region 7 with fail
  go_cut [13, 14, 15] from 36 to 49 (fun v13 v14 v15 wc => (∃ x, v13 = .string x) ∧ v14 = .bool (rname s p.pos).2.1 ∧ v15 = .int .i64 (rname s p.pos).2.2 ∧ AtR w wc B s ⟨p.pos, p.atoms, p.bonds, op, 0, pl⟩ w.heap.size noAtm)
  case first =>
    have t0 := A1.rd.text
    have t1 := A1.rd.pos
    simp only at t1
    have hq : (p.pos : Int) ≤ (s.size : Int) := by omega
    have HA : Hid (AtR w w1 B s ⟨p.pos, p.atoms, p.bonds, op, 0, pl⟩ w.heap.size noAtm) := A1
    clear A1 q1 q7 hav
    go_region_with (go_at_call 120; with_reducible refine (rname_at _ s p.pos hs).mono ?_; rintro e w2 ⟨rfl, hb2⟩; unfold nameV)
    all_goals
      go_simp
      go_wp2_with fail
      go_meet
      case rel => exact ⟨⟨_, rfl⟩, rfl, rfl, HA.out.drew.below hb2⟩
  case rest =>
    clear A1 q1 q7 hav
    obtain ⟨⟨el0, rfl⟩, rfl, rfl, A2⟩ := hcut
    generalize hi : (if br = true then p.pos + 1 else p.pos) = i at *
    have HI : Hid _ := hi
    go_upto_if 50 with fail
    go_cut [14, 15] from 51 to 65 (fun v14 v15 wc => v14 = .bool (rname s i).2.1 ∧ v15 = .int .i64 (rname s i).2.2 ∧ AtR w wc B s ⟨p.pos, p.atoms, p.bonds, op, 0, pl⟩ w.heap.size noAtm)
    case first =>
      cases br
      · have hi' : p.pos = i := by simpa using hi
        subst hi'
        go_wp2_with fail
        go_meet
        case rel => exact ⟨rfl, rfl, A2⟩
      · have hi' : p.pos + 1 = i := by simpa using hi
        subst hi'
        have t0 := A2.rd.text
        have t1 := A2.rd.pos
        simp only at t1
        have hq : (p.pos : Int) + 1 ≤ (s.size : Int) := by have := hbp rfl; omega
        have hq2 : p.pos + 1 ≤ s.size := hbp rfl
        have hq3 : (p.pos : Int) < (s.size : Int) := by omega
        have HA : Hid (AtR w wc B s ⟨p.pos, p.atoms, p.bonds, op, 0, pl⟩ w.heap.size noAtm) := A2
        clear A2 hi
        go_wp2_with fail
        have hq4 : 0 ≤ (p.pos : Int) + 1 := by omega
        have hw1 : IntKind.i64.wrap ((p.pos : Int) + 1) = (p.pos : Int) + 1 := by simp [IntKind.wrap, IntKind.bits, IntKind.signed]; omega
        go_region_with (go_at_call 120; with_reducible refine (rname_at _ s (p.pos + 1) hs).mono ?_; rintro e w2 ⟨rfl, hb2⟩; unfold nameV)
        all_goals
          go_simp
          go_wp2_with fail
          go_meet
          case rel => exact ⟨rfl, rfl, HA.out.drew.below hb2⟩
    case rest =>
      clear A2
      obtain ⟨rfl, rfl, A3⟩ := hcut
      obtain ⟨el, sm, n, hx⟩ : ∃ el sm n, rname s i = (el, sm, n) := ⟨_, _, _, rfl⟩
      rw [hx]
      simp only
      have HX : Hid (rname s i = (el, sm, n)) := hx
      clear hx hi
      go_upto_region 10 with fail
      go_cut [71] from 66 to 70 (fun v wc => v = .bool (decide (n = 0 ∧ br = false)) ∧ AtR w wc B s ⟨p.pos, p.atoms, p.bonds, op, 0, pl⟩ w.heap.size noAtm)
      case first =>
        cases e1 : ((n : Int) == 0)
        · have hn : ¬ n = 0 := by simp at e1; omega
          have HV : Hid (decide (n = 0 ∧ br = false) = false) := by unfold Hid; simp [hn]
          clear hn
          go_wp2_with fail
          go_meet
          case rel => exact ⟨by rw [HV.out], A3⟩
        · cases br
          · have HV : Hid (decide (n = 0 ∧ false = false) = true) := by unfold Hid; simp at e1; simp; omega
            go_wp2_with fail
            go_meet
            case rel => exact ⟨by rw [HV.out], A3⟩
          · have HV : Hid (decide (n = 0 ∧ true = false) = false) := by unfold Hid; simp
            go_wp2_with fail
            go_meet
            case rel => exact ⟨by rw [HV.out], A3⟩
      case rest =>
        clear A3
        obtain ⟨rfl, A4⟩ := hcut
        by_cases hA : n = 0 ∧ br = false
        · rw [decide_eq_true hA]
          have HE : Hid (Bz.atom s g p = .error (2, (p.pos : Int))) := by
            have he : element s i = none := by
              have := HX.out
              unfold rname at this
              split at this
              · rename_i y hy
                subst this
                have := element_pos hy
                omega
              · assumption
            have := atom_err (head_none (g := g) HBR.out HI.out he)
            rw [hA.2] at this
            have hip : i = p.pos := by have := HI.out; rw [hA.2] at this; simpa using this.symm
            rw [hip] at this
            exact this
          have c1 := A4.rd.pos
          simp only at c1
          have RF := rfail_any A4.rd 2 (p.pos : Int)
          clear hA
          go_wp2_with fail
          refine RF.mono ?_
          rintro e w5 ⟨rfl, hr5, hf5⟩
          go_wp2_with fail
          go_ret
          exact RAtPost.error _ HE.out rfl (hr5.wrong rfl rfl (by simp)) (A4.fr.trans hf5)
        · rw [decide_eq_false hA]
          have HnA : Hid (¬ (n = 0 ∧ br = false)) := hA
          clear hA
          go_upto_region 13 with fail
          go_cut [87] from 78 to 86 (fun v wc => v = .bool (decide (g.mark = 58 ∧ 0 < n ∧ sm = false)) ∧ AtR w wc B s ⟨p.pos, p.atoms, p.bonds, op, 0, pl⟩ w.heap.size noAtm)
          case first =>
            cases e1 : (g.mark == 58)
            · have HV : Hid (decide (g.mark = 58 ∧ 0 < n ∧ sm = false) = false) := by unfold Hid; simp at e1; simp [e1]
              go_wp2_with fail
              go_meet
              case rel => exact ⟨by rw [HV.out], A4⟩
            · by_cases hn : 0 < n
              · have hn' : (0 : Int) < (n : Int) := by omega
                cases sm
                · have HV : Hid (decide (g.mark = 58 ∧ 0 < n ∧ false = false) = true) := by unfold Hid; simp at e1; simp [e1, hn]
                  go_wp2_with fail
                  go_meet
                  case rel => exact ⟨by rw [HV.out], A4⟩
                · have HV : Hid (decide (g.mark = 58 ∧ 0 < n ∧ true = false) = false) := by unfold Hid; simp
                  go_wp2_with fail
                  go_meet
                  case rel => exact ⟨by rw [HV.out], A4⟩
              · have hn' : ¬ (0 : Int) < (n : Int) := by omega
                have HV : Hid (decide (g.mark = 58 ∧ 0 < n ∧ sm = false) = false) := by unfold Hid; simp; intro _ h0; exact absurd h0 hn
                clear hn
                go_wp2_with fail
                go_meet
                case rel => exact ⟨by rw [HV.out], A4⟩
          case rest =>
            clear A4
            obtain ⟨rfl, A5⟩ := hcut
            by_cases hA : g.mark = 58 ∧ 0 < n ∧ sm = false
            · rw [decide_eq_true hA]
              have HE : Hid (Bz.atom s g p = .error (3, g.spot)) := by
                have he : element s i = some (el, sm, n) := by
                  have := HX.out
                  unfold rname at this
                  split at this
                  · rename_i y hy
                    rw [hy, this]
                  · simp only [Prod.mk.injEq] at this
                    have := hA.2.1
                    omega
                exact atom_err (head_bond (g := g) HBR.out HI.out he ⟨hA.1, hA.2.2⟩)
              have RF := rfail_any A5.rd 3 sa
              have hsp := hsa hA.1
              have HSP : Hid _ := hsp
              clear hA hsa hsp
              go_wp2_with fail
              refine RF.mono ?_
              rintro e w5 ⟨rfl, hr5, hf5⟩
              go_wp2_with fail
              go_ret
              exact RAtPost.error _ HE.out rfl (hr5.wrong rfl (by show sa = g.spot; exact HSP.out.symm) (by simp)) (A5.fr.trans hf5)
            · rw [decide_eq_false hA]
              have HnB : Hid (¬ (g.mark = 58 ∧ 0 < n ∧ sm = false)) := hA
              clear hA
              cases hfu : full p
              · have HNB : Hid (∀ el ar n, element s i = some (el, ar, n) → ¬ (g.mark = 58 ∧ ar = false)) := by
                  intro a1 a2 a3 he e
                  have h2 := HX.out
                  rw [rname_some he] at h2
                  simp only [Prod.mk.injEq] at h2
                  obtain ⟨rfl, rfl, rfl⟩ := h2
                  exact HnB.out ⟨e.1, (element_pos he).2, e.2⟩
                have HFU : Hid (full p = false) := hfu
                clear hfu hfi
                go_upto_if 95 with fail
                go_cut [15] from 96 to 129 (fun v wc => RHead w B s p op pl w.heap.size (atomHead s g p) wc)
                case first =>
                  cases br
                  · have hip : i = p.pos := by have := HI.out; simpa using this.symm
                    subst hip
                    have he : element s p.pos = some (el, sm, n) := by
                      have h1 := HnA.out
                      have h2 := HX.out
                      unfold rname at h2
                      split at h2
                      · rename_i y hy
                        rw [hy, h2]
                      · simp only [Prod.mk.injEq] at h2
                        exact absurd ⟨h2.2.2.symm, rfl⟩ h1
                    have hpn := element_pos he
                    have HE : Hid _ := head_plain (g := g) HBR.out rfl he (HNB.out _ _ _ he) HFU.out
                    have t0 := A5.rd.text
                    have t1 := A5.rd.pos
                    simp only at t1
                    have hq : (p.pos : Int) ≤ (s.size : Int) := by omega
                    have HA : Hid (AtR w wc B s ⟨p.pos, p.atoms, p.bonds, op, 0, pl⟩ w.heap.size noAtm) := A5
                    have hRN : Hid (rname s p.pos = (el, sm, n)) := rname_some he
                    clear A5 he
                    go_wp2_with fail
                    go_region_with (go_at_call 120; with_reducible refine (rname_at _ s p.pos hs).mono ?_; rintro e w2 ⟨rfl, hb2⟩; rw [hRN.out]; unfold nameV; have A6 := HA.out.drew.below hb2; have a0 := A6.c0; have a1 := A6.c1; have z0 := A6.fz 0; have z1 := A6.fz 1)
                    all_goals
                      go_simp
                      have A7 := (A6.setEl el).setAro sm
                      have t1' := A7.rd.pos
                      have f1' := A7.rd.free 1
                      simp only at t1'
                      have A8 := A7.setPos (p.pos + n) (.int .i64 ((p.pos : Int) + n)) (by go_num)
                      clear A6 a0 a1 z0 z1 t0 t1
                      go_wp2_with fail
                      go_meet
                      case rel => rw [HE.out]; exact A8.tag p.pos false
                  · have hip : i = p.pos + 1 := by have := HI.out; simpa using this.symm
                    subst hip
                    have hlt := hbp rfl
                    have HE : Hid _ := head_inner (g := g) HBR.out HFU.out HNB.out
                    have c1 := A5.rd.pos
                    have f1 := A5.rd.free 1
                    simp only at c1
                    have A6 := A5.setPos (p.pos + 1) (.int .i64 ((p.pos : Int) + 1)) (by go_num)
                    have RB := rbrackets_any A6.rd rfl hs hlt
                    clear A5
                    go_wp2_with fail
                    refine RB.mono ?_
                    rintro e w6 ⟨hm, hf6⟩
                    clear RB c1 f1
                    simp only at hm
                    cases hin : inner s (p.pos + 1) with
                    | ok y =>
                      obtain ⟨el', ar', ch, hy, j⟩ := y
                      rw [hin] at hm HE
                      obtain ⟨rfl, hr6⟩ := hm
                      simp only at HE
                      have A7 := A6.step hr6 hf6
                      have A8 := (((A7.setEl el').setAro ar').setCh ch).setHy hy
                      have a0 := A7.c0
                      have a1 := A7.c1
                      have a2 := A7.c2
                      have a3 := A7.c3
                      have z0 := A7.fz 0
                      have z1 := A7.fz 1
                      have z2 := A7.fz 2
                      have z3 := A7.fz 3
                      clear A6 A7 hr6 hf6 hin
                      go_wp2_with fail
                      go_meet
                      case rel => rw [HE.out]; exact A8.tag p.pos true
                    | error er =>
                      rw [hin] at hm HE
                      obtain ⟨h2, ⟨a, rfl⟩, j, hj, hr6⟩ := hm
                      simp only at HE
                      have A7 := A6.step hr6 hf6
                      have A8 := (((A7.setEl a.el).setAro a.aro).setCh a.ch).setHy a.hy
                      have a0 := A7.c0
                      have a1 := A7.c1
                      have a2 := A7.c2
                      have a3 := A7.c3
                      have z0 := A7.fz 0
                      have z1 := A7.fz 1
                      have z2 := A7.fz 2
                      have z3 := A7.fz 3
                      have H2 : Hid (er.1 ≠ 0) := by unfold Hid; omega
                      clear A6 A7 hr6 hf6 hin h2
                      unfold plainV
                      go_wp2_with fail
                      go_meet
                      case rel => rw [HE.out]; exact ⟨H2.out, _, _, A8⟩
                case rest =>
                  clear A5
                  obtain ⟨a, j, e', pl', A6, hout⟩ := hcut.at
                  clear hcut
                  have HOUT : Hid (HeadOut (atomHead s g p) a j e' pl' pl) := hout
                  clear hout
                  have hk24 := HOk.out.atoms
                  have hb200 := HOk.out.bonds
                  have hal : p.atoms.length < 25 := by omega
                  obtain ⟨ia, hia, za0, za1, za2⟩ := info_parts Tryz.infoAAtom
                  obtain ⟨ii, hii, zi0, zi1, zi2⟩ := info_parts Tryz.infoInt
                  obtain ⟨ib, hib, zb0, zb1, zb2⟩ := info_parts Tryz.infoBool
                  obtain ⟨ic, hic, zc0, zc1, zc2⟩ := info_parts Tryz.infoBond
                  obtain ⟨av, hav, oa⟩ := A6.rd.atoms
                  obtain ⟨ao2, cap2, hve⟩ := ownsRow_shape oa
                  subst hve
                  simp only at hav oa
                  have hB6 := A6.rd.lt
                  have f2 := A6.rd.free 2
                  have m0 := A6.c0
                  have m1 := A6.c1
                  have m2 := A6.c2
                  have m3 := A6.c3
                  have HRL : Hid (RL wc B s ⟨j, p.atoms, p.bonds, op, e', pl'⟩ p.atoms (p.atoms.map (·.pl)) (p.atoms.map (·.br))) := A6.rd.rl
                  have HFR : Hid (RFr B w wc) := A6.fr
                  have HOA : Hid (wc.ownsRow (B + 1) 50 4 (.slice ao2 p.atoms.length cap2) p.atoms.length (p.atoms.flatMap plainCells)) := oa
                  have HAV : Hid (∀ o', ((wc.drew).alloc o').cell? ⟨B, 2, none⟩ = some (.slice ao2 p.atoms.length cap2)) := by
                    intro o'
                    rw [World.cell?_alloc_lt _ _ _ (by simpa using hB6)]; exact hav
                  have hnews : Hid (∀ (t : TypeId), ∀ j u, (plainCells a)[j]? = some u → ((wc.drew).alloc (.cells #[.string a.el, .bool a.aro, .int .i64 a.ch, .int .i64 a.hy] t)).cell? ((⟨wc.heap.size, 0, none⟩ : Addr).add j) = some u) := by
                    intro t j u hj
                    rw [Addr.add_lit, Nat.zero_add]
                    simpa [plainCells, go_sem] using hj
                  have h1c : Hid (∀ u ∈ plainCells a, u.oneCell' = true) := by
                    intro u hu
                    simp [plainCells] at hu
                    rcases hu with rfl | rfl | rfl | rfl <;> rfl
                  clear A6 oa
                  go_upto_region 25 with fail
                  go_cut [] from 136 to 147 (fun wd => RL wd B s ⟨j, p.atoms, p.bonds, op, e', pl'⟩ (p.atoms ++ [a]) (p.atoms.map (·.pl)) (p.atoms.map (·.br)) ∧ RFr B w wd)
                  case first =>
                    go_region_law (refine step_append_mine rfl (.tmp 141) (.tmp 143) 36 rfl (B + 1) 50 ia (.agg #[.string ⟨#[]⟩, .bool false, .int .i64 0, .int .i64 0]) 4 40 Tryz.underlying36 hia za0 za1 za2 rfl (by decide) (.slice ao2 p.atoms.length cap2) p.atoms.length (p.atoms.flatMap plainCells) rfl (by exact (HOA.out.drew).alloc _) ⟨wc.heap.size, 0, none⟩ 1 1 (plainCells a) rfl rfl (by exact hnews.out _) h1c.out (by unfold maxLen; omega) (by omega) (by simp; omega) ?_; intro v' w2 ho hg hk; obtain ⟨ao3, cap3, hv'⟩ := ownsRow_shape ho; subst hv'; have X := ((HRL.out.drew).alloc _).addAtom (la' := p.atoms ++ [a]) (HAV.out _) _ (by rw [List.length_append, List.flatMap_append]; exact ho) hg hk; obtain ⟨c3, f3', _⟩ := ((HRL.out.drew).alloc _).grew (j := 2) (by omega) (by omega) (HAV.out _) _ hg hk; have f3x := f3' 2; have c3x := (c3 2).trans (HAV.out _))
                    all_goals
                      go_simp
                      have HX2 : Hid _ := X
                      clear X ho hg hk c3 f3'
                      go_wp2_with fail
                      go_meet
                      case rel => exact ⟨HX2.out.1, HFR.out.trans ((((RFr.refl B wc).drew).alloc (by simpa using hB6) _).trans HX2.out.2)⟩
                  case rest =>
                    obtain ⟨hl1, hf1⟩ := hcut
                    clear HRL HFR HOA HAV hnews h1c hav f2 m0 m1 m2 m3 hB6
                    have hB7 := hl1.lt
                    obtain ⟨v4, h4, o4⟩ := hl1.ats
                    obtain ⟨ao4, cap4, hv4⟩ := ownsRow_shape o4
                    subst hv4
                    have HO4 : Hid (wc.ownsRow (B + 1) 3 1 (.slice ao4 (p.atoms.map (·.pl)).length cap4) (p.atoms.map (·.pl)).length ((p.atoms.map (·.pl)).map fun (a : Nat) => .int .i64 a)) := o4
                    have HL1 : Hid (RL wc B s ⟨j, p.atoms, p.bonds, op, e', pl'⟩ (p.atoms ++ [a]) (p.atoms.map (·.pl)) (p.atoms.map (·.br))) := hl1
                    have HF1 : Hid (RFr B w wc) := hf1
                    have f4 := hl1.free 4
                    have H4 : Hid (∀ o', (wc.alloc o').cell? ⟨B, 4, none⟩ = some (.slice ao4 (p.atoms.map (·.pl)).length cap4)) := by
                      intro o'
                      rw [World.cell?_alloc_lt _ _ _ hB7]; exact h4
                    have HLN : Hid ((p.atoms.map (·.pl)).length = p.atoms.length) := List.length_map _
                    have HLN2 : Hid ((p.atoms.map (·.br)).length = p.atoms.length) := List.length_map _
                    generalize hlc : p.atoms.map (·.pl) = lc at *
                    generalize hld : p.atoms.map (·.br) = ld at *
                    have HLC : Hid (p.atoms.map (·.pl) = lc) := hlc
                    have HLD : Hid (p.atoms.map (·.br) = ld) := hld
                    clear hlc hld
                    clear hl1 hf1 o4
                    go_wp2_with (at_builtin; go_must (refine wpList_append_mine rfl (.tmp 152) (.tmp 154) 25 rfl (B + 1) 3 ii (.int .i64 0) 1 8 Tryz.underlying25 hii zi0 zi1 zi2 rfl (by decide) (.slice ao4 lc.length cap4) lc.length (lc.map fun (a : Nat) => .int .i64 a) rfl (by exact HO4.out.alloc _) ⟨wc.heap.size, 0, none⟩ 1 1 [.int .i64 (p.pos : Int)] rfl rfl ?c1 ?c2 ?c3 ?c4 ?c5 ?_))
                    case c1 =>
                      intro j u hj
                      first
                      | exact hj
                      | (rw [Addr.add_lit, Nat.zero_add]; simpa [go_sem] using hj)
                    case c2 => intro u hu; simp at hu; subst hu; rfl
                    case c3 => have := HLN.out; unfold maxLen; omega
                    case c4 => have := HLN.out; omega
                    case c5 => first | omega | (simp; omega)
                    intro v' w2 ho hg hk
                    have hk : ∀ m, v'.ownBlock = some m → (Value.slice ao4 lc.length cap4).ownBlock = some m ∨ (wc.alloc (.cells #[.int .i64 (p.pos : Int)] 3)).heap.size ≤ m := by simpa using hk
                    obtain ⟨ao5, cap5, hv5⟩ := ownsRow_shape ho
                    subst hv5
                    have X := (HL1.out.alloc _).addAt (lc' := lc ++ [p.pos]) (H4.out _) _ (by rw [List.length_append, List.map_append]; exact ho) hg hk
                    obtain ⟨c4, f4', _⟩ := (HL1.out.alloc _).grew (j := 4) (by omega) (by omega) (H4.out _) _ hg hk
                    have c4x := (c4 4).trans (H4.out _)
                    have f4x := f4' 4
                    have HX3 : Hid _ := X
                    have HF3 : Hid (RFr B w (w2.setCell ⟨B, 4, none⟩ (.slice ao5 (lc.length + 1) cap5))) := HF1.out.trans (((RFr.refl B wc).alloc hB7 _).trans X.2)
                    have HL3 : Hid (RL (w2.setCell ⟨B, 4, none⟩ (.slice ao5 (lc.length + 1) cap5)) B s ⟨j, p.atoms, p.bonds, op, e', pl'⟩ (p.atoms ++ [a]) (lc ++ [p.pos]) ld) := X.1
                    obtain ⟨v6, h6, o6⟩ := X.1.brs
                    obtain ⟨ao6, cap6, hv6⟩ := ownsRow_shape o6
                    subst hv6
                    have HO6 : Hid ((w2.setCell ⟨B, 4, none⟩ (.slice ao5 (lc.length + 1) cap5)).ownsRow (B + 1) 4 1 (.slice ao6 ld.length cap6) ld.length (ld.map fun a => .bool a)) := o6
                    have hB8 := X.1.lt
                    have f5 := X.1.free 5
                    have H6 : Hid (∀ o', ((w2.setCell ⟨B, 4, none⟩ (.slice ao5 (lc.length + 1) cap5)).alloc o').cell? ⟨B, 5, none⟩ = some (.slice ao6 ld.length cap6)) := by
                      intro o'
                      rw [World.cell?_alloc_lt _ _ _ hB8]; exact h6
                    clear X ho hg hk c4 f4' HX3 o6 HL1 HF1 HO4 H4
                    have h6' : (w2.setCell ⟨B, 4, none⟩ (.slice ao5 (lc.length + 1) cap5)).cell? ⟨B, 5, none⟩ = some (.slice ao6 ld.length cap6) := h6
                    go_upto_region 27 with fail
                    generalize World.setCell w2 _ _ = w3 at *
                    go_wp2_with (at_builtin; go_must (refine wpList_append_mine rfl (.tmp 162) (.tmp 164) 129 rfl (B + 1) 4 ib (.bool false) 1 1 Tryz.underlying129 hib zb0 zb1 zb2 rfl (by decide) (.slice ao6 ld.length cap6) ld.length (ld.map fun a => .bool a) rfl (by exact HO6.out.alloc _) ⟨w3.heap.size, 0, none⟩ 1 1 [.bool br] rfl rfl ?c1 ?c2 ?c3 ?c4 ?c5 ?_))
                    case c1 =>
                      intro j u hj
                      first
                      | exact hj
                      | (rw [Addr.add_lit, Nat.zero_add]; simpa [go_sem] using hj)
                    case c2 => intro u hu; simp at hu; subst hu; rfl
                    case c3 => have := HLN2.out; unfold maxLen; omega
                    case c4 => have := HLN2.out; omega
                    case c5 => first | omega | (simp; omega)
                    intro v' w4 ho hg hk
                    have hk : ∀ m, v'.ownBlock = some m → (Value.slice ao6 ld.length cap6).ownBlock = some m ∨ (w3.alloc (.cells #[.bool br] 4)).heap.size ≤ m := by simpa using hk
                    obtain ⟨ao7, cap7, hv7⟩ := ownsRow_shape ho
                    subst hv7
                    have X := (HL3.out.alloc _).addBr (ld' := ld ++ [br]) (H6.out _) _ (by rw [List.length_append, List.map_append]; exact ho) hg hk
                    obtain ⟨c5, f5', _⟩ := (HL3.out.alloc _).grew (j := 5) (by omega) (by omega) (H6.out _) _ hg hk
                    have c5x := (c5 5).trans (H6.out _)
                    have f5x := f5' 5
                    have HF5 : Hid (RFr B w (w4.setCell ⟨B, 5, none⟩ (.slice ao7 (ld.length + 1) cap7))) := HF3.out.trans (((RFr.refl B w3).alloc hB8 _).trans X.2)
                    have HL5 : Hid (RL (w4.setCell ⟨B, 5, none⟩ (.slice ao7 (ld.length + 1) cap7)) B s ⟨j, p.atoms, p.bonds, op, e', pl'⟩ (p.atoms ++ [a]) (lc ++ [p.pos]) (ld ++ [br])) := X.1
                    clear X ho hg hk c5 f5' HL3 HF3 HO6 H6 h6 h6' c4x f4x
                    go_upto_if 169 with fail
                    generalize World.setCell w4 _ _ = w5 at *
                    have HR5 : Hid (RRd w5 B s ⟨j, p.atoms ++ [{ a with pl := p.pos, br := br }], p.bonds, op, e', pl'⟩) := by
                      have := HL5.out
                      rw [← HLC.out, ← HLD.out] at this
                      exact this.newAtom
                    clear HL5
                    rcases HG.out with hgm | ⟨fa, hga, hfa⟩
                    · have HGM : Hid (g.atom = -1) := hgm
                      have hlt0 : ¬ 0 ≤ g.atom := by omega
                      clear hgm hg
                      go_wp2_with fail
                      go_ret
                      refine ratom_fin HBR.out HT.out HOUT.out p.bonds HR5.out HF5.out ?_
                      intro hh
                      rw [atom_eq, hh]
                      simp only [atomTail]
                      rw [if_pos HGM.out]
                    · have HGA : Hid (g.atom = (fa : Int)) := hga
                      generalize ha2 : ({ a with pl := p.pos, br := br } : Atm) = a2 at *
                      have HA2 : Hid (({ a with pl := p.pos, br := br } : Atm) = a2) := ha2
                      clear ha2
                      have hge : 0 ≤ g.atom := by omega
                      obtain ⟨Q, hQ⟩ : ∃ Q : RSt, Q = ⟨j, p.atoms ++ [a2], p.bonds, op, e', pl'⟩ := ⟨_, rfl⟩
                      rw [← hQ] at HR5
                      have hQa : Q.atoms = p.atoms ++ [a2] := by rw [hQ]
                      have hQb : Q.bonds = p.bonds := by rw [hQ]
                      have HQ : Hid (Q = ⟨j, p.atoms ++ [a2], p.bonds, op, e', pl'⟩) := hQ
                      obtain ⟨x, gx⟩ : ∃ x, Q.atoms[fa]? = some x := ⟨_, List.getElem?_eq_getElem (by rw [hQa]; simp; omega)⟩
                      obtain ⟨y, gy⟩ : ∃ y, Q.atoms[p.atoms.length]? = some y := ⟨_, List.getElem?_eq_getElem (by rw [hQa]; simp)⟩
                      have HO : Hid (∀ w', RRd w' B s Q → Calls Tryz.prog 122 #[.pointer (some ⟨B, 0, none⟩), .int .i64 fa, .int .i64 p.atoms.length, .int .u8 g.mark] w' fun e w'' => e = .returned (.int .i64 (rorder Q g.mark fa p.atoms.length)) ∧ w'' = w') := fun w' h' => rorder_any h' fa p.atoms.length g.mark x y gx gy
                      have HOD : Hid (∀ q : St, q.atoms = p.atoms ++ [a2] → rorder Q g.mark fa p.atoms.length = Bz.order q g.mark fa p.atoms.length) := fun q hq => order_tie (hQa.trans hq.symm) _ _ _
                      generalize rorder Q g.mark fa p.atoms.length = od at *
                      obtain ⟨bv, hbv, ob⟩ := HR5.out.bonds
                      have f3 := HR5.out.free 3
                      have hBs := HR5.out.lt
                      have HQb : Hid (Q.bonds = p.bonds) := hQb
                      have hbl : Q.bonds.length ≤ 200 := by rw [hQb]; omega
                      clear hQ hQa hQb
                      have HOB : Hid (w5.ownsRow (B + 1) 46 3 bv Q.bonds.length (Q.bonds.flatMap bndCells)) := ob
                      have HBV : Hid (∀ o', ((w5.alloc o').drew).cell? ⟨B, 3, none⟩ = some bv) := by
                        intro o'
                        rw [World.cell?_drew, World.cell?_alloc_lt _ _ _ hBs]; exact hbv
                      have hgaf := hga
                      clear gx gy ob hg hga
                      rw [hgaf]
                      clear hgaf hge
                      have hge : 0 ≤ (fa : Int) := by omega
                      generalize hkk : p.atoms.length = kk at *
                      have HKK : Hid (p.atoms.length = kk) := hkk
                      clear hkk
                      have hnews : Hid (∀ (t : TypeId), ∀ j u, (bndCells ⟨fa, kk, od, p.pos⟩)[j]? = some u → ((w5.alloc (.cells #[.int .i64 fa, .int .i64 kk, .int .i64 od] t)).drew).cell? ((⟨w5.heap.size, 0, none⟩ : Addr).add j) = some u) := by
                        intro t j u hj
                        rw [Addr.add_lit, Nat.zero_add]
                        simpa [bndCells, go_sem] using hj
                      have h1c : Hid (∀ u ∈ bndCells ⟨fa, kk, od, p.pos⟩, u.oneCell' = true) := by
                        intro u hu
                        simp [bndCells] at hu
                        rcases hu with rfl | rfl | rfl <;> rfl
                      go_wp2_with fail
                      go_region_law (first | ((with_reducible refine at_append (.tmp 175) (.tmp 184) 37 rfl ?_); refine step_append_mine rfl (.tmp 175) (.tmp 184) 37 rfl (B + 1) 46 ic (.agg #[.int .i64 0, .int .i64 0, .int .i64 0]) 3 24 Tryz.underlying37 hic zc0 zc1 zc2 rfl (by decide) bv Q.bonds.length (Q.bonds.flatMap bndCells) rfl (by exact (HOB.out.alloc _).drew) ⟨w5.heap.size, 0, none⟩ 1 1 (bndCells ⟨fa, kk, od, p.pos⟩) rfl rfl (by exact hnews.out _) h1c.out (by unfold maxLen; omega) (by omega) (by simp; omega) ?_; intro v' w6 ho hg hk; obtain ⟨ao8, cap8, hv'⟩ := ownsRow_shape ho; subst hv'; have X := (((HR5.out.rl).alloc _).drew).addBond (Q.bonds ++ [⟨fa, kk, od, p.pos⟩]) (HBV.out _) _ (by rw [List.length_append, List.flatMap_append]; exact ho) hg hk; obtain ⟨c3, f3', _⟩ := (((HR5.out.rl).alloc _).drew).grew (j := 3) (by omega) (by omega) (HBV.out _) _ hg hk; have f3x := f3' 3; have c3x := (c3 3).trans (HBV.out _)) | (go_simp; go_at_call 122; refine (HO.out _ (by first | with_reducible exact HR5.out.drew | with_reducible exact HR5.out.drew.alloc _ | with_reducible exact (HR5.out.alloc _).drew)).mono ?_; rintro e w' ⟨rfl, rfl⟩))
                      all_goals
                        have HL6 : Hid (RRd (w6.setCell ⟨B, 3, none⟩ (.slice ao8 (Q.bonds.length + 1) cap8)) B s { Q with bonds := Q.bonds ++ [⟨fa, kk, od, p.pos⟩] }) := RL.rrd (p := { Q with bonds := Q.bonds ++ [⟨fa, kk, od, p.pos⟩] }) X.1
                        have HF6 : Hid (RFr B w (w6.setCell ⟨B, 3, none⟩ (.slice ao8 (Q.bonds.length + 1) cap8))) := HF5.out.trans ((((RFr.refl B w5).alloc hBs _).drew).trans X.2)
                        go_simp
                        go_wp2_with fail
                        go_ret
                        have HL7 := HL6.out
                        have HF7 := HF6.out
                        generalize World.setCell w6 _ _ = w7 at HL7 HF7 ⊢
                        rw [HQb.out] at HL7
                        rw [HQ.out, ← HKK.out] at HL7
                        rw [← HKK.out]
                        refine ratom_fin HBR.out HT.out HOUT.out (p.bonds ++ [⟨fa, p.atoms.length, od, p.pos⟩]) (by rw [HA2.out]; exact HL7) HF7 ?_
                        intro hh
                        have ht := head_tag hh
                        have e : a2 = a := by
                          obtain ⟨t1, t2, _⟩ := ht
                          rw [HBR.out] at t2
                          rw [← HA2.out, ← t1, ← t2]
                        have hod := HOD.out { p with pos := j, atoms := p.atoms ++ [a] } (by rw [e])
                        rw [atom_eq, hh]
                        simp only [atomTail]
                        rw [HGA.out, if_neg (by omega)]
                        rw [← HKK.out] at hod
                        rw [hod]
                        simp only [Bz.bind, Int.toNat_natCast]
                        have hfa' : fa ≤ p.atoms.length := by have := HKK.out; omega
                        rw [Nat.min_eq_left hfa', Nat.max_eq_right hfa', ht.1]
              · have HE : Hid (Bz.atom s g p = .error (5, (p.pos : Int))) := by
                  refine atom_err ?_
                  cases he : element s i with
                  | none =>
                    have hb : br = true := by
                      have h1 := HnA.out
                      have h2 := HX.out
                      rw [rname_none he] at h2
                      simp only [Prod.mk.injEq] at h2
                      cases br
                      · exact absurd ⟨h2.2.2.symm, rfl⟩ h1
                      · rfl
                    have := head_none (g := g) HBR.out HI.out he
                    rw [hb, hfu] at this
                    exact this
                  | some y =>
                    obtain ⟨a1, a2, a3⟩ := y
                    have h2 := HX.out
                    rw [rname_some he] at h2
                    simp only [Prod.mk.injEq] at h2
                    obtain ⟨rfl, rfl, rfl⟩ := h2
                    have h3 := HnB.out
                    have h4 := element_pos he
                    exact head_full (g := g) HBR.out HI.out he (fun e => h3 ⟨e.1, h4.2, e.2⟩) hfu
                have RF := rfail_any A5.rd 5 (p.pos : Int)
                clear hfu hfi
                go_wp2_with fail
                refine RF.mono ?_
                rintro e w5 ⟨rfl, hr5, hf5⟩
                go_wp2_with fail
                go_ret
                exact RAtPost.error _ HE.out rfl (hr5.wrong rfl rfl (by simp)) (A5.fr.trans hf5)
end
end Go.Proofs.YtcabaecbmkgclaaGreatDoor
