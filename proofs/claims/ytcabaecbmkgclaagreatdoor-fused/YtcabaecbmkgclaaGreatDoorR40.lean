/-
  Rings of six in a row: their texts, and what is read in them.
  pick, ring: what benzolkeep makes texts of.
  Fused: the text that it makes.
-/
import Derived.Test.YtcabaecbmkgclaaGreatDoorR39
import Derived.BigQuiet
import Derived.Deep.CutBlock
import Derived.Deep.CutRange
import Derived.Deep.LoopGhost
namespace Go.Proofs.YtcabaecbmkgclaaGreatDoor.Kd
open Go.RowKit Bz Mt Mg Rf Bu Cp
/-- A ring number as it is written. -/
def rgB (n : Nat) : ByteArray := if n < 10 then ⟨#[(48 + n).toUInt8]⟩ else ⟨#[37, (48 + n / 10).toUInt8, (48 + n % 10).toUInt8]⟩

def lastB (c : Nat) : ByteArray := if c = 0 then ⟨#[99]⟩ else if c = 1 then ⟨#[110]⟩ else ⟨#[91, 110, 72, 93]⟩

def upT (a : ByteArray) : Nat → ByteArray
  | 0 => a ++ ⟨#[49, 99, 99]⟩
  | j + 1 => upT a j ++ ⟨#[99]⟩ ++ rgB (j + 2) ++ ⟨#[99]⟩

/-- j numbers are left to be closed. -/
def dnT (a : ByteArray) (k : Nat) : Nat → ByteArray
  | 0 => a
  | j + 1 => dnT a k j ++ ⟨#[99, 99]⟩ ++ rgB (k - 1 - j)

def midT (a : ByteArray) (k : Nat) : ByteArray := upT a (k - 2) ++ ⟨#[99]⟩ ++ rgB k ++ ⟨#[99, 99, 99, 99, 99]⟩ ++ rgB k

def fusT (a : ByteArray) (k : Nat) : ByteArray := if k ≤ 1 then a ++ ⟨#[49, 99, 99, 99, 99, 99, 49]⟩ else dnT (midT a k) k (k - 2) ++ ⟨#[99, 49]⟩

/-- A molecule as what was read. -/
def stOf (ats : List Atm) (l : List Bnd) : St := ⟨0, ats, l, fun _ => none⟩

def fusOk (t : ByteArray) (k : Nat) (bar : Bool) : Bool := match Bz.parse t with
  | .error _ => false
  | .ok (ats, l) => ats.length == 4 * k + 2 && l.length == 5 * k + 1 && l.all (fun b => b.o == 4) &&
    (if bar then cnt ats.length (cand (stOf ats l)) == 4 * k + 1 else cnt ats.length (cand (stOf ats l)) == 4 * k + 2 && (List.range (2 * k + 1)).all fun i => adjL (candEdges (stOf ats l) l) (2 * i) (2 * i + 1))

set_option maxRecDepth 1000000 in
theorem fus_all : ∀ k, k < 5 → ∀ c, c < 3 → fusOk (fusT (lastB c) (k + 1)) (k + 1) (c == 2) = true := by decide +kernel

set_option maxRecDepth 1000000 in
theorem fus_size : ∀ k, k < 5 → ∀ c, c < 3 → (fusT (lastB c) (k + 1)).size ≤ 160 := by decide +kernel

theorem fus_read {t : ByteArray} {k : Nat} {bar : Bool} (h : fusOk t k bar = true) : ∃ ats l, Bz.parse t = .ok (ats, l) := by
  unfold fusOk at h
  cases hp : Bz.parse t with
  | error e => rw [hp] at h; cases h
  | ok x => exact ⟨x.1, x.2, rfl⟩

structure FusIs (q : St) (k : Nat) (bar : Bool) : Prop where
  atoms : q.atoms.length = 4 * k + 2
  bonds : q.bonds.length = 5 * k + 1
  four : ∀ b ∈ q.bonds, b.o = 4
  odd : bar = true → cnt q.atoms.length (cand q) = 4 * k + 1
  all : bar = false → cnt q.atoms.length (cand q) = 4 * k + 2
  way : bar = false → ∀ i, i < 2 * k + 1 → adjL (candEdges q q.bonds) (2 * i) (2 * i + 1) = true

theorem fus_facts {t : ByteArray} {k : Nat} {bar : Bool} (h : fusOk t k bar = true) {q : St} (hp : Bz.parse t = .ok (q.atoms, q.bonds)) : FusIs q k bar := by
  unfold fusOk at h
  rw [hp] at h
  simp only [Bool.and_eq_true, beq_iff_eq, List.all_eq_true] at h
  obtain ⟨⟨⟨h1, h2⟩, h3⟩, h4⟩ := h
  have ec : cand (stOf q.atoms q.bonds) = cand q := rfl
  have ee : candEdges (stOf q.atoms q.bonds) q.bonds = candEdges q q.bonds := rfl
  rw [ec, ee] at h4
  cases bar with
  | true =>
    simp only [if_pos, beq_iff_eq] at h4
    exact ⟨h1, h2, h3, fun _ => h4, fun e => (by cases e), fun e => (by cases e)⟩
  | false =>
    simp only [Bool.false_eq_true, if_false, Bool.and_eq_true, beq_iff_eq, List.all_eq_true, List.mem_range] at h4
    exact ⟨h1, h2, h3, fun e => (by cases e), fun _ => h4.1, fun _ => h4.2⟩

/-- Each with the one behind it. -/
def byTwo (n : Nat) (v : Nat) : Option Nat := if v < n then some (if v % 2 = 0 then v + 1 else v - 1) else none

theorem byTwo_ok {l : List (Nat × Nat)} {n m : Nat} (hn : n = 2 * m) (h : ∀ i, i < m → adjL l (2 * i) (2 * i + 1) = true) : MtOk (grL n l) (byTwo n) := by
  have sym : ∀ a b, adjL l a b = true → adjL l b a = true := fun a b hab => adjL_iff.2 ((adjL_iff.1 hab).symm)
  constructor
  · intro a b hab
    show adjL l a b = true
    unfold byTwo at hab
    split at hab
    · rename_i hlt
      simp only [Option.some.injEq] at hab
      split at hab
      · rename_i he
        have := h (a / 2) (by omega)
        rw [show 2 * (a / 2) = a by omega] at this
        rw [← hab]
        exact this
      · rename_i he
        have := h (a / 2) (by omega)
        rw [show 2 * (a / 2) + 1 = a by omega, show 2 * (a / 2) = b by omega] at this
        exact sym _ _ this
    · cases hab
  · intro a b hab
    unfold byTwo at hab ⊢
    split at hab
    · rename_i hlt
      simp only [Option.some.injEq] at hab
      split at hab
      · rename_i he
        rw [if_pos (by omega), if_neg (by omega)]
        congr 1
        omega
      · rename_i he
        rw [if_pos (by omega), if_pos (by omega)]
        congr 1
        omega
    · cases hab

/-- What a row of rings comes to. -/
theorem fus_end {s : ByteArray} {q : St} {k : Nat} {bar : Bool} {mate : Nat → Option Nat} {f : Fo} {h : Gh} (F : FusIs q k bar) (en : En q.atoms.length q.bonds s.size) (hn : q.atoms.length ≤ 24) (hB : Best (grL q.atoms.length (candEdges q q.bonds)) mate f h) :
    (bar = true → 2 * (pairsF q.atoms.length mate).length < cnt q.atoms.length (cand q)) ∧
    (bar = false → ¬ 2 * (pairsF q.atoms.length mate).length < cnt q.atoms.length (cand q) ∧ ((q.bonds.map (ordN (pairsF q.atoms.length mate))).filter fun x => x == 2).length = 2 * k + 1) := by
  have E := candEdges_ok en
  have up := best_up E hn hB
  constructor
  · intro hb
    have := F.odd hb
    omega
  · intro hb
    have h1 := F.all hb
    have lo := best_lo E hn hB (byTwo_ok (m := 2 * k + 1) (by rw [F.atoms]; omega) (F.way hb)) (fun i hi _ => by unfold byTwo; rw [if_pos hi]; rfl)
    refine ⟨by omega, ?_⟩
    rw [two_count _ _ F.four, doubled_count en hB]
    omega
end Go.Proofs.YtcabaecbmkgclaaGreatDoor.Kd
namespace Go.Proofs.YtcabaecbmkgclaaGreatDoor.Kd
open Go.RowKit Bz Mt Mg Rf
def pickF (c : Int) (n : Nat) : Nat := (if c < 0 then -(c + 1) else c).toNat % n

theorem pickF_lt (c : Int) {n : Nat} (hn : 0 < n) : pickF c n < n := Nat.mod_lt _ hn

def In64 (c : Int) : Prop := -9223372036854775808 ≤ c ∧ c ≤ 9223372036854775807

theorem rem_nat {x : Int} (hx : 0 ≤ x) (n : Nat) : Int.tmod x (n : Int) = ((x.toNat % n : Nat) : Int) := by
  obtain ⟨m, rfl⟩ := Int.eq_ofNat_of_zero_le hx
  rfl

set_option maxRecDepth 100000 in
theorem pick_any (w : World) (c : Int) (n : Nat) (hn : 0 < n) (hn2 : n ≤ 1000) (hc : In64 c) :
    Calls Tryz.prog 12 #[.int .i64 c, .int .i64 (n : Int)] w fun e w' => e = .returned (.int .i64 (pickF c n : Nat)) ∧ w' = w := by
  obtain ⟨hc1, hc2⟩ := hc
  have hn0 : ((n : Int) = 0) = False := by simp; omega
  have hnb : ((n : Int) == 0) = false := by simp; omega
  have hnm : ((n : Int) = -1) = False := by simp
  by_cases h : c < 0
  · have HP : Hid (pickF c n = (-(c + 1)).toNat % n) := by unfold Hid pickF; rw [if_pos h]
    have hr := rem_nat (x := -(c + 1)) (by omega) n
    have hlt : (-(c + 1)).toNat % n < n := Nat.mod_lt _ hn
    generalize (-(c + 1)).toNat % n = r at *
    go_enter Tryz.func12, Tryz.ntmps12
    go_wp2_with fail
    go_ret
    exact ⟨by rw [HP.out]; rfl, rfl⟩
  · have HP : Hid (pickF c n = c.toNat % n) := by unfold Hid pickF; rw [if_neg h]
    have hr := rem_nat (x := c) (by omega) n
    have hlt : c.toNat % n < n := Nat.mod_lt _ hn
    generalize c.toNat % n = r at *
    go_enter Tryz.func12, Tryz.ntmps12
    go_wp2_with fail
    go_ret
    exact ⟨by rw [HP.out]; rfl, rfl⟩

theorem dig_slice (n : Nat) (hn : n < 10) : (⟨#[48, 49, 50, 51, 52, 53, 54, 55, 56, 57]⟩ : ByteArray).extract n (n + 1) = ⟨#[(48 + n).toUInt8]⟩ := by
  match n, hn with
  | 0, _ => rfl
  | 1, _ => rfl
  | 2, _ => rfl
  | 3, _ => rfl
  | 4, _ => rfl
  | 5, _ => rfl
  | 6, _ => rfl
  | 7, _ => rfl
  | 8, _ => rfl
  | 9, _ => rfl

set_option maxRecDepth 100000 in
set_option maxHeartbeats 1000000 in
theorem ring_any (w : World) (n : Nat) (hn : n < 100) : Calls Tryz.prog 13 #[.int .i64 (n : Int)] w fun e w' => e = .returned (.string (rgB n)) ∧ Below w.heap.size w w' := by
  by_cases h : n < 10
  · have h' : (n : Int) < 10 := by omega
    have HR : Hid (rgB n = (⟨#[48, 49, 50, 51, 52, 53, 54, 55, 56, 57]⟩ : ByteArray).extract n (n + 1)) := by
      show _ = _
      unfold rgB
      rw [if_pos h, dig_slice n h]
    go_enter Tryz.func13, Tryz.ntmps13
    go_wp2_with fail
    go_ret
    exact ⟨by rw [HR.out]; rfl, Below.refl _ _⟩
  · have h' : ¬ (n : Int) < 10 := by omega
    obtain ⟨a, ha⟩ : ∃ a, n / 10 = a := ⟨_, rfl⟩
    obtain ⟨b, hb⟩ : ∃ b, n % 10 = b := ⟨_, rfl⟩
    have ha1 : a < 10 := by omega
    have hb1 : b < 10 := by omega
    have q1 : Int.tdiv (n : Int) 10 = (a : Int) := by rw [← ha]; rfl
    have q2 : Int.tmod (n : Int) 10 = (b : Int) := by rw [← hb]; rfl
    have HR : Hid (rgB n = ⟨#[37]⟩ ++ (⟨#[48, 49, 50, 51, 52, 53, 54, 55, 56, 57]⟩ : ByteArray).extract a (a + 1) ++ (⟨#[48, 49, 50, 51, 52, 53, 54, 55, 56, 57]⟩ : ByteArray).extract b (b + 1)) := by
      show _ = _
      unfold rgB
      rw [if_neg h, dig_slice a ha1, dig_slice b hb1, ha, hb]
      rfl
    clear ha hb
    go_enter Tryz.func13, Tryz.ntmps13
    go_wp2_with fail
    go_quiet (fail)
    go_wp2_with fail
    go_ret
    exact ⟨by rw [HR.out]; rfl, below_drewNm _ _⟩
theorem last_in (c : Nat) (hc : c < 3) : (#[Value.string ⟨#[99]⟩, .string ⟨#[110]⟩, .string ⟨#[91, 110, 72, 93]⟩] : Array Value)[c]? = some (.string (lastB c)) := by
  match c, hc with
  | 0, _ => rfl
  | 1, _ => rfl
  | 2, _ => rfl

theorem rgB_size (n : Nat) : (rgB n).size ≤ 3 := by
  unfold rgB
  split
  · show 1 ≤ 3
    decide
  · show 3 ≤ 3
    decide

theorem upT_size (a : ByteArray) (j : Nat) : (upT a j).size ≤ a.size + 3 + 5 * j := by
  induction j with
  | zero => rw [upT, ByteArray.size_append]; exact Nat.le_refl _
  | succ j ih =>
    rw [upT, ByteArray.size_append, ByteArray.size_append, ByteArray.size_append]
    have := rgB_size (j + 2)
    have e : (⟨#[99]⟩ : ByteArray).size = 1 := rfl
    omega

theorem dnT_size (a : ByteArray) (k j : Nat) : (dnT a k j).size ≤ a.size + 5 * j := by
  induction j with
  | zero => exact Nat.le_refl _
  | succ j ih =>
    rw [dnT, ByteArray.size_append, ByteArray.size_append]
    have := rgB_size (k - 1 - j)
    have e : (⟨#[99, 99]⟩ : ByteArray).size = 2 := rfl
    omega

theorem midT_size (a : ByteArray) (k : Nat) (hk : k ≤ 5) : (midT a k).size ≤ a.size + 30 := by
  unfold midT
  rw [ByteArray.size_append, ByteArray.size_append, ByteArray.size_append, ByteArray.size_append]
  have := rgB_size k
  have := upT_size a (k - 2)
  have e : (⟨#[99]⟩ : ByteArray).size = 1 := rfl
  have e2 : (⟨#[99, 99, 99, 99, 99]⟩ : ByteArray).size = 5 := rfl
  omega

theorem lastB_size (c : Nat) : (lastB c).size ≤ 4 := by
  unfold lastB
  split
  · decide
  · split <;> decide

/-- Where the counting of the double bonds stands. -/
structure FuS (w1 : World) (X Y : Nat) (ao : Option Addr) (ac : Nat) (bo : Option Addr) (bc : Nat) (oo : Option Addr) (oc nA nB : Nat) (os : List Nat) (wr : World) : Prop where
  k0 : wr.cell? ⟨X, 0, none⟩ = some (.slice ao nA ac)
  k1 : wr.cell? ⟨X, 1, none⟩ = some (.slice bo nB bc)
  r0 : wr.cell? ⟨Y, 0, none⟩ = some (.int .i64 1)
  r1 : wr.cell? ⟨Y, 1, none⟩ = some (.slice oo nB oc)
  at_ : ∀ (i x : Nat), os[i]? = some x → ∃ g, oo = some ⟨g, 0, none⟩ ∧ wr.cell? ⟨g, i, none⟩ = some (.int .i64 (x : Int))
  below : Below w1.heap.size w1 wr

set_option maxRecDepth 100000 in
set_option maxHeartbeats 4000000 in
theorem fused_any (w : World) (n c : Int) (hn : In64 n) (hc : In64 c) : Calls Tryz.prog 7 #[.int .i64 n, .int .i64 c] w fun e w' => e = .returned (.bool true) ∧ Below w.heap.size w w' := by
  have P1 := pick_any w n 5 (by omega) (by omega) hn
  have P2 := fun W => pick_any W c 3 (by omega) (by omega) hc
  have hk := pickF_lt n (show 0 < 5 by omega)
  have hcc := pickF_lt c (show 0 < 3 by omega)
  generalize pickF n 5 = k at *
  generalize pickF c 3 = cc at *
  go_enter Tryz.func7, Tryz.ntmps7
  go_wp2_with fail
  refine P1.mono ?_
  rintro e w1 ⟨rfl, rfl⟩
  clear P1
  go_wp2_with fail
  refine (P2 _).mono ?_
  rintro e w2 ⟨rfl, rfl⟩
  clear P2
  have cL : (w1.alloc (.cells #[Value.string ⟨#[99]⟩, .string ⟨#[110]⟩, .string ⟨#[91, 110, 72, 93]⟩] 9)).cell? ⟨w1.heap.size, cc, none⟩ = some (.string (lastB cc)) := by
    rw [World.cell?_alloc_new]
    exact last_in cc hcc
  have HB0 : Hid (Below w1.heap.size w1 (w1.alloc (.cells #[Value.string ⟨#[99]⟩, .string ⟨#[110]⟩, .string ⟨#[91, 110, 72, 93]⟩] 9))) := (Below.refl _ w1).alloc (Nat.le_refl _) _
  have hcc' : (cc : Int) < 3 := by omega
  obtain ⟨la, hla⟩ : ∃ la, lastB cc = la := ⟨_, rfl⟩
  have hls := lastB_size cc
  rw [hla] at cL hls
  have HLA : Hid (lastB cc = la) := hla
  clear hla
  generalize w1.alloc (.cells #[Value.string ⟨#[99]⟩, .string ⟨#[110]⟩, .string ⟨#[91, 110, 72, 93]⟩] 9) = w2 at *
  go_upto_if 29 with fail
  go_cut [7, 8, 9, 29] from 30 to 64 (fun s7 s8 s9 s29 wx => s7 = .string (fusT la (k + 1)) ∧ Below w1.heap.size w1 wx)
  case first =>
    by_cases hk0 : k = 0
    · subst hk0
      go_wp2_with fail
      go_meet
      exact ⟨rfl, HB0.out⟩
    · have hk1 : (1 : Int) < 1 + (k : Int) := by omega
      rw [decide_eq_true hk1]
      go_wp2_with fail
      go_loopg [7, 8] (k + 1) (fun g v7 v8 wr => ∃ j : Nat, j ≤ k - 1 ∧ k - 1 - j < g ∧ v8 = .int .i64 ((j : Int) + 2) ∧ v7 = .string (upT la j) ∧ Below w1.heap.size w1 wr)
      case atStart => exact ⟨0, by omega, by omega, rfl, rfl, HB0.out⟩
      case round =>
        obtain ⟨j, hj, hg, rfl, rfl, hb⟩ := hrel
        by_cases hlt : j < k - 1
        · have hlt' : (j : Int) + 2 < 1 + (k : Int) := by omega
          have hus := upT_size la j
          have hrs := rgB_size (j + 2)
          have RG := ring_any wr (j + 2) (by omega)
          rw [show ((j + 2 : Nat) : Int) = (j : Int) + 2 from by omega] at RG
          have HB : Hid (Below w1.heap.size w1 wr) := hb
          clear hb HB0
          go_wp2_with fail
          refine RG.mono ?_
          rintro e w3 ⟨rfl, hb3⟩
          clear RG
          have HB3 : Hid (Below w1.heap.size w1 w3) := HB.out.trans (hb3.mono HB.out.size)
          clear hb3
          go_wp2_with fail
          go_roundg (k - 1 - j)
          case measure => omega
          case rel => exact ⟨j + 1, by omega, by omega, by go_num, rfl, HB3.out⟩
        · have hlt' : ¬ (j : Int) + 2 < 1 + (k : Int) := by omega
          obtain rfl : j = k - 1 := by omega
          have HB : Hid (Below w1.heap.size w1 wr) := hb
          clear hb HB0
          have hus := upT_size la (k - 1)
          have hrs := rgB_size (k + 1)
          have RG := fun W => ring_any W (k + 1) (by omega)
          rw [show ((k + 1 : Nat) : Int) = 1 + (k : Int) from by omega] at RG
          have hkk : ((k - 1 : Nat) : Int) + 2 = (k : Int) + 1 := by omega
          go_wp2_with fail
          refine (RG _).mono ?_
          rintro e w3 ⟨rfl, hb3⟩
          have HB3 : Hid (Below w1.heap.size w1 w3) := HB.out.trans (hb3.mono HB.out.size)
          clear hb3 HB
          go_wp2_with fail
          refine (RG _).mono ?_
          rintro e w4 ⟨rfl, hb4⟩
          have HB4 : Hid (Below w1.heap.size w1 w4) := HB3.out.trans (hb4.mono HB3.out.size)
          clear hb4 HB3 RG
          have hms := midT_size la (k + 1) (by omega)
          have HM : Hid (midT la (k + 1) = upT la (k - 1) ++ ⟨#[99]⟩ ++ rgB (k + 1) ++ ⟨#[99, 99, 99, 99, 99]⟩ ++ rgB (k + 1)) := rfl
          go_wp2_with fail
          go_loopg [7, 9] (k + 1) (fun g v7 v9 wr => ∃ j : Nat, j ≤ k - 1 ∧ k - 1 - j < g ∧ v9 = .int .i64 ((k : Int) - j) ∧ v7 = .string (dnT (midT la (k + 1)) (k + 1) j) ∧ Below w1.heap.size w1 wr)
          case atStart => exact ⟨0, by omega, by omega, by go_num, rfl, HB4.out⟩
          case round =>
            obtain ⟨j, hj, hg, rfl, rfl, hb⟩ := hrel
            have hds := dnT_size (midT la (k + 1)) (k + 1) j
            by_cases hlt : j < k - 1
            · have hlt2 : ¬ ((k : Int) - (j : Int) < 2) := by omega
              have hlt3 : (2 : Int) ≤ (k : Int) - (j : Int) := by omega
              have hrs := rgB_size (k - j)
              have RG := ring_any wr (k - j) (by omega)
              rw [show ((k - j : Nat) : Int) = (k : Int) - (j : Int) from by omega] at RG
              have HDN : Hid (dnT (midT la (k + 1)) (k + 1) (j + 1) = dnT (midT la (k + 1)) (k + 1) j ++ ⟨#[99, 99]⟩ ++ rgB (k - j)) := by
                show _ = _
                rw [dnT, show k + 1 - 1 - j = k - j by omega]
              have HB : Hid (Below w1.heap.size w1 wr) := hb
              clear hb HB4
              go_wp2_with fail
              refine RG.mono ?_
              rintro e w3 ⟨rfl, hb3⟩
              clear RG
              have HB3 : Hid (Below w1.heap.size w1 w3) := HB.out.trans (hb3.mono HB.out.size)
              clear hb3
              go_wp2_with fail
              go_roundg (k - 1 - j)
              case measure => omega
              case rel => exact ⟨j + 1, by omega, by omega, by go_num, by rw [HDN.out], HB3.out⟩
            · have hlt2 : (k : Int) - (j : Int) < 2 := by omega
              have hlt3 : ¬ ((2 : Int) ≤ (k : Int) - (j : Int)) := by omega
              obtain rfl : j = k - 1 := by omega
              have HB : Hid (Below w1.heap.size w1 wr) := hb
              have HF : Hid (fusT la (k + 1) = dnT (midT la (k + 1)) (k + 1) (k - 1) ++ ⟨#[99, 49]⟩) := by
                show _ = _
                unfold fusT
                rw [if_neg (by omega), show k + 1 - 2 = k - 1 by omega]
              clear hb HB4
              go_wp2_with fail
              go_meet
              exact ⟨by rw [HF.out], HB.out⟩
  case rest =>
    obtain ⟨rfl, hb⟩ := hcut
    have hok := fus_all k hk cc hcc
    have hsz := fus_size k hk cc hcc
    rw [HLA.out] at hok hsz
    have HOK : Hid (fusOk (fusT la (k + 1)) (k + 1) (cc == 2) = true) := hok
    have P1 := fun W => parse_any (fusT la (k + 1)) W (by unfold maxLen; omega)
    have P2 := fun W => kekulize_any (fusT la (k + 1)) W (by unfold maxLen; omega)
    clear hok hls cL
    generalize fusT la (k + 1) = t at *
    go_wp2_with fail
    refine (P1 _).mono ?_
    clear P1
    rintro e w3 h
    rcases h with ⟨er, h, _, _⟩ | ⟨ats, l, v, v', h, rfl, ha, hl, hbP, hne, hn24, hl160⟩
    · exfalso
      obtain ⟨a, b, hh⟩ := fus_read HOK.out
      rw [h] at hh
      cases hh
    obtain ⟨ao, ac, hva⟩ := ownsRow_shape ha
    obtain ⟨bo, bc, hvb⟩ := ownsRow_shape hl
    subst hva hvb
    have HB3 : Hid (Below w1.heap.size w1 w3) := hb.trans (hbP.mono hb.size)
    have HP : Hid (Bz.parse t = .ok (ats, l)) := h
    clear h ha hl hb hbP HB0
    go_wp2_with fail
    refine (P2 _).mono ?_
    clear P2
    rintro e w4 h
    rcases h with ⟨er, h, _⟩ | ⟨q, mate, f, gh, h⟩
    · exfalso
      have := HP.out
      rw [h] at this
      cases this
    have hpq := HP.out
    rw [h.h] at hpq
    simp only [Except.ok.injEq, Prod.mk.injEq] at hpq
    obtain ⟨rfl, rfl⟩ := hpq
    have F := fus_facts HOK.out h.h
    obtain ⟨fe1, fe2⟩ := fus_end F h.en hn24 h.best
    have hA := F.atoms
    have hBo := F.bonds
    have HC : Hid (_) := h.case
    clear h F HOK HP hne hn24 hl160
    have hA' : (q.atoms.length : Int) = 4 * (1 + (k : Int)) + 2 := by omega
    have hBo' : (q.bonds.length : Int) = 5 * (1 + (k : Int)) + 1 := by omega
    have hsz3 : (w3.alloc (.cells #[.slice ao q.atoms.length ac, .slice bo q.bonds.length bc] 39)).heap.size = w3.heap.size + 1 := by simp
    by_cases hc2 : cc = 2
    · subst hc2
      rcases HC.out with ⟨_, pv, uv, hK⟩ | ⟨hn, _⟩
      · obtain ⟨he, hp, hu, hb4⟩ := hK
        subst he
        rw [hsz3] at hb4
        have m0 : w4.cell? ⟨w3.heap.size, 0, none⟩ = some (.slice ao q.atoms.length ac) := (hb4.cell (by simp)).trans (by simp)
        have m1 : w4.cell? ⟨w3.heap.size, 1, none⟩ = some (.slice bo q.bonds.length bc) := (hb4.cell (by simp)).trans (by simp)
        have hlt : w3.heap.size < w4.heap.size := by have := hb4.size; rw [hsz3] at this; omega
        have HB4 : Hid (Below w1.heap.size w1 w4) := (HB3.out.alloc HB3.out.size _).trans (hb4.mono (by have := HB3.out.size; omega))
        have hla : la = ⟨#[91, 110, 72, 93]⟩ := HLA.out.symm
        subst hla
        obtain ⟨po, pc, hpv⟩ := ownsRow_shape hp
        obtain ⟨uo, uc, huv⟩ := hu.shape
        subst hpv huv
        clear hp hu hb4 fe1 fe2 HC
        go_upto_region 18 with fail
        obtain ⟨W, hW⟩ : ∃ W, w4.alloc (.cells #[.int .i64 2, .slice none 0 0, .string ⟨#[]⟩, .slice none 0 0, .slice po (pairsF (4 * (k + 1) + 2) mate).length pc, .slice uo (barF (4 * (k + 1) + 2) f).length uc] 31) = W := ⟨_, rfl⟩
        have k0 : W.cell? ⟨w3.heap.size, 0, none⟩ = some (.slice ao q.atoms.length ac) := by rw [← hW, World.cell?_alloc_lt _ _ _ hlt]; exact m0
        have k1 : W.cell? ⟨w3.heap.size, 1, none⟩ = some (.slice bo q.bonds.length bc) := by rw [← hW, World.cell?_alloc_lt _ _ _ hlt]; exact m1
        have r0 : W.cell? ⟨w4.heap.size, 0, none⟩ = some (.int .i64 2) := by rw [← hW]; simp
        have r1 : W.cell? ⟨w4.heap.size, 1, none⟩ = some (.slice none 0 0) := by rw [← hW]; simp
        have HBW : Hid (Below w1.heap.size w1 W) := by rw [← hW]; exact HB4.out.alloc HB4.out.size _
        rw [hW]
        clear hW HB4 m0 m1 hlt
        go_wp2_with fail
        go_ret
        exact ⟨rfl, HBW.out⟩
      · exact absurd (fe1 rfl) hn
    · have hcc2 : (cc == 2) = false := by simp [hc2]
      obtain ⟨hnl, hcount⟩ := fe2 hcc2
      rcases HC.out with ⟨hlt, _⟩ | ⟨_, ov, cv, hK⟩
      · exact absurd hlt hnl
      obtain ⟨he, ho, hcv, _, hb4⟩ := hK
      subst he
      have hosl : (q.bonds.map (ordN (pairsF q.atoms.length mate))).length = q.bonds.length := List.length_map ..
      generalize q.bonds.map (ordN (pairsF q.atoms.length mate)) = os at *
      generalize wrL t.data.toList q.bonds os = ws at *
      rw [hsz3] at hb4 ho hcv
      have m0 : w4.cell? ⟨w3.heap.size, 0, none⟩ = some (.slice ao q.atoms.length ac) := (hb4.cell (by simp)).trans (by simp)
      have m1 : w4.cell? ⟨w3.heap.size, 1, none⟩ = some (.slice bo q.bonds.length bc) := (hb4.cell (by simp)).trans (by simp)
      have hlt : w3.heap.size < w4.heap.size := by have := hb4.size; rw [hsz3] at this; omega
      have HB4 : Hid (Below w1.heap.size w1 w4) := (HB3.out.alloc HB3.out.size _).trans (hb4.mono (by have := HB3.out.size; omega))
      have hla : (la.toList == [91, 110, 72, 93]) = false := by
        have := HLA.out
        have h01 : cc = 0 ∨ cc = 1 := by omega
        rcases h01 with rfl | rfl <;> (rw [← this]; decide +kernel)
      obtain ⟨oo, oc, hov⟩ := ho.shape
      obtain ⟨co, cu, hcvv⟩ := hcv.shape
      subst hov hcvv
      have HO : Hid (Ints w4 (w3.heap.size + 1) (.slice oo os.length oc) os) := ho
      have HCT : Hid ((os.filter fun x => x == 2).length = 2 * (k + 1) + 1) := hcount
      clear ho hcv hb4 fe1 fe2 HC hcount hnl
      go_upto_region 18 with fail
      obtain ⟨W, hW⟩ : ∃ W, w4.alloc (.cells #[.int .i64 1, .slice oo (5 * (k + 1) + 1) oc, .string ⟨ws.toArray⟩, .slice co (4 * (k + 1) + 2) cu, .slice none 0 0, .slice none 0 0] 31) = W := ⟨_, rfl⟩
      have hol : os.length = 5 * (k + 1) + 1 := by rw [hosl, hBo]
      have S0 : Hid (FuS w1 w3.heap.size w4.heap.size ao ac bo bc oo oc (4 * (k + 1) + 2) (5 * (k + 1) + 1) os W) := by
        rw [hA] at m0
        rw [hBo] at m1
        refine ⟨?_, ?_, ?_, ?_, fun i x hi => ?_, ?_⟩
        · rw [← hW, World.cell?_alloc_lt _ _ _ hlt]; exact m0
        · rw [← hW, World.cell?_alloc_lt _ _ _ hlt]; exact m1
        · rw [← hW]; simp
        · rw [← hW]; simp
        · obtain ⟨g, cap, e1, _, hg, hcell⟩ := HO.out.at hi
          simp only [Value.slice.injEq, true_and] at e1
          exact ⟨g, e1.1, by rw [← hW, World.cell?_alloc_lt _ _ _ hg]; exact hcell⟩
        · rw [← hW]; exact HB4.out.alloc HB4.out.size _
      rw [hW]
      have hA2 : ((4 * (k + 1) + 2 : Nat) : Int) = 4 * (1 + (k : Int)) + 2 := by omega
      have hB2 : ((5 * (k + 1) + 1 : Nat) : Int) = 5 * (1 + (k : Int)) + 1 := by omega
      clear hW HB4 HB3 m0 m1 hlt HO hsz3 hA hBo hA' hBo' hosl
      generalize hna : 4 * (k + 1) + 2 = nA at *
      generalize hnb : 5 * (k + 1) + 1 = nB at *
      have k0 := S0.out.k0
      have k1 := S0.out.k1
      have r0 := S0.out.r0
      have r1 := S0.out.r1
      have hnB : nB ≤ 26 := by omega
      clear hna hnb
      go_wp2_with fail
      go_loopg [16, 17] (nB + 1) (fun g v16 v17 wr => ∃ i : Nat, i ≤ nB ∧ nB - i < g ∧ v17 = .int .i64 (i : Int) ∧ v16 = .int .i64 ((((os.take i).filter fun x => x == 2).length : Nat) : Int) ∧ FuS w1 w3.heap.size w4.heap.size ao ac bo bc oo oc nA nB os wr)
      case atStart => exact ⟨0, by omega, by omega, rfl, rfl, S0.out⟩
      case round =>
        obtain ⟨i, hi, hg, rfl, rfl, hS⟩ := hrel
        clear S0 k0 k1 r0 r1
        have HS : Hid (FuS w1 w3.heap.size w4.heap.size ao ac bo bc oo oc nA nB os wr) := hS
        have k0 := hS.k0
        have k1 := hS.k1
        have r0 := hS.r0
        have r1 := hS.r1
        clear hS
        by_cases hlt : i < nB
        · have hlt' : (i : Int) < (nB : Int) := by omega
          obtain ⟨x, hx⟩ : ∃ x, os[i]? = some x := ⟨_, List.getElem?_eq_getElem (by omega)⟩
          obtain ⟨g, rfl, hcell⟩ := HS.out.at_ i x hx
          have hct : ((os.take i).filter fun x => x == 2).length ≤ 26 := Nat.le_trans (List.length_filter_le _ _) (by rw [List.length_take]; omega)
          have hnx : ((os.take (i + 1)).filter fun x => x == 2).length = ((os.take i).filter fun x => x == 2).length + if x == 2 then 1 else 0 := by
            rw [take_snoc hx, List.filter_append, List.length_append]
            simp only [List.filter_cons, List.filter_nil]
            split <;> rfl
          have HNX : Hid (_) := hnx
          clear hnx
          by_cases hx2 : x = 2
          · subst hx2
            go_wp2_with fail
            go_roundg (nB - i)
            case measure => omega
            case rel => exact ⟨i + 1, by omega, by omega, by go_num, by rw [HNX.out]; rfl, HS.out⟩
          · have hx2' : ¬ (x : Int) = 2 := by omega
            have hx3 : (x == 2) = false := by simp [hx2]
            go_wp2_with fail
            go_roundg (nB - i)
            case measure => omega
            case rel => exact ⟨i + 1, by omega, by omega, by go_num, by rw [HNX.out, hx3]; rfl, HS.out⟩
        · have hlt' : ¬ (i : Int) < (nB : Int) := by omega
          have hin : i = nB := by omega
          have hct : ((((os.take i).filter fun x => x == 2).length : Nat) : Int) = 2 * (1 + (k : Int)) + 1 := by
            rw [List.take_of_length_le (by omega), HCT.out]
            omega
          generalize (((os.take i).filter fun x => x == 2).length : Nat) = cn at *
          go_wp2_with fail
          go_ret
          exact ⟨rfl, HS.out.below⟩
end Go.Proofs.YtcabaecbmkgclaaGreatDoor.Kd
