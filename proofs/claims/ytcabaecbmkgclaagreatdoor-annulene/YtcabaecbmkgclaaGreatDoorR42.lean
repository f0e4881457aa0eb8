/-
  A ring of carbon in small letters: how many double bonds it has.
  Annulene: the text that it makes.
-/
import Derived.Test.YtcabaecbmkgclaaGreatDoorR40
import Derived.Test.YtcabaecbmkgclaaGreatDoorR41
namespace Go.Proofs.YtcabaecbmkgclaaGreatDoor.Kd
open Bz Mt
theorem ann_cand {q : St} {k la : Nat} {m : Nat → Option Nat} (A : AnnIs q k la m) (x : Nat) : cand q x = aro q x := by
  unfold cand fill aro
  simp only [Int.toNat_natCast]
  cases h : q.atoms[x]? with
  | none => rfl
  | some a =>
    simp only
    cases ha : a.aro
    · rfl
    · obtain ⟨h1, h2, h3⟩ := A.ring x a h ha
      rw [h1, h2, h3]
      decide

theorem one_count (P : List (Nat × Nat)) (l : List Bnd) (h4 : ∀ b ∈ l, b.o = 1 ∨ b.o = 4) : ((l.map (ordN P)).filter fun x => x == 2).length = (l.filter fun b => b.o == 4 && decide ((b.a, b.b) ∈ P)).length := by
  induction l with
  | nil => rfl
  | cons b l ih =>
    have hb := h4 b (by simp)
    have e : (ordN P b == 2) = (b.o == 4 && decide ((b.a, b.b) ∈ P)) := by
      unfold ordN
      rcases hb with hb | hb
      · rw [if_neg (by omega), hb]
        simp
      · rw [if_pos hb, hb]
        by_cases hm : (b.a, b.b) ∈ P <;> simp [hm]
    rw [List.map_cons, List.filter_cons, List.filter_cons, e]
    have := ih fun x hx => h4 x (by simp [hx])
    split <;> simp [this]

/-- What such a ring comes to. -/
theorem ann_end {q : St} {k la pos : Nat} {m mate : Nat → Option Nat} {f : Fo} {h : Gh} (A : AnnIs q k la m) (en : En q.atoms.length q.bonds pos) (hB : Best (grL q.atoms.length (candEdges q q.bonds)) mate f h) :
    (pairsF q.atoms.length mate).length = k / 2 ∧ cnt q.atoms.length (cand q) = k ∧ ((q.bonds.map (ordN (pairsF q.atoms.length mate))).filter fun x => x == 2).length = k / 2 := by
  have E := candEdges_ok en
  have hc : cnt q.atoms.length (cand q) = k := by rw [← A.count]; exact cnt_congr fun x _ => ann_cand A x
  have up := best_up E A.len hB
  have G := E.gr A.len
  have h1 : 2 * (pairsF q.atoms.length mate).length + cnt q.atoms.length (fun x => (mate x).isNone) = q.atoms.length := pairs_two G hB.m
  have M : MtOk (grL q.atoms.length (candEdges q q.bonds)) m := by
    refine ⟨fun a b hab => ?_, A.way.sym⟩
    show adjL (candEdges q q.bonds) a b = true
    obtain ⟨x, hx, ho, hends⟩ := A.way.bond a b hab
    have ca : cand q a = true := by rw [ann_cand A]; exact A.way.ar a b hab
    have cb : cand q b = true := by rw [ann_cand A]; exact A.way.ar b a (A.way.sym a b hab)
    refine adjL_iff.2 ?_
    rcases hends with ⟨e1, e2⟩ | ⟨e1, e2⟩
    · refine .inl (candEdges_mem.2 ⟨x, hx, ?_, e1, e2⟩)
      unfold isEdge
      rw [e1, e2, ca, cb, ho]
      rfl
    · refine .inr (candEdges_mem.2 ⟨x, hx, ?_, e1, e2⟩)
      unfold isEdge
      rw [e1, e2, ca, cb, ho]
      rfl
  have h2 : cnt q.atoms.length (fun x => (mate x).isNone) ≤ cnt q.atoms.length (fun x => (m x).isNone) := no_more G hB.m hB.inv hB.shut M
  have h3 : cnt q.atoms.length (fun x => (m x).isNone) ≤ cnt q.atoms.length (fun x => !cand q x) + k % 2 := by
    by_cases hk : k % 2 = 1
    · have hlt : la < q.atoms.length := by
        obtain ⟨a, h1, _⟩ := aro_at.1 A.la
        exact (List.getElem?_eq_some_iff.1 h1).1
      have hla : m la = none := (A.way.all la A.la).2 ⟨hk, rfl⟩
      rw [cnt_one hlt (fun x => (m x).isNone) (by simp only [hla]; rfl), hk]
      refine Nat.succ_le_succ (cnt_mono fun x _ hx => ?_)
      simp only [Bool.and_eq_true, Bool.not_eq_true', beq_eq_false_iff_ne, ne_eq] at hx
      rw [ann_cand A]
      cases ha : aro q x
      · rfl
      · exact absurd ((A.way.all x ha).1 (by simpa using hx.1)).2 hx.2
    · rw [show k % 2 = 0 by omega, Nat.add_zero]
      refine cnt_mono fun x _ hx => ?_
      rw [ann_cand A]
      cases ha : aro q x
      · rfl
      · exact absurd ((A.way.all x ha).1 (by simpa using hx)).1 hk
  have h4 := cnt_not q.atoms.length (cand q)
  have h5 : (pairsF q.atoms.length mate).length = k / 2 := by omega
  exact ⟨h5, hc, by rw [one_count _ _ A.orders, doubled_count en hB, h5]⟩
end Go.Proofs.YtcabaecbmkgclaaGreatDoor.Kd
namespace Go.Proofs.YtcabaecbmkgclaaGreatDoor.Kd
open Go.RowKit Bz Mt Mg Rf
/-- A list of numbers that came in. -/
def IRd (w : World) (v : Value) (raw : List Int) : Prop := ∃ so cap, v = .slice so raw.length cap ∧ ∀ i x, raw[i]? = some x → ∃ a, so = some a ∧ w.cell? (a.add i) = some (.int .i64 x)

theorem IRd.below {w w' : World} {v : Value} {raw : List Int} (h : IRd w v raw) (hb : Below w.heap.size w w') : IRd w' v raw := by
  obtain ⟨so, cap, rfl, hx⟩ := h
  refine ⟨so, cap, rfl, fun i x hi => ?_⟩
  obtain ⟨a, rfl, hc⟩ := hx i x hi
  exact ⟨a, rfl, (hb.cell (World.block_lt_of_cell? w _ hc)).trans hc⟩

def decB (d : Nat) : ByteArray := ⟨(decL d).toArray⟩
theorem dec_in (d : Nat) (hd : d < 5) : (#[Value.string ⟨#[]⟩, .string ⟨#[40, 67, 41]⟩, .string ⟨#[40, 79, 41]⟩, .string ⟨#[40, 67, 108, 41]⟩, .string ⟨#[40, 45, 78, 41]⟩] : Array Value)[d]? = some (.string (decB d)) := by
  match d, hd with
  | 0, _ => rfl
  | 1, _ => rfl
  | 2, _ => rfl
  | 3, _ => rfl
  | 4, _ => rfl
theorem decB_list (d : Nat) : (decB d).data.toList = decL d := rfl
theorem rgB_list (n : Nat) : (rgB n).data.toList = rgL n := by
  unfold rgB rgL
  split <;> rfl
theorem app_list (a b : ByteArray) : (a ++ b).data.toList = a.data.toList ++ b.data.toList := by simp

/-- What hangs on the i-th atom. -/
def decAt (raw : List Int) (i : Nat) : Nat := match raw[i]? with
  | some x => pickF x 5
  | none => 0
def unitL (num k : Nat) (raw : List Int) (i : Nat) : List UInt8 := 99 :: ((if i = 0 ∨ i + 1 = k then rgL num else []) ++ decL (decAt raw i))
def preL (num k : Nat) (raw : List Int) : Nat → List UInt8
  | 0 => []
  | i + 1 => preL num k raw i ++ unitL num k raw i

theorem pre_succ (num k : Nat) (raw : List Int) (i : Nat) : preL num k raw (i + 1) = preL num k raw i ++ unitL num k raw i := rfl

theorem dec_len (d : Nat) : (decL d).length ≤ 4 := by
  match d with
  | 0 => decide
  | 1 => decide
  | 2 => decide
  | 3 => decide
  | d + 4 => exact Nat.le_refl 4
theorem rg_len (n : Nat) : (rgL n).length ≤ 3 := by
  unfold rgL
  split <;> simp
theorem pre_len (num k : Nat) (raw : List Int) (i : Nat) : (preL num k raw i).length ≤ 8 * i := by
  induction i with
  | zero => exact Nat.le_refl 0
  | succ i ih =>
    have h1 := dec_len (decAt raw i)
    have h2 := rg_len num
    rw [preL, List.length_append, unitL, List.length_cons, List.length_append]
    split
    · omega
    · simp only [List.length_nil]; omega

theorem tail_units (num k : Nat) (raw : List Int) : ∀ m i, 1 ≤ i → i + m + 1 = k → tailL num ((List.range' i (m + 1)).map (decAt raw)) = (List.range' i (m + 1)).flatMap (unitL num k raw)
  | 0, i, hi, hk => by
    simp only [List.range'_succ, List.range'_zero, List.map_cons, List.map_nil, List.flatMap_cons, List.flatMap_nil]
    rw [tailL, unitL, if_pos (by omega)]
    simp
  | m + 1, i, hi, hk => by
    have ih := tail_units num k raw m (i + 1) (by omega) (by omega)
    rw [List.range'_succ, List.map_cons, List.flatMap_cons, ← ih]
    rw [List.range'_succ, List.map_cons, tailL, unitL, if_neg (by omega)]
    simp

theorem pre_range (num k : Nat) (raw : List Int) (i : Nat) : preL num k raw i = (List.range' 0 i).flatMap (unitL num k raw) := by
  induction i with
  | zero => rfl
  | succ i ih =>
    rw [preL, ih, List.range'_1_concat, List.flatMap_append]
    simp

theorem ann_text (num k : Nat) (raw : List Int) (hk : 3 ≤ k) : preL num k raw k = 99 :: (rgL num ++ (decL (decAt raw 0) ++ tailL num ((List.range' 1 (k - 1)).map (decAt raw)))) := by
  obtain ⟨m, rfl⟩ : ∃ m, k = m + 2 := ⟨k - 2, by omega⟩
  rw [pre_range, List.range'_succ, List.flatMap_cons, Nat.zero_add]
  have := tail_units num (m + 2) raw m 1 (by omega) (by omega)
  rw [show m + 2 - 1 = m + 1 by omega, this, unitL, if_pos (by omega)]
  simp

/-- What is read in it. -/
theorem ann_all {num k : Nat} {raw : List Int} {s : ByteArray} (hn : num < 100) (hk : 3 ≤ k) (hk2 : k ≤ 12) (hs : s.data.toList = preL num k raw k) :
    s.size ≤ 160 ∧ ∃ ats l, Bz.parse s = .ok (ats, l) ∧ ∀ q : St, q.atoms = ats → q.bonds = l → ∃ la m, AnnIs q k la m := by
  have hsz : s.size ≤ 160 := by
    have h1 := pre_len num k raw k
    have h2 : s.size = s.data.toList.length := by simp
    rw [hs] at h2
    omega
  refine ⟨hsz, ?_⟩
  have h := ann_parse (s := s) (num := num) (d := decAt raw 0) (ds := (List.range' 1 (k - 1)).map (decAt raw)) hn (by simp; omega) (by simp; omega) hsz (by unfold Bz.Rest; rw [List.drop_zero, hs]; exact ann_text num k raw hk)
  obtain ⟨ats, l, h1, h2⟩ := h
  refine ⟨ats, l, h1, fun q hq1 hq2 => ?_⟩
  obtain ⟨la, m, h3⟩ := h2 q hq1 hq2
  rw [show ((List.range' 1 (k - 1)).map (decAt raw)).length + 1 = k by simp; omega] at h3
  exact ⟨la, m, h3⟩

/-- Where the counting of the double bonds stands. -/
structure AnS (w : World) (Y : Nat) (oo : Option Addr) (oc nB : Nat) (os : List Nat) (wr : World) : Prop where
  r0 : wr.cell? ⟨Y, 0, none⟩ = some (.int .i64 1)
  r1 : wr.cell? ⟨Y, 1, none⟩ = some (.slice oo nB oc)
  r5 : wr.cell? ⟨Y, 5, none⟩ = some (.slice none 0 0)
  at_ : ∀ (i x : Nat), os[i]? = some x → ∃ g, oo = some ⟨g, 0, none⟩ ∧ wr.cell? ⟨g, i, none⟩ = some (.int .i64 (x : Int))
  below : Below w.heap.size w wr

set_option maxRecDepth 100000 in
set_option maxHeartbeats 4000000 in
theorem annulene_any (w : World) (n num : Int) (hn : In64 n) (hnum : In64 num) {v : Value} {raw : List Int} (h : IRd w v raw) (h64 : ∀ x ∈ raw, In64 x) : Calls Tryz.prog 6 #[.int .i64 n, .int .i64 num, v] w fun e w' => e = .returned (.bool true) ∧ Below w.heap.size w w' := by
  have P1 := pick_any w n 10 (by omega) (by omega) hn
  have P2 := fun W => pick_any W num 100 (by omega) (by omega) hnum
  have hk := pickF_lt n (show 0 < 10 by omega)
  have hnn := pickF_lt num (show 0 < 100 by omega)
  generalize pickF n 10 = k at *
  generalize pickF num 100 = nu at *
  have HR : Hid (IRd w v raw) := h
  have H64 : Hid (∀ x ∈ raw, In64 x) := h64
  obtain ⟨so, cap, hv, _⟩ := h
  subst hv
  clear h64
  go_enter Tryz.func6, Tryz.ntmps6
  go_wp2_with fail
  refine P1.mono ?_
  rintro e w1 ⟨rfl, rfl⟩
  clear P1
  have RG := fun W => ring_any W nu hnn
  go_wp2_with fail
  go_loopg [8, 9] (k + 4) (fun g v8 v9 wr => ∃ (i : Nat) (t : ByteArray), i ≤ k + 3 ∧ k + 3 - i < g ∧ v9 = .int .i64 (i : Int) ∧ v8 = .string t ∧ t.data.toList = preL nu (k + 3) raw i ∧ Below w1.heap.size w1 wr)
  case atStart => exact ⟨0, ⟨#[]⟩, by omega, by omega, rfl, rfl, rfl, Below.refl _ _⟩
  case round =>
    obtain ⟨i, t, hi, hg, rfl, rfl, hpre, hb⟩ := hrel
    have hts : t.size ≤ 8 * i := by
      have h1 := pre_len nu (k + 3) raw i
      have h2 : t.size = t.data.toList.length := by simp
      rw [hpre] at h2
      omega
    have HB : Hid (Below w1.heap.size w1 wr) := hb
    have HP : Hid (t.data.toList = preL nu (k + 3) raw i) := hpre
    clear hb hpre
    by_cases hlt : i < k + 3
    · have hlt' : (i : Int) < 3 + (k : Int) := by omega
      by_cases hil : i < raw.length
      · have hil' : (i : Int) < (raw.length : Int) := by omega
        obtain ⟨x, gx⟩ : ∃ x, raw[i]? = some x := ⟨_, List.getElem?_eq_getElem hil⟩
        by_cases h0 : i = 0
        · subst h0
          have hrs := rgB_size nu
          go_wp2_with fail
          refine (P2 _).mono ?_
          rintro e w2 ⟨rfl, rfl⟩
          go_wp2_with fail
          refine (RG _).mono ?_
          rintro e w3 ⟨rfl, hb3⟩
          have HB3 : Hid (Below w1.heap.size w1 w3) := HB.out.trans (hb3.mono HB.out.size)
          clear hb3 HB RG P2
          obtain ⟨so', cap', ev, hcell⟩ := HR.out.below HB3.out
          simp only [Value.slice.injEq, true_and] at ev
          obtain ⟨rfl, rfl⟩ := ev
          obtain ⟨ad, rfl, cx0⟩ := hcell _ _ gx
          have cx : ∀ o, (w3.alloc o).cell? ad = some (.int .i64 x) := fun o => by show (w3.alloc o).cell? (ad.add 0) = _; rw [World.cell?_alloc_lt _ _ _ (World.block_lt_of_cell? _ _ cx0)]; exact cx0
          have P5 := fun W => pick_any W x 5 (by omega) (by omega) (H64.out x (List.mem_of_getElem? gx))
          have hd5 := pickF_lt x (show 0 < 5 by omega)
          have HDA : Hid (decAt raw 0 = pickF x 5) := by show _ = _; unfold decAt; rw [gx]
          generalize pickF x 5 = d at *
          have hd5' : (d : Int) < 5 := by omega
          have hds : (decB d).size ≤ 4 := dec_len d
          have cL : (w3.alloc (.cells #[Value.string ⟨#[]⟩, .string ⟨#[40, 67, 41]⟩, .string ⟨#[40, 79, 41]⟩, .string ⟨#[40, 67, 108, 41]⟩, .string ⟨#[40, 45, 78, 41]⟩] 9)).cell? ⟨w3.heap.size, d, none⟩ = some (.string (decB d)) := by
            rw [World.cell?_alloc_new]
            exact dec_in d hd5
          have HB9 : Hid (∀ o, Below w1.heap.size w1 (w3.alloc o)) := fun o => HB3.out.alloc HB3.out.size o
          clear cx0 hcell HB3 HR H64
          go_wp2_with fail
          refine (P5 _).mono ?_
          rintro e w4 ⟨rfl, rfl⟩
          go_wp2_with fail
          go_roundg (k + 3 - 0)
          case measure => omega
          case rel => exact ⟨0 + 1, _, by omega, by omega, by go_num, rfl, by rw [app_list, app_list, app_list, HP.out, rgB_list, decB_list, pre_succ, unitL, if_pos (by omega), HDA.out]; simp, HB9.out _⟩
        · by_cases hz : i + 1 = k + 3
          · have h0' : ((i : Int) == 0) = false := by simp; omega
            have hz' : ((i : Int) == 3 + (k : Int) - 1) = true := by simp; omega
            have hrs := rgB_size nu
            go_wp2_with fail
            refine (P2 _).mono ?_
            rintro e w2 ⟨rfl, rfl⟩
            go_wp2_with fail
            refine (RG _).mono ?_
            rintro e w3 ⟨rfl, hb3⟩
            have HB3 : Hid (Below w1.heap.size w1 w3) := HB.out.trans (hb3.mono HB.out.size)
            clear hb3 HB RG P2
            obtain ⟨so', cap', ev, hcell⟩ := HR.out.below HB3.out
            simp only [Value.slice.injEq, true_and] at ev
            obtain ⟨rfl, rfl⟩ := ev
            obtain ⟨ad, rfl, cx0⟩ := hcell _ _ gx
            have cx : ∀ o, (w3.alloc o).cell? (ad.add i) = some (.int .i64 x) := fun o => by rw [World.cell?_alloc_lt _ _ _ (World.block_lt_of_cell? _ _ cx0)]; exact cx0
            have P5 := fun W => pick_any W x 5 (by omega) (by omega) (H64.out x (List.mem_of_getElem? gx))
            have hd5 := pickF_lt x (show 0 < 5 by omega)
            have HDA : Hid (decAt raw i = pickF x 5) := by show _ = _; unfold decAt; rw [gx]
            generalize pickF x 5 = d at *
            have hd5' : (d : Int) < 5 := by omega
            have hds : (decB d).size ≤ 4 := dec_len d
            have cL : (w3.alloc (.cells #[Value.string ⟨#[]⟩, .string ⟨#[40, 67, 41]⟩, .string ⟨#[40, 79, 41]⟩, .string ⟨#[40, 67, 108, 41]⟩, .string ⟨#[40, 45, 78, 41]⟩] 9)).cell? ⟨w3.heap.size, d, none⟩ = some (.string (decB d)) := by
              rw [World.cell?_alloc_new]
              exact dec_in d hd5
            have HB9 : Hid (∀ o, Below w1.heap.size w1 (w3.alloc o)) := fun o => HB3.out.alloc HB3.out.size o
            clear cx0 hcell HB3 HR H64
            go_wp2_with fail
            refine (P5 _).mono ?_
            rintro e w4 ⟨rfl, rfl⟩
            go_wp2_with fail
            go_roundg (k + 3 - i)
            case measure => omega
            case rel => exact ⟨i + 1, _, by omega, by omega, by go_num, rfl, by rw [app_list, app_list, app_list, HP.out, rgB_list, decB_list, pre_succ, unitL, if_pos (by omega), HDA.out]; simp, HB9.out _⟩
          · have h0' : ((i : Int) == 0) = false := by simp; omega
            have hz' : ((i : Int) == 3 + (k : Int) - 1) = false := by simp; omega
            obtain ⟨so', cap', ev, hcell⟩ := HR.out.below HB.out
            simp only [Value.slice.injEq, true_and] at ev
            obtain ⟨rfl, rfl⟩ := ev
            obtain ⟨ad, rfl, cx0⟩ := hcell _ _ gx
            have cx : ∀ o, (wr.alloc o).cell? (ad.add i) = some (.int .i64 x) := fun o => by rw [World.cell?_alloc_lt _ _ _ (World.block_lt_of_cell? _ _ cx0)]; exact cx0
            have P5 := fun W => pick_any W x 5 (by omega) (by omega) (H64.out x (List.mem_of_getElem? gx))
            have hd5 := pickF_lt x (show 0 < 5 by omega)
            have HDA : Hid (decAt raw i = pickF x 5) := by show _ = _; unfold decAt; rw [gx]
            generalize pickF x 5 = d at *
            have hd5' : (d : Int) < 5 := by omega
            have hds : (decB d).size ≤ 4 := dec_len d
            have cL : (wr.alloc (.cells #[Value.string ⟨#[]⟩, .string ⟨#[40, 67, 41]⟩, .string ⟨#[40, 79, 41]⟩, .string ⟨#[40, 67, 108, 41]⟩, .string ⟨#[40, 45, 78, 41]⟩] 9)).cell? ⟨wr.heap.size, d, none⟩ = some (.string (decB d)) := by
              rw [World.cell?_alloc_new]
              exact dec_in d hd5
            have HB9 : Hid (∀ o, Below w1.heap.size w1 (wr.alloc o)) := fun o => HB.out.alloc HB.out.size o
            clear cx0 hcell HB HR H64
            go_wp2_with fail
            refine (P5 _).mono ?_
            rintro e w4 ⟨rfl, rfl⟩
            go_wp2_with fail
            go_roundg (k + 3 - i)
            case measure => omega
            case rel => exact ⟨i + 1, _, by omega, by omega, by go_num, rfl, by rw [app_list, app_list, HP.out, decB_list, pre_succ, unitL, if_neg (by omega), HDA.out]; simp, HB9.out _⟩
      · have hil' : ¬ (i : Int) < (raw.length : Int) := by omega
        by_cases h0 : i = 0
        · subst h0
          have hrs := rgB_size nu
          go_wp2_with fail
          refine (P2 _).mono ?_
          rintro e w2 ⟨rfl, rfl⟩
          go_wp2_with fail
          refine (RG _).mono ?_
          rintro e w3 ⟨rfl, hb3⟩
          have HB3 : Hid (Below w1.heap.size w1 w3) := HB.out.trans (hb3.mono HB.out.size)
          clear hb3 HB RG P2
          have HDA : Hid (decAt raw 0 = 0) := by show _ = _; unfold decAt; rw [List.getElem?_eq_none (by omega)]
          go_wp2_with fail
          go_roundg (k + 3 - 0)
          case measure => omega
          case rel => exact ⟨0 + 1, _, by omega, by omega, by go_num, rfl, by rw [app_list, app_list, HP.out, rgB_list, pre_succ, unitL, if_pos (by omega), HDA.out]; simp [decL], HB3.out⟩
        · by_cases hz : i + 1 = k + 3
          · have h0' : ((i : Int) == 0) = false := by simp; omega
            have hz' : ((i : Int) == 3 + (k : Int) - 1) = true := by simp; omega
            have hrs := rgB_size nu
            go_wp2_with fail
            refine (P2 _).mono ?_
            rintro e w2 ⟨rfl, rfl⟩
            go_wp2_with fail
            refine (RG _).mono ?_
            rintro e w3 ⟨rfl, hb3⟩
            have HB3 : Hid (Below w1.heap.size w1 w3) := HB.out.trans (hb3.mono HB.out.size)
            clear hb3 HB RG P2
            have HDA : Hid (decAt raw i = 0) := by show _ = _; unfold decAt; rw [List.getElem?_eq_none (by omega)]
            go_wp2_with fail
            go_roundg (k + 3 - i)
            case measure => omega
            case rel => exact ⟨i + 1, _, by omega, by omega, by go_num, rfl, by rw [app_list, app_list, HP.out, rgB_list, pre_succ, unitL, if_pos (by omega), HDA.out]; simp [decL], HB3.out⟩
          · have h0' : ((i : Int) == 0) = false := by simp; omega
            have hz' : ((i : Int) == 3 + (k : Int) - 1) = false := by simp; omega
            have HDA : Hid (decAt raw i = 0) := by show _ = _; unfold decAt; rw [List.getElem?_eq_none (by omega)]
            go_wp2_with fail
            go_roundg (k + 3 - i)
            case measure => omega
            case rel => exact ⟨i + 1, _, by omega, by omega, by go_num, rfl, by rw [app_list, HP.out, pre_succ, unitL, if_neg (by omega), HDA.out]; simp [decL], HB.out⟩
    · have hlt' : ¬ (i : Int) < 3 + (k : Int) := by omega
      obtain rfl : i = k + 3 := by omega
      obtain ⟨hsz, ats, l, hpa, hfacts⟩ := ann_all hnn (by omega) (by omega) HP.out
      have P3 := fun W => kekulize_any t W (by unfold maxLen; omega)
      have HFA : Hid (∀ q : St, q.atoms = ats → q.bonds = l → ∃ la m, AnnIs q (k + 3) la m) := hfacts
      have HPA : Hid (Bz.parse t = .ok (ats, l)) := hpa
      clear hfacts hpa HP RG P2 HR H64
      go_wp2_with fail
      refine (P3 _).mono ?_
      clear P3
      rintro e w4 h
      rcases h with ⟨er, h, _⟩ | ⟨q, mate, f, gh, h⟩
      · exfalso
        have := HPA.out
        rw [h] at this
        cases this
      have hpq := HPA.out
      rw [h.h] at hpq
      simp only [Except.ok.injEq, Prod.mk.injEq] at hpq
      obtain ⟨la, m, hI⟩ := HFA.out q hpq.1 hpq.2
      obtain ⟨e1, e2, e3⟩ := ann_end hI h.en h.best
      have htm : Int.tmod (3 + (k : Int)) 2 = (((k + 3) % 2 : Nat) : Int) := by rw [show 3 + (k : Int) = ((k + 3 : Nat) : Int) by omega]; rfl
      have htd : Int.tdiv (3 + (k : Int)) 2 = (((k + 3) / 2 : Nat) : Int) := by rw [show 3 + (k : Int) = ((k + 3 : Nat) : Int) by omega]; rfl
      have HTD : Hid (_) := htd
      rcases h.case with ⟨hlow, pv, uv, hK⟩ | ⟨hlow, ov, cv, hK⟩
      · obtain ⟨he, hp, hu, hb4⟩ := hK
        subst he
        have hodd : (k + 3) % 2 = 1 := by omega
        have hodd' : Int.tmod (3 + (k : Int)) 2 = 1 := by rw [htm]; omega
        obtain ⟨po, pc, hpv⟩ := ownsRow_shape hp
        obtain ⟨uo, uc, huv⟩ := hu.shape
        subst hpv huv
        have hpl : ((pairsF q.atoms.length mate).length : Int) = Int.tdiv (3 + (k : Int)) 2 := by rw [e1, htd]
        have HB4 : Hid (Below w1.heap.size w1 w4) := HB.out.trans (hb4.mono HB.out.size)
        generalize (pairsF q.atoms.length mate).length = np at *
        generalize (barF q.atoms.length f).length = nu2 at *
        clear hp hu hb4 HB HFA HPA hI h e1 e2 e3 hlow hpq htm htd
        go_upto_region 12 with fail
        obtain ⟨W, hW⟩ : ∃ W, w4.alloc (.cells #[.int .i64 2, .slice none 0 0, .string ⟨#[]⟩, .slice none 0 0, .slice po np pc, .slice uo nu2 uc] 31) = W := ⟨_, rfl⟩
        have r0 : W.cell? ⟨w4.heap.size, 0, none⟩ = some (.int .i64 2) := by rw [← hW]; simp
        have r1 : W.cell? ⟨w4.heap.size, 1, none⟩ = some (.slice none 0 0) := by rw [← hW]; simp
        have r4 : W.cell? ⟨w4.heap.size, 4, none⟩ = some (.slice po np pc) := by rw [← hW]; simp
        have HBW : Hid (Below w1.heap.size w1 W) := by rw [← hW]; exact HB4.out.alloc HB4.out.size _
        rw [hW]
        clear hW HB4
        go_wp2_with fail
        go_ret
        exact ⟨rfl, HBW.out⟩
      · obtain ⟨he, ho, hcv, _, hb4⟩ := hK
        subst he
        have heven : (k + 3) % 2 = 0 := by omega
        have hodd' : ¬ Int.tmod (3 + (k : Int)) 2 = 1 := by rw [htm]; omega
        have hosl : (q.bonds.map (ordN (pairsF q.atoms.length mate))).length = q.bonds.length := List.length_map ..
        have hl160 : q.bonds.length ≤ 160 := by have := h.ho.bonds; have := h.ho.pos; have := h.hs; omega
        have HCT : Hid (((q.bonds.map (ordN (pairsF q.atoms.length mate))).filter fun x => x == 2).length = (k + 3) / 2) := e3
        generalize q.bonds.map (ordN (pairsF q.atoms.length mate)) = os at *
        generalize wrL t.data.toList q.bonds os = ws at *
        obtain ⟨oo, oc, hov⟩ := ho.shape
        obtain ⟨co, cu, hcvv⟩ := hcv.shape
        subst hov hcvv
        have HO : Hid (Ints w4 wr.heap.size (.slice oo os.length oc) os) := ho
        have HB4 : Hid (Below w1.heap.size w1 w4) := HB.out.trans (hb4.mono HB.out.size)
        generalize (List.range q.atoms.length).length = nC at *
        have hnB : os.length ≤ 160 := by omega
        obtain ⟨nB, hol⟩ : ∃ nB, os.length = nB := ⟨_, rfl⟩
        rw [hol] at hnB HO
        clear ho hcv hb4 HB HFA HPA hI h e1 e2 e3 hlow hpq hosl hl160 htm htd
        rw [hol]
        go_upto_region 12 with fail
        obtain ⟨W, hW⟩ : ∃ W, w4.alloc (.cells #[.int .i64 1, .slice oo nB oc, .string ⟨ws.toArray⟩, .slice co nC cu, .slice none 0 0, .slice none 0 0] 31) = W := ⟨_, rfl⟩
        have S0 : Hid (AnS w1 w4.heap.size oo oc nB os W) := by
          refine ⟨?_, ?_, ?_, fun i x hi => ?_, ?_⟩
          · rw [← hW]; simp
          · rw [← hW]; simp
          · rw [← hW]; simp
          · rw [← hol] at HO
            obtain ⟨g, cap, e1, _, hg, hcell⟩ := HO.out.at hi
            simp only [Value.slice.injEq, true_and] at e1
            exact ⟨g, e1.1, by rw [← hW, World.cell?_alloc_lt _ _ _ hg]; exact hcell⟩
          · rw [← hW]; exact HB4.out.alloc HB4.out.size _
        rw [hW]
        clear hW HB4 HO
        have r0 := S0.out.r0
        have r1 := S0.out.r1
        have r5 := S0.out.r5
        go_wp2_with fail
        go_loopg [13, 14] (nB + 1) (fun g v13 v14 wr => ∃ i : Nat, i ≤ nB ∧ nB - i < g ∧ v14 = .int .i64 (i : Int) ∧ v13 = .int .i64 ((((os.take i).filter fun x => x == 2).length : Nat) : Int) ∧ AnS w1 w4.heap.size oo oc nB os wr)
        case atStart => exact ⟨0, by omega, by omega, rfl, rfl, S0.out⟩
        case round =>
          obtain ⟨i, hi, hg, rfl, rfl, hS⟩ := hrel
          clear S0 r0 r1 r5
          have HS : Hid (AnS w1 w4.heap.size oo oc nB os wr) := hS
          have r0 := hS.r0
          have r1 := hS.r1
          have r5 := hS.r5
          clear hS
          by_cases hlt : i < nB
          · have hlt' : (i : Int) < (nB : Int) := by omega
            obtain ⟨x, hx⟩ : ∃ x, os[i]? = some x := ⟨_, List.getElem?_eq_getElem (by omega)⟩
            obtain ⟨g, rfl, hcell⟩ := HS.out.at_ i x hx
            have hct : ((os.take i).filter fun x => x == 2).length ≤ 160 := Nat.le_trans (List.length_filter_le _ _) (by rw [List.length_take]; omega)
            have HNX : Hid (((os.take (i + 1)).filter fun x => x == 2).length = ((os.take i).filter fun x => x == 2).length + if x == 2 then 1 else 0) := by
              show _ = _
              rw [take_snoc hx, List.filter_append, List.length_append]
              simp only [List.filter_cons, List.filter_nil]
              split <;> rfl
            by_cases hx2 : x = 2
            · subst hx2
              go_wp2_with fail
              go_roundg (nB - i)
              case measure => omega
              case rel => exact ⟨i + 1, by omega, by omega, by go_num, by rw [HNX.out]; rfl, HS.out⟩
            · have hx2' : ¬ (x : Int) = 2 := by omega
              have hx3 : (x == 2) = false := by simp [hx2]
              go_wp2_with fail
              go_roundg (nB - i)
              case measure => omega
              case rel => exact ⟨i + 1, by omega, by omega, by go_num, by rw [HNX.out, hx3]; rfl, HS.out⟩
          · have hlt' : ¬ (i : Int) < (nB : Int) := by omega
            have hct : ((((os.take i).filter fun x => x == 2).length : Nat) : Int) = Int.tdiv (3 + (k : Int)) 2 := by
              rw [List.take_of_length_le (by omega), HCT.out, HTD.out]
            generalize (((os.take i).filter fun x => x == 2).length : Nat) = cn at *
            go_wp2_with fail
            go_ret
            exact ⟨rfl, HS.out.below⟩
end Go.Proofs.YtcabaecbmkgclaaGreatDoor.Kd
