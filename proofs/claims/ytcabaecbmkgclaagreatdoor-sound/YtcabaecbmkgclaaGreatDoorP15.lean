/-
  What valencesRight and whole do.
  What reader.Read does.
  What reader.Read does.
  What reader.Read does with a text that is not too long and is right.
  What reader.Read does with a text in which something is wrong.
  What the molecule's Plain does.
  No error of the plain reader's has the number 0.
-/
import Derived.Test.YtcabaecbmkgclaaGreatDoorP14
import Derived.Lib.SliceRun

namespace Go.Proofs.YtcabaecbmkgclaaGreatDoor
open Go.RowKit Bz

section
variable {w : World} {B : Nat} {s : ByteArray} {p : St}

theorem missing_bd (l : List Int) (n : Int) (hn : 0 ≤ n) (hx : ∀ x ∈ l, 0 ≤ x ∧ x ≤ 9) : 0 ≤ missing l n ∧ missing l n ≤ 9 := by
  unfold missing
  split
  · rename_i v hv
    have h1 := List.find?_some hv
    have h2 := hx v (List.mem_of_find?_eq_some hv)
    simp at h1
    omega
  · omega

theorem implied_bd (a : Atm) (n : Int) (hn : 0 ≤ n) : 0 ≤ implied a n ∧ implied a n ≤ 9 := by
  unfold implied
  split
  · split <;> omega
  · exact missing_bd _ _ hn (valences_len a.el a.ch).2

def withHy (p : St) : St := { p with atoms := p.atoms.mapIdx (withHydrogens p.bonds) }

theorem withHy_wf (o : Ok s p) (hs : s.size ≤ 160) : Ok s (withHy p) := by
  have hmem : ∀ a ∈ p.atoms.mapIdx (withHydrogens p.bonds), ∃ i b, p.atoms[i]? = some b ∧ a = withHydrogens p.bonds i b := by
    intro a ha
    obtain ⟨i, hi⟩ := List.mem_iff_getElem?.1 ha
    rw [List.getElem?_mapIdx] at hi
    cases hb : p.atoms[i]? with
    | none => rw [hb] at hi; cases hi
    | some b => rw [hb] at hi; simp at hi; exact ⟨i, b, hb, hi.symm⟩
  refine ⟨o.pos, by simp [withHy]; exact o.atoms, o.bonds, ?_, o.ords, ?_, ?_⟩
  · intro n o' ho
    obtain ⟨fa, h1, h2⟩ := o.rings n o' ho
    exact ⟨fa, h1, by simp [withHy]; exact h2⟩
  · intro a ha
    obtain ⟨i, b, hb, rfl⟩ := hmem a ha
    unfold withHydrogens
    split
    · exact o.hys b (List.mem_of_getElem? hb)
    · exact implied_bd b _ (sum_bound o hs i).1
  · intro a ha
    obtain ⟨i, b, hb, rfl⟩ := hmem a ha
    have := o.aros b (List.mem_of_getElem? hb)
    unfold withHydrogens
    split
    · exact this
    · exact this

theorem firstWrong_at (l : List Bnd) : ∀ (r : List Atm) (i : Nat), (wrongAt l i r = none ∧ firstWrong l i r = none) ∨ ∃ k a, wrongAt l i r = some (i + k) ∧ r[k]? = some a ∧ firstWrong l i r = some a
  | [], i => .inl ⟨rfl, rfl⟩
  | a :: r, i => by
    cases hw : Bz.wrong l i a
    · rcases firstWrong_at l r (i + 1) with ⟨h1, h2⟩ | ⟨k, b, h1, h2, h3⟩
      · exact .inl ⟨by rw [wrongAt, hw]; exact h1, by rw [firstWrong, hw]; exact h2⟩
      · exact .inr ⟨k + 1, b, by rw [wrongAt, hw, if_neg (by decide), h1]; congr 1; omega, h2, by rw [firstWrong, hw]; exact h3⟩
    · exact .inr ⟨0, a, by rw [wrongAt, hw]; rfl, rfl, by rw [firstWrong, hw]; rfl⟩

def valencesOk (p : St) : R St := match firstWrong p.bonds 0 (withHy p).atoms with
  | some a => .error (6, (a.pl : Int))
  | none => .ok (withHy p)

set_option maxRecDepth 100000 in
set_option maxHeartbeats 2000000 in
theorem valencesRight_any (h : Rd w B s p) (o : Ok s p) (hs : s.size ≤ 160) (hne : 0 < p.atoms.length) :
    Calls Tryz.prog 59 #[.pointer (some ⟨B, 0, none⟩)] w (StPost w B s (valencesOk p)) := by
  have hSH := setHydrogens_any h o hs hne
  go_enter Tryz.func59, Tryz.ntmps59
  go_wp2_with fail
  refine hSH.mono ?_
  rintro e w1 ⟨rfl, hr1', hf1⟩
  have hr1 : Rd w1 B s (withHy p) := hr1'
  clear hr1'
  have o1 := withHy_wf o hs
  have hFW := firstWrong_any hr1 o1 hs
  have hB1 := hr1.lt
  clear hSH
  go_wp2_with fail
  refine hFW.mono ?_
  rintro e w2 ⟨hm, hb⟩
  clear hFW
  rcases firstWrong_at p.bonds (withHy p).atoms 0 with ⟨h1, h2⟩ | ⟨k, a, h1, h2, h3⟩
  · have HV : Hid (valencesOk p = .ok (withHy p)) := by unfold Hid valencesOk; rw [h2]
    have hm' : e = .returned (.tuple #[.int .i64 0, .bool false]) := by
      have hh : wrongAt (withHy p).bonds 0 (withHy p).atoms = none := h1
      rw [hh] at hm; exact hm
    subst hm'
    clear hm h1 h2
    go_wp2_with fail
    go_ret
    exact StPost.ok HV.out rfl (Rd.below hr1 hb) (hf1.trans (Fr.below hB1 hb))
  · have HV : Hid (valencesOk p = .error (6, (a.pl : Int))) := by unfold Hid valencesOk; rw [h3]
    have hm' : e = .returned (.tuple #[.int .i64 (k : Nat), .bool true]) := by
      have hh : wrongAt (withHy p).bonds 0 (withHy p).atoms = some (0 + k) := h1
      rw [hh, Nat.zero_add] at hm; exact hm
    subst hm'
    have hr2 := Rd.below hr1 hb
    obtain ⟨g, cap, hA, hg⟩ := hr2.atI h2
    have hk : k < (withHy p).atoms.length := (List.getElem?_eq_some_iff.1 h2).1
    have hk' : (k : Int) < ((withHy p).atoms.length : Int) := by omega
    have hn1 := o1.atoms
    have q0 := hA.sl
    have q4 := hA.c4
    have hfa := fail_any hr2.drew 6 (a.pl : Int)
    clear hm h1 h2 h3 hA
    generalize (withHy p).atoms.length = nn at *
    go_wp2_with fail
    go_region_with (go_at_call 57; refine hfa.mono ?_; rintro e w' ⟨rfl, hw, hf6⟩)
    all_goals
      go_wp2_with fail
      go_ret
      exact StPost.error HV.out rfl hw (((hf1.trans (Fr.below hB1 hb)).drew).trans hf6)

theorem start_ok (s : ByteArray) : Ok s Bz.start := ⟨Nat.zero_le _, by simp [Bz.start], by simp [Bz.start], by intro n o h; simp [Bz.start] at h, by simp [Bz.start], by simp [Bz.start], by simp [Bz.start]⟩

/-- What stands behind the chain. -/
def finish (s : ByteArray) (p : St) : R St :=
  if p.pos < s.size then .error (2, (p.pos : Int))
  else if leftmost p.rings s.size 100 < s.size then .error (4, ((leftmost p.rings s.size 100 : Nat) : Int))
  else valencesOk p

def wholeR (s : ByteArray) : R St := match Bz.chain s (s.size + 1) ⟨0, 0, -1⟩ Bz.start with
  | .error e => .error e
  | .ok p => finish s p

theorem chain_ne {s : ByteArray} {n : Nat} {g : Hung} {p q : St} (h : Bz.chain s n g p = .ok q) (o : Ok s p) : 0 < q.atoms.length := by
  cases n with
  | zero => simp [Bz.chain] at h
  | succ n =>
    unfold Bz.chain at h
    split at h
    · cases h
    · rename_i k p1 hk
      obtain ⟨o1, h1, h2, h3⟩ := knot_wf (chain_wf s n) hk o
      obtain ⟨o2, h4, h5⟩ := linked_wf (chain_wf s n) _ h o1 h1
      omega

set_option maxRecDepth 100000 in
set_option maxHeartbeats 2000000 in
theorem whole_any (h : Rd w B s Bz.start) (hs : s.size ≤ 160) :
    Calls Tryz.prog 31 #[.pointer (some ⟨B, 0, none⟩)] w (StPost w B s (wholeR s)) := by
  have hCh := chain_any hs (s.size + 1) w B ⟨0, 0, -1⟩ Bz.start h (start_ok s) (.inl rfl) (by omega)
  unfold hungV at hCh
  simp only at hCh
  go_enter Tryz.func31, Tryz.ntmps31
  go_wp2_with fail
  refine hCh.mono ?_
  rintro e w1 ⟨hm, hf1⟩
  clear hCh
  cases hc : Bz.chain s (s.size + 1) ⟨0, 0, -1⟩ Bz.start with
  | error er =>
    rw [hc] at hm
    obtain ⟨rfl, hw⟩ := hm
    have HR : Hid (wholeR s = .error er) := by unfold Hid wholeR; rw [hc]
    clear hc
    go_wp2_with fail
    go_ret
    exact StPost.error HR.out rfl hw hf1
  | ok q =>
    rw [hc] at hm
    obtain ⟨rfl, hr1⟩ := hm
    have HR : Hid (wholeR s = finish s q) := by unfold Hid wholeR; rw [hc]
    obtain ⟨oq, _, _⟩ := chain_wf s _ _ _ _ (start_ok s) (.inl rfl) hc
    have hne := chain_ne hc (start_ok s)
    clear hc
    have hEn := ended_any hr1 oq.pos
    by_cases hlt : q.pos < s.size
    · have hd : (!decide (q.pos < s.size)) = false := by simp [hlt]
      rw [hd] at hEn
      have HF : Hid (finish s q = .error (2, (q.pos : Int))) := by unfold Hid finish; rw [if_pos hlt]
      clear hd
      have qp := hr1.pos
      go_wp2_with fail
      refine hEn.mono ?_
      rintro e w2 ⟨rfl, k2, rfl⟩
      clear hEn
      have hfa := fail_any (hr1.drewN (k2 + 1)) 2 (q.pos : Int)
      go_wp2_with fail
      go_region_with (go_at_call 57; refine hfa.mono ?_; rintro e w' ⟨rfl, hw, hf6⟩)
      all_goals
        go_wp2_with fail
        go_ret
        exact StPost.error (HR.out.trans HF.out) rfl hw ((hf1.drewN _).trans hf6)
    · have hd : (!decide (q.pos < s.size)) = true := by simp [hlt]
      rw [hd] at hEn
      clear hd
      go_wp2_with fail
      refine hEn.mono ?_
      rintro e w2 ⟨rfl, k2, rfl⟩
      clear hEn
      have hRC := ringsClosed_any (hr1.drewN k2) hs
      unfold RcPost at hRC
      by_cases hle : leftmost q.rings s.size 100 < s.size
      · simp only [if_pos hle] at hRC
        have HF : Hid (finish s q = .error (4, ((leftmost q.rings s.size 100 : Nat) : Int))) := by unfold Hid finish; rw [if_neg hlt, if_pos hle]
        clear hle hlt
        go_wp2_with fail
        refine hRC.mono ?_
        rintro e w3 ⟨rfl, hw, hf3⟩
        go_wp2_with fail
        go_ret
        exact StPost.error (HR.out.trans HF.out) rfl hw ((hf1.drewN _).trans hf3)
      · simp only [if_neg hle] at hRC
        have HF : Hid (finish s q = valencesOk q) := by unfold Hid finish; rw [if_neg hlt, if_neg hle]
        clear hle hlt
        go_wp2_with fail
        refine hRC.mono ?_
        rintro e w3 ⟨rfl, hr3, hf3⟩
        clear hRC
        have hVR := valencesRight_any hr3 oq hs hne
        go_wp2_with fail
        refine hVR.mono ?_
        rintro e w4 ⟨hm, hf4⟩
        clear hVR
        have HFF : Hid _ := HR.out.trans HF.out
        cases hv : valencesOk q with
        | ok r =>
          rw [hv] at hm HFF
          obtain ⟨rfl, hr4⟩ := hm
          clear hv
          go_wp2_with fail
          go_ret
          exact StPost.ok HFF.out rfl hr4 (((hf1.drewN _).trans hf3).trans hf4)
        | error er =>
          rw [hv] at hm HFF
          obtain ⟨rfl, hw4⟩ := hm
          clear hv
          go_wp2_with fail
          go_ret
          exact StPost.error HFF.out rfl hw4 (((hf1.drewN _).trans hf3).trans hf4)
end
end Go.Proofs.YtcabaecbmkgclaaGreatDoor

namespace Go.Proofs.YtcabaecbmkgclaaGreatDoor
open Go.RowKit Bz

theorem wpList_build {P : Program} {ops : Array Oper} {rest : List Oper} {op : Oper} {a : Act} {w : World} {Q : Exit → Act → World → Prop} (hgd : op.guard = none) (t : TypeId) (parts : Array (Nat × Operand)) (ho : op.op = .build t parts) (vals : Array (Nat × Value)) (hv : (parts.map fun (i, x) => (i, a.eval x)) = vals) (v : Value)
    (hr : (Instr.build t vals).run P w = .ok v w) (h : wpList P ops Q rest (a.put op.dst v) w) : wpList P ops Q (op :: rest) a w :=
  wpList_plain hgd fun _ hK => by
    unfold Oper.wp execOp
    simp only [ho, hv, Sem.run_bind, Sem.run_pure, hr, Result.andThen_ok]
    exact hK _ _ h

theorem wpList_alloc {P : Program} {ops : Array Oper} {rest : List Oper} {op : Oper} {a : Act} {w : World} {Q : Exit → Act → World → Prop} (hgd : op.guard = none) (t : TypeId) (ho : op.op = .alloc t) (v : Value) (w' : World)
    (hr : (Instr.alloc t true (.tuple #[])).run P w = .ok v w') (h : wpList P ops Q rest (a.put op.dst v) w') : wpList P ops Q (op :: rest) a w :=
  wpList_plain hgd fun _ hK => by
    unfold Oper.wp execOp
    simp only [ho, Sem.run_bind, Sem.run_pure, hr, Result.andThen_ok]
    exact hK _ _ h

def readerList (s : ByteArray) : List Value := [.string s, .int .i64 0] ++ List.replicate 24 (.int .u32 0) ++ [.slice none 0 0, .slice none 0 0, .int .i64 0, .int .i64 0] ++ ringList (fun _ => none) 100

theorem build_reader (s : ByteArray) (w : World) : (Instr.build 97 #[(0, .agg #[.string s, .int .i64 0])]).run Tryz.prog w = .ok (.agg (readerList s).toArray) w := by kernel_rfl
theorem alloc_reader (w : World) : (Instr.alloc 97 true (.tuple #[])).run Tryz.prog w = .ok (.pointer (some ⟨w.heap.size, 0, none⟩)) (w.alloc (.cells (readerList ⟨#[]⟩).toArray 97)) := by kernel_rfl
theorem Tryz.sizeReader : (Tryz.prog.info? 97).map (·.size) = some 530 := by kernel_rfl

theorem readerList_len (s : ByteArray) : (readerList s).length = 530 := by
  unfold readerList
  simp only [List.length_append, List.length_replicate, ringList_len]
  rfl

theorem readerList_one (s : ByteArray) : ((readerList s).toArray).all (·.oneCell') = true := by
  have h1 : ∀ n, ∀ v ∈ ringList (fun _ => none) n, v.oneCell' = true := by
    intro n
    induction n with
    | zero => intro v hv; simp [ringList] at hv
    | succ n ih =>
      intro v hv
      rw [ringList] at hv
      rcases List.mem_append.1 hv with hv | hv
      · exact ih v hv
      · simp [opnCells] at hv
        rcases hv with rfl | rfl | rfl <;> rfl
  apply all_oneCell_toArray
  intro v hv
  unfold readerList at hv
  simp only [List.mem_append, List.mem_cons, List.mem_replicate] at hv
  rcases hv with ((hv | hv) | hv) | hv
  · rcases hv with rfl | rfl | hv
    · rfl
    · rfl
    · cases hv
  · rw [hv.2]; rfl
  · rcases hv with rfl | rfl | rfl | rfl | hv
    · rfl
    · rfl
    · rfl
    · rfl
    · cases hv
  · exact h1 100 v hv

theorem readerList_at (s : ByteArray) : (readerList s)[0]? = some (.string s) ∧ (readerList s)[1]? = some (.int .i64 0) ∧ (∀ k, k < 24 → (readerList s)[2 + k]? = some (.int .u32 0)) ∧
    (readerList s)[26]? = some (.slice none 0 0) ∧ (readerList s)[27]? = some (.slice none 0 0) ∧ (readerList s)[28]? = some (.int .i64 0) ∧ (readerList s)[29]? = some (.int .i64 0) ∧
    ∀ j, j < 500 → (readerList s)[30 + j]? = (ringList (fun _ => none) 100)[j]? := by
  unfold readerList
  refine ⟨rfl, rfl, ?_, rfl, rfl, rfl, rfl, ?_⟩
  · intro k hk
    rw [List.getElem?_append_left (by simp; omega), List.getElem?_append_left (by simp; omega), List.getElem?_append_right (by simp)]
    show (List.replicate 24 (Value.int .u32 0))[2 + k - 2]? = _
    rw [Nat.add_sub_cancel_left, List.getElem?_replicate, if_pos hk]
  · intro j _
    rw [List.getElem?_append_right (by simp)]
    show (ringList (fun _ => none) 100)[30 + j - 30]? = _
    rw [Nat.add_sub_cancel_left]

/-- The reader as it begins. -/
theorem rd_start (s : ByteArray) (w : World) : Rd (((w.alloc (.cells (readerList ⟨#[]⟩).toArray 97))).setCells w.heap.size 0 (readerList s)) w.heap.size s Bz.start := by
  have hin : ∀ (j : Nat), j < 530 → ((w.alloc (.cells (readerList ⟨#[]⟩).toArray 97)).setCells w.heap.size 0 (readerList s)).cell? ⟨w.heap.size, j, none⟩ = (readerList s)[j]? := by
    intro j hj
    have := World.cell?_setCells_in w.heap.size (readerList s) 0 (w.alloc (.cells (readerList ⟨#[]⟩).toArray 97)) (by
      intro i hi
      rw [readerList_len] at hi
      simp only [Nat.zero_add, World.cell?_alloc_new]
      simp
      rw [readerList_len]
      exact hi) j (by rw [readerList_len]; exact hj)
    simp only [Nat.zero_add] at this
    rw [this, List.getElem?_eq_getElem]
  obtain ⟨h0, h1, h2, h3, h4, h5, h6, h7⟩ := readerList_at s
  refine ⟨by rw [hin _ (by omega)]; exact h0, by rw [hin _ (by omega)]; exact h1, fun k hk => ⟨0, by rw [hin _ (by omega)]; exact h2 k hk, by omega, ?_⟩,
    ⟨_, by rw [hin _ (by omega)]; exact h3, World.ownsRow_nil _ _ _ _⟩, ⟨_, by rw [hin _ (by omega)]; exact h4, World.ownsRow_nil _ _ _ _⟩,
    ⟨_, by rw [hin _ (by omega)]; exact h5⟩, ⟨_, by rw [hin _ (by omega)]; exact h6⟩, ?_, ?_⟩
  · intro j _
    simp [Bz.start, bonded]
  · intro n j v hn hv
    have hj : j < 5 := by have := (List.getElem?_eq_some_iff.1 hv).1; rwa [opnCells_length] at this
    rw [hin _ (by omega), Nat.add_assoc, h7 _ (by omega), ringList_get _ 100 n j hn hj]
    exact hv
  · intro i
    rw [World.frozen?_setCells]
    simp


def zeroMol : Array Value := #[.int .u32 0, .int .u32 0, .int .u32 0, .int .u32 0, .int .u32 0, .int .u32 0, .int .u32 0, .int .u32 0, .int .u32 0, .int .u32 0, .int .u32 0, .int .u32 0, .int .u32 0, .int .u32 0, .int .u32 0, .int .u32 0, .int .u32 0, .int .u32 0, .int .u32 0, .int .u32 0, .int .u32 0, .int .u32 0, .int .u32 0, .int .u32 0, .slice none 0 0, .slice none 0 0]

theorem alloc_mol (w : World) : (Instr.alloc 69 true (.tuple #[])).run Tryz.prog w = .ok (.pointer (some ⟨w.heap.size, 0, none⟩)) (w.alloc (.cells zeroMol 69)) := by kernel_rfl
theorem build_mol (w : World) : (Instr.build 69 #[]).run Tryz.prog w = .ok (.agg zeroMol) w := by kernel_rfl
theorem Tryz.sizeMol : (Tryz.prog.info? 69).map (·.size) = some 26 := by kernel_rfl

theorem mol_there {wx : World} (L : Nat) (h : ∀ j, j < 26 → ∃ v, wx.cell? ⟨L, j, none⟩ = some v) (hf : ∀ j, wx.frozen? ⟨L, j, none⟩ = false) : wx.there L 0 26 := by
  intro j hj
  obtain ⟨v, hv⟩ := h j hj
  rw [Nat.zero_add]
  exact ⟨by rw [hv]; rfl, hf j⟩

theorem zeroMol_get (j : Nat) (hj : j < 26) : ∃ v, zeroMol[j]? = some v := by
  have : zeroMol.size = 26 := rfl
  exact ⟨zeroMol[j], Array.getElem?_eq_getElem (by omega)⟩

theorem there_new (w : World) : (w.alloc (.cells zeroMol 69)).there w.heap.size 0 26 := mol_there _ (fun j hj => by
  obtain ⟨v, hv⟩ := zeroMol_get j hj
  exact ⟨v, by rw [World.cell?_alloc_new]; exact hv⟩) (fun j => by simp)

theorem below_setCells {B b : Nat} {a : World} (hb : B ≤ b) : ∀ (vs : List Value) (o : Nat) (w : World), Below B a w → Below B a (w.setCells b o vs)
  | [], _, _, h => h
  | v :: r, o, _, h => below_setCells hb r (o + 1) _ (h.setCell hb v)

theorem mol_stored {wx : World} {L : Nat} (cs : List Value) (hl : cs.length = 26) (ht : wx.there L 0 26) : (loadVar 69 ⟨L, 0, none⟩).run Tryz.prog (wx.setCells L 0 cs) = .ok (.agg cs.toArray) (wx.setCells L 0 cs) :=
  run_loadVar_mid _ L 0 _ cs _ (World.rangeAt_setCells_same wx L 0 cs (by rw [hl]; exact ht)) Tryz.underlying69 rfl (by rw [hl]; exact Tryz.sizeMol)

end Go.Proofs.YtcabaecbmkgclaaGreatDoor

namespace Go.Proofs.YtcabaecbmkgclaaGreatDoor
open Go.RowKit Bz

theorem zeroMol_one : zeroMol.all (·.oneCell') = true := by kernel_rfl

set_option maxRecDepth 100000 in
set_option maxHeartbeats 200000 in
theorem read_long (s : ByteArray) (w : World) (hs : 160 < s.size) (hm : s.size ≤ maxLen) :
    Calls Tryz.prog 22 #[.string s] w fun e w' => e = .returned (.tuple #[.agg zeroMol, .int .i64 1, .int .i64 0]) ∧ Below w.heap.size w w' := by
  unfold maxLen at hm
  have hlt : (160 : Int) < (s.size : Int) := by omega
  have HT : Hid ((w.alloc (.cells zeroMol 69)).there w.heap.size 0 26) := there_new w
  have HB : Hid (Below w.heap.size w ((w.alloc (.cells zeroMol 69)).setCells w.heap.size 0 zeroMol.toList)) := below_setCells (Nat.le_refl _) _ _ _ ((Below.refl _ _).alloc (Nat.le_refl _) _)
  have HLD := mol_stored (wx := w.alloc (.cells zeroMol 69)) (L := w.heap.size) zeroMol.toList rfl HT.out
  go_enter Tryz.func22, Tryz.ntmps22
  go_upto_region 1 with (refine wpList_alloc rfl 69 rfl _ _ (alloc_mol _) ?_)
  go_upto_region 2 with fail
  go_wp2_with (first | (refine wpList_build rfl 69 #[] rfl #[] (by simp) (.agg zeroMol) (build_mol _) ?_) | (refine wpList_store_mid rfl 69 (.tmp 2) (.tmp 9) rfl w.heap.size 0 zeroMol (by rfl) (by rfl) HT.out Tryz.sizeMol zeroMol_one ?_))
  refine bodyPost_ret (v := .tuple #[.agg zeroMol, .int .i64 1, .int .i64 0]) ?_ rfl ⟨rfl, HB.out⟩
  simp [results, Tryz.results22, asAddr, HLD]
end Go.Proofs.YtcabaecbmkgclaaGreatDoor

namespace Go.Proofs.YtcabaecbmkgclaaGreatDoor
open Go.RowKit Bz

section
variable {w : World} {B : Nat} {s : ByteArray} {p : St}

/-- The cells of the molecule within the reader: the graph's, and the two lists. -/
theorem Rd.molCells (h : Rd w B s p) : ∃ ns : List Value, ∃ av bv, ns.length = 24 ∧ (∀ v ∈ ns, v.oneCell' = true) ∧ w.rangeAt B 2 (ns ++ [av, bv]) ∧ w.ownsRow (B + 1) 124 6 av p.atoms.length (p.atoms.flatMap atmCells) ∧
    w.ownsRow (B + 1) 102 4 bv p.bonds.length (p.bonds.flatMap pbCells) := by
  obtain ⟨av, hav, oa⟩ := h.atoms
  obtain ⟨bv, hbv, ob⟩ := h.bonds
  have hn : ∀ n, n ≤ 24 → ∃ ns : List Value, ns.length = n ∧ (∀ v ∈ ns, v.oneCell' = true) ∧ ∀ j v, ns[j]? = some v → w.cell? ⟨B, 2 + j, none⟩ = some v := by
    intro n
    induction n with
    | zero => intro _; exact ⟨[], rfl, by simp, by simp⟩
    | succ n ih =>
      intro hn
      obtain ⟨ns, h1, h2, h3⟩ := ih (by omega)
      obtain ⟨m, hm, _, _⟩ := h.near n (by omega)
      refine ⟨ns ++ [.int .u32 m], by simp [h1], ?_, ?_⟩
      · intro v hv
        rcases List.mem_append.1 hv with hv | hv
        · exact h2 v hv
        · simp at hv; subst hv; rfl
      · intro j v hj
        by_cases e : j < n
        · rw [List.getElem?_append_left (by omega)] at hj
          exact h3 j v hj
        · rw [List.getElem?_append_right (by omega), h1] at hj
          have : j = n := by
            have := (List.getElem?_eq_some_iff.1 hj).1
            simp at this
            omega
          subst this
          simp at hj
          subst hj
          exact hm
  obtain ⟨ns, h1, h2, h3⟩ := hn 24 (Nat.le_refl _)
  refine ⟨ns, av, bv, h1, h2, ?_, oa, ob⟩
  intro j v hj
  by_cases e : j < 24
  · rw [List.getElem?_append_left (by omega)] at hj
    exact h3 j v hj
  · rw [List.getElem?_append_right (by omega), h1] at hj
    have hj2 : j - 24 < 2 := by have := (List.getElem?_eq_some_iff.1 hj).1; simpa using this
    by_cases e2 : j = 24
    · subst e2; simp at hj; subst hj; exact hav
    · have : j = 25 := by omega
      subst this; simp at hj; subst hj; exact hbv

/-- What Read hands on of a text that is right. -/
structure ReadOk (w w' : World) (q : St) (ns : List Value) (av bv : Value) : Prop where
  len : ns.length = 24
  one : ∀ v ∈ ns, v.oneCell' = true
  atoms : w'.ownsRow w.heap.size 124 6 av q.atoms.length (q.atoms.flatMap atmCells)
  bonds : w'.ownsRow w.heap.size 102 4 bv q.bonds.length (q.bonds.flatMap pbCells)
  below : Below w.heap.size w w'

theorem ownsRow_setCellsBelow {base b : Nat} {e : TypeId} {size : Nat} {v : Value} {n : Nat} {xs : List Value} (hb : b < base) : ∀ (vs : List Value) (o : Nat) (w : World), w.ownsRow base e size v n xs → (w.setCells b o vs).ownsRow base e size v n xs
  | [], _, _, h => h
  | u :: r, o, _, h => ownsRow_setCellsBelow hb r (o + 1) _ (ownsRow_setCell_below h (by simpa using hb) u)

theorem oneCell_slice {w : World} {base : Nat} {e : TypeId} {size : Nat} {v : Value} {n : Nat} {xs : List Value} (h : w.ownsRow base e size v n xs) : v.oneCell' = true := by
  obtain ⟨ao, cap, rfl⟩ := ownsRow_shape h
  rfl

theorem frame_below {w w1 : World} {L : Nat} (hL : L = w.heap.size) {B : Nat} (hB : B = L + 1) (o o' : Obj) (cs : List Value) (h : Fr B (((w.alloc o).alloc o').setCells B 0 cs) w1) (hr : ∀ k, Mine (((w.alloc o).alloc o').setCells B 0 cs) B k → B ≤ k) : Below w.heap.size w w1 := by
  subst hL hB
  have h0 : Below w.heap.size w (((w.alloc o).alloc o').setCells (w.heap.size + 1) 0 cs) := below_setCells (by omega) _ _ _ (((Below.refl _ _).alloc (Nat.le_refl _) _).alloc (by simp) _)
  have h1 := h0.size
  refine ⟨h.os.trans h0.os, h.tape.trans h0.tape, h.output.trans h0.output, Nat.le_trans h0.size h.size, fun k hk => ?_⟩
  rw [h.block k (by omega) (fun e => by have := hr k e; omega)]
  exact h0.block k hk

set_option maxRecDepth 100000 in
set_option maxHeartbeats 1000000 in
theorem read_ok (s : ByteArray) (w : World) (hs : s.size ≤ 160) (q : St) (hq : wholeR s = .ok q) :
    Calls Tryz.prog 22 #[.string s] w fun e w' => ∃ ns av bv, e = .returned (.tuple #[.agg (ns ++ [av, bv]).toArray, .int .i64 0, .int .i64 0]) ∧ ReadOk w w' q ns av bv := by
  have hlt : ¬ (160 : Int) < (s.size : Int) := by omega
  have hR := rd_start s (w.alloc (.cells zeroMol 69))
  have hsz : (w.alloc (.cells zeroMol 69)).heap.size = w.heap.size + 1 := by simp
  rw [hsz] at hR
  have hW := whole_any hR hs
  have HTh : Hid (((w.alloc (.cells zeroMol 69)).alloc (.cells (readerList ⟨#[]⟩).toArray 97)).there (w.heap.size + 1) 0 530) := by
    intro j hj
    have e : (w.alloc (.cells zeroMol 69)).heap.size = w.heap.size + 1 := hsz
    rw [← e, Nat.zero_add]
    refine ⟨?_, by simp⟩
    rw [World.cell?_alloc_new]
    simp
    rw [readerList_len]
    exact hj
  have HRd : Hid (Rd (((w.alloc (.cells zeroMol 69)).alloc (.cells (readerList ⟨#[]⟩).toArray 97)).setCells (w.heap.size + 1) 0 (readerList s)) (w.heap.size + 1) s Bz.start) := hR
  clear hR hsz
  go_enter Tryz.func22, Tryz.ntmps22
  go_upto_region 1 with (refine wpList_alloc rfl 69 rfl _ _ (alloc_mol _) ?_)
  go_upto_region 3 with fail
  go_upto_region 4 with (first | (refine wpList_build rfl 97 #[(0, .tmp 11)] rfl #[(0, .agg #[.string s, .int .i64 0])] (by simp [Act.eval]) (.agg (readerList s).toArray) (build_reader s _) ?_; simp only [Act.put, List.setIfInBounds_toArray, List.set_cons_zero, List.set_cons_succ]) | (refine wpList_alloc rfl 97 rfl _ _ (alloc_reader _) ?_; simp only [Act.put, List.setIfInBounds_toArray, List.set_cons_zero, List.set_cons_succ]; have tokS : True := trivial) | (have _t := tokS; go_must (refine wpList_store_mid rfl 97 (.tmp 5) (.tmp 12) rfl (w.heap.size + 1) 0 (readerList s).toArray (by simp [Act.eval]) (by simp [Act.eval]) (by simp only [List.size_toArray, readerList_len]; exact HTh.out) (by simp only [List.size_toArray, readerList_len]; exact Tryz.sizeReader) (readerList_one s) ?_); simp only [Act.put]; clear tokS))
  go_wp2_with fail
  refine hW.mono ?_
  rintro e w1 ⟨hm, hf1⟩
  clear hW
  rw [hq] at hm
  obtain ⟨rfl, hr1⟩ := hm
  have hbel : Below w.heap.size w w1 := frame_below rfl rfl _ _ _ hf1 (fun k hk => (HRd.out.mine hk).1)
  have hL0 : ∀ j, w1.cell? ⟨w.heap.size, j, none⟩ = zeroMol[j]? ∧ w1.frozen? ⟨w.heap.size, j, none⟩ = false := by
    intro j
    have hnm : ¬ Mine (((w.alloc (.cells zeroMol 69)).alloc (.cells (readerList ⟨#[]⟩).toArray 97)).setCells (w.heap.size + 1) 0 (readerList s)) (w.heap.size + 1) w.heap.size := fun e => by have := (HRd.out.mine e).1; omega
    have hlt0 : w.heap.size < (((w.alloc (.cells zeroMol 69)).alloc (.cells (readerList ⟨#[]⟩).toArray 97)).setCells (w.heap.size + 1) 0 (readerList s)).heap.size := by
      have := (below_setCells (B := 0) (Nat.zero_le (w.heap.size + 1)) (readerList s) 0 _ (Below.refl 0 ((w.alloc (.cells zeroMol 69)).alloc (.cells (readerList ⟨#[]⟩).toArray 97)))).size
      simp at this
      omega
    rw [hf1.cell hlt0 hnm, hf1.frozen hlt0 hnm, World.frozen?_setCells, World.cell?_setCells_out _ _ _ _ _ (by intro e; simp at e)]
    rw [World.cell?_alloc_lt _ _ _ (by simp), World.cell?_alloc_new, World.frozen?_alloc_past _ _ _ (by simp), World.frozen?_alloc_new]
    exact ⟨rfl, rfl⟩
  have HTL : Hid (w1.there w.heap.size 0 26) := mol_there _ (fun j hj => by obtain ⟨v, hv⟩ := zeroMol_get j hj; exact ⟨v, (hL0 j).1.trans hv⟩) (fun j => (hL0 j).2)
  obtain ⟨ns, av, bv, h1, h2, h3, h4, h5⟩ := hr1.molCells
  have hlen : (ns ++ [av, bv]).length = 26 := by simp [h1]
  have hone : ∀ v ∈ ns ++ [av, bv], v.oneCell' = true := by
    intro v hv
    rcases List.mem_append.1 hv with hv | hv
    · exact h2 v hv
    · simp at hv
      rcases hv with rfl | rfl
      · exact oneCell_slice h4
      · exact oneCell_slice h5
  have HRG : Hid (w1.rangeAt (w.heap.size + 1) 2 (ns ++ [av, bv])) := h3
  have HLD := mol_stored (wx := w1) (L := w.heap.size) (ns ++ [av, bv]) hlen HTL.out
  have HFIN : Hid (ReadOk w (w1.setCells w.heap.size 0 (ns ++ [av, bv])) q ns av bv) :=
    ⟨h1, h2, ownsRow_mono (ownsRow_setCellsBelow (by omega) _ _ _ h4) (by omega), ownsRow_mono (ownsRow_setCellsBelow (by omega) _ _ _ h5) (by omega), below_setCells (Nat.le_refl _) _ _ _ hbel⟩
  have HONE : Hid _ := all_oneCell_toArray hone
  clear h3 h4 h5 hL0 hq hone
  generalize hcs : ns ++ [av, bv] = cs at *
  have HCS : Hid (ns ++ [av, bv] = cs) := hcs
  clear hcs h1 h2
  go_upto_region 6 with fail
  go_wp2_with (first | (refine wpList_load_mid rfl 69 (.tmp 22) rfl (w.heap.size + 1) 2 (by simp [Act.eval]) cs _ HRG.out Tryz.underlying69 rfl (by rw [hlen]; exact Tryz.sizeMol) ?_; simp only [Act.put, List.setIfInBounds_toArray, List.set_cons_zero, List.set_cons_succ]; have tokT : True := trivial) | (have _t := tokT; refine wpList_store_mid rfl 69 (.tmp 2) (.tmp 23) rfl w.heap.size 0 cs.toArray (by simp [Act.eval]) (by simp [Act.eval]) (by simp only [List.size_toArray, hlen]; exact HTL.out) (by simp only [List.size_toArray, hlen]; exact Tryz.sizeMol) HONE.out ?_; simp only [Act.put]; clear tokT))
  refine bodyPost_ret (v := .tuple #[.agg cs.toArray, .int .i64 0, .int .i64 0]) ?_ rfl ⟨ns, av, bv, by rw [HCS.out], HFIN.out⟩
  simp [results, Tryz.results22, asAddr, HLD]
end
end Go.Proofs.YtcabaecbmkgclaaGreatDoor

namespace Go.Proofs.YtcabaecbmkgclaaGreatDoor
open Go.RowKit Bz

theorem wp_build_mol (d : Option Tmp) (t : TypeId) (pos : String) (af : Array Edge) (a : Act) (w : World) (K : Act → World → Prop) (Q : Exit → Act → World → Prop) :
    Oper.wp Tryz.prog ⟨d, .build 69 #[], t, pos, af, none⟩ a w K Q = K (a.put d (.agg zeroMol)) w := by
  unfold Oper.wp execOp
  simp only [Sem.run_bind, Sem.run_pure, Array.map_empty, build_mol, Result.andThen_ok]
  rfl

theorem wp_store_mol (L : Nat) (d : Option Tmp) (t : TypeId) (pos : String) (af : Array Edge) (x y : Operand) (a : Act) (w : World) (K : Act → World → Prop) (Q : Exit → Act → World → Prop) (hx : a.eval x = .pointer (some ⟨L, 0, none⟩)) (hy : a.eval y = .agg zeroMol) (ht : w.there L 0 26)
    (hK : K (a.put d undef) (w.setCells L 0 zeroMol.toList)) : Oper.wp Tryz.prog ⟨d, .store 69 x y, t, pos, af, none⟩ a w K Q :=
  wp_store_mid 69 x y rfl L 0 zeroMol hx hy ht Tryz.sizeMol zeroMol_one hK


section
set_option maxRecDepth 100000 in
set_option maxHeartbeats 1000000 in
theorem read_err (s : ByteArray) (w : World) (hs : s.size ≤ 160) (er : Int × Int) (hq : wholeR s = .error er) :
    Calls Tryz.prog 22 #[.string s] w fun e w' => e = .returned (.tuple #[.agg zeroMol, .int .i64 er.1, .int .i64 er.2]) ∧ Below w.heap.size w w' := by
  have hlt : ¬ (160 : Int) < (s.size : Int) := by omega
  have hR := rd_start s (w.alloc (.cells zeroMol 69))
  have hsz : (w.alloc (.cells zeroMol 69)).heap.size = w.heap.size + 1 := by simp
  rw [hsz] at hR
  have hW := whole_any hR hs
  have HTh : Hid (((w.alloc (.cells zeroMol 69)).alloc (.cells (readerList ⟨#[]⟩).toArray 97)).there (w.heap.size + 1) 0 530) := by
    intro j hj
    have e : (w.alloc (.cells zeroMol 69)).heap.size = w.heap.size + 1 := hsz
    rw [← e, Nat.zero_add]
    refine ⟨?_, by simp⟩
    rw [World.cell?_alloc_new]
    simp
    rw [readerList_len]
    exact hj
  have HRd : Hid (Rd (((w.alloc (.cells zeroMol 69)).alloc (.cells (readerList ⟨#[]⟩).toArray 97)).setCells (w.heap.size + 1) 0 (readerList s)) (w.heap.size + 1) s Bz.start) := hR
  clear hR hsz
  go_enter Tryz.func22, Tryz.ntmps22
  go_upto_region 1 with (refine wpList_alloc rfl 69 rfl _ _ (alloc_mol _) ?_)
  go_upto_region 3 with fail
  go_upto_region 4 with (first | (refine wpList_build rfl 97 #[(0, .tmp 11)] rfl #[(0, .agg #[.string s, .int .i64 0])] (by simp [Act.eval]) (.agg (readerList s).toArray) (build_reader s _) ?_; simp only [Act.put, List.setIfInBounds_toArray, List.set_cons_zero, List.set_cons_succ]) | (refine wpList_alloc rfl 97 rfl _ _ (alloc_reader _) ?_; simp only [Act.put, List.setIfInBounds_toArray, List.set_cons_zero, List.set_cons_succ]; have tokS : True := trivial) | (have _t := tokS; go_must (refine wpList_store_mid rfl 97 (.tmp 5) (.tmp 12) rfl (w.heap.size + 1) 0 (readerList s).toArray (by simp [Act.eval]) (by simp [Act.eval]) (by simp only [List.size_toArray, readerList_len]; exact HTh.out) (by simp only [List.size_toArray, readerList_len]; exact Tryz.sizeReader) (readerList_one s) ?_); simp only [Act.put]; clear tokS))
  go_wp2_with fail
  refine hW.mono ?_
  rintro e w1 ⟨hm, hf1⟩
  clear hW
  rw [hq] at hm
  obtain ⟨rfl, hw1⟩ := hm
  have hbel : Below w.heap.size w w1 := frame_below rfl rfl _ _ _ hf1 (fun k hk => (HRd.out.mine hk).1)
  have hL0 : ∀ j, w1.cell? ⟨w.heap.size, j, none⟩ = zeroMol[j]? ∧ w1.frozen? ⟨w.heap.size, j, none⟩ = false := by
    intro j
    have hnm : ¬ Mine (((w.alloc (.cells zeroMol 69)).alloc (.cells (readerList ⟨#[]⟩).toArray 97)).setCells (w.heap.size + 1) 0 (readerList s)) (w.heap.size + 1) w.heap.size := fun e => by have := (HRd.out.mine e).1; omega
    have hlt0 : w.heap.size < (((w.alloc (.cells zeroMol 69)).alloc (.cells (readerList ⟨#[]⟩).toArray 97)).setCells (w.heap.size + 1) 0 (readerList s)).heap.size := by
      have := (below_setCells (B := 0) (Nat.zero_le (w.heap.size + 1)) (readerList s) 0 _ (Below.refl 0 ((w.alloc (.cells zeroMol 69)).alloc (.cells (readerList ⟨#[]⟩).toArray 97)))).size
      simp at this
      omega
    rw [hf1.cell hlt0 hnm, hf1.frozen hlt0 hnm, World.frozen?_setCells, World.cell?_setCells_out _ _ _ _ _ (by intro e; simp at e)]
    rw [World.cell?_alloc_lt _ _ _ (by simp), World.cell?_alloc_new, World.frozen?_alloc_past _ _ _ (by simp), World.frozen?_alloc_new]
    exact ⟨rfl, rfl⟩
  have HTL : Hid (w1.there w.heap.size 0 26) := mol_there _ (fun j hj => by obtain ⟨v, hv⟩ := zeroMol_get j hj; exact ⟨v, (hL0 j).1.trans hv⟩) (fun j => (hL0 j).2)
  have e28 := hw1.err
  have e29 := hw1.plc
  clear hq
  clear hL0 hf1 HRd HTh
  go_wp2_with fail
  have hT := HTL.out
  clear HTL
  refine wp_region_held_drew (S := fun w' => w'.cell? ⟨w.heap.size + 1, 28, none⟩ = some (.int .i64 er.1) ∧ w'.cell? ⟨w.heap.size + 1, 29, none⟩ = some (.int .i64 er.2) ∧ w'.there w.heap.size 0 26) (by kernel_rfl) ?_ (fun hHeld => ?_)
  · exact ⟨e28, e29, hT⟩
  refine wpAnyH_take (i := 0) (oi := ⟨some 15, .build _ #[], _, _, _, none⟩) (v := (.agg zeroMol)) rfl (by kernel_rfl) (by kernel_rfl) (by kernel_rfl) (fun _ _ _ h => h) (Or.inl ⟨by rfl, ?hy0⟩) (by assumption) ?rest0
  case hy0 =>
    intro w0 hS
    unfold execOp
    simp only [Sem.run_bind, Sem.run_pure, Array.map_empty, build_mol, Result.andThen_ok]
  try simp only [Act.put, List.setIfInBounds_toArray, List.set_cons_zero, List.set_cons_succ]
  refine wpAnyH_take (i := 1) (oi := ⟨some 16, .fieldAddr _ (.tmp 5) 2, _, _, _, none⟩) (v := (.pointer (some ⟨w.heap.size + 1, 28, none⟩))) rfl (by kernel_rfl) (by kernel_rfl) (by kernel_rfl) (fun _ _ _ h => h) (Or.inl ⟨by rfl, ?hy1⟩) (by assumption) ?rest1
  case hy1 =>
    intro w0 hS
    try dsimp only at hS
    obtain ⟨hS1, hS2, -⟩ := hS
    go_simp
    try (with_reducible rfl)
  try simp only [Act.put, List.setIfInBounds_toArray, List.set_cons_zero, List.set_cons_succ]
  refine wpAnyH_take (i := 2) (oi := ⟨some 17, .fieldAddr _ (.tmp 16) 0, _, _, _, none⟩) (v := (.pointer (some ⟨w.heap.size + 1, 28, none⟩))) rfl (by kernel_rfl) (by kernel_rfl) (by kernel_rfl) (fun _ _ _ h => h) (Or.inl ⟨by rfl, ?hy2⟩) (by assumption) ?rest2
  case hy2 =>
    intro w0 hS
    try dsimp only at hS
    obtain ⟨hS1, hS2, -⟩ := hS
    go_simp
    try (with_reducible rfl)
  try simp only [Act.put, List.setIfInBounds_toArray, List.set_cons_zero, List.set_cons_succ]
  refine wpAnyH_take (i := 3) (oi := ⟨some 18, .load _ (.tmp 17), _, _, _, none⟩) (v := (.int .i64 er.1)) rfl (by kernel_rfl) (by kernel_rfl) (by kernel_rfl) (fun _ _ _ h => h) (Or.inl ⟨by rfl, ?hy3⟩) (by assumption) ?rest3
  case hy3 =>
    intro w0 hS
    try dsimp only at hS
    obtain ⟨hS1, hS2, -⟩ := hS
    go_simp
    try (with_reducible rfl)
  try simp only [Act.put, List.setIfInBounds_toArray, List.set_cons_zero, List.set_cons_succ]
  refine wpAnyH_take (i := 4) (oi := ⟨some 19, .fieldAddr _ (.tmp 5) 2, _, _, _, none⟩) (v := (.pointer (some ⟨w.heap.size + 1, 28, none⟩))) rfl (by kernel_rfl) (by kernel_rfl) (by kernel_rfl) (fun _ _ _ h => h) (Or.inl ⟨by rfl, ?hy4⟩) (by assumption) ?rest4
  case hy4 =>
    intro w0 hS
    try dsimp only at hS
    obtain ⟨hS1, hS2, -⟩ := hS
    go_simp
    try (with_reducible rfl)
  try simp only [Act.put, List.setIfInBounds_toArray, List.set_cons_zero, List.set_cons_succ]
  refine wpAnyH_take (i := 5) (oi := ⟨some 20, .fieldAddr _ (.tmp 19) 1, _, _, _, none⟩) (v := (.pointer (some ⟨w.heap.size + 1, 29, none⟩))) rfl (by kernel_rfl) (by kernel_rfl) (by kernel_rfl) (fun _ _ _ h => h) (Or.inl ⟨by rfl, ?hy5⟩) (by assumption) ?rest5
  case hy5 =>
    intro w0 hS
    try dsimp only at hS
    obtain ⟨hS1, hS2, -⟩ := hS
    go_simp
    try (with_reducible rfl)
  try simp only [Act.put, List.setIfInBounds_toArray, List.set_cons_zero, List.set_cons_succ]
  refine wpAnyH_take (i := 6) (oi := ⟨some 21, .load _ (.tmp 20), _, _, _, none⟩) (v := (.int .i64 er.2)) rfl (by kernel_rfl) (by kernel_rfl) (by kernel_rfl) (fun _ _ _ h => h) (Or.inl ⟨by rfl, ?hy6⟩) (by assumption) ?rest6
  case hy6 =>
    intro w0 hS
    try dsimp only at hS
    obtain ⟨hS1, hS2, -⟩ := hS
    go_simp
    try (with_reducible rfl)
  try simp only [Act.put, List.setIfInBounds_toArray, List.set_cons_zero, List.set_cons_succ]
  refine wpAnyH_ready (rs := [7]) (by kernel_rfl) (by simp) ?_
  refine AllReadyH.cons (o := ⟨none, .store _ (.tmp 2) (.tmp 15), _, _, _, none⟩) rfl (fun K hK => ?_) AllReadyH.nil
  rw [if_pos (by rfl)]
  refine wp_store_mol w.heap.size _ _ _ _ _ _ _ _ _ _ (by simp [Act.eval]) (by simp [Act.eval]) hHeld.2.2 ?_
  try simp only [Act.put]
  refine hK.out _ _ ?_ (fun hHeld2 => ?_)
  · obtain ⟨h1, h2, h3⟩ := hHeld
    exact ⟨(World.cell?_setCells_out _ _ _ _ _ (fun e => by simp at e)).trans h1, (World.cell?_setCells_out _ _ _ _ _ (fun e => by simp at e)).trans h2, World.there_setCells h3 _ _ _⟩
  clear hK K
  refine wpAnyH_take (i := 8) (oi := ⟨some 3, .assign (.tmp 18), _, _, _, none⟩) (v := (.int .i64 er.1)) rfl (by kernel_rfl) (by kernel_rfl) (by kernel_rfl) (fun _ _ _ h => h) (Or.inl ⟨by rfl, ?hy8⟩) (by assumption) ?rest8
  case hy8 =>
    intro w0 hS
    try dsimp only at hS
    obtain ⟨hS1, hS2, -⟩ := hS
    go_simp
    try (with_reducible rfl)
  try simp only [Act.put, List.setIfInBounds_toArray, List.set_cons_zero, List.set_cons_succ]
  refine wpAnyH_take (i := 9) (oi := ⟨some 4, .assign (.tmp 21), _, _, _, none⟩) (v := (.int .i64 er.2)) rfl (by kernel_rfl) (by kernel_rfl) (by kernel_rfl) (fun _ _ _ h => h) (Or.inl ⟨by rfl, ?hy9⟩) (by assumption) ?rest9
  case hy9 =>
    intro w0 hS
    try dsimp only at hS
    obtain ⟨hS1, hS2, -⟩ := hS
    go_simp
    try (with_reducible rfl)
  try simp only [Act.put, List.setIfInBounds_toArray, List.set_cons_zero, List.set_cons_succ]
  refine wpAnyH_done (by kernel_rfl) ?_ _
  go_wp2_with fail
  have HLD := mol_stored zeroMol.toList rfl (show w1.drew.there w.heap.size 0 26 from hHeld.2.2)
  have HZ : zeroMol.toList.toArray = zeroMol := rfl
  rw [HZ] at HLD
  refine bodyPost_ret (v := .tuple #[.agg zeroMol, .int .i64 er.1, .int .i64 er.2]) ?_ rfl ⟨rfl, below_setCells (Nat.le_refl _) _ _ _ hbel.drew⟩
  simp [results, Tryz.results22, asAddr, HLD]
end
end Go.Proofs.YtcabaecbmkgclaaGreatDoor

namespace Go.Proofs.YtcabaecbmkgclaaGreatDoor
open Go.RowKit Bz

/-- An atom's cells as the caller gets them. -/
def plainCells (a : Atm) : List Value := [.string a.el, .bool a.aro, .int .i64 a.ch, .int .i64 a.hy]

theorem plainCells_len (a : Atm) : (plainCells a).length = 4 := rfl

theorem Tryz.infoPAtom : (Tryz.prog.info? 50).map (fun i => (i.zero, i.size, i.bytes)) = some (some (.agg #[.string ⟨#[]⟩, .bool false, .int .i64 0, .int .i64 0]), 4, 40) := by kernel_rfl

theorem flatMap_plain_len (l : List Atm) : (l.flatMap plainCells).length = l.length * 4 := by
  induction l with
  | nil => rfl
  | cons a r ih => rw [List.flatMap_cons, List.length_append, ih, plainCells_len, List.length_cons]; omega

theorem plain_step (ats : List Atm) (xs : List Value) (i : Nat) (a : Atm) (hi : ats[i]? = some a) (hx : xs.length = ats.length * 4) (ht : xs.take (i * 4) = (ats.take i).flatMap plainCells) :
    ((((xs.set (i * 4) (.string a.el)).set (i * 4 + 1) (.bool a.aro)).set (i * 4 + 2) (.int .i64 a.ch)).set (i * 4 + 3) (.int .i64 a.hy)).take ((i + 1) * 4) = (ats.take (i + 1)).flatMap plainCells := by
  have hlt : i < ats.length := (List.getElem?_eq_some_iff.1 hi).1
  have e1 : ats.take (i + 1) = ats.take i ++ [a] := by rw [List.take_add_one, hi]; rfl
  rw [e1, List.flatMap_append, ← ht]
  have hr : xs = xs.take (i * 4) ++ xs.drop (i * 4) := (List.take_append_drop _ _).symm
  have hl : (xs.take (i * 4)).length = i * 4 := by rw [List.length_take]; omega
  have hd : (xs.drop (i * 4)).length = ats.length * 4 - i * 4 := by rw [List.length_drop, hx]
  generalize xs.take (i * 4) = p at *
  generalize xs.drop (i * 4) = q at *
  subst hr
  match q, hd with
  | [], hd => simp at hd; omega
  | [_], hd => simp at hd; omega
  | [_, _], hd => simp at hd; omega
  | [_, _, _], hd => simp at hd; omega
  | q0 :: q1 :: q2 :: q3 :: q, hd =>
    rw [← hl]
    have t : (p ++ q0 :: q1 :: q2 :: q3 :: q).set p.length (.string a.el) = p ++ .string a.el :: q1 :: q2 :: q3 :: q := by simp
    have t1 : (p ++ Value.string a.el :: q1 :: q2 :: q3 :: q).set (p.length + 1) (.bool a.aro) = p ++ .string a.el :: .bool a.aro :: q2 :: q3 :: q := by simp
    have t2 : (p ++ Value.string a.el :: .bool a.aro :: q2 :: q3 :: q).set (p.length + 2) (.int .i64 a.ch) = p ++ .string a.el :: .bool a.aro :: .int .i64 a.ch :: q3 :: q := by simp
    have t3 : (p ++ Value.string a.el :: .bool a.aro :: .int .i64 a.ch :: q3 :: q).set (p.length + 3) (.int .i64 a.hy) = p ++ .string a.el :: .bool a.aro :: .int .i64 a.ch :: .int .i64 a.hy :: q := by simp
    rw [t, t1, t2, t3]
    have : (i + 1) * 4 = p.length + 4 := by omega
    rw [this, List.take_length_add_append]
    rfl

theorem flatMap_bnd_len (l : List Bnd) : (l.flatMap bndCells).length = l.length * 3 := flatMap_len bndCells 3 bndCells_len l

theorem bnd_step (l : List Bnd) (xs : List Value) (i : Nat) (b : Bnd) (hi : l[i]? = some b) (hx : xs.length = l.length * 3) (ht : xs.take (i * 3) = (l.take i).flatMap bndCells) :
    (((xs.set (i * 3) (.int .i64 b.a)).set (i * 3 + 1) (.int .i64 b.b)).set (i * 3 + 2) (.int .i64 b.o)).take ((i + 1) * 3) = (l.take (i + 1)).flatMap bndCells := by
  have hlt : i < l.length := (List.getElem?_eq_some_iff.1 hi).1
  have e1 : l.take (i + 1) = l.take i ++ [b] := by rw [List.take_add_one, hi]; rfl
  rw [e1, List.flatMap_append, ← ht]
  have hr : xs = xs.take (i * 3) ++ xs.drop (i * 3) := (List.take_append_drop _ _).symm
  have hl : (xs.take (i * 3)).length = i * 3 := by rw [List.length_take]; omega
  have hd : (xs.drop (i * 3)).length = l.length * 3 - i * 3 := by rw [List.length_drop, hx]
  generalize xs.take (i * 3) = p at *
  generalize xs.drop (i * 3) = q at *
  subst hr
  match q, hd with
  | [], hd => simp at hd; omega
  | [_], hd => simp at hd; omega
  | [_, _], hd => simp at hd; omega
  | q0 :: q1 :: q2 :: q, hd =>
    rw [← hl]
    have t : (p ++ q0 :: q1 :: q2 :: q).set p.length (.int .i64 b.a) = p ++ .int .i64 b.a :: q1 :: q2 :: q := by simp
    have t1 : (p ++ Value.int .i64 b.a :: q1 :: q2 :: q).set (p.length + 1) (.int .i64 b.b) = p ++ .int .i64 b.a :: .int .i64 b.b :: q2 :: q := by simp
    have t2 : (p ++ Value.int .i64 b.a :: .int .i64 b.b :: q2 :: q).set (p.length + 2) (.int .i64 b.o) = p ++ .int .i64 b.a :: .int .i64 b.b :: .int .i64 b.o :: q := by simp
    rw [t, t1, t2]
    have : (i + 1) * 3 = p.length + 3 := by omega
    rw [this, List.take_length_add_append]
    rfl

section
set_option maxRecDepth 100000 in
set_option maxHeartbeats 1000000 in
theorem plain_any (w : World) (L base : Nat) (av bv : Value) (ats : List Atm) (l : List Bnd) (hl : l.length ≤ 1000) (hn : ats.length ≤ 24) (hne : 0 < ats.length) (hL : L < w.heap.size)
    (h24 : w.cell? ⟨L, 24, none⟩ = some av) (h25 : w.cell? ⟨L, 25, none⟩ = some bv) (ha : w.ownsRow base 124 6 av ats.length (ats.flatMap atmCells)) (hb : w.ownsRow base 102 4 bv l.length (l.flatMap pbCells)) :
    Calls Tryz.prog 26 #[.pointer (some ⟨L, 0, none⟩)] w fun e w' => ∃ v v', e = .returned (.agg #[v, v']) ∧ w'.ownsRow w.heap.size 50 4 v ats.length (ats.flatMap plainCells) ∧ w'.ownsRow w.heap.size 46 3 v' l.length (l.flatMap bndCells) ∧ Below w.heap.size w w' := by
  obtain ⟨bo, bc, hbv⟩ := ownsRow_shape hb
  subst hbv
  obtain ⟨i0, hi, hz0, hz1, hz2⟩ := info_parts Tryz.infoPAtom
  obtain ⟨j0, hj, hjz0, hjz1, hjz2⟩ := info_parts Tryz.infoBond
  obtain ⟨g, cap, hA, _, hgl, hcell, _⟩ := ownsRow_at ha hne
  subst hA
  have HC : Hid _ := hcell
  clear hcell
  go_enter Tryz.func26, Tryz.ntmps26
  go_wp2_with (at_make; go_must (refine wpList_make_full _ rfl _ _ 36 rfl (w.heap.size + 1) 50 i0 (.agg #[.string ⟨#[]⟩, .bool false, .int .i64 0, .int .i64 0]) 4 Tryz.underlying36 hi hz0 hz1 .i64 .i64 _ _ ats.length rfl rfl rfl rfl ?c1 ?c2 ?c3 ?_))
  case c1 => rw [hz2]; omega
  case c2 => unfold maxLen; omega
  case c3 => simp
  intro w2 hown hgrow
  have hbel : Below w.heap.size w w2 := ((Below.refl _ w).alloc (Nat.le_refl _) _).grown hgrow (by simp) (by simp)
  have HR : w2.heap[w.heap.size]? = (w.alloc (.cells #[.slice none 0 0, .slice none 0 0] 39)).heap[w.heap.size]? := hgrow.block _ (by simp) (by simp)
  have hsz2 : w.heap.size + 1 < w2.heap.size := (by simpa using (hown.lt _ rfl).2)
  have h24' : w2.cell? ⟨L, 24, none⟩ = some (.slice (some ⟨g, 0, none⟩) ats.length cap) := (hbel.cell (p := ⟨L, 24, none⟩) hL).trans h24
  have hxl := hown.1
  generalize hxs : Array.toList _ = xs0 at hown
  clear hgrow hxs
  go_wp2_with fail
  obtain ⟨G, hG⟩ : ∃ G, G = w.heap.size + 1 := ⟨_, rfl⟩
  rw [← hG] at hown hsz2
  have HG : Hid (G = w.heap.size + 1) := hG
  simp only [← hG]
  clear hG
  go_loopg [20] (ats.length + 1) (fun k vi wr => ∃ i : Nat, ∃ xs : List Value, i ≤ ats.length ∧ ats.length - i ≤ k ∧ vi = .int .i64 i ∧ wr.ownsRow G 50 4 (.slice (some ⟨G, 0, none⟩) ats.length ats.length) ats.length xs ∧ xs.take (i * 4) = (ats.take i).flatMap plainCells ∧
      wr.heap[w.heap.size]? = (w.alloc (.cells #[.slice none 0 0, .slice none 0 0] 39)).heap[w.heap.size]? ∧ Below w.heap.size w wr)
  case atStart => exact ⟨0, xs0, by omega, by omega, rfl, hown, by simp, HR, hbel⟩
  case round =>
    obtain ⟨i, xs, hi', hk, rfl, ho, ht, hr, hbw⟩ := hrel
    by_cases hlt : i < ats.length
    · have gi := List.getElem?_eq_getElem hlt
      have hlt' : (i : Int) < (ats.length : Int) := by omega
      have cc : ∀ j v, (atmCells ats[i])[j]? = some v → wr.cell? ⟨g, i * 6 + j, none⟩ = some v := by
        intro j v hj
        have hj6 : j < 6 := by
          have := (List.getElem?_eq_some_iff.1 hj).1
          simpa [atmCells_len] using this
        rw [hbw.cell (p := ⟨g, i * 6 + j, none⟩) hgl, HC.out (i * 6 + j) (by omega), flatMap_get atmCells 6 atmCells_len _ i j _ gi hj6, hj]
      generalize ats[i] = a at *
      have q0 : wr.cell? ⟨g, i * 6, none⟩ = some (.string a.el) := cc 0 _ rfl
      have q1 : wr.cell? ⟨g, i * 6 + 1, none⟩ = some (.bool a.aro) := cc 1 _ rfl
      have q2 : wr.cell? ⟨g, i * 6 + 2, none⟩ = some (.int .i64 a.ch) := cc 2 _ rfl
      have q3 : wr.cell? ⟨g, i * 6 + 3, none⟩ = some (.int .i64 a.hy) := cc 3 _ rfl
      have q4 : wr.cell? ⟨g, i * 6 + 4, none⟩ = some (.int .i64 a.pl) := cc 4 _ rfl
      have q5 : wr.cell? ⟨g, i * 6 + 5, none⟩ = some (.bool a.br) := cc 5 _ rfl
      clear cc
      obtain ⟨g2, cap2, e2, _, hg2, hc2, hf2⟩ := ownsRow_at ho hne
      simp only [Value.slice.injEq, Option.some.injEq, Addr.mk.injEq, and_true, true_and] at e2
      obtain ⟨rfl, rfl⟩ := e2
      have hxl := ho.1
      have d : ∀ j, j < 4 → ∃ v, wr.cell? ⟨G, i * 4 + j, none⟩ = some v := fun j hj => ⟨xs[i * 4 + j]'(by omega), (hc2 _ (by omega)).trans (List.getElem?_eq_getElem (by omega))⟩
      obtain ⟨v0, d0⟩ := d 0 (by omega)
      obtain ⟨v1, d1⟩ := d 1 (by omega)
      obtain ⟨v2, d2⟩ := d 2 (by omega)
      obtain ⟨v3, d3⟩ := d 3 (by omega)
      rw [Nat.add_zero] at d0
      have f0 := hf2 (i * 4)
      have f1 := hf2 (i * 4 + 1)
      have f2 := hf2 (i * 4 + 2)
      have f3 := hf2 (i * 4 + 3)
      clear hc2 hf2 d
      have hgs : g < wr.heap.size := by have := hbw.size; omega
      have HPS : Hid _ := plain_step ats xs i a gi hxl ht
      have HS := (((ho.stored (i * 4) (.string a.el)).1.stored (i * 4 + 1) (.bool a.aro)).1.stored (i * 4 + 2) (.int .i64 a.ch)).1.stored (i * 4 + 3) (.int .i64 a.hy)
      have HOWN : Hid _ := HS.1.alloc (.cells #[.string a.el, .bool a.aro, .int .i64 a.ch, .int .i64 a.hy, .int .i64 a.pl, .bool a.br] 124)
      have hGne : w.heap.size ≠ G := by have := HG.out; omega
      have HHR : Hid ((((((wr.setCell ⟨G, i * 4, none⟩ (.string a.el)).setCell ⟨G, i * 4 + 1, none⟩ (.bool a.aro)).setCell ⟨G, i * 4 + 2, none⟩ (.int .i64 a.ch)).setCell ⟨G, i * 4 + 3, none⟩ (.int .i64 a.hy)).alloc (.cells #[.string a.el, .bool a.aro, .int .i64 a.ch, .int .i64 a.hy, .int .i64 a.pl, .bool a.br] 124)).heap[w.heap.size]? = (w.alloc (.cells #[.slice none 0 0, .slice none 0 0] 39)).heap[w.heap.size]?) := by
        show _ = _
        rw [heap_alloc_lt _ _ _ (by simp; have := HG.out; omega), Below.heap_setCell _ _ _ _ hGne, Below.heap_setCell _ _ _ _ hGne, Below.heap_setCell _ _ _ _ hGne, Below.heap_setCell _ _ _ _ hGne]
        exact hr
      have hGle : w.heap.size ≤ G := by have := HG.out; omega
      have HB : Hid _ := ((((hbw.setCell (p := ⟨G, i * 4, none⟩) hGle (.string a.el)).setCell (p := ⟨G, i * 4 + 1, none⟩) hGle (.bool a.aro)).setCell (p := ⟨G, i * 4 + 2, none⟩) hGle (.int .i64 a.ch)).setCell (p := ⟨G, i * 4 + 3, none⟩) hGle (.int .i64 a.hy)).alloc (by simpa using hbw.size) (.cells #[.string a.el, .bool a.aro, .int .i64 a.ch, .int .i64 a.hy, .int .i64 a.pl, .bool a.br] 124)
      clear HS
      go_wp2_with fail
      go_roundg (ats.length - (i + 1))
      case measure => omega
      case rel => exact ⟨i + 1, _, by omega, Nat.le_refl _, by go_num, HOWN.out, HPS.out, HHR.out, HB.out⟩
    · have hlt' : ¬ (i : Int) < (ats.length : Int) := by omega
      have hin : i = ats.length := by omega
      rw [hin, List.take_length, ← ho.1, List.take_length] at ht
      subst ht
      have h25' : wr.cell? ⟨L, 25, none⟩ = some (.slice bo l.length bc) := (hbw.cell (p := ⟨L, 25, none⟩) hL).trans h25
      have HBB : Hid (wr.ownsRow base 102 4 (.slice bo l.length bc) l.length (l.flatMap pbCells)) := ownsRow_same hb fun k hk => hbw.block k (hb.lt k hk).2
      have HO : Hid (wr.ownsRow G 50 4 (.slice (some ⟨G, 0, none⟩) ats.length ats.length) ats.length (ats.flatMap plainCells)) := ho
      have HRR : Hid (wr.heap[w.heap.size]? = (w.alloc (.cells #[.slice none 0 0, .slice none 0 0] 39)).heap[w.heap.size]?) := hr
      have HBW : Hid (Below w.heap.size w wr) := hbw
      have hGs := (ho.lt _ rfl).2
      have hLr : L < wr.heap.size := by have := hbw.size; omega
      have hl' : l.length ≤ 1000 := hl
      clear ho hr hbw hlt hin hk
      clear h24' HR hbel hown hsz2 HC
      obtain ⟨wa, ewa⟩ : ∃ x, x = wr := ⟨_, rfl⟩
      subst ewa
      go_wp2_with (at_make; go_must (refine wpList_make_full _ rfl _ _ 37 rfl wa.heap.size 46 j0 (.agg #[.int .i64 0, .int .i64 0, .int .i64 0]) 3 Tryz.underlying37 hj hjz0 hjz1 .i64 .i64 _ _ l.length rfl rfl rfl rfl ?d1 ?d2 ?d3 ?_))
      case d1 => (try rw [hjz2]); omega
      case d2 => unfold maxLen; omega
      intro w3 hown3 hgrow3
      have hb3 : Below wa.heap.size wa w3 := (Below.refl _ wa).grown hgrow3 (Nat.le_refl _) (by simp)
      have h25'' : w3.cell? ⟨L, 25, none⟩ = some (.slice bo l.length bc) := (hb3.cell (p := ⟨L, 25, none⟩) hLr).trans h25'
      generalize hys : Array.toList _ = ys0 at hown3
      clear hgrow3 hys h25'
      go_wp2_with fail
      obtain ⟨H, hH⟩ : ∃ H, H = wa.heap.size := ⟨_, rfl⟩
      rw [← hH] at hown3
      have HH : Hid (H = wa.heap.size) := hH
      simp only [← hH]
      clear hH
      go_loopg [42] (l.length + 1) (fun k vi wr => ∃ i : Nat, ∃ ys : List Value, i ≤ l.length ∧ l.length - i ≤ k ∧ vi = .int .i64 i ∧ wr.ownsRow H 46 3 (.slice (some ⟨H, 0, none⟩) l.length l.length) l.length ys ∧ ys.take (i * 3) = (l.take i).flatMap bndCells ∧ Below wa.heap.size wa wr)
      case atStart => exact ⟨0, ys0, by omega, by omega, rfl, hown3, by simp, hb3⟩
      case round =>
        obtain ⟨i, ys, hi', hk, rfl, ho, ht, hbw⟩ := hrel
        by_cases hlt : i < l.length
        · have gi := List.getElem?_eq_getElem hlt
          have hlt' : (i : Int) < (l.length : Int) := by omega
          obtain ⟨g4, cap4, e4, _, hg4, hc4, _⟩ := ownsRow_at HBB.out (by omega)
          simp only [Value.slice.injEq, true_and] at e4
          obtain ⟨rfl, rfl⟩ := e4
          have cc : ∀ j v, (pbCells l[i])[j]? = some v → wr.cell? ⟨g4, i * 4 + j, none⟩ = some v := by
            intro j v hj
            have hj6 : j < 4 := by
              have := (List.getElem?_eq_some_iff.1 hj).1
              simpa [pbCells_len] using this
            rw [hbw.cell (p := ⟨g4, i * 4 + j, none⟩) hg4, hc4 (i * 4 + j) (by omega), flatMap_get pbCells 4 pbCells_len _ i j _ gi hj6, hj]
          generalize l[i] = b at *
          have q0 : wr.cell? ⟨g4, i * 4, none⟩ = some (.int .i64 b.a) := cc 0 _ rfl
          have q1 : wr.cell? ⟨g4, i * 4 + 1, none⟩ = some (.int .i64 b.b) := cc 1 _ rfl
          have q2 : wr.cell? ⟨g4, i * 4 + 2, none⟩ = some (.int .i64 b.o) := cc 2 _ rfl
          have q3 : wr.cell? ⟨g4, i * 4 + 3, none⟩ = some (.int .i64 b.pl) := cc 3 _ rfl
          clear cc hc4
          obtain ⟨g2, cap2, e2, _, hg2, hc2, hf2⟩ := ownsRow_at ho (by omega)
          simp only [Value.slice.injEq, Option.some.injEq, Addr.mk.injEq, and_true, true_and] at e2
          obtain ⟨rfl, rfl⟩ := e2
          have hxl := ho.1
          have d : ∀ j, j < 3 → ∃ v, wr.cell? ⟨H, i * 3 + j, none⟩ = some v := fun j hj => ⟨ys[i * 3 + j]'(by omega), (hc2 _ (by omega)).trans (List.getElem?_eq_getElem (by omega))⟩
          obtain ⟨v0, d0⟩ := d 0 (by omega)
          obtain ⟨v1, d1⟩ := d 1 (by omega)
          obtain ⟨v2, d2⟩ := d 2 (by omega)
          rw [Nat.add_zero] at d0
          have f0 := hf2 (i * 3)
          have f1 := hf2 (i * 3 + 1)
          have f2 := hf2 (i * 3 + 2)
          clear hc2 hf2 d
          have hgs : g4 < wr.heap.size := by have := hbw.size; omega
          have HPS : Hid _ := bnd_step l ys i b gi hxl ht
          have HS := ((ho.stored (i * 3) (.int .i64 b.a)).1.stored (i * 3 + 1) (.int .i64 b.b)).1.stored (i * 3 + 2) (.int .i64 b.o)
          have HOWN : Hid _ := HS.1.alloc (.cells #[.int .i64 b.a, .int .i64 b.b, .int .i64 b.o, .int .i64 b.pl] 102)
          have hHle : wa.heap.size ≤ H := by have := HH.out; omega
          have HB : Hid _ := (((hbw.setCell (p := ⟨H, i * 3, none⟩) hHle (.int .i64 b.a)).setCell (p := ⟨H, i * 3 + 1, none⟩) hHle (.int .i64 b.b)).setCell (p := ⟨H, i * 3 + 2, none⟩) hHle (.int .i64 b.o)).alloc (by simpa using hbw.size) (.cells #[.int .i64 b.a, .int .i64 b.b, .int .i64 b.o, .int .i64 b.pl] 102)
          clear HS
          go_wp2_with fail
          go_roundg (l.length - (i + 1))
          case measure => omega
          case rel => exact ⟨i + 1, _, by omega, Nat.le_refl _, by go_num, HOWN.out, HPS.out, HB.out⟩
        · have hlt' : ¬ (i : Int) < (l.length : Int) := by omega
          have hin : i = l.length := by omega
          rw [hin, List.take_length, ← ho.1, List.take_length] at ht
          subst ht
          have hRw : w.heap.size < wa.heap.size := by have := HG.out; omega
          have hRR : wr.heap[w.heap.size]? = (w.alloc (.cells #[.slice none 0 0, .slice none 0 0] 39)).heap[w.heap.size]? := (hbw.block _ hRw).trans HRR.out
          have r0 : wr.cell? ⟨w.heap.size, 0, none⟩ = some (.slice none 0 0) := (World.cell?_of_block (w := w.alloc (.cells #[.slice none 0 0, .slice none 0 0] 39)) hRR).trans (by simp)
          have r1 : wr.cell? ⟨w.heap.size, 1, none⟩ = some (.slice none 0 0) := (World.cell?_of_block (w := w.alloc (.cells #[.slice none 0 0, .slice none 0 0] 39)) hRR).trans (by simp)
          have rf : ∀ j, wr.frozen? ⟨w.heap.size, j, none⟩ = false := fun j => (World.frozen?_of_block (w := w.alloc (.cells #[.slice none 0 0, .slice none 0 0] 39)) hRR).trans (by simp)
          have rf0 := rf 0
          have rf1 := rf 1
          have HA3 : wr.ownsRow G 50 4 (.slice (some ⟨G, 0, none⟩) ats.length ats.length) ats.length (ats.flatMap plainCells) := ownsRow_same HO.out fun k hk => hbw.block k (HO.out.lt k hk).2
          have hG1 := HG.out
          have hH1 := HH.out
          have HFA : Hid (((wr.setCell ⟨w.heap.size, 0, none⟩ (.slice (some ⟨G, 0, none⟩) ats.length ats.length)).setCell ⟨w.heap.size, 1, none⟩ (.slice (some ⟨H, 0, none⟩) l.length l.length)).ownsRow w.heap.size 50 4 (.slice (some ⟨G, 0, none⟩) ats.length ats.length) ats.length (ats.flatMap plainCells)) :=
            ownsRow_mono (ownsRow_setCell_other (ownsRow_setCell_other HA3 (by simp [Value.ownBlock]; omega) _) (by simp [Value.ownBlock]; omega) _) (by omega)
          have HFB : Hid (((wr.setCell ⟨w.heap.size, 0, none⟩ (.slice (some ⟨G, 0, none⟩) ats.length ats.length)).setCell ⟨w.heap.size, 1, none⟩ (.slice (some ⟨H, 0, none⟩) l.length l.length)).ownsRow w.heap.size 46 3 (.slice (some ⟨H, 0, none⟩) l.length l.length) l.length (l.flatMap bndCells)) :=
            ownsRow_mono (ownsRow_setCell_other (ownsRow_setCell_other ho (by simp [Value.ownBlock]; omega) _) (by simp [Value.ownBlock]; omega) _) (by omega)
          have HFC : Hid (Below w.heap.size w ((wr.setCell ⟨w.heap.size, 0, none⟩ (.slice (some ⟨G, 0, none⟩) ats.length ats.length)).setCell ⟨w.heap.size, 1, none⟩ (.slice (some ⟨H, 0, none⟩) l.length l.length))) :=
            ((HBW.out.trans (hbw.mono (by omega))).setCell (p := ⟨w.heap.size, 0, none⟩) (Nat.le_refl _) _).setCell (p := ⟨w.heap.size, 1, none⟩) (Nat.le_refl _) _
          clear HA3 rf hRR hG1 hH1 hRw ho hbw
          go_wp2_with fail
          refine bodyPost_ret (v := .agg #[.slice (some ⟨G, 0, none⟩) ats.length ats.length, .slice (some ⟨H, 0, none⟩) l.length l.length]) ?_ rfl ⟨_, _, rfl, HFA.out, HFB.out, HFC.out⟩
          simp only [results, Tryz.results26]
          go_simp
end
end Go.Proofs.YtcabaecbmkgclaaGreatDoor

namespace Go.Proofs.YtcabaecbmkgclaaGreatDoor
open Go.RowKit Bz

theorem bracket_nz {s : ByteArray} {i : Nat} {er : Int × Int} (h : Bz.bracket s i = .error er) : er.1 ≠ 0 := by
  unfold Bz.bracket at h
  simp only [] at h
  split at h <;> cases h
  simp

theorem atom_nz {s : ByteArray} {p : St} {g : Hung} {er : Int × Int} (h : Bz.atom s g p = .error er) : er.1 ≠ 0 := by
  unfold Bz.atom at h
  simp only [] at h
  split at h
  · split at h <;> cases h <;> simp
  · split at h
    · cases h; simp
    split at h
    · cases h; simp
    split at h
    · rename_i e he
      cases h
      split at he
      · exact bracket_nz he
      · cases he
    · cases h

theorem bondEnd_nz {s : ByteArray} {p : St} {a : Nat} {er : Int × Int} (h : Bz.bondEnd s a p = .error er) : er.1 ≠ 0 := by
  unfold Bz.bondEnd at h
  simp only [] at h
  split at h
  · split at h <;> cases h
    simp
  · cases h

theorem link_nz {s : ByteArray} {p : St} {a : Nat} {er : Int × Int} (h : Bz.link s a p = .error er) : er.1 ≠ 0 := by
  unfold Bz.link at h
  split at h
  · cases h
  · exact bondEnd_nz h

theorem ringNumber_nz {s : ByteArray} {i : Nat} {er : Int × Int} (h : Bz.ringNumber s i = .error er) : er.1 ≠ 0 := by
  unfold Bz.ringNumber at h
  repeat' split at h
  all_goals first | (cases h; done) | (cases h; simp)

theorem closeRing_nz {a b : Hung} {k : Nat} {p : St} {er : Int × Int} (h : Bz.closeRing a b k p = .error er) : er.1 ≠ 0 := by
  unfold Bz.closeRing at h
  simp only [] at h
  repeat' split at h
  all_goals first | (cases h; done) | (cases h; simp)

theorem ring_nz {s : ByteArray} {p : St} {a : Nat} {er : Int × Int} (h : Bz.ring s a p = .error er) : er.1 ≠ 0 := by
  unfold Bz.ring at h
  split at h
  · rename_i e he; cases h; exact bondEnd_nz he
  split at h
  · rename_i e he; cases h; exact ringNumber_nz he
  split at h
  · cases h
  · exact closeRing_nz h

theorem ringsOf_nz {s : ByteArray} {a : Nat} {er : Int × Int} : ∀ (n : Nat) {p : St}, Bz.ringsOf s a n p = .error er → er.1 ≠ 0
  | 0, _, h => by cases h
  | n + 1, p, h => by
    unfold Bz.ringsOf at h
    split at h
    · split at h
      · rename_i e he; cases h; exact ring_nz he
      · exact ringsOf_nz n h
    · cases h

/-- From place lo on a chain's errors have numbers. -/
def ChainNz (s : ByteArray) (c : Hung → St → R St) (lo : Nat) : Prop := ∀ g q er, Ok s q → HungOk g q → lo ≤ q.pos → c g q = .error er → er.1 ≠ 0

section
variable {s : ByteArray} {c : Hung → St → R St} {lo : Nat}

theorem branch_nz (hn : ChainNz s c lo) {a : Nat} {p : St} {er : Int × Int} (h : Bz.branch s c a p = .error er) (o : Ok s p) (ha : a < p.atoms.length) (hlo : lo ≤ p.pos) : er.1 ≠ 0 := by
  unfold Bz.branch at h
  split at h
  · rename_i e he; cases h; exact link_nz he
  · rename_i g q hq
    obtain ⟨o1, h1, _, h3⟩ := link_wf hq o ha
    split at h
    · rename_i e he; cases h; exact hn g q _ o1 h1 (by omega) he
    · split at h <;> cases h
      simp

theorem branches_nz (hc : ChainOk s c) (hn : ChainNz s c (lo + 1)) {a : Nat} {er : Int × Int} : ∀ (n : Nat) {p : St}, Bz.branches s c a n p = .error er → Ok s p → a < p.atoms.length → lo ≤ p.pos → er.1 ≠ 0
  | 0, _, h, _, _, _ => by cases h
  | n + 1, p, h, o, ha, hlo => by
    unfold Bz.branches at h
    split at h
    · rename_i h40
      have hlt : p.pos < s.size := lt_of_byteAt (by rw [h40]; decide)
      have o1 := o.step hlt
      split at h
      · rename_i e he; cases h; exact branch_nz hn he o1 ha (by simp; omega)
      · rename_i q hq
        obtain ⟨o2, h2, h3⟩ := branch_wf hc hq o1 ha
        exact branches_nz hc hn n h o2 (by simp at h3; omega) (by simp at h2; omega)
    · cases h

theorem knot_nz (hc : ChainOk s c) (hn : ChainNz s c (lo + 1)) {g : Hung} {p : St} {er : Int × Int} (h : Bz.knot s c g p = .error er) (o : Ok s p) (hlo : lo ≤ p.pos) : er.1 ≠ 0 := by
  unfold Bz.knot at h
  split at h
  · rename_i e he; cases h; exact atom_nz he
  · rename_i k q hq
    obtain ⟨o1, h1, h2, _⟩ := atom_wf hq o
    split at h
    · rename_i e he; cases h; exact ringsOf_nz _ he
    · rename_i q2 hq2
      obtain ⟨o2, h3, h4⟩ := ringsOf_wf _ hq2 o1 h1
      split at h
      · rename_i e he; cases h; exact branches_nz hc hn _ he o2 (by omega) (by omega)
      · cases h

theorem linkedKnot_nz (hc : ChainOk s c) (hn : ChainNz s c (lo + 1)) {a : Nat} {p : St} {er : Int × Int} (h : Bz.linkedKnot s c a p = .error er) (o : Ok s p) (ha : a < p.atoms.length) (hlo : lo ≤ p.pos) : er.1 ≠ 0 := by
  unfold Bz.linkedKnot at h
  split at h
  · rename_i e he; cases h; exact link_nz he
  · rename_i g q hq
    obtain ⟨o1, _, _, h3⟩ := link_wf hq o ha
    exact knot_nz hc hn h o1 (by omega)

theorem linked_nz (hc : ChainOk s c) (hn : ChainNz s c (lo + 1)) {er : Int × Int} : ∀ (n : Nat) {a : Nat} {p : St}, Bz.linked s c n a p = .error er → Ok s p → a < p.atoms.length → lo ≤ p.pos → er.1 ≠ 0
  | 0, _, _, h, _, _, _ => by cases h
  | n + 1, a, p, h, o, ha, hlo => by
    unfold Bz.linked at h
    split at h
    · split at h
      · rename_i e he; cases h; exact linkedKnot_nz hc hn he o ha hlo
      · rename_i k q hq
        obtain ⟨o1, h1, h2, _⟩ := linkedKnot_wf hc hq o ha
        exact linked_nz hc hn n h o1 h1 (by omega)
    · cases h
end

theorem chain_nz (s : ByteArray) : ∀ n lo, s.size < n + lo → ChainNz s (Bz.chain s n) lo
  | 0, lo, hl, _, q, _, o, _, hlo, _ => by have := o.pos; omega
  | n + 1, lo, hl, g, q, er, o, hg, hlo, h => by
    have hn := chain_nz s n (lo + 1) (by omega)
    unfold Bz.chain at h
    split at h
    · rename_i e he; cases h; exact knot_nz (chain_wf s n) hn he o hlo
    · rename_i k q2 hq
      obtain ⟨o1, h1, h2, _⟩ := knot_wf (chain_wf s n) hq o
      exact linked_nz (chain_wf s n) hn _ h o1 h1 (by omega)

theorem whole_nz {s : ByteArray} {er : Int × Int} (h : wholeR s = .error er) : er.1 ≠ 0 := by
  unfold wholeR at h
  split at h
  · rename_i e he; cases h; exact chain_nz s (s.size + 1) 0 (by omega) _ _ _ (start_ok s) (.inl rfl) (Nat.zero_le _) he
  · unfold finish valencesOk at h
    split at h
    · cases h; simp
    split at h
    · cases h; simp
    split at h <;> cases h
    simp

end Go.Proofs.YtcabaecbmkgclaaGreatDoor
