/-
  What the library's strings.Builder does here.
  The library's contract for (*strings.Builder).String, laid at this program.
  The library's contracts for (*strings.Builder).grow, utf8.AppendRune, utf8.RuneLen, (*strings.Builder).Cap, laid at this program.
  (*strings.Builder).WriteByte, WriteRune (of a sign below 128), Grow.
  writer.capital; a text in capitals.
  WriteString: the room that was there stays.
  strings.Map(capital, ..) of signs below 128.
  The plain reader: what a text of the document comes to, said on lists and numbers alone (no program, no memory).
  The program's reader in memory: what its block and its two lists hold when it stands at a state of the plain reader; what a call may have turned.
-/
import Derived.Test.YtcabaecbmkgclaaGreatDoorRows
import Derived.WalkKit
import Derived.WalkMore
import Derived.Below
import Derived.Shelf.Strings.BuilderK
import Derived.Ground.NamesProg
import Derived.Shelf.Lay
import Derived.Shelf.Strings.MapGrows
import Derived.Deep.LoopGhost
import Derived.Deep.CutBlock
import Derived.Deep.CutRange
import Derived.WalkSpells
import Derived.WalkLawsBesides
import Derived.Deep.QuietTactic
import Derived.BigQuiet

namespace Go.Proofs.YtcabaecbmkgclaaGreatDoor.Bu
open Go.RowKit

theorem Tryz.sizeBuilder : (Tryz.prog.info? 151).map (·.size) = some 2 := by kernel_rfl
theorem Tryz.liesBuilder : liesAt Tryz.prog Tryz.prog.depth 151 (2 / Tryz.prog.cellsOf 151) 0 151 1 = true := by kernel_rfl
theorem Tryz.infoByte : (Tryz.prog.info? 5).map (fun i => (i.zero, i.size, i.bytes)) = some (some (.int .u8 0), 1, 1) := by kernel_rfl

abbrev Bd (B b : Nat) (bs : List Value) (w : World) : Prop := Lib.IsBuilderF 151 5 B b bs w

set_option maxRecDepth 100000 in
set_option maxHeartbeats 1000000 in
theorem copy_fresh (b : Nat) (w : World) (h0 : w.cell? ⟨b, 0, none⟩ = some (.pointer none)) (hsh : w.shape? b = some (151, 2)) (hfz : w.frozen? ⟨b, 0, none⟩ = false) :
    Calls Tryz.prog 89 #[.pointer (some ⟨b, 0, none⟩)] w fun e w' => e = .returned (.tuple #[]) ∧ w' = w.setCell ⟨b, 0, none⟩ (.pointer (some ⟨b, 0, none⟩)) := by
  obtain ⟨j, hj, hjs⟩ := Option.map_eq_some_iff.1 Tryz.sizeBuilder
  have k1 := Lib.run_to_unsafe (P := Tryz.prog) w ⟨b, 0, none⟩ Tryz.underlying148 Tryz.underlying197 hj (by rw [hjs]; decide) hsh (Nat.zero_lt_succ 1)
  have k2 := Lib.run_from_unsafe (P := Tryz.prog) w ⟨b, 0, none⟩ Tryz.underlying197 Tryz.underlying148 hj hsh Tryz.liesBuilder
  have k3 : (callFunc 114 #[.pointer (some ⟨b, 0, none⟩)]).run Tryz.prog w = .ok (.value (.pointer (some ⟨b, 0, none⟩))) w := by
    rw [run_callFunc_extern Tryz.func114 (by kernel_rfl) (by kernel_rfl) (by kernel_rfl) (e := Extern.AbiNoEscape.same) (by kernel_rfl), Lib.run_noEscape]
    rfl
  clear hj hjs
  go_enter Tryz.func89, Tryz.ntmps89
  go_wp2_with fail
  go_end0
  exact ⟨rfl, rfl⟩

set_option maxRecDepth 100000 in
set_option maxHeartbeats 1000000 in
theorem copy_used (b : Nat) (w : World) (h0 : w.cell? ⟨b, 0, none⟩ = some (.pointer (some ⟨b, 0, none⟩))) (_hsh : w.shape? b = some (151, 2)) :
    Calls Tryz.prog 89 #[.pointer (some ⟨b, 0, none⟩)] w fun e w' => e = .returned (.tuple #[]) ∧ w' = w := by
  obtain ⟨j, hj, hjs⟩ := Option.map_eq_some_iff.1 Tryz.sizeBuilder
  have kp := Lib.run_neq_ptr_same (P := Tryz.prog) w ⟨b, 0, none⟩ Tryz.underlying148 hj
  clear hj hjs
  go_enter Tryz.func89, Tryz.ntmps89
  go_wp2_with fail
  go_end0
  exact ⟨rfl, rfl⟩

/-- A builder that has been written to. -/
abbrev Bw (B b : Nat) (bs : List Value) (w : World) : Prop := Lib.BuilderAtF 151 5 B b (.pointer (some ⟨b, 0, none⟩)) bs w

theorem copy_any {B b : Nat} {bs : List Value} {w : World} (h : Bd B b bs w) : Calls Tryz.prog 89 #[.pointer (some ⟨b, 0, none⟩)] w fun e w' => e = .returned (.tuple #[]) ∧ Bw B b bs w' ∧ Below B w w' ∧ Lib.OthersKept 5 (some b) w w' := by
  rcases h with h | h
  · refine (copy_fresh b w h.cell0 h.shape h.frozen0).mono ?_
    rintro e w' ⟨rfl, rfl⟩
    exact ⟨rfl, h.used _, (Below.refl B w).setCell (p := ⟨b, 0, none⟩) h.1 _, (Lib.OthersKept.refl _ _ w).setCell ⟨b, 0, none⟩ rfl _⟩
  · refine (copy_used b w h.cell0 h.shape).mono ?_
    rintro e w' ⟨rfl, rfl⟩
    exact ⟨rfl, h, Below.refl B _, Lib.OthersKept.refl _ _ _⟩

theorem Bw.cells {B b : Nat} {bs : List Value} {w : World} (h : Bw B b bs w) : ∃ ao cap, w.cell? ⟨b, 1, none⟩ = some (.slice ao bs.length cap) ∧ w.ownsRowF B 5 1 (.slice ao bs.length cap) bs.length bs ∧ (Value.slice ao bs.length cap).ownBlock ≠ some b ∧ B ≤ b ∧ b < w.heap.size ∧ w.heap[b]? = some (.cells #[.pointer (some ⟨b, 0, none⟩), .slice ao bs.length cap] 151 (0, 0)) := by
  have hl := h.lt
  obtain ⟨hB, v, hb, ho, hne⟩ := h
  obtain ⟨ao, cap, rfl⟩ : ∃ ao cap, v = .slice ao bs.length cap := by
    rcases ho.2 with ⟨rfl, h0⟩ | ⟨g, cap, cur, fz, rfl, _⟩
    · exact ⟨none, 0, by rw [h0]⟩
    · exact ⟨_, cap, rfl⟩
  exact ⟨ao, cap, by rw [Lib.cell_of_heap hb]; rfl, ho, hne, hB, hl, hb⟩

set_option maxRecDepth 100000 in
set_option maxHeartbeats 2000000 in
theorem wstr_any {B b : Nat} {bs : List Value} {w : World} (h : Bd B b bs w) (s : ByteArray) (hlen : bs.length + s.size ≤ 100000) (hBw : B ≤ w.heap.size) :
    Calls Tryz.prog 67 #[.pointer (some ⟨b, 0, none⟩), .string s] w fun e w' => e = .returned (.tuple #[.int .i64 (s.size : Int), .nilIface]) ∧ Bw B b (bs ++ Lib.strCells s) w' ∧ Below B w w' ∧ Lib.OthersKept 5 (some b) w w' := by
  obtain ⟨i0, hi, hz0, hz1, hz2⟩ := info_parts Tryz.infoByte
  have CP := copy_any h
  clear h
  go_enter Tryz.func67, Tryz.ntmps67
  go_wp2_with fail
  refine CP.mono ?_
  rintro e w1 ⟨rfl, h1, hb1, hk1⟩
  have hs1 := hb1.size
  obtain ⟨ao, cap, c1, ho, hne, hB, hlt, hbk⟩ := h1.cells
  have HB1 : Hid (Below B w w1) := hb1
  have HK1 : Hid (Lib.OthersKept 5 (some b) w w1) := hk1
  have HO : Hid (w1.ownsRowF B 5 1 (.slice ao bs.length cap) bs.length bs) := ho
  have HNE : Hid ((Value.slice ao bs.length cap).ownBlock ≠ some b) := hne
  have HBK : Hid (w1.heap[b]? = some (.cells #[.pointer (some ⟨b, 0, none⟩), .slice ao bs.length cap] 151 (0, 0))) := hbk
  clear CP h1 hb1 ho hne hbk hk1
  go_wp2_with (at_builtin; refine Lib.wpList_append_own_stringF w1 rfl (.tmp 12) (.tmp 13) 149 9 rfl B 5 i0 Tryz.underlying149 Tryz.underlying9 hi hz0 hz1 hz2 (.slice ao bs.length cap) bs.length bs rfl HO.out s rfl ?c3 ?c4 ?c5 ?_)
  case c3 => unfold maxLen; omega
  case c4 => omega
  case c5 => omega
  intro v' w2 hown' hgrow hkk
  have hb2 : w2.heap[b]? = some (.cells #[.pointer (some ⟨b, 0, none⟩), .slice ao bs.length cap] 151 (0, 0)) := by
    rw [hgrow.block b hlt (fun e => HNE.out e.symm)]
    exact HBK.out
  have d1 : w2.cell? ⟨b, 1, none⟩ = some (.slice ao bs.length cap) := by rw [Lib.cell_of_heap hb2]; rfl
  have f1 : w2.frozen? ⟨b, 1, none⟩ = false := Lib.frozen_of_heap hb2 1
  obtain ⟨vo, vn, vc, hv⟩ : ∃ vo vn vc, v' = .slice vo vn vc := by
    rcases hown'.2 with ⟨hv, _⟩ | ⟨g, cap, cur, fz, hv, _⟩
    · exact ⟨_, _, _, hv⟩
    · exact ⟨_, _, _, hv⟩
  subst hv
  have HE : Hid (Bw B b (bs ++ Lib.strCells s) (w2.setCell ⟨b, 1, none⟩ (.slice vo vn vc)) ∧ Below B w (w2.setCell ⟨b, 1, none⟩ (.slice vo vn vc)) ∧ Lib.OthersKept 5 (some b) w (w2.setCell ⟨b, 1, none⟩ (.slice vo vn vc))) :=
    ⟨Lib.BuilderAtF.put (T := 151) (e := 5) hB hb2 (bs' := bs ++ Lib.strCells s) (by simpa [Lib.strCells_length] using hown') (by decide), (HB1.out.grown hgrow (by omega) (fun k hk => (HO.out.lt k hk).1)).setCell (p := ⟨b, 1, none⟩) hB _, (HK1.out.grown hgrow (Lib.ownsRowF_kind HO.out)).setCell ⟨b, 1, none⟩ rfl _⟩
  clear hown' hgrow hkk hb2
  go_wp2_with fail
  go_ret2
  exact ⟨rfl, HE.out⟩
end Go.Proofs.YtcabaecbmkgclaaGreatDoor.Bu

namespace Go.Proofs
open Go.RowKit Go.Shelf Go.Lib

shelf_lay Lays.n169 Nm 169 at Tryz as Tryz.lays169

theorem Tryz.extra169 : Builder.Extra Tryz.prog Tryz.lays169_ren where
  sizeBuilder := by kernel_rfl
  liesBuilder := by kernel_rfl
  t5 := by kernel_rfl
  a5 := by intro w; kernel_rfl
  z5 := by intro w; kernel_rfl
  v5 := by intro w; kernel_rfl
  infoByte := by kernel_rfl
  cellsByte := by kernel_rfl
  sizeByte := by kernel_rfl
  neB5 := by decide
end Go.Proofs
namespace Go.Proofs.YtcabaecbmkgclaaGreatDoor.Bu
open Go.RowKit

theorem str_any {B b : Nat} {l : List UInt8} {w : World} (h : Bd B b (Lib.byteCells l) w) (hBw : B ≤ w.heap.size) :
    Calls Tryz.prog 70 #[.pointer (some ⟨b, 0, none⟩)] w fun e w' => e = .returned (.string ⟨l.toArray⟩) ∧ Below B w w' :=
  (Any.Builder_String_any_k Tryz.lays169 Tryz.extra169 B b l w h hBw).mono fun _ _ h => ⟨h.1, h.2.2.1⟩
end Go.Proofs.YtcabaecbmkgclaaGreatDoor.Bu

namespace Go.Proofs
open Go.RowKit Go.Shelf Go.Lib

shelf_lay Lays.n241 Nm 241 at Tryz as Tryz.lays241
shelf_lay Lays.n118 Nm 118 at Tryz as Tryz.lays118
shelf_lay Lays.n270 Nm 270 at Tryz as Tryz.lays270

theorem Tryz.extra241 : Builder.Extra Tryz.prog Tryz.lays241_ren where
  sizeBuilder := by kernel_rfl
  liesBuilder := by kernel_rfl
  t5 := by kernel_rfl
  a5 := by intro w; kernel_rfl
  z5 := by intro w; kernel_rfl
  v5 := by intro w; kernel_rfl
  infoByte := by kernel_rfl
  cellsByte := by kernel_rfl
  sizeByte := by kernel_rfl
  neB5 := by decide
end Go.Proofs
namespace Go.Proofs.YtcabaecbmkgclaaGreatDoor.Bu
open Go.RowKit

set_option maxRecDepth 100000 in
set_option maxHeartbeats 2000000 in
theorem arune_any {B : Nat} {v : Value} {n : Nat} {xs : List Value} {w : World} (r : Int) (h0 : 0 ≤ r) (h1 : r ≤ 127) (hown : w.ownsRowF B 5 1 v n xs) (hlen : n ≤ 100000) (hBw : B ≤ w.heap.size) :
    Calls Tryz.prog 148 #[v, .int .i32 r] w fun e w' => ∃ v', e = .returned v' ∧ w'.ownsRowF B 5 1 v' (n + 1) (xs ++ [.int .u8 r]) ∧ ∃ o, (w.alloc o).grownBy w' v.ownBlock := by
  obtain ⟨i0, hi, hz0, hz1, hz2⟩ := info_parts Tryz.infoByte
  have HO : Hid (w.ownsRowF B 5 1 v n xs) := hown
  clear hown
  go_enter Tryz.func148, Tryz.ntmps148
  go_wp2_with (at_builtin; refine wpList_append_ownF _ rfl (.tmp 8) (.tmp 11) 149 rfl B 5 i0 (.int .u8 0) 1 1 Tryz.underlying149 hi hz0 hz1 hz2 rfl (by decide) v n xs rfl (HO.out.alloc _) ⟨w.heap.size, 0, none⟩ 1 1 [.int .u8 r] rfl rfl ?c1 ?c2 ?c3 ?c4 ?c5 ?_)
  case c1 =>
    intro j u hj
    match j, hj with
    | 0, hj => simp at hj; subst hj; simp [Addr.add]
  case c2 => intro u hu; simp at hu; subst hu; rfl
  case c3 => unfold maxLen; omega
  case c4 => omega
  case c5 => simp; omega
  intro v' w2 hown' hgrow _
  have HE : Hid (w2.ownsRowF B 5 1 v' (n + 1) (xs ++ [.int .u8 r]) ∧ ∃ o, (w.alloc o).grownBy w2 v.ownBlock) := ⟨hown', _, hgrow⟩
  clear hown' hgrow
  go_wp2_with fail
  go_ret
  exact ⟨_, rfl, HE.out.1, HE.out.2⟩

theorem rlen_any (r : Int) (w : World) : Calls Tryz.prog 116 #[.int .i32 r] w fun e w' => e = .returned (.int .i64 (Lib.runeLen r)) ∧ w' = w :=
  Any.utf8_RuneLen Tryz.lays118 r w

theorem cap_any (b : Nat) (p : Option Addr) (n cap : Nat) (w : World) (c1 : w.cell? ⟨b, 1, none⟩ = some (.slice p n cap)) :
    Calls Tryz.prog 119 #[.pointer (some ⟨b, 0, none⟩)] w fun e w' => e = .returned (.int .i64 cap) ∧ w' = w :=
  Any.Builder_Cap_cell Tryz.lays270 b p n cap w c1

theorem sgrow_any {B b n : Nat} {w : World} (hB : B ≤ b) (hbk : w.heap[b]? = some (.cells #[.pointer (some ⟨b, 0, none⟩), .slice none 0 0] 151 (0, 0))) (hBw : B ≤ w.heap.size) (hn : n ≤ 100000) :
    Calls Tryz.prog 147 #[.pointer (some ⟨b, 0, none⟩), .int .i64 n] w fun e w' => e = .returned (.tuple #[]) ∧ (Lib.BuilderAt 151 5 B b (.pointer (some ⟨b, 0, none⟩)) [] w' ∧ Below B w w') ∧ ∃ p cap, w'.cell? ⟨b, 1, none⟩ = some (.slice p 0 cap) ∧ n ≤ cap :=
  Any.Builder_grow_fresh_cap Tryz.lays241 Tryz.extra241 B b n w hB hbk hBw (by omega)
end Go.Proofs.YtcabaecbmkgclaaGreatDoor.Bu

namespace Go.Proofs.YtcabaecbmkgclaaGreatDoor.Bu
open Go.RowKit

set_option maxRecDepth 100000 in
set_option maxHeartbeats 2000000 in
theorem wbyte_any {B b : Nat} {bs : List Value} {w : World} (h : Bw B b bs w) (c : Int) (hlen : bs.length ≤ 100000) (hBw : B ≤ w.heap.size) :
    Calls Tryz.prog 69 #[.pointer (some ⟨b, 0, none⟩), .int .u8 c] w fun e w' => e = .returned .nilIface ∧ Bw B b (bs ++ [.int .u8 c]) w' ∧ Below B w w' ∧ Lib.OthersKept 5 (some b) w w' := by
  obtain ⟨i0, hi, hz0, hz1, hz2⟩ := info_parts Tryz.infoByte
  have CP := copy_used b w h.cell0 h.shape
  obtain ⟨ao, cap, c1, ho, hne, hB, hlt, hbk⟩ := h.cells
  have HO : Hid (w.ownsRowF B 5 1 (.slice ao bs.length cap) bs.length bs) := ho
  have HNE : Hid ((Value.slice ao bs.length cap).ownBlock ≠ some b) := hne
  have HBK : Hid (w.heap[b]? = some (.cells #[.pointer (some ⟨b, 0, none⟩), .slice ao bs.length cap] 151 (0, 0))) := hbk
  clear h ho hne hbk
  go_enter Tryz.func69, Tryz.ntmps69
  go_wp2_with fail
  refine CP.mono ?_
  rintro e w1 ⟨rfl, rfl⟩
  clear CP
  go_wp2_with (at_builtin; refine wpList_append_ownF _ rfl (.tmp 11) (.tmp 13) 149 rfl B 5 i0 (.int .u8 0) 1 1 Tryz.underlying149 hi hz0 hz1 hz2 rfl (by decide) (.slice ao bs.length cap) bs.length bs rfl (HO.out.alloc _) ⟨w1.heap.size, 0, none⟩ 1 1 [.int .u8 c] rfl rfl ?c1 ?c2 ?c3 ?c4 ?c5 ?_)
  case c1 =>
    intro j u hj
    match j, hj with
    | 0, hj => simp at hj; subst hj; simp [Addr.add]
  case c2 => intro u hu; simp at hu; subst hu; rfl
  case c3 => unfold maxLen; omega
  case c4 => omega
  case c5 => simp; omega
  intro v' w2 hown' hgrow _
  have hb2 : w2.heap[b]? = some (.cells #[.pointer (some ⟨b, 0, none⟩), .slice ao bs.length cap] 151 (0, 0)) := by
    rw [hgrow.block b (by simp; omega) (fun e => HNE.out e.symm), Lib.alloc_old w1 _ b hlt]
    exact HBK.out
  have d1 : w2.cell? ⟨b, 1, none⟩ = some (.slice ao bs.length cap) := by rw [Lib.cell_of_heap hb2]; rfl
  have f1 : w2.frozen? ⟨b, 1, none⟩ = false := Lib.frozen_of_heap hb2 1
  obtain ⟨vo, vn, vc, hv⟩ : ∃ vo vn vc, v' = .slice vo vn vc := by
    rcases hown'.2 with ⟨hv, _⟩ | ⟨g, cap, cur, fz, hv, _⟩
    · exact ⟨_, _, _, hv⟩
    · exact ⟨_, _, _, hv⟩
  subst hv
  have HE : Hid (Bw B b (bs ++ [.int .u8 c]) (w2.setCell ⟨b, 1, none⟩ (.slice vo vn vc)) ∧ Below B w1 (w2.setCell ⟨b, 1, none⟩ (.slice vo vn vc)) ∧ Lib.OthersKept 5 (some b) w1 (w2.setCell ⟨b, 1, none⟩ (.slice vo vn vc))) :=
    ⟨Lib.BuilderAtF.put (T := 151) (e := 5) hB hb2 (bs' := bs ++ [.int .u8 c]) (by simpa using hown') (by decide),
     (((Below.refl B w1).alloc (by omega) _).grown hgrow (by simp; omega) (fun k hk => (HO.out.lt k hk).1)).setCell (p := ⟨b, 1, none⟩) hB _,
     (((Lib.OthersKept.refl _ _ w1).alloc _).grown hgrow (Lib.ownsRowF_kind (HO.out.alloc _))).setCell ⟨b, 1, none⟩ rfl _⟩
  clear hown' hgrow hb2
  go_wp2_with fail
  go_ret
  exact ⟨rfl, HE.out.1, HE.out.2.1, HE.out.2.2⟩

set_option maxRecDepth 100000 in
set_option maxHeartbeats 2000000 in
theorem wrune_any {B b : Nat} {bs : List Value} {w : World} (h : Bw B b bs w) (c : Int) (h0 : 0 ≤ c) (h1 : c ≤ 127) (hlen : bs.length ≤ 100000) (hBw : B ≤ w.heap.size) :
    Calls Tryz.prog 118 #[.pointer (some ⟨b, 0, none⟩), .int .i32 c] w fun e w' => (∃ v, e = .returned v) ∧ Bw B b (bs ++ [.int .u8 c]) w' ∧ Below B w w' := by
  have CP := copy_used b w h.cell0 h.shape
  obtain ⟨ao, cap, c1, ho, hne, hB, hlt, hbk⟩ := h.cells
  have AR := arune_any c h0 h1 ho hlen hBw
  have HO : Hid (w.ownsRowF B 5 1 (.slice ao bs.length cap) bs.length bs) := ho
  have HNE : Hid ((Value.slice ao bs.length cap).ownBlock ≠ some b) := hne
  have HBK : Hid (w.heap[b]? = some (.cells #[.pointer (some ⟨b, 0, none⟩), .slice ao bs.length cap] 151 (0, 0))) := hbk
  clear h ho hne hbk
  go_enter Tryz.func118, Tryz.ntmps118
  go_wp2_with fail
  refine CP.mono ?_
  rintro e w1 ⟨rfl, rfl⟩
  clear CP
  go_wp2_with fail
  refine AR.mono ?_
  rintro e w2 ⟨v', rfl, hown', o, hgrow⟩
  clear AR
  have hb2 : w2.heap[b]? = some (.cells #[.pointer (some ⟨b, 0, none⟩), .slice ao bs.length cap] 151 (0, 0)) := by
    rw [hgrow.block b (by simp; omega) (fun e => HNE.out e.symm), Lib.alloc_old w1 _ b hlt]
    exact HBK.out
  have d1 : w2.cell? ⟨b, 1, none⟩ = some (.slice ao bs.length cap) := by rw [Lib.cell_of_heap hb2]; rfl
  have f1 : w2.frozen? ⟨b, 1, none⟩ = false := Lib.frozen_of_heap hb2 1
  obtain ⟨vo, vn, vc, hv⟩ : ∃ vo vn vc, v' = .slice vo vn vc := by
    rcases hown'.2 with ⟨hv, _⟩ | ⟨g, cap, cur, fz, hv, _⟩
    · exact ⟨_, _, _, hv⟩
    · exact ⟨_, _, _, hv⟩
  subst hv
  have HE : Hid (Bw B b (bs ++ [.int .u8 c]) (w2.setCell ⟨b, 1, none⟩ (.slice vo vn vc)) ∧ Below B w1 (w2.setCell ⟨b, 1, none⟩ (.slice vo vn vc))) :=
    ⟨Lib.BuilderAtF.put (T := 151) (e := 5) hB hb2 (bs' := bs ++ [.int .u8 c]) (by simpa using hown') (by decide),
     (((Below.refl B w1).alloc (by omega) _).grown hgrow (by simp; omega) (fun k hk => (HO.out.lt k hk).1)).setCell (p := ⟨b, 1, none⟩) hB _⟩
  have d2 : (w2.setCell ⟨b, 1, none⟩ (.slice vo vn vc)).cell? ⟨b, 1, none⟩ = some (.slice vo vn vc) := World.cell?_setCell_same _ _ _ d1
  clear hown' hgrow hb2
  go_wp2_with fail
  go_ret2
  exact ⟨⟨_, rfl⟩, HE.out.1, HE.out.2⟩

set_option maxRecDepth 100000 in
set_option maxHeartbeats 2000000 in
/-- Grow of a builder that nobody has written to. -/
theorem grow_any {B b n : Nat} {w : World} (hB : B ≤ b) (hbk : w.heap[b]? = some (.cells #[.pointer none, .slice none 0 0] 151 (0, 0))) (_hBw : B ≤ w.heap.size) (hn : n ≤ 100000) (_hn0 : 0 < n) :
    Calls Tryz.prog 117 #[.pointer (some ⟨b, 0, none⟩), .int .i64 n] w fun e w' => e = .returned (.tuple #[]) ∧ Bw B b [] w' ∧ Below B w w' ∧ ∃ p cap, w'.cell? ⟨b, 1, none⟩ = some (.slice p 0 cap) ∧ n ≤ cap := by
  have hc0 : w.cell? ⟨b, 0, none⟩ = some (.pointer none) := by rw [Lib.cell_of_heap hbk]; rfl
  have hsh : w.shape? b = some (151, 2) := by simp [World.shape?, hbk]
  have CP := copy_fresh b w hc0 hsh (Lib.frozen_of_heap hbk 0)
  have hbk1 : (w.setCell ⟨b, 0, none⟩ (.pointer (some ⟨b, 0, none⟩))).heap[b]? = some (.cells #[.pointer (some ⟨b, 0, none⟩), .slice none 0 0] 151 (0, 0)) := by
    simp [World.setCell, Array.getElem?_modify, hbk]
  have hb1 : Below B w (w.setCell ⟨b, 0, none⟩ (.pointer (some ⟨b, 0, none⟩))) := (Below.refl B w).setCell (p := ⟨b, 0, none⟩) hB _
  obtain ⟨w1, hw1⟩ : ∃ w1, w.setCell ⟨b, 0, none⟩ (.pointer (some ⟨b, 0, none⟩)) = w1 := ⟨_, rfl⟩
  rw [hw1] at CP hbk1 hb1
  have c1 : w1.cell? ⟨b, 1, none⟩ = some (.slice none 0 0) := by rw [Lib.cell_of_heap hbk1]; rfl
  have hs1 := hb1.size
  have SG : ∀ k, Calls Tryz.prog 147 #[.pointer (some ⟨b, 0, none⟩), .int .i64 n] (w1.drewN k) fun e w' => e = .returned (.tuple #[]) ∧ Hid (Bw B b [] w' ∧ Below B w w' ∧ ∃ p cap, w'.cell? ⟨b, 1, none⟩ = some (.slice p 0 cap) ∧ n ≤ cap) := by
    intro k
    have hbd : Below w1.heap.size w1 (w1.drewN k) := below_drewNm w1 k
    have hlt : b < w1.heap.size := (Array.getElem?_eq_some_iff.1 hbk1).1
    refine (sgrow_any hB ((hbd.block b hlt).trans hbk1) (by have := hbd.size; omega) hn).mono ?_
    rintro e w' ⟨rfl, ⟨h1, h2⟩, h3⟩
    exact ⟨rfl, Lib.BuilderAtF.of h1, (hb1.trans (hbd.mono (by omega))).trans h2, h3⟩
  have SG0 := SG 0
  have SG1 := SG 1
  have SG2 := SG 2
  clear hbk hbk1 hb1 hc0 hsh hw1 SG
  go_enter Tryz.func117, Tryz.ntmps117
  go_wp2_with fail
  refine CP.mono ?_
  rintro e w2 ⟨rfl, rfl⟩
  clear CP
  go_wp2_with fail
  go_region
  all_goals (go_wp2_with fail)
  refine SG1.mono ?_
  rintro e w3 ⟨rfl, HE⟩
  clear SG0 SG1 SG2
  go_wp2_with fail
  go_end0
  exact ⟨rfl, HE.out⟩
end Go.Proofs.YtcabaecbmkgclaaGreatDoor.Bu

namespace Go.Proofs.YtcabaecbmkgclaaGreatDoor.Cp
open Go.RowKit

def capZ (x : Nat) : Int := if x = 58 then -1 else if x = 99 ∨ x = 110 ∨ x = 111 ∨ x = 112 ∨ x = 115 then (x : Int) - 32 else (x : Int)
def capB (b : UInt8) : List UInt8 := if b.toNat = 58 then [] else if b.toNat = 99 ∨ b.toNat = 110 ∨ b.toNat = 111 ∨ b.toNat = 112 ∨ b.toNat = 115 then [b - 32] else [b]
def capL (l : List UInt8) : List UInt8 := l.flatMap capB

/-- Signs below 128 alone. -/
def Ascii (l : List UInt8) : Prop := ∀ b ∈ l, b.toNat < 128

theorem Ascii.drop {l : List UInt8} (h : Ascii l) (n : Nat) : Ascii (l.drop n) := fun b hb => h b (List.mem_of_mem_drop hb)
theorem Ascii.take {l : List UInt8} (h : Ascii l) (n : Nat) : Ascii (l.take n) := fun b hb => h b (List.mem_of_mem_take hb)

theorem capL_append (a b : List UInt8) : capL (a ++ b) = capL a ++ capL b := by simp [capL]
theorem capL_cons (a : UInt8) (b : List UInt8) : capL (a :: b) = capB a ++ capL b := by simp [capL]

theorem cap_cases (b : UInt8) (hb : b.toNat < 128) : (capZ b.toNat = -1 ∧ capB b = []) ∨ (∃ c : UInt8, capB b = [c] ∧ capZ b.toNat = (c.toNat : Int) ∧ c.toNat < 128) := by
  unfold capZ capB
  by_cases h1 : b.toNat = 58
  · left; simp [h1]
  · right
    by_cases h2 : b.toNat = 99 ∨ b.toNat = 110 ∨ b.toNat = 111 ∨ b.toNat = 112 ∨ b.toNat = 115
    · refine ⟨b - 32, by simp [h1, h2], ?_, ?_⟩
      · rw [if_neg h1, if_pos h2]
        have : (b - 32).toNat = b.toNat - 32 := by
          rw [UInt8.toNat_sub_of_le]
          · rfl
          · rw [UInt8.le_iff_toNat_le]; show 32 ≤ b.toNat; omega
        rw [this]; omega
      · have : (b - 32).toNat = b.toNat - 32 := by
          rw [UInt8.toNat_sub_of_le]
          · rfl
          · rw [UInt8.le_iff_toNat_le]; show 32 ≤ b.toNat; omega
        rw [this]; omega
    · exact ⟨b, by simp [h1, h2], by rw [if_neg h1, if_neg h2], hb⟩

theorem cap_same (b : UInt8) (h : capZ b.toNat = (b.toNat : Int)) : capB b = [b] := by
  unfold capZ at h
  unfold capB
  split at h
  · omega
  · split at h
    · omega
    · rename_i h1 h2
      rw [if_neg h1, if_neg h2]

theorem capB_len (b : UInt8) : (capB b).length ≤ 1 := by
  unfold capB
  split
  · simp
  · split <;> simp

theorem capL_len (l : List UInt8) : (capL l).length ≤ l.length := by
  induction l with
  | nil => simp [capL]
  | cons a l ih => rw [capL_cons, List.length_append]; have := capB_len a; simp only [List.length_cons]; omega

set_option maxRecDepth 100000 in
set_option maxHeartbeats 2000000 in
theorem capital_any (w : World) (x : Nat) (hx : x < 128) : Calls Tryz.prog 91 #[.int .i32 (x : Int)] w fun e w' => e = .returned (.int .i32 (capZ x)) ∧ w' = w := by
  obtain ⟨z, hz⟩ : ∃ z, capZ x = z := ⟨_, rfl⟩
  rw [hz]
  unfold capZ at hz
  by_cases h1 : x = 58
  · rw [if_pos h1] at hz
    subst hz
    subst h1
    go_enter Tryz.func91, Tryz.ntmps91
    go_wp2_with fail
    go_ret
    exact ⟨rfl, rfl⟩
  · rw [if_neg h1] at hz
    by_cases h2 : x = 99 ∨ x = 110 ∨ x = 111 ∨ x = 112 ∨ x = 115
    · rw [if_pos h2] at hz
      subst hz
      rcases h2 with rfl | rfl | rfl | rfl | rfl
      all_goals
        go_enter Tryz.func91, Tryz.ntmps91
        go_wp2_with fail
        go_ret
        exact ⟨rfl, rfl⟩
    · rw [if_neg h2] at hz
      subst hz
      have e1 : ¬ ((x : Int) = 58) := by omega
      have e2 : ¬ ((x : Int) = 99) := by omega
      have e3 : ¬ ((x : Int) = 110) := by omega
      have e4 : ¬ ((x : Int) = 111) := by omega
      have e5 : ¬ ((x : Int) = 112) := by omega
      have e6 : ¬ ((x : Int) = 115) := by omega
      clear h1 h2
      go_enter Tryz.func91, Tryz.ntmps91
      go_wp2_with fail
      go_ret
      exact ⟨rfl, rfl⟩
end Go.Proofs.YtcabaecbmkgclaaGreatDoor.Cp

namespace Go.Proofs.YtcabaecbmkgclaaGreatDoor.Bu
open Go.RowKit

set_option maxRecDepth 100000 in
set_option maxHeartbeats 2000000 in
theorem wstr_cap {B b : Nat} {bs : List Value} {w : World} (h : Bw B b bs w) (s : ByteArray) (hlen : bs.length + s.size ≤ 100000) (hBw : B ≤ w.heap.size) (m : Nat) (hm : ∃ p n cap, w.cell? ⟨b, 1, none⟩ = some (.slice p n cap) ∧ m ≤ cap) :
    Calls Tryz.prog 67 #[.pointer (some ⟨b, 0, none⟩), .string s] w fun e w' => (∃ v, e = .returned v) ∧ Bw B b (bs ++ Lib.strCells s) w' ∧ Below B w w' ∧ ∃ p n cap, w'.cell? ⟨b, 1, none⟩ = some (.slice p n cap) ∧ m ≤ cap := by
  obtain ⟨i0, hi, hz0, hz1, hz2⟩ := info_parts Tryz.infoByte
  have CP := copy_used b w h.cell0 h.shape
  obtain ⟨ao, cap, c1, ho, hne, hB, hlt, hbk⟩ := h.cells
  have hmc : m ≤ cap := by
    obtain ⟨p, n, cap', hc, hle⟩ := hm
    rw [c1] at hc
    cases hc
    exact hle
  have HO : Hid (w.ownsRowF B 5 1 (.slice ao bs.length cap) bs.length bs) := ho
  have HNE : Hid ((Value.slice ao bs.length cap).ownBlock ≠ some b) := hne
  have HBK : Hid (w.heap[b]? = some (.cells #[.pointer (some ⟨b, 0, none⟩), .slice ao bs.length cap] 151 (0, 0))) := hbk
  clear h ho hne hbk hm
  go_enter Tryz.func67, Tryz.ntmps67
  go_wp2_with fail
  refine CP.mono ?_
  rintro e w1 ⟨rfl, rfl⟩
  clear CP
  go_wp2_with (at_builtin; refine Lib.wpList_append_own_stringF_cap w1 rfl (.tmp 12) (.tmp 13) 149 9 rfl B 5 i0 Tryz.underlying149 Tryz.underlying9 hi hz0 hz1 hz2 (.slice ao bs.length cap) bs.length bs rfl HO.out s rfl ?c3 ?c4 ?c5 ?_)
  case c3 => unfold maxLen; omega
  case c4 => omega
  case c5 => omega
  intro v' w2 hown' hgrow _ hcap
  have hb2 : w2.heap[b]? = some (.cells #[.pointer (some ⟨b, 0, none⟩), .slice ao bs.length cap] 151 (0, 0)) := by
    rw [hgrow.block b hlt (fun e => HNE.out e.symm)]
    exact HBK.out
  have d1 : w2.cell? ⟨b, 1, none⟩ = some (.slice ao bs.length cap) := by rw [Lib.cell_of_heap hb2]; rfl
  have f1 : w2.frozen? ⟨b, 1, none⟩ = false := Lib.frozen_of_heap hb2 1
  obtain ⟨vo, vn, vc, hv⟩ : ∃ vo vn vc, v' = .slice vo vn vc := by
    rcases hown'.2 with ⟨hv, _⟩ | ⟨g, cap, cur, fz, hv, _⟩
    · exact ⟨_, _, _, hv⟩
    · exact ⟨_, _, _, hv⟩
  subst hv
  have hcv : cap ≤ vc := hcap
  have HE : Hid (Bw B b (bs ++ Lib.strCells s) (w2.setCell ⟨b, 1, none⟩ (.slice vo vn vc)) ∧ Below B w1 (w2.setCell ⟨b, 1, none⟩ (.slice vo vn vc)) ∧ ∃ p n cap, (w2.setCell ⟨b, 1, none⟩ (.slice vo vn vc)).cell? ⟨b, 1, none⟩ = some (.slice p n cap) ∧ m ≤ cap) :=
    ⟨Lib.BuilderAtF.put (T := 151) (e := 5) hB hb2 (bs' := bs ++ Lib.strCells s) (by simpa [Lib.strCells_length] using hown') (by decide),
     ((Below.refl B w1).grown hgrow (by omega) (fun k hk => (HO.out.lt k hk).1)).setCell (p := ⟨b, 1, none⟩) hB _,
     _, _, _, World.cell?_setCell_same _ _ _ d1, by omega⟩
  clear hown' hgrow hb2 hcap
  go_wp2_with fail
  go_ret2
  exact ⟨⟨_, rfl⟩, HE.out⟩

/-- A builder that has something in it has room. -/
theorem Bw.cap {B b : Nat} {bs : List Value} {w : World} (h : Bw B b bs w) (h0 : bs ≠ []) : ∃ p n cap, w.cell? ⟨b, 1, none⟩ = some (.slice p n cap) ∧ 1 ≤ cap := by
  obtain ⟨ao, cap, c1, ho, hne, hB, hlt, hbk⟩ := h.cells
  refine ⟨ao, _, cap, c1, ?_⟩
  have hl : 0 < bs.length := List.length_pos_iff.2 h0
  rcases ho.2 with ⟨hv, hn⟩ | ⟨g, cap', cur, fz, hv, _, _, _, hnc, _⟩
  · omega
  · cases hv
    omega
end Go.Proofs.YtcabaecbmkgclaaGreatDoor.Bu

namespace Go.Proofs.YtcabaecbmkgclaaGreatDoor.Cp
open Go.RowKit Go.Proofs.YtcabaecbmkgclaaGreatDoor.Bu

theorem at_drop {s : ByteArray} {pos : Nat} (h : pos < s.size) : s.data.toList.drop pos = s[pos] :: s.data.toList.drop (pos + 1) := by
  have hl : pos < s.data.toList.length := by simpa using h
  rw [List.drop_eq_getElem_cons hl]
  rfl

theorem at_take {s : ByteArray} {pos : Nat} (h : pos < s.size) : s.data.toList.take (pos + 1) = s.data.toList.take pos ++ [s[pos]] := by
  have hl : pos < s.data.toList.length := by simpa using h
  rw [List.take_succ_eq_append_getElem hl]
  rfl

theorem mem_at {s : ByteArray} {pos : Nat} (h : pos < s.size) : s[pos] ∈ s.data.toList := by
  have hl : pos < s.data.toList.length := by simpa using h
  exact List.getElem_mem hl

theorem ext_drop {s : ByteArray} {i : Nat} : (s.extract i s.size).data.toList = s.data.toList.drop i := by
  rw [Lib.extract_data, List.take_of_length_le]
  rw [List.length_drop, ← Lib.size_eq]
  omega
theorem ext_take {s : ByteArray} {i : Nat} : (s.extract 0 i).data.toList = s.data.toList.take i := by
  rw [Lib.extract_data]
  simp

/-- What the first loop leaves. -/
structure Half (w : World) (s : ByteArray) (v : Value) (wx : World) : Prop where
  below : Below w.heap.size w wx
  rest : (v = .string s ∧ capL s.data.toList = s.data.toList ∧ wx.heap[w.heap.size]? = some (.cells #[.pointer none, .slice none 0 0] 151 (0, 0))) ∨
    (∃ (r : ByteArray) (acc : List UInt8), v = .string r ∧ Ascii r.data.toList ∧ r.size ≤ s.size ∧ acc.length ≤ s.size ∧ acc ++ capL r.data.toList = capL s.data.toList ∧ Bw w.heap.size w.heap.size (Lib.byteCells acc) wx ∧ ∃ p n cap, wx.cell? ⟨w.heap.size, 1, none⟩ = some (.slice p n cap) ∧ 1 ≤ cap)

theorem rlen_one {x : Nat} (hx : x < 128) : Lib.runeLen (x : Int) = 1 := by
  unfold Lib.runeLen
  rw [if_neg (by omega), if_pos (by omega)]

set_option maxRecDepth 100000 in
set_option maxHeartbeats 4000000 in
theorem map_any (w : World) (s : ByteArray) (ha : Ascii s.data.toList) (hs : s.size ≤ 1000) :
    Calls Tryz.prog 90 #[.func (.func 91) #[] #[], .string s] w fun e w' => e = .returned (.string ⟨(capL s.data.toList).toArray⟩) ∧ Below w.heap.size w w' := by
  go_enter Tryz.func90, Tryz.ntmps90
  go_upto_block 0 with fail
  go_cut [1, 6, 7, 8, 9] from 15 to 63 (fun s1 s6 s7 s8 s9 wx => Half w s s1 wx)
  case first =>
    go_wp2_with fail
    go_loopg [1] s.size (fun gk s1 wx => s1 = .string s ∧ ∃ pos : Nat, wx.heap[w.heap.size]? = some (.cells #[.pointer none, .slice none 0 0] 151 (0, 0)) ∧ wx.heap[w.heap.size + 1]? = some (.stringIter s pos) ∧ Below w.heap.size w wx ∧
      capL (s.data.toList.take pos) = s.data.toList.take pos ∧ s.size ≤ pos + gk ∧ pos ≤ s.size)
    case atStart =>
      refine ⟨rfl, 0, ?_, ?_, ((Below.refl _ w).alloc (Nat.le_refl _) _).alloc (by simp) _, by simp [capL], by omega, by omega⟩
      · have h1 := heap_alloc_new w (.cells #[.pointer none, .slice none 0 0] 151)
        exact (Below.heap_alloc _ _ _ (by simp)).trans h1
      · have := World.iter_heap (w.alloc (.cells #[.pointer none, .slice none 0 0] 151)) s 0
        simpa using this
    case round =>
      obtain ⟨rfl, pos, hfr, hit, hbw, hsp, hfu, hps⟩ := hrel
      by_cases hlt : pos < s.size
      · obtain ⟨g', rfl⟩ : ∃ g', gk = g' + 1 := ⟨gk - 1, by omega⟩
        have hb8 : (s[pos]'hlt).toNat < 128 := ha _ (mem_at hlt)
        have hnx : ∀ ty, (Instr.next (.pointer (some ⟨w.heap.size + 1, 0, none⟩)) true ty).run Tryz.prog wr = _ := fun ty => Lib.run_next_ascii_at wr (w.heap.size + 1) s pos ty hit hlt hb8
        have hit2 := Lib.iterAt_heap wr (w.heap.size + 1) s pos (pos + 1) hit
        have hbw2 := Lib.below_iterAt hbw (k := w.heap.size + 1) (by omega) s (pos + 1)
        have hfr2 : (wr.iterAt (w.heap.size + 1) s (pos + 1)).heap[w.heap.size]? = _ := (Lib.iterAt_other wr (w.heap.size + 1) w.heap.size s (pos + 1) (by omega)).trans hfr
        obtain ⟨W, hWd⟩ : ∃ W, wr.iterAt (w.heap.size + 1) s (pos + 1) = W := ⟨_, rfl⟩
        rw [hWd] at hnx hit2 hbw2 hfr2
        have hdr := at_drop hlt
        have htk := at_take hlt
        have cS := capital_any W _ hb8
        have hcs := cap_cases _ hb8
        have hsm := cap_same (s[pos]'hlt)
        obtain ⟨bt, hbt⟩ : ∃ bt, s[pos]'hlt = bt := ⟨_, rfl⟩
        rw [hbt] at hb8 hnx hdr htk cS hcs hsm
        obtain ⟨x, hx⟩ : ∃ x, bt.toNat = x := ⟨_, rfl⟩
        rw [hx] at hb8 hnx cS hcs hsm
        have hx5 : ¬ ((x : Int) = 65533) := by omega
        have hx5b : ((x : Int) == 65533) = false := by simp [hx5]
        obtain ⟨M, hM⟩ : ∃ M, capZ x = M := ⟨_, rfl⟩
        rw [hM] at cS hcs hsm
        clear hit hbw hfr hWd hbt hx hM
        by_cases hc : M = (x : Int)
        · have HS : Hid (capL (s.data.toList.take (pos + 1)) = s.data.toList.take (pos + 1)) := by
            show _ = _
            rw [htk, capL_append, hsp, capL_cons, hsm hc]
            simp [capL]
          subst hc
          clear hcs hsm hdr htk hsp
          go_wp2_with fail
          refine cS.mono ?_
          rintro e W' ⟨rfl, rfl⟩
          go_wp2_with fail
          go_roundg g'
          case measure => omega
          case rel => exact ⟨rfl, pos + 1, hfr2, hit2, hbw2, HS.out, by omega, by omega⟩
        · have hcb : (M == (x : Int)) = false := by simp [hc]
          have hs2 := hbw2.size
          have GR := grow_any (B := w.heap.size) (b := w.heap.size) (n := s.size + 4) (Nat.le_refl _) hfr2 hs2 (by omega) (by omega)
          rw [show ((s.size + 4 : Nat) : Int) = (s.size : Int) + 4 from by omega] at GR
          have RL := rlen_any (x : Int) W
          rw [rlen_one hb8] at RL
          have hxt : (s.extract 0 pos).data.toList = s.data.toList.take pos := ext_take
          have hxs : (s.extract 0 pos).size = pos := by rw [Lib.size_eq, hxt, List.length_take, ← Lib.size_eq]; omega
          have hrt : (s.extract (pos + 1) s.size).data.toList = s.data.toList.drop (pos + 1) := ext_drop
          have hrs : (s.extract (pos + 1) s.size).size = s.size - (pos + 1) := by rw [Lib.size_eq, hrt, List.length_drop, ← Lib.size_eq]
          have HALL : Hid (capL s.data.toList = s.data.toList.take pos ++ capB bt ++ capL (s.data.toList.drop (pos + 1))) := by
            show _ = _
            conv => lhs; rw [← List.take_append_drop pos s.data.toList]
            rw [capL_append, hsp, hdr, capL_cons, List.append_assoc]
          have HB2 : Hid (Below w.heap.size w W) := hbw2
          have HR : Hid ((s.extract (pos + 1) s.size).data.toList = s.data.toList.drop (pos + 1) ∧ (s.extract 0 pos).data.toList = s.data.toList.take pos) := ⟨hrt, hxt⟩
          clear hsm hdr htk hsp hfr2 hit2 hbw2 hrt hxt
          rcases hcs with ⟨hM, hcB⟩ | ⟨c, hcB, hM, hc8⟩
          · subst hM
            have HC : Hid (capB bt = []) := hcB
            clear hcB
            go_wp2_with fail
            refine cS.mono ?_
            rintro e W' ⟨rfl, rfl⟩
            clear cS
            go_wp2_with fail
            refine RL.mono ?_
            rintro e W' ⟨rfl, rfl⟩
            clear RL
            go_wp2_with fail
            refine GR.mono ?_
            rintro e W4 ⟨rfl, h4, b4, p4, cap4, hc4, hcap4⟩
            clear GR
            have b4s := b4.size
            have WS := wstr_cap h4 (s.extract 0 pos) (by rw [hxs]; simp; omega) (by omega) 1 ⟨p4, 0, cap4, hc4, by omega⟩
            rw [List.nil_append, Lib.strCells_eq, HR.out.2] at WS
            have HB4 : Hid (Below w.heap.size W' W4) := b4
            clear h4 b4 hc4
            go_wp2_with fail
            refine WS.mono ?_
            rintro e W5 ⟨⟨v5, rfl⟩, h5, b5, hcap5⟩
            clear WS
            have b5s := b5.size
            have HF : Hid (Half w s (.string (s.extract (pos + 1) s.size)) W5) :=
              ⟨(HB2.out.trans HB4.out).trans b5, Or.inr ⟨_, _, rfl, by rw [HR.out.1]; exact ha.drop _, by omega, by rw [List.length_take]; exact Nat.le_trans (Nat.min_le_left _ _) (by omega), by rw [HALL.out, HC.out, HR.out.1, List.append_nil], h5, hcap5⟩⟩
            clear h5 b5 hcap5
            go_wp2_with fail
            go_meet
            exact HF.out
          · subst hM
            have HC : Hid (capB bt = [c]) := hcB
            clear hcB
            go_wp2_with fail
            refine cS.mono ?_
            rintro e W' ⟨rfl, rfl⟩
            clear cS
            go_wp2_with fail
            refine RL.mono ?_
            rintro e W' ⟨rfl, rfl⟩
            clear RL
            go_wp2_with fail
            refine GR.mono ?_
            rintro e W4 ⟨rfl, h4, b4, p4, cap4, hc4, hcap4⟩
            clear GR
            have b4s := b4.size
            have WS := wstr_cap h4 (s.extract 0 pos) (by rw [hxs]; simp; omega) (by omega) 1 ⟨p4, 0, cap4, hc4, by omega⟩
            rw [List.nil_append, Lib.strCells_eq, HR.out.2] at WS
            have HB4 : Hid (Below w.heap.size W' W4) := b4
            clear h4 b4 hc4
            go_wp2_with fail
            refine WS.mono ?_
            rintro e W5 ⟨⟨v5, rfl⟩, h5, b5, hcap5⟩
            clear WS
            have b5s := b5.size
            have WR := wrune_any h5 (c.toNat : Int) (by omega) (by omega) (by rw [Lib.byteCells_length, List.length_take]; omega) (by omega)
            have HB5 : Hid (Below w.heap.size W4 W5) := b5
            clear h5 b5 hcap5
            have hcz : ¬ ((c.toNat : Int) < 0) := by omega
            go_wp2_with fail
            refine WR.mono ?_
            rintro e W6 ⟨⟨v6, rfl⟩, h6, b6⟩
            clear WR
            have h6' : Bw w.heap.size w.heap.size (Lib.byteCells (s.data.toList.take pos ++ [c])) W6 := by
              rw [Lib.byteCells_append]
              exact h6
            have HF : Hid (Half w s (.string (s.extract (pos + 1) s.size)) W6) :=
              ⟨((HB2.out.trans HB4.out).trans HB5.out).trans b6, Or.inr ⟨_, _, rfl, by rw [HR.out.1]; exact ha.drop _, by omega, by rw [List.length_append, List.length_take]; simp only [List.length_singleton]; have := Nat.min_le_left pos s.data.toList.length; omega, by rw [HALL.out, HC.out, HR.out.1], h6', h6'.cap (by simp [Lib.byteCells])⟩⟩
            clear h6 h6' b6
            go_wp2_with fail
            go_meet
            exact HF.out
      · obtain rfl : pos = s.size := by omega
        have hnx : ∀ ty, (Instr.next (.pointer (some ⟨w.heap.size + 1, 0, none⟩)) true ty).run Tryz.prog wr = _ := fun ty => Lib.run_next_end_at wr (w.heap.size + 1) s s.size ty hit hlt
        have HF : Hid (Half w s (.string s) wr) := by
          refine ⟨hbw, Or.inl ⟨rfl, ?_, hfr⟩⟩
          rw [Lib.size_eq, List.take_length] at hsp
          exact hsp
        clear hit hbw hfr hsp
        go_wp2_with fail
        go_meet
        exact HF.out
  case rest =>
    obtain ⟨hbw, hr⟩ := hcut
    rcases hr with ⟨rfl, hsame, hfr⟩ | ⟨r, acc, rfl, har, hrs, hal, hall, hB, p, n, cap, hcp, hc1⟩
    · have c1 : wc.cell? ⟨w.heap.size, 1, none⟩ = some (.slice none 0 0) := by rw [Lib.cell_of_heap hfr]; rfl
      have CA := cap_any w.heap.size none 0 0 wc c1
      have HS : Hid (capL s.data.toList = s.data.toList) := hsame
      have HB : Hid (Below w.heap.size w wc) := hbw
      clear hsame hbw hfr c1
      go_wp2_with fail
      refine CA.mono ?_
      rintro e W' ⟨rfl, rfl⟩
      clear CA
      go_wp2_with fail
      go_ret
      refine ⟨?_, HB.out⟩
      have e : (⟨s.data.toList.toArray⟩ : ByteArray) = s := by cases s; simp
      rw [HS.out, e]
      rfl
    · have CA := cap_any w.heap.size p n cap wc hcp
      have hcz : ¬ ((cap : Int) = 0) := by omega
      have hcb : ((cap : Int) == 0) = false := by simp; omega
      have HAL : Hid (acc ++ capL r.data.toList = capL s.data.toList) := hall
      have HB : Hid (Below w.heap.size w wc ∧ Bw w.heap.size w.heap.size (Lib.byteCells acc) wc) := ⟨hbw, hB⟩
      clear hcp hall hbw hB
      go_wp2_with fail
      refine CA.mono ?_
      rintro e W' ⟨rfl, rfl⟩
      clear CA
      go_wp2_with fail
      go_loopg [] r.size (fun gk wx => ∃ (p2 : Nat) (ac : List UInt8), Bw w.heap.size w.heap.size (Lib.byteCells ac) wx ∧ wx.heap[W'.heap.size]? = some (.stringIter r p2) ∧ Below w.heap.size w wx ∧
        ac ++ capL (r.data.toList.drop p2) = capL s.data.toList ∧ r.size ≤ p2 + gk ∧ p2 ≤ r.size ∧ ac.length ≤ s.size + p2)
      case atStart =>
        refine ⟨0, acc, HB.out.2.alloc _, World.iter_heap W' r 0, HB.out.1.alloc HB.out.1.size _, by rw [List.drop_zero]; exact HAL.out, by omega, by omega, by omega⟩
      case round =>
        obtain ⟨p2, ac, hI, hit, hbw, hacc, hfu, hp2, hacl⟩ := hrel
        have hszI : W'.heap.size < wr.heap.size := (Array.getElem?_eq_some_iff.1 hit).1
        have hBI : w.heap.size < W'.heap.size := HB.out.2.lt
        by_cases hlt : p2 < r.size
        · obtain ⟨g', rfl⟩ : ∃ g', gk = g' + 1 := ⟨gk - 1, by omega⟩
          have hb8 : (r[p2]'hlt).toNat < 128 := har _ (mem_at hlt)
          have hnx : ∀ ty, (Instr.next (.pointer (some ⟨W'.heap.size, 0, none⟩)) true ty).run Tryz.prog wr = _ := fun ty => Lib.run_next_ascii_at wr W'.heap.size r p2 ty hit hlt hb8
          have hI2 := hI.iterAt hit (p2 + 1)
          have hit2 := Lib.iterAt_heap wr W'.heap.size r p2 (p2 + 1) hit
          have hbw2 := Lib.below_iterAt hbw (k := W'.heap.size) (by omega) r (p2 + 1)
          have hsz2 : w.heap.size ≤ (wr.iterAt W'.heap.size r (p2 + 1)).heap.size := by rw [Lib.iterAt_size]; omega
          obtain ⟨W, hWd⟩ : ∃ W, wr.iterAt W'.heap.size r (p2 + 1) = W := ⟨_, rfl⟩
          rw [hWd] at hnx hI2 hit2 hbw2 hsz2
          have hdr := at_drop hlt
          have cS := capital_any W _ hb8
          have hcs := cap_cases _ hb8
          obtain ⟨bt, hbt⟩ : ∃ bt, r[p2]'hlt = bt := ⟨_, rfl⟩
          rw [hbt] at hb8 hnx hdr cS hcs
          obtain ⟨x, hx⟩ : ∃ x, bt.toNat = x := ⟨_, rfl⟩
          rw [hx] at hb8 hnx cS hcs
          obtain ⟨M, hM⟩ : ∃ M, capZ x = M := ⟨_, rfl⟩
          rw [hM] at cS hcs
          have HAC : Hid (ac ++ capB bt ++ capL (r.data.toList.drop (p2 + 1)) = capL s.data.toList) := by
            show _ = _
            rw [← hacc, hdr, capL_cons, List.append_assoc]
          have HIT : Hid (W.heap[W'.heap.size]? = some (.stringIter r (p2 + 1)) ∧ Below w.heap.size w W) := ⟨hit2, hbw2⟩
          clear hit hbw hI hWd hacc hdr hbt hx hM hit2 hbw2
          rcases hcs with ⟨hM, hcB⟩ | ⟨c, hcB, hM, hc8⟩
          · subst hM
            have HC : Hid (capB bt = []) := hcB
            have HI : Hid (Bw w.heap.size w.heap.size (Lib.byteCells ac) W) := hI2
            clear hcB hI2
            go_wp2_with fail
            refine cS.mono ?_
            rintro e W2 ⟨rfl, rfl⟩
            clear cS
            go_wp2_with fail
            go_roundg g'
            case measure => omega
            case rel => exact ⟨p2 + 1, ac, HI.out, HIT.out.1, HIT.out.2, by have := HAC.out; rwa [HC.out, List.append_nil] at this, by omega, by omega, by omega⟩
          · subst hM
            have HC : Hid (capB bt = [c]) := hcB
            have WB := wbyte_any hI2 (c.toNat : Int) (by rw [Lib.byteCells_length]; omega) hsz2
            have hcz : ¬ ((c.toNat : Int) < 0) := by omega
            have hc9 : (c.toNat : Int) < 128 := by omega
            clear hcB hI2
            go_wp2_with fail
            refine cS.mono ?_
            rintro e W2 ⟨rfl, rfl⟩
            clear cS
            go_wp2_with fail
            refine WB.mono ?_
            rintro e W3 ⟨rfl, h3, b3, k3⟩
            clear WB
            have HI : Hid (Bw w.heap.size w.heap.size (Lib.byteCells (ac ++ [c])) W3 ∧ Below w.heap.size W2 W3 ∧ W3.heap[W'.heap.size]? = some (.stringIter r (p2 + 1))) := ⟨by rw [Lib.byteCells_append]; exact h3, b3, k3.iter HIT.out.1 (by omega)⟩
            clear h3 b3 k3
            go_wp2_with fail
            go_roundg g'
            case measure => omega
            case rel => exact ⟨p2 + 1, ac ++ [c], HI.out.1, HI.out.2.2, HIT.out.2.trans HI.out.2.1, by have := HAC.out; rwa [HC.out] at this, by omega, by omega, by rw [List.length_append]; simp only [List.length_singleton]; omega⟩
        · obtain rfl : p2 = r.size := by omega
          have hnx : ∀ ty, (Instr.next (.pointer (some ⟨W'.heap.size, 0, none⟩)) true ty).run Tryz.prog wr = _ := fun ty => Lib.run_next_end_at wr W'.heap.size r r.size ty hit hlt
          have ST := str_any (Or.inr hI) hbw.size
          have HS : Hid (ac = capL s.data.toList ∧ Below w.heap.size w wr) := by
            refine ⟨?_, hbw⟩
            have := hacc
            rw [Lib.size_eq, List.drop_length] at this
            simpa [capL] using this
          clear hI hit hbw hacc
          go_wp2_with fail
          refine ST.mono ?_
          rintro e W8 ⟨rfl, b8⟩
          clear ST
          go_wp2_with fail
          go_ret
          refine ⟨?_, HS.out.2.trans b8⟩
          rw [HS.out.1]
          rfl
end Go.Proofs.YtcabaecbmkgclaaGreatDoor.Cp

namespace Go.Proofs.YtcabaecbmkgclaaGreatDoor.Bz

structure Atm where
  el : ByteArray
  aro : Bool
  ch : Int
  hy : Int
  pl : Nat
  br : Bool

structure Bnd where
  a : Nat
  b : Nat
  o : Int
  pl : Nat

structure Hung where
  mark : Int
  spot : Int
  atom : Int

structure Opn where
  hung : Hung
  place : Nat

structure St where
  pos : Nat
  atoms : List Atm
  bonds : List Bnd
  rings : Nat → Option Opn

abbrev R (α : Type) := Except (Int × Int) α

def byteAt (s : ByteArray) (i : Nat) : Int := if h : i < s.size then (s[i].toNat : Int) else 0

theorem byteAt_lt (s : ByteArray) (i : Nat) (h : i < s.size) : byteAt s i = (s[i].toNat : Int) := by simp [byteAt, h]
theorem byteAt_ge (s : ByteArray) (i : Nat) (h : ¬ i < s.size) : byteAt s i = 0 := by simp [byteAt, h]
theorem byteAt_nonneg (s : ByteArray) (i : Nat) : 0 ≤ byteAt s i := by unfold byteAt; split <;> omega
theorem byteAt_le (s : ByteArray) (i : Nat) : byteAt s i ≤ 255 := by
  unfold byteAt; split
  · rename_i h; have := s[i].toNat_lt; omega
  · omega
theorem lt_of_byteAt {s : ByteArray} {i : Nat} (h : byteAt s i ≠ 0) : i < s.size := by
  unfold byteAt at h; split at h
  · assumption
  · exact absurd rfl h

def isSign (c : Int) : Bool := c == 45 || c == 61 || c == 35 || c == 58
def isDigit (c : Int) : Bool := decide (48 ≤ c) && decide (c ≤ 57)
def startsRing (c : Int) : Bool := c == 37 || isDigit c

def one (c : Int) : ByteArray := ⟨#[c.toNat.toUInt8]⟩

/-- The element that is written at a place: its name, whether it is in small letters, its length. -/
def element (s : ByteArray) (i : Nat) : Option (ByteArray × Bool × Nat) :=
  let c := byteAt s i
  if c = 67 ∧ byteAt s (i + 1) = 108 then some (⟨#[67, 108]⟩, false, 2)
  else if c = 66 ∧ byteAt s (i + 1) = 114 then some (⟨#[66, 114]⟩, false, 2)
  else if c = 67 ∨ c = 66 ∨ c = 78 ∨ c = 79 ∨ c = 80 ∨ c = 83 ∨ c = 70 ∨ c = 73 then some (one c, false, 1)
  else if c = 99 ∨ c = 110 ∨ c = 111 ∨ c = 112 ∨ c = 115 then some (one (c - 32), true, 1)
  else none

/-- What follows the name in brackets: the charge, the hydrogens, the place behind. -/
def hydro (s : ByteArray) (i : Nat) : Int × Nat :=
  if byteAt s i = 72 then (if 49 ≤ byteAt s (i + 1) ∧ byteAt s (i + 1) ≤ 52 then (byteAt s (i + 1) - 48, i + 2) else (1, i + 1)) else (0, i)
def charge (s : ByteArray) (i : Nat) : Int × Nat :=
  if byteAt s i = 43 then (1, i + 1) else if byteAt s i = 45 then (-1, i + 1) else (0, i)
def bracket (s : ByteArray) (i : Nat) : R (Int × Int × Nat) :=
  let h := hydro s i
  let c := charge s h.2
  if byteAt s c.2 = 93 then .ok (c.1, h.1, c.2 + 1) else .error (2, c.2)

def aro (p : St) (a : Int) : Bool := match p.atoms[a.toNat]? with
  | some x => x.aro
  | none => false
def order (p : St) (mark a b : Int) : Int :=
  if mark = 45 then 1 else if mark = 61 then 2 else if mark = 35 then 3 else if mark = 58 then 4 else if aro p a && aro p b then 4 else 1
def bonded (l : List Bnd) (a b : Nat) : Bool := l.any fun x => (x.a == a && x.b == b) || (x.a == b && x.b == a)
def bind (p : St) (a b : Nat) (o : Int) (pl : Nat) : St := { p with bonds := p.bonds ++ [⟨min a b, max a b, o, pl⟩] }

def full (p : St) : Bool := p.atoms.length == 24

def atom (s : ByteArray) (h : Hung) (p : St) : R (Nat × St) :=
  let br := byteAt s p.pos == 91
  let i := if br then p.pos + 1 else p.pos
  match element s i with
  | none => if br && full p then .error (5, p.pos) else .error (2, i)
  | some (el, ar, n) =>
    if h.mark = 58 ∧ ar = false then .error (3, h.spot)
    else if full p then .error (5, p.pos)
    else
      match (if br then bracket s (i + n) else .ok (0, 0, i + n)) with
      | .error e => .error e
      | .ok (ch, hy, j) =>
        let q : St := { p with pos := j, atoms := p.atoms ++ [⟨el, ar, ch, hy, p.pos, br⟩] }
        let k := p.atoms.length
        .ok (k, if h.atom = -1 then q else bind q h.atom.toNat k (order q h.mark h.atom k) p.pos)

def bondEnd (s : ByteArray) (a : Nat) (p : St) : R (Hung × St) :=
  let c := byteAt s p.pos
  if isSign c then
    if c = 58 ∧ aro p a = false then .error (3, p.pos) else .ok (⟨c, p.pos, a⟩, { p with pos := p.pos + 1 })
  else .ok (⟨0, 0, a⟩, p)

def link (s : ByteArray) (a : Nat) (p : St) : R (Hung × St) :=
  if byteAt s p.pos = 46 then .ok (⟨0, 0, -1⟩, { p with pos := p.pos + 1 }) else bondEnd s a p

def ringAhead (s : ByteArray) (p : St) : Bool :=
  if isSign (byteAt s p.pos) then startsRing (byteAt s (p.pos + 1)) else startsRing (byteAt s p.pos)

def ringNumber (s : ByteArray) (i : Nat) : R (Nat × Nat) :=
  if byteAt s i = 37 then
    if isDigit (byteAt s (i + 1)) then
      if isDigit (byteAt s (i + 2)) then .ok ((10 * (byteAt s (i + 1) - 48) + (byteAt s (i + 2) - 48)).toNat, i + 3) else .error (2, i + 2)
    else .error (2, i + 1)
  else if isDigit (byteAt s i) then .ok ((byteAt s i - 48).toNat, i + 1) else .error (2, i)

def clash (a b : Int) : Bool := a != 0 && b != 0 && a != b
def given (a b : Int) : Int := if a = 0 then b else a

def setRing (f : Nat → Option Opn) (n : Nat) (o : Option Opn) : Nat → Option Opn := fun k => if k = n then o else f k

def closeRing (first last : Hung) (place : Nat) (p : St) : R St :=
  let mixed := !(aro p first.atom && aro p last.atom)
  if last.mark = 58 ∧ mixed = true then .error (3, last.spot)
  else if first.mark = 58 ∧ last.mark = 0 ∧ mixed = true then .error (3, place)
  else if first.atom = last.atom ∨ bonded p.bonds first.atom.toNat last.atom.toNat = true ∨ clash first.mark last.mark = true then .error (4, place)
  else .ok (bind p first.atom.toNat last.atom.toNat (order p (given first.mark last.mark) first.atom last.atom) place)

def ring (s : ByteArray) (a : Nat) (p : St) : R St :=
  match bondEnd s a p with
  | .error e => .error e
  | .ok (e, p) =>
    match ringNumber s p.pos with
    | .error e => .error e
    | .ok (n, j) =>
      match p.rings n with
      | none => .ok { p with pos := j, rings := setRing p.rings n (some ⟨e, p.pos⟩) }
      | some o => closeRing o.hung e p.pos { p with pos := j, rings := setRing p.rings n none }

/-- Ring numbers of an atom, as many as there are (n: more than there can be). -/
def ringsOf (s : ByteArray) (a : Nat) : Nat → St → R St
  | 0, p => .ok p
  | n + 1, p => if ringAhead s p then
      match ring s a p with
      | .error e => .error e
      | .ok p => ringsOf s a n p
    else .ok p

def branch (s : ByteArray) (chain : Hung → St → R St) (a : Nat) (p : St) : R St :=
  match link s a p with
  | .error e => .error e
  | .ok (h, p) =>
    match chain h p with
    | .error e => .error e
    | .ok p => if byteAt s p.pos = 41 then .ok { p with pos := p.pos + 1 } else .error (2, p.pos)

def branches (s : ByteArray) (chain : Hung → St → R St) (a : Nat) : Nat → St → R St
  | 0, p => .ok p
  | n + 1, p => if byteAt s p.pos = 40 then
      match branch s chain a { p with pos := p.pos + 1 } with
      | .error e => .error e
      | .ok p => branches s chain a n p
    else .ok p

def knot (s : ByteArray) (chain : Hung → St → R St) (h : Hung) (p : St) : R (Nat × St) :=
  match atom s h p with
  | .error e => .error e
  | .ok (a, p) =>
    match ringsOf s a (s.size + 1) p with
    | .error e => .error e
    | .ok p =>
      match branches s chain a (s.size + 1) p with
      | .error e => .error e
      | .ok p => .ok (a, p)

def linkedKnot (s : ByteArray) (chain : Hung → St → R St) (a : Nat) (p : St) : R (Nat × St) :=
  match link s a p with
  | .error e => .error e
  | .ok (h, p) => knot s chain h p

def linked (s : ByteArray) (chain : Hung → St → R St) : Nat → Nat → St → R St
  | 0, _, p => .ok p
  | n + 1, a, p => if p.pos < s.size ∧ byteAt s p.pos ≠ 41 then
      match linkedKnot s chain a p with
      | .error e => .error e
      | .ok (a, p) => linked s chain n a p
    else .ok p

/-- A chain (n: deeper than brackets can nest). -/
def chain (s : ByteArray) : Nat → Hung → St → R St
  | 0, _, _ => .error (0, 0)
  | n + 1, h, p =>
    match knot s (chain s n) h p with
    | .error e => .error e
    | .ok (a, p) => linked s (chain s n) (s.size + 1) a p

def openPlace (f : Nat → Option Opn) (n : Nat) : Option Nat := (f n).map Opn.place

/-- The leftmost place of the first n ring numbers that is open, d if there is none. -/
def leftmost (f : Nat → Option Opn) (d : Nat) : Nat → Nat
  | 0 => d
  | n + 1 => match f n with
    | some o => min (leftmost f d n) o.place
    | none => leftmost f d n

def valences (el : ByteArray) (ch : Int) : List Int :=
  let pick (none plus minus : List Int) : List Int := if ch > 0 then plus else if ch < 0 then minus else none
  if el = ⟨#[66]⟩ then pick [3] [] [4]
  else if el = ⟨#[67]⟩ then pick [4] [3] [3]
  else if el = ⟨#[78]⟩ ∨ el = ⟨#[80]⟩ then pick [3, 5] [4] [2]
  else if el = ⟨#[79]⟩ then pick [2] [3] [1]
  else if el = ⟨#[83]⟩ then pick [2, 4, 6] [3, 5] [1]
  else pick [1] [2] [0]

def sum (l : List Bnd) (a : Nat) : Int :=
  (l.map fun b => if b.a = a ∨ b.b = a then (if b.o = 4 then 1 else b.o) else 0).sum

def missing (l : List Int) (n : Int) : Int := match l.find? (fun v => decide (n ≤ v)) with
  | some v => v - n
  | none => 0

def implied (a : Atm) (n : Int) : Int :=
  if a.aro then (if a.el = ⟨#[67]⟩ then max (3 - n) 0 else 0) else missing (valences a.el a.ch) n

def withHydrogens (l : List Bnd) (i : Nat) (a : Atm) : Atm := if a.br then a else { a with hy := implied a (sum l i) }

def wrong (l : List Bnd) (i : Nat) (a : Atm) : Bool :=
  let n := sum l i + a.hy
  if a.aro then (match (valences a.el a.ch).head? with
    | some v => !(n == v - 1) && !(n == v)
    | none => true)
  else !((valences a.el a.ch).contains n)

/-- The first atom from i on whose valence is wrong. -/
def firstWrong (l : List Bnd) : Nat → List Atm → Option Atm
  | _, [] => none
  | i, a :: r => if wrong l i a then some a else firstWrong l (i + 1) r

def start : St := ⟨0, [], [], fun _ => none⟩

/-- A text's molecule, or what is wrong in it, and where. -/
def parse (s : ByteArray) : R (List Atm × List Bnd) :=
  if s.size > 160 then .error (1, 0)
  else match chain s (s.size + 1) ⟨0, 0, -1⟩ start with
  | .error e => .error e
  | .ok p =>
    if p.pos < s.size then .error (2, p.pos)
    else if leftmost p.rings s.size 100 < s.size then .error (4, leftmost p.rings s.size 100)
    else
      let l := p.atoms.mapIdx (withHydrogens p.bonds)
      match firstWrong p.bonds 0 l with
      | some a => .error (6, a.pl)
      | none => .ok (l, p.bonds)

end Go.Proofs.YtcabaecbmkgclaaGreatDoor.Bz

namespace Go.Proofs.YtcabaecbmkgclaaGreatDoor
open Go.RowKit Bz

def atmCells (a : Atm) : List Value := [.string a.el, .bool a.aro, .int .i64 a.ch, .int .i64 a.hy, .int .i64 a.pl, .bool a.br]
def bndCells (b : Bnd) : List Value := [.int .i64 b.a, .int .i64 b.b, .int .i64 b.o]
def pbCells (b : Bnd) : List Value := [.int .i64 b.a, .int .i64 b.b, .int .i64 b.o, .int .i64 b.pl]
def opnCells : Option Opn → List Value
  | none => [.int .u8 0, .int .i64 0, .int .i64 0, .int .i64 0, .bool false]
  | some o => [.int .u8 o.hung.mark, .int .i64 o.hung.spot, .int .i64 o.hung.atom, .int .i64 o.place, .bool true]

theorem opnCells_length (o : Option Opn) : (opnCells o).length = 5 := by cases o <;> rfl

/-- Block k is the reader's own: its block, or the row of one of its lists. -/
def Mine (w : World) (B k : Nat) : Prop :=
  k = B ∨ (∃ v, w.cell? ⟨B, 26, none⟩ = some v ∧ v.ownBlock = some k) ∨ (∃ v, w.cell? ⟨B, 27, none⟩ = some v ∧ v.ownBlock = some k)

structure Rd (w : World) (B : Nat) (s : ByteArray) (p : St) : Prop where
  text : w.cell? ⟨B, 0, none⟩ = some (.string s)
  pos : w.cell? ⟨B, 1, none⟩ = some (.int .i64 p.pos)
  near : ∀ k, k < 24 → ∃ m : Nat, w.cell? ⟨B, 2 + k, none⟩ = some (.int .u32 m) ∧ m < 4294967296 ∧ ∀ j, j < 24 → m.testBit j = bonded p.bonds k j
  atoms : ∃ v, w.cell? ⟨B, 26, none⟩ = some v ∧ w.ownsRow (B + 1) 124 6 v p.atoms.length (p.atoms.flatMap atmCells)
  bonds : ∃ v, w.cell? ⟨B, 27, none⟩ = some v ∧ w.ownsRow (B + 1) 102 4 v p.bonds.length (p.bonds.flatMap pbCells)
  err : ∃ v, w.cell? ⟨B, 28, none⟩ = some v
  plc : ∃ v, w.cell? ⟨B, 29, none⟩ = some v
  rings : ∀ n j v, n < 100 → (opnCells (p.rings n))[j]? = some v → w.cell? ⟨B, 30 + n * 5 + j, none⟩ = some v
  free : ∀ i, w.frozen? ⟨B, i, none⟩ = false

theorem Rd.lt {w : World} {B : Nat} {s : ByteArray} {p : St} (h : Rd w B s p) : B < w.heap.size := World.block_lt_of_cell? w ⟨B, 0, none⟩ h.text

theorem Rd.mine {w : World} {B : Nat} {s : ByteArray} {p : St} (h : Rd w B s p) {k : Nat} (hk : Mine w B k) : B ≤ k ∧ k < w.heap.size := by
  rcases hk with rfl | ⟨v, hv, hk⟩ | ⟨v, hv, hk⟩
  · exact ⟨Nat.le_refl _, h.lt⟩
  · obtain ⟨v', hv', ho⟩ := h.atoms
    rw [hv] at hv'; cases hv'
    have := ho.lt k hk
    omega
  · obtain ⟨v', hv', ho⟩ := h.bonds
    rw [hv] at hv'; cases hv'
    have := ho.lt k hk
    omega

theorem Mine.same {w w' : World} {B k : Nat} (hB : w'.heap[B]? = w.heap[B]?) : Mine w' B k ↔ Mine w B k := by
  have h1 : w'.cell? ⟨B, 26, none⟩ = w.cell? ⟨B, 26, none⟩ := World.cell?_of_block (w := w) hB
  have h2 : w'.cell? ⟨B, 27, none⟩ = w.cell? ⟨B, 27, none⟩ := World.cell?_of_block (w := w) hB
  unfold Mine
  rw [h1, h2]

theorem ownsRow_same {w w' : World} {base : Nat} {e : TypeId} {size : Nat} {v : Value} {n : Nat} {xs : List Value} (h : w.ownsRow base e size v n xs)
    (hs : ∀ k, v.ownBlock = some k → w'.heap[k]? = w.heap[k]?) : w'.ownsRow base e size v n xs := by
  refine ⟨h.1, ?_⟩
  rcases h.2 with hn | ⟨g, cap, cur, rfl, hb, hg, r⟩
  · exact .inl hn
  · exact .inr ⟨g, cap, cur, rfl, hb, by rw [hs g rfl]; exact hg, r⟩

/-- What is the reader's own is as it was: so the reader stands as it stood. -/
theorem Rd.same {w w' : World} {B : Nat} {s : ByteArray} {p : St} (h : Rd w B s p) (hs : ∀ k, Mine w B k → w'.heap[k]? = w.heap[k]?) : Rd w' B s p := by
  have hB := hs B (.inl rfl)
  have hc : ∀ i, w'.cell? ⟨B, i, none⟩ = w.cell? ⟨B, i, none⟩ := fun i => World.cell?_of_block (w := w) hB
  have hf : ∀ i, w'.frozen? ⟨B, i, none⟩ = w.frozen? ⟨B, i, none⟩ := fun i => World.frozen?_of_block (w := w) hB
  obtain ⟨va, ha, oa⟩ := h.atoms
  obtain ⟨vb, hb, ob⟩ := h.bonds
  exact ⟨by rw [hc]; exact h.text, by rw [hc]; exact h.pos, fun k hk => by rw [hc]; exact h.near k hk,
    ⟨va, by rw [hc]; exact ha, ownsRow_same oa fun k hk => hs k (.inr (.inl ⟨va, ha, hk⟩))⟩,
    ⟨vb, by rw [hc]; exact hb, ownsRow_same ob fun k hk => hs k (.inr (.inr ⟨vb, hb, hk⟩))⟩,
    by rw [hc]; exact h.err, by rw [hc]; exact h.plc, fun n j v hn hv => by rw [hc]; exact h.rings n j v hn hv, fun i => by rw [hf]; exact h.free i⟩

/-- What a call of the reader's may have turned: the reader's own blocks, and new ones. -/
structure Fr (B : Nat) (w w' : World) : Prop where
  os : w'.os = w.os
  tape : w'.tape = w.tape
  output : w'.output = w.output
  size : w.heap.size ≤ w'.heap.size
  block : ∀ k, k < w.heap.size → ¬ Mine w B k → w'.heap[k]? = w.heap[k]?
  mine : ∀ k, k < w.heap.size → Mine w' B k → Mine w B k

theorem Fr.refl (B : Nat) (w : World) : Fr B w w := ⟨rfl, rfl, rfl, Nat.le_refl _, fun _ _ _ => rfl, fun _ _ h => h⟩

theorem Fr.trans {B : Nat} {a b c : World} (h : Fr B a b) (k : Fr B b c) : Fr B a c :=
  ⟨k.os.trans h.os, k.tape.trans h.tape, k.output.trans h.output, Nat.le_trans h.size k.size,
    fun i hi hm => (k.block i (Nat.lt_of_lt_of_le hi h.size) (fun e => hm (h.mine i hi e))).trans (h.block i hi hm),
    fun i hi hm => h.mine i hi (k.mine i (Nat.lt_of_lt_of_le hi h.size) hm)⟩

theorem Fr.drewN {B : Nat} {a w : World} (h : Fr B a w) (n : Nat) : Fr B a (w.drewN n) := h.trans ⟨rfl, rfl, rfl, Nat.le_refl _, fun _ _ _ => rfl, fun _ _ h => h⟩
theorem Fr.drew {B : Nat} {a w : World} (h : Fr B a w) : Fr B a w.drew := h.trans ⟨rfl, rfl, rfl, Nat.le_refl _, fun _ _ _ => rfl, fun _ _ h => h⟩

theorem heap_alloc_lt (w : World) (o : Obj) (k : Nat) (h : k < w.heap.size) : (w.alloc o).heap[k]? = w.heap[k]? := Below.heap_alloc w o k h

theorem Fr.alloc {B : Nat} {a w : World} (h : Fr B a w) (hB : B < w.heap.size) (o : Obj) : Fr B a (w.alloc o) :=
  h.trans ⟨rfl, rfl, rfl, by simp, fun k hk _ => heap_alloc_lt w o k hk, fun k _ hm => (Mine.same (heap_alloc_lt w o B hB)).1 hm⟩

/-- A store into a block that is not the reader's own, or into one of its own cells that hold no list. -/
theorem Fr.setCell {B : Nat} {a w : World} (h : Fr B a w) {q : Addr} (hq : q.block = B ∨ a.heap.size ≤ q.block) (h6 : q.block = B → q.off ≠ 26 ∧ q.off ≠ 27) (u : Value) : Fr B a (w.setCell q u) := by
  have hm : ∀ k, Mine (w.setCell q u) B k → Mine w B k := by
    intro k hk
    have e : ∀ i, (i = 26 ∨ i = 27) → (w.setCell q u).cell? ⟨B, i, none⟩ = w.cell? ⟨B, i, none⟩ := by
      intro i hi
      refine World.cell?_setCell_other w q ⟨B, i, none⟩ u ?_
      intro e
      have e1 := congrArg Addr.block e
      have e2 := congrArg Addr.off e
      simp only at e1 e2
      have := h6 e1
      omega
    unfold Mine at hk ⊢
    rw [e 26 (.inl rfl), e 27 (.inr rfl)] at hk
    exact hk
  refine ⟨h.os, h.tape, h.output, by simpa using h.size, fun k hk hn => ?_, fun k hk hk' => h.mine k hk (hm k hk')⟩
  rw [Below.heap_setCell w q u k ?_]
  · exact h.block k hk hn
  · rintro rfl
    rcases hq with hq | hq
    · exact hn (.inl hq)
    · omega

theorem Fr.cell {B : Nat} {w w' : World} (h : Fr B w w') {b : Nat} (hb : b < w.heap.size) (hm : ¬ Mine w B b) (i : Nat) : w'.cell? ⟨b, i, none⟩ = w.cell? ⟨b, i, none⟩ :=
  World.cell?_of_block (w := w) (h.block b hb hm)
theorem Fr.frozen {B : Nat} {w w' : World} (h : Fr B w w') {b : Nat} (hb : b < w.heap.size) (hm : ¬ Mine w B b) (i : Nat) : w'.frozen? ⟨b, i, none⟩ = w.frozen? ⟨b, i, none⟩ :=
  World.frozen?_of_block (w := w) (h.block b hb hm)

/-- A block that was laid when the reader was there already is not the reader's. -/
theorem Rd.notMine {w : World} {B : Nat} {s : ByteArray} {p : St} (h : Rd w B s p) (o : Obj) : ¬ Mine (w.alloc o) B w.heap.size := fun hm =>
  Nat.lt_irrefl _ (h.mine ((Mine.same (heap_alloc_lt w o B h.lt)).1 hm)).2

theorem Rd.drewN {w : World} {B : Nat} {s : ByteArray} {p : St} (h : Rd w B s p) (n : Nat) : Rd (w.drewN n) B s p := h.same fun _ _ => rfl
theorem Rd.drew {w : World} {B : Nat} {s : ByteArray} {p : St} (h : Rd w B s p) : Rd w.drew B s p := h.same fun _ _ => rfl
theorem Rd.alloc {w : World} {B : Nat} {s : ByteArray} {p : St} (h : Rd w B s p) (o : Obj) : Rd (w.alloc o) B s p := h.same fun k hk => heap_alloc_lt w o k (h.mine hk).2
theorem Rd.setOther {w : World} {B : Nat} {s : ByteArray} {p : St} (h : Rd w B s p) {q : Addr} (hq : ¬ Mine w B q.block) (u : Value) : Rd (w.setCell q u) B s p :=
  h.same fun k hk => Below.heap_setCell w q u k (by rintro rfl; exact hq hk)

theorem cell_set_ne {w : World} {B i j : Nat} (h : i ≠ j) (u : Value) : (w.setCell ⟨B, i, none⟩ u).cell? ⟨B, j, none⟩ = w.cell? ⟨B, j, none⟩ :=
  World.cell?_setCell_other w _ _ u (fun e => h (by simpa using congrArg Addr.off e))

theorem ownsRow_setB {w : World} {B : Nat} {e : TypeId} {size : Nat} {v : Value} {n : Nat} {xs : List Value} (h : w.ownsRow (B + 1) e size v n xs) (i : Nat) (u : Value) :
    (w.setCell ⟨B, i, none⟩ u).ownsRow (B + 1) e size v n xs := ownsRow_setCell_below h (by simp) u

theorem Rd.setPos {w : World} {B : Nat} {s : ByteArray} {p : St} (h : Rd w B s p) (n : Nat) (u : Value) (hu : u = .int .i64 n) : Rd (w.setCell ⟨B, 1, none⟩ u) B s { p with pos := n } := by
  subst hu
  obtain ⟨va, ha, oa⟩ := h.atoms
  obtain ⟨vb, hb, ob⟩ := h.bonds
  exact ⟨by rw [cell_set_ne (by omega)]; exact h.text, World.cell?_setCell_same w _ _ h.pos, fun k hk => by rw [cell_set_ne (by omega)]; exact h.near k hk,
    ⟨va, by rw [cell_set_ne (by omega)]; exact ha, ownsRow_setB oa _ _⟩, ⟨vb, by rw [cell_set_ne (by omega)]; exact hb, ownsRow_setB ob _ _⟩,
    by rw [cell_set_ne (by omega)]; exact h.err, by rw [cell_set_ne (by omega)]; exact h.plc, fun n j v hn hv => by rw [cell_set_ne (by omega)]; exact h.rings n j v hn hv,
    fun i => by rw [World.frozen?_setCell]; exact h.free i⟩

theorem Fr.setPos {B : Nat} {a w : World} (h : Fr B a w) (u : Value) : Fr B a (w.setCell ⟨B, 1, none⟩ u) := h.setCell (.inl rfl) (fun _ => ⟨by simp, by simp⟩) u

/-- Something is wrong: the reader says what, and where. -/
structure Wrong (w : World) (B : Nat) (e : Int × Int) : Prop where
  err : w.cell? ⟨B, 28, none⟩ = some (.int .i64 e.1)
  plc : w.cell? ⟨B, 29, none⟩ = some (.int .i64 e.2)

theorem Wrong.drewN {w : World} {B : Nat} {e : Int × Int} (h : Wrong w B e) (n : Nat) : Wrong (w.drewN n) B e := ⟨h.err, h.plc⟩

end Go.Proofs.YtcabaecbmkgclaaGreatDoor
