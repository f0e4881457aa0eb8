/-
  What the library's strings.Builder does here.
  The library's contract for (*strings.Builder).String, laid at this program.
  The library's contracts for (*strings.Builder).grow, utf8.AppendRune, utf8.RuneLen, (*strings.Builder).Cap, laid at this program.
  (*strings.Builder).WriteByte, WriteRune (of a sign below 128), Grow.
  writer.capital; a text in capitals.
  WriteString: the room that was there stays.
  strings.Map(capital, ..) of signs below 128.
-/
import Derived.Below
import Derived.Deep.CutBlock
import Derived.Deep.CutRange
import Derived.Deep.LoopGhost
import Derived.Ground.NamesProg
import Derived.Shelf.Strings.BuilderK
import Derived.Shelf.Strings.MapGrows
import Derived.Test.YtcabaecbmkgclaaGreatDoorRows
import Derived.WalkKit
import Derived.WalkMore
namespace Go.Proofs.YtcabaecbmkgclaaGreatDoor.Bu
open Go.RowKit
theorem Tryz.sizeBuilder : (Tryz.prog.info? 151).map (·.size) = some 2 := by kernel_rfl
theorem Tryz.liesBuilder : liesAt Tryz.prog Tryz.prog.depth 151 (2 / Tryz.prog.cellsOf 151) 0 151 1 = true := by kernel_rfl
theorem Tryz.infoByte : (Tryz.prog.info? 5).map (fun i => (i.zero, i.size, i.bytes)) = some (some (.int .u8 0), 1, 1) := by kernel_rfl

abbrev Bd (B b : Nat) (bs : List Value) (w : World) : Prop := Lib.IsBuilderF 151 5 B b bs w

set_option maxRecDepth 100000 in
set_option maxHeartbeats 1000000 in
theorem copy_fresh (b : Nat) (w : World) (h0 : w.cell? ⟨b, 0, none⟩ = some (.pointer none)) (hsh : w.shape? b = some (151, 2)) (hfz : w.frozen? ⟨b, 0, none⟩ = false) :
    Calls Tryz.prog 89 #[.pointer (some ⟨b, 0, none⟩)] w fun e w' => e = .returned (.tuple #[]) ∧ w' = w.setCell ⟨b, 0, none⟩ (.pointer (some ⟨b, 0, none⟩)) := by
  obtain ⟨j, hj, hjs⟩ := Option.map_eq_some_iff.1 Tryz.sizeBuilder
  have k1 := Lib.run_to_unsafe (P := Tryz.prog) w ⟨b, 0, none⟩ Tryz.underlying148 Tryz.underlying197 hj (by rw [hjs]; decide) hsh (Nat.zero_lt_succ 1)
  have k2 := Lib.run_from_unsafe (P := Tryz.prog) w ⟨b, 0, none⟩ Tryz.underlying197 Tryz.underlying148 hj hsh Tryz.liesBuilder
  have k3 : (callFunc 114 #[.pointer (some ⟨b, 0, none⟩)]).run Tryz.prog w = .ok (.value (.pointer (some ⟨b, 0, none⟩))) w := by
    rw [run_callFunc_extern Tryz.func114 (by kernel_rfl) (by kernel_rfl) (by kernel_rfl) (e := Extern.AbiNoEscape.same) (by kernel_rfl), Lib.run_noEscape]
    rfl
  clear hj hjs
  go_enter Tryz.func89, Tryz.ntmps89
  go_wp2_with fail
  go_end0
  exact ⟨rfl, rfl⟩

set_option maxRecDepth 100000 in
set_option maxHeartbeats 1000000 in
theorem copy_used (b : Nat) (w : World) (h0 : w.cell? ⟨b, 0, none⟩ = some (.pointer (some ⟨b, 0, none⟩))) (_hsh : w.shape? b = some (151, 2)) :
    Calls Tryz.prog 89 #[.pointer (some ⟨b, 0, none⟩)] w fun e w' => e = .returned (.tuple #[]) ∧ w' = w := by
  obtain ⟨j, hj, hjs⟩ := Option.map_eq_some_iff.1 Tryz.sizeBuilder
  have kp := Lib.run_neq_ptr_same (P := Tryz.prog) w ⟨b, 0, none⟩ Tryz.underlying148 hj
  clear hj hjs
  go_enter Tryz.func89, Tryz.ntmps89
  go_wp2_with fail
  go_end0
  exact ⟨rfl, rfl⟩

/-- A builder that has been written to. -/
abbrev Bw (B b : Nat) (bs : List Value) (w : World) : Prop := Lib.BuilderAtF 151 5 B b (.pointer (some ⟨b, 0, none⟩)) bs w

theorem copy_any {B b : Nat} {bs : List Value} {w : World} (h : Bd B b bs w) : Calls Tryz.prog 89 #[.pointer (some ⟨b, 0, none⟩)] w fun e w' => e = .returned (.tuple #[]) ∧ Bw B b bs w' ∧ Below B w w' ∧ Lib.OthersKept 5 (some b) w w' := by
  rcases h with h | h
  · refine (copy_fresh b w h.cell0 h.shape h.frozen0).mono ?_
    rintro e w' ⟨rfl, rfl⟩
    exact ⟨rfl, h.used _, (Below.refl B w).setCell (p := ⟨b, 0, none⟩) h.1 _, (Lib.OthersKept.refl _ _ w).setCell ⟨b, 0, none⟩ rfl _⟩
  · refine (copy_used b w h.cell0 h.shape).mono ?_
    rintro e w' ⟨rfl, rfl⟩
    exact ⟨rfl, h, Below.refl B _, Lib.OthersKept.refl _ _ _⟩

theorem Bw.cells {B b : Nat} {bs : List Value} {w : World} (h : Bw B b bs w) : ∃ ao cap, w.cell? ⟨b, 1, none⟩ = some (.slice ao bs.length cap) ∧ w.ownsRowF B 5 1 (.slice ao bs.length cap) bs.length bs ∧ (Value.slice ao bs.length cap).ownBlock ≠ some b ∧ B ≤ b ∧ b < w.heap.size ∧ w.heap[b]? = some (.cells #[.pointer (some ⟨b, 0, none⟩), .slice ao bs.length cap] 151 (0, 0)) := by
  have hl := h.lt
  obtain ⟨hB, v, hb, ho, hne⟩ := h
  obtain ⟨ao, cap, rfl⟩ : ∃ ao cap, v = .slice ao bs.length cap := by
    rcases ho.2 with ⟨rfl, h0⟩ | ⟨g, cap, cur, fz, rfl, _⟩
    · exact ⟨none, 0, by rw [h0]⟩
    · exact ⟨_, cap, rfl⟩
  exact ⟨ao, cap, by rw [Lib.cell_of_heap hb]; rfl, ho, hne, hB, hl, hb⟩

set_option maxRecDepth 100000 in
set_option maxHeartbeats 2000000 in
theorem wstr_any {B b : Nat} {bs : List Value} {w : World} (h : Bd B b bs w) (s : ByteArray) (hlen : bs.length + s.size ≤ 100000) (hBw : B ≤ w.heap.size) :
    Calls Tryz.prog 67 #[.pointer (some ⟨b, 0, none⟩), .string s] w fun e w' => e = .returned (.tuple #[.int .i64 (s.size : Int), .nilIface]) ∧ Bw B b (bs ++ Lib.strCells s) w' ∧ Below B w w' ∧ Lib.OthersKept 5 (some b) w w' := by
  obtain ⟨i0, hi, hz0, hz1, hz2⟩ := info_parts Tryz.infoByte
  have CP := copy_any h
  clear h
  go_enter Tryz.func67, Tryz.ntmps67
  go_wp2_with fail
  refine CP.mono ?_
  rintro e w1 ⟨rfl, h1, hb1, hk1⟩
  have hs1 := hb1.size
  obtain ⟨ao, cap, c1, ho, hne, hB, hlt, hbk⟩ := h1.cells
  have HB1 : Hid (Below B w w1) := hb1
  have HK1 : Hid (Lib.OthersKept 5 (some b) w w1) := hk1
  have HO : Hid (w1.ownsRowF B 5 1 (.slice ao bs.length cap) bs.length bs) := ho
  have HNE : Hid ((Value.slice ao bs.length cap).ownBlock ≠ some b) := hne
  have HBK : Hid (w1.heap[b]? = some (.cells #[.pointer (some ⟨b, 0, none⟩), .slice ao bs.length cap] 151 (0, 0))) := hbk
  clear CP h1 hb1 ho hne hbk hk1
  go_wp2_with (at_builtin; refine Lib.wpList_append_own_stringF w1 rfl (.tmp 12) (.tmp 13) 149 9 rfl B 5 i0 Tryz.underlying149 Tryz.underlying9 hi hz0 hz1 hz2 (.slice ao bs.length cap) bs.length bs rfl HO.out s rfl ?c3 ?c4 ?c5 ?_)
  case c3 => unfold maxLen; omega
  case c4 => omega
  case c5 => omega
  intro v' w2 hown' hgrow hkk
  have hb2 : w2.heap[b]? = some (.cells #[.pointer (some ⟨b, 0, none⟩), .slice ao bs.length cap] 151 (0, 0)) := by
    rw [hgrow.block b hlt (fun e => HNE.out e.symm)]
    exact HBK.out
  have d1 : w2.cell? ⟨b, 1, none⟩ = some (.slice ao bs.length cap) := by rw [Lib.cell_of_heap hb2]; rfl
  have f1 : w2.frozen? ⟨b, 1, none⟩ = false := Lib.frozen_of_heap hb2 1
  obtain ⟨vo, vn, vc, hv⟩ : ∃ vo vn vc, v' = .slice vo vn vc := by
    rcases hown'.2 with ⟨hv, _⟩ | ⟨g, cap, cur, fz, hv, _⟩
    · exact ⟨_, _, _, hv⟩
    · exact ⟨_, _, _, hv⟩
  subst hv
  have HE : Hid (Bw B b (bs ++ Lib.strCells s) (w2.setCell ⟨b, 1, none⟩ (.slice vo vn vc)) ∧ Below B w (w2.setCell ⟨b, 1, none⟩ (.slice vo vn vc)) ∧ Lib.OthersKept 5 (some b) w (w2.setCell ⟨b, 1, none⟩ (.slice vo vn vc))) :=
    ⟨Lib.BuilderAtF.put (T := 151) (e := 5) hB hb2 (bs' := bs ++ Lib.strCells s) (by simpa [Lib.strCells_length] using hown') (by decide), (HB1.out.grown hgrow (by omega) (fun k hk => (HO.out.lt k hk).1)).setCell (p := ⟨b, 1, none⟩) hB _, (HK1.out.grown hgrow (Lib.ownsRowF_kind HO.out)).setCell ⟨b, 1, none⟩ rfl _⟩
  clear hown' hgrow hkk hb2
  go_wp2_with fail
  go_ret2
  exact ⟨rfl, HE.out⟩
end Go.Proofs.YtcabaecbmkgclaaGreatDoor.Bu
namespace Go.Proofs
open Go.RowKit Go.Shelf Go.Lib
def Tryz.lays169_ren : Go.Shelf.Ren := ⟨fun | 169 => 70 | n => n, fun | 70 => 148 | 9 => 9 | 0 => 0 | 72 => 151 | 37 => 149 | 127 => 186 | 3 => 3 | 5 => 5 | n => n, fun | n => n⟩
theorem Tryz.lays169 : Go.Proofs.Lays.n169 Tryz.prog Tryz.lays169_ren := {
  mixed := by kernel_rfl
  f169 := Tryz.func70.trans (congrArg some (by kernel_rfl))
  t0 := Tryz.underlying0
  a0 := Tryz.isAgg0
  z0 := Tryz.sizeOf0
  v0 := Tryz.zeroValue0
  t3 := Tryz.underlying3
  a3 := Tryz.isAgg3
  z3 := Tryz.sizeOf3
  v3 := Tryz.zeroValue3
  t9 := Tryz.underlying9
  a9 := Tryz.isAgg9
  z9 := Tryz.sizeOf9
  v9 := Tryz.zeroValue9
  t37 := Tryz.underlying149
  a37 := Tryz.isAgg149
  z37 := Tryz.sizeOf149
  v37 := Tryz.zeroValue149
  t70 := Tryz.underlying148
  a70 := Tryz.isAgg148
  z70 := Tryz.sizeOf148
  v70 := Tryz.zeroValue148
  t72 := Tryz.underlying151
  a72 := Tryz.isAgg151
  z72 := Tryz.sizeOf151
  v72 := Tryz.zeroValue151
  t127 := Tryz.underlying186
  a127 := Tryz.isAgg186
  z127 := Tryz.sizeOf186
  v127 := Tryz.zeroValue186 }

theorem Tryz.extra169 : Builder.Extra Tryz.prog Tryz.lays169_ren := {
  sizeBuilder := by kernel_rfl
  liesBuilder := by kernel_rfl
  t5 := by kernel_rfl
  a5 := by intro w; kernel_rfl
  z5 := by intro w; kernel_rfl
  v5 := by intro w; kernel_rfl
  infoByte := by kernel_rfl
  cellsByte := by kernel_rfl
  sizeByte := by kernel_rfl
  neB5 := by decide }
end Go.Proofs
namespace Go.Proofs.YtcabaecbmkgclaaGreatDoor.Bu
open Go.RowKit
theorem str_any {B b : Nat} {l : List UInt8} {w : World} (h : Bd B b (Lib.byteCells l) w) (hBw : B ≤ w.heap.size) :
    Calls Tryz.prog 70 #[.pointer (some ⟨b, 0, none⟩)] w fun e w' => e = .returned (.string ⟨l.toArray⟩) ∧ Below B w w' :=
  (Any.Builder_String_any_k Tryz.lays169 Tryz.extra169 B b l w h hBw).mono fun _ _ h => ⟨h.1, h.2.2.1⟩
end Go.Proofs.YtcabaecbmkgclaaGreatDoor.Bu
namespace Go.Proofs
open Go.RowKit Go.Shelf Go.Lib
def Tryz.lays241_ren : Go.Shelf.Ren := ⟨fun | 241 => 147 | 277 => 160 | n => n, fun | 70 => 148 | 3 => 3 | 0 => 0 | 72 => 151 | 37 => 149 | 5 => 5 | n => n, fun | n => n⟩
theorem Tryz.lays241 : Go.Proofs.Lays.n241 Tryz.prog Tryz.lays241_ren := {
  mixed := by kernel_rfl
  f241 := Tryz.func147.trans (congrArg some (by kernel_rfl))
  f277 := Tryz.func160.trans (congrArg some (by kernel_rfl))
  t0 := Tryz.underlying0
  a0 := Tryz.isAgg0
  z0 := Tryz.sizeOf0
  v0 := Tryz.zeroValue0
  t3 := Tryz.underlying3
  a3 := Tryz.isAgg3
  z3 := Tryz.sizeOf3
  v3 := Tryz.zeroValue3
  t37 := Tryz.underlying149
  a37 := Tryz.isAgg149
  z37 := Tryz.sizeOf149
  v37 := Tryz.zeroValue149
  t70 := Tryz.underlying148
  a70 := Tryz.isAgg148
  z70 := Tryz.sizeOf148
  v70 := Tryz.zeroValue148
  t72 := Tryz.underlying151
  a72 := Tryz.isAgg151
  z72 := Tryz.sizeOf151
  v72 := Tryz.zeroValue151 }
def Tryz.lays118_ren : Go.Shelf.Ren := ⟨fun | 118 => 116 | n => n, fun | 21 => 21 | 3 => 3 | 4 => 4 | n => n, fun | n => n⟩
theorem Tryz.lays118 : Go.Proofs.Lays.n118 Tryz.prog Tryz.lays118_ren := {
  mixed := by kernel_rfl
  f118 := Tryz.func116.trans (congrArg some (by kernel_rfl))
  t3 := Tryz.underlying3
  a3 := Tryz.isAgg3
  z3 := Tryz.sizeOf3
  v3 := Tryz.zeroValue3
  t4 := Tryz.underlying4
  a4 := Tryz.isAgg4
  z4 := Tryz.sizeOf4
  v4 := Tryz.zeroValue4
  t21 := Tryz.underlying21
  a21 := Tryz.isAgg21
  z21 := Tryz.sizeOf21
  v21 := Tryz.zeroValue21 }
def Tryz.lays270_ren : Go.Shelf.Ren := ⟨fun | 270 => 119 | n => n, fun | 70 => 148 | 3 => 3 | 0 => 0 | 72 => 151 | 37 => 149 | 5 => 5 | n => n, fun | n => n⟩
theorem Tryz.lays270 : Go.Proofs.Lays.n270 Tryz.prog Tryz.lays270_ren := {
  mixed := by kernel_rfl
  f270 := Tryz.func119.trans (congrArg some (by kernel_rfl))
  t0 := Tryz.underlying0
  a0 := Tryz.isAgg0
  z0 := Tryz.sizeOf0
  v0 := Tryz.zeroValue0
  t3 := Tryz.underlying3
  a3 := Tryz.isAgg3
  z3 := Tryz.sizeOf3
  v3 := Tryz.zeroValue3
  t37 := Tryz.underlying149
  a37 := Tryz.isAgg149
  z37 := Tryz.sizeOf149
  v37 := Tryz.zeroValue149
  t70 := Tryz.underlying148
  a70 := Tryz.isAgg148
  z70 := Tryz.sizeOf148
  v70 := Tryz.zeroValue148
  t72 := Tryz.underlying151
  a72 := Tryz.isAgg151
  z72 := Tryz.sizeOf151
  v72 := Tryz.zeroValue151 }

theorem Tryz.extra241 : Builder.Extra Tryz.prog Tryz.lays241_ren := {
  sizeBuilder := by kernel_rfl
  liesBuilder := by kernel_rfl
  t5 := by kernel_rfl
  a5 := by intro w; kernel_rfl
  z5 := by intro w; kernel_rfl
  v5 := by intro w; kernel_rfl
  infoByte := by kernel_rfl
  cellsByte := by kernel_rfl
  sizeByte := by kernel_rfl
  neB5 := by decide }
end Go.Proofs
namespace Go.Proofs.YtcabaecbmkgclaaGreatDoor.Bu
open Go.RowKit
set_option maxRecDepth 100000 in
set_option maxHeartbeats 2000000 in
theorem arune_any {B : Nat} {v : Value} {n : Nat} {xs : List Value} {w : World} (r : Int) (h0 : 0 ≤ r) (h1 : r ≤ 127) (hown : w.ownsRowF B 5 1 v n xs) (hlen : n ≤ 100000) (hBw : B ≤ w.heap.size) :
    Calls Tryz.prog 148 #[v, .int .i32 r] w fun e w' => ∃ v', e = .returned v' ∧ w'.ownsRowF B 5 1 v' (n + 1) (xs ++ [.int .u8 r]) ∧ ∃ o, (w.alloc o).grownBy w' v.ownBlock := by
  obtain ⟨i0, hi, hz0, hz1, hz2⟩ := info_parts Tryz.infoByte
  have HO : Hid (w.ownsRowF B 5 1 v n xs) := hown
  clear hown
  go_enter Tryz.func148, Tryz.ntmps148
  go_wp2_with (at_builtin; refine wpList_append_ownF _ rfl (.tmp 8) (.tmp 11) 149 rfl B 5 i0 (.int .u8 0) 1 1 Tryz.underlying149 hi hz0 hz1 hz2 rfl (by decide) v n xs rfl (HO.out.alloc _) ⟨w.heap.size, 0, none⟩ 1 1 [.int .u8 r] rfl rfl ?c1 ?c2 ?c3 ?c4 ?c5 ?_)
  case c1 =>
    intro j u hj
    match j, hj with
    | 0, hj => simp at hj; subst hj; simp [Addr.add]
  case c2 => intro u hu; simp at hu; subst hu; rfl
  case c3 => unfold maxLen; omega
  case c4 => omega
  case c5 => simp; omega
  intro v' w2 hown' hgrow _
  have HE : Hid (w2.ownsRowF B 5 1 v' (n + 1) (xs ++ [.int .u8 r]) ∧ ∃ o, (w.alloc o).grownBy w2 v.ownBlock) := ⟨hown', _, hgrow⟩
  clear hown' hgrow
  go_wp2_with fail
  go_ret
  exact ⟨_, rfl, HE.out.1, HE.out.2⟩

theorem rlen_any (r : Int) (w : World) : Calls Tryz.prog 116 #[.int .i32 r] w fun e w' => e = .returned (.int .i64 (Lib.runeLen r)) ∧ w' = w :=
  Any.utf8_RuneLen Tryz.lays118 r w

theorem cap_any (b : Nat) (p : Option Addr) (n cap : Nat) (w : World) (c1 : w.cell? ⟨b, 1, none⟩ = some (.slice p n cap)) :
    Calls Tryz.prog 119 #[.pointer (some ⟨b, 0, none⟩)] w fun e w' => e = .returned (.int .i64 cap) ∧ w' = w :=
  Any.Builder_Cap_cell Tryz.lays270 b p n cap w c1

theorem sgrow_any {B b n : Nat} {w : World} (hB : B ≤ b) (hbk : w.heap[b]? = some (.cells #[.pointer (some ⟨b, 0, none⟩), .slice none 0 0] 151 (0, 0))) (hBw : B ≤ w.heap.size) (hn : n ≤ 100000) :
    Calls Tryz.prog 147 #[.pointer (some ⟨b, 0, none⟩), .int .i64 n] w fun e w' => e = .returned (.tuple #[]) ∧ (Lib.BuilderAt 151 5 B b (.pointer (some ⟨b, 0, none⟩)) [] w' ∧ Below B w w') ∧ ∃ p cap, w'.cell? ⟨b, 1, none⟩ = some (.slice p 0 cap) ∧ n ≤ cap :=
  Any.Builder_grow_fresh_cap Tryz.lays241 Tryz.extra241 B b n w hB hbk hBw (by omega)
set_option maxRecDepth 100000 in
set_option maxHeartbeats 2000000 in
theorem wbyte_any {B b : Nat} {bs : List Value} {w : World} (h : Bw B b bs w) (c : Int) (hlen : bs.length ≤ 100000) (hBw : B ≤ w.heap.size) :
    Calls Tryz.prog 69 #[.pointer (some ⟨b, 0, none⟩), .int .u8 c] w fun e w' => e = .returned .nilIface ∧ Bw B b (bs ++ [.int .u8 c]) w' ∧ Below B w w' ∧ Lib.OthersKept 5 (some b) w w' := by
  obtain ⟨i0, hi, hz0, hz1, hz2⟩ := info_parts Tryz.infoByte
  have CP := copy_used b w h.cell0 h.shape
  obtain ⟨ao, cap, c1, ho, hne, hB, hlt, hbk⟩ := h.cells
  have HO : Hid (w.ownsRowF B 5 1 (.slice ao bs.length cap) bs.length bs) := ho
  have HNE : Hid ((Value.slice ao bs.length cap).ownBlock ≠ some b) := hne
  have HBK : Hid (w.heap[b]? = some (.cells #[.pointer (some ⟨b, 0, none⟩), .slice ao bs.length cap] 151 (0, 0))) := hbk
  clear h ho hne hbk
  go_enter Tryz.func69, Tryz.ntmps69
  go_wp2_with fail
  refine CP.mono ?_
  rintro e w1 ⟨rfl, rfl⟩
  clear CP
  go_wp2_with (at_builtin; refine wpList_append_ownF _ rfl (.tmp 11) (.tmp 13) 149 rfl B 5 i0 (.int .u8 0) 1 1 Tryz.underlying149 hi hz0 hz1 hz2 rfl (by decide) (.slice ao bs.length cap) bs.length bs rfl (HO.out.alloc _) ⟨w1.heap.size, 0, none⟩ 1 1 [.int .u8 c] rfl rfl ?c1 ?c2 ?c3 ?c4 ?c5 ?_)
  case c1 =>
    intro j u hj
    match j, hj with
    | 0, hj => simp at hj; subst hj; simp [Addr.add]
  case c2 => intro u hu; simp at hu; subst hu; rfl
  case c3 => unfold maxLen; omega
  case c4 => omega
  case c5 => simp; omega
  intro v' w2 hown' hgrow _
  have hb2 : w2.heap[b]? = some (.cells #[.pointer (some ⟨b, 0, none⟩), .slice ao bs.length cap] 151 (0, 0)) := by
    rw [hgrow.block b (by simp; omega) (fun e => HNE.out e.symm), Lib.alloc_old w1 _ b hlt]
    exact HBK.out
  have d1 : w2.cell? ⟨b, 1, none⟩ = some (.slice ao bs.length cap) := by rw [Lib.cell_of_heap hb2]; rfl
  have f1 : w2.frozen? ⟨b, 1, none⟩ = false := Lib.frozen_of_heap hb2 1
  obtain ⟨vo, vn, vc, hv⟩ : ∃ vo vn vc, v' = .slice vo vn vc := by
    rcases hown'.2 with ⟨hv, _⟩ | ⟨g, cap, cur, fz, hv, _⟩
    · exact ⟨_, _, _, hv⟩
    · exact ⟨_, _, _, hv⟩
  subst hv
  have HE : Hid (Bw B b (bs ++ [.int .u8 c]) (w2.setCell ⟨b, 1, none⟩ (.slice vo vn vc)) ∧ Below B w1 (w2.setCell ⟨b, 1, none⟩ (.slice vo vn vc)) ∧ Lib.OthersKept 5 (some b) w1 (w2.setCell ⟨b, 1, none⟩ (.slice vo vn vc))) :=
    ⟨Lib.BuilderAtF.put (T := 151) (e := 5) hB hb2 (bs' := bs ++ [.int .u8 c]) (by simpa using hown') (by decide),
     (((Below.refl B w1).alloc (by omega) _).grown hgrow (by simp; omega) (fun k hk => (HO.out.lt k hk).1)).setCell (p := ⟨b, 1, none⟩) hB _,
     (((Lib.OthersKept.refl _ _ w1).alloc _).grown hgrow (Lib.ownsRowF_kind (HO.out.alloc _))).setCell ⟨b, 1, none⟩ rfl _⟩
  clear hown' hgrow hb2
  go_wp2_with fail
  go_ret
  exact ⟨rfl, HE.out.1, HE.out.2.1, HE.out.2.2⟩

set_option maxRecDepth 100000 in
set_option maxHeartbeats 2000000 in
theorem wrune_any {B b : Nat} {bs : List Value} {w : World} (h : Bw B b bs w) (c : Int) (h0 : 0 ≤ c) (h1 : c ≤ 127) (hlen : bs.length ≤ 100000) (hBw : B ≤ w.heap.size) :
    Calls Tryz.prog 118 #[.pointer (some ⟨b, 0, none⟩), .int .i32 c] w fun e w' => (∃ v, e = .returned v) ∧ Bw B b (bs ++ [.int .u8 c]) w' ∧ Below B w w' := by
  have CP := copy_used b w h.cell0 h.shape
  obtain ⟨ao, cap, c1, ho, hne, hB, hlt, hbk⟩ := h.cells
  have AR := arune_any c h0 h1 ho hlen hBw
  have HO : Hid (w.ownsRowF B 5 1 (.slice ao bs.length cap) bs.length bs) := ho
  have HNE : Hid ((Value.slice ao bs.length cap).ownBlock ≠ some b) := hne
  have HBK : Hid (w.heap[b]? = some (.cells #[.pointer (some ⟨b, 0, none⟩), .slice ao bs.length cap] 151 (0, 0))) := hbk
  clear h ho hne hbk
  go_enter Tryz.func118, Tryz.ntmps118
  go_wp2_with fail
  refine CP.mono ?_
  rintro e w1 ⟨rfl, rfl⟩
  clear CP
  go_wp2_with fail
  refine AR.mono ?_
  rintro e w2 ⟨v', rfl, hown', o, hgrow⟩
  clear AR
  have hb2 : w2.heap[b]? = some (.cells #[.pointer (some ⟨b, 0, none⟩), .slice ao bs.length cap] 151 (0, 0)) := by
    rw [hgrow.block b (by simp; omega) (fun e => HNE.out e.symm), Lib.alloc_old w1 _ b hlt]
    exact HBK.out
  have d1 : w2.cell? ⟨b, 1, none⟩ = some (.slice ao bs.length cap) := by rw [Lib.cell_of_heap hb2]; rfl
  have f1 : w2.frozen? ⟨b, 1, none⟩ = false := Lib.frozen_of_heap hb2 1
  obtain ⟨vo, vn, vc, hv⟩ : ∃ vo vn vc, v' = .slice vo vn vc := by
    rcases hown'.2 with ⟨hv, _⟩ | ⟨g, cap, cur, fz, hv, _⟩
    · exact ⟨_, _, _, hv⟩
    · exact ⟨_, _, _, hv⟩
  subst hv
  have HE : Hid (Bw B b (bs ++ [.int .u8 c]) (w2.setCell ⟨b, 1, none⟩ (.slice vo vn vc)) ∧ Below B w1 (w2.setCell ⟨b, 1, none⟩ (.slice vo vn vc))) :=
    ⟨Lib.BuilderAtF.put (T := 151) (e := 5) hB hb2 (bs' := bs ++ [.int .u8 c]) (by simpa using hown') (by decide),
     (((Below.refl B w1).alloc (by omega) _).grown hgrow (by simp; omega) (fun k hk => (HO.out.lt k hk).1)).setCell (p := ⟨b, 1, none⟩) hB _⟩
  have d2 : (w2.setCell ⟨b, 1, none⟩ (.slice vo vn vc)).cell? ⟨b, 1, none⟩ = some (.slice vo vn vc) := World.cell?_setCell_same _ _ _ d1
  clear hown' hgrow hb2
  go_wp2_with fail
  go_ret2
  exact ⟨⟨_, rfl⟩, HE.out.1, HE.out.2⟩

set_option maxRecDepth 100000 in
set_option maxHeartbeats 2000000 in
/-- Grow of a builder that nobody has written to. -/
theorem grow_any {B b n : Nat} {w : World} (hB : B ≤ b) (hbk : w.heap[b]? = some (.cells #[.pointer none, .slice none 0 0] 151 (0, 0))) (_hBw : B ≤ w.heap.size) (hn : n ≤ 100000) (_hn0 : 0 < n) :
    Calls Tryz.prog 117 #[.pointer (some ⟨b, 0, none⟩), .int .i64 n] w fun e w' => e = .returned (.tuple #[]) ∧ Bw B b [] w' ∧ Below B w w' ∧ ∃ p cap, w'.cell? ⟨b, 1, none⟩ = some (.slice p 0 cap) ∧ n ≤ cap := by
  have hc0 : w.cell? ⟨b, 0, none⟩ = some (.pointer none) := by rw [Lib.cell_of_heap hbk]; rfl
  have hsh : w.shape? b = some (151, 2) := by simp [World.shape?, hbk]
  have CP := copy_fresh b w hc0 hsh (Lib.frozen_of_heap hbk 0)
  have hbk1 : (w.setCell ⟨b, 0, none⟩ (.pointer (some ⟨b, 0, none⟩))).heap[b]? = some (.cells #[.pointer (some ⟨b, 0, none⟩), .slice none 0 0] 151 (0, 0)) := by
    simp [World.setCell, Array.getElem?_modify, hbk]
  have hb1 : Below B w (w.setCell ⟨b, 0, none⟩ (.pointer (some ⟨b, 0, none⟩))) := (Below.refl B w).setCell (p := ⟨b, 0, none⟩) hB _
  obtain ⟨w1, hw1⟩ : ∃ w1, w.setCell ⟨b, 0, none⟩ (.pointer (some ⟨b, 0, none⟩)) = w1 := ⟨_, rfl⟩
  rw [hw1] at CP hbk1 hb1
  have c1 : w1.cell? ⟨b, 1, none⟩ = some (.slice none 0 0) := by rw [Lib.cell_of_heap hbk1]; rfl
  have hs1 := hb1.size
  have SG : ∀ k, Calls Tryz.prog 147 #[.pointer (some ⟨b, 0, none⟩), .int .i64 n] (w1.drewN k) fun e w' => e = .returned (.tuple #[]) ∧ Hid (Bw B b [] w' ∧ Below B w w' ∧ ∃ p cap, w'.cell? ⟨b, 1, none⟩ = some (.slice p 0 cap) ∧ n ≤ cap) := by
    intro k
    have hbd : Below w1.heap.size w1 (w1.drewN k) := below_drewNm w1 k
    have hlt : b < w1.heap.size := (Array.getElem?_eq_some_iff.1 hbk1).1
    refine (sgrow_any hB ((hbd.block b hlt).trans hbk1) (by have := hbd.size; omega) hn).mono ?_
    rintro e w' ⟨rfl, ⟨h1, h2⟩, h3⟩
    exact ⟨rfl, Lib.BuilderAtF.of h1, (hb1.trans (hbd.mono (by omega))).trans h2, h3⟩
  have SG0 := SG 0
  have SG1 := SG 1
  have SG2 := SG 2
  clear hbk hbk1 hb1 hc0 hsh hw1 SG
  go_enter Tryz.func117, Tryz.ntmps117
  go_wp2_with fail
  refine CP.mono ?_
  rintro e w2 ⟨rfl, rfl⟩
  clear CP
  go_wp2_with fail
  go_region
  all_goals (go_wp2_with fail)
  refine SG1.mono ?_
  rintro e w3 ⟨rfl, HE⟩
  clear SG0 SG1 SG2
  go_wp2_with fail
  go_end0
  exact ⟨rfl, HE.out⟩
end Go.Proofs.YtcabaecbmkgclaaGreatDoor.Bu
namespace Go.Proofs.YtcabaecbmkgclaaGreatDoor.Cp
open Go.RowKit
def capZ (x : Nat) : Int := if x = 58 then -1 else if x = 99 ∨ x = 110 ∨ x = 111 ∨ x = 112 ∨ x = 115 then (x : Int) - 32 else (x : Int)
def capB (b : UInt8) : List UInt8 := if b.toNat = 58 then [] else if b.toNat = 99 ∨ b.toNat = 110 ∨ b.toNat = 111 ∨ b.toNat = 112 ∨ b.toNat = 115 then [b - 32] else [b]
def capL (l : List UInt8) : List UInt8 := l.flatMap capB

/-- Signs below 128 alone. -/
def Ascii (l : List UInt8) : Prop := ∀ b ∈ l, b.toNat < 128

theorem Ascii.drop {l : List UInt8} (h : Ascii l) (n : Nat) : Ascii (l.drop n) := fun b hb => h b (List.mem_of_mem_drop hb)
theorem Ascii.take {l : List UInt8} (h : Ascii l) (n : Nat) : Ascii (l.take n) := fun b hb => h b (List.mem_of_mem_take hb)

theorem capL_append (a b : List UInt8) : capL (a ++ b) = capL a ++ capL b := by simp [capL]
theorem capL_cons (a : UInt8) (b : List UInt8) : capL (a :: b) = capB a ++ capL b := by simp [capL]

theorem cap_cases (b : UInt8) (hb : b.toNat < 128) : (capZ b.toNat = -1 ∧ capB b = []) ∨ (∃ c : UInt8, capB b = [c] ∧ capZ b.toNat = (c.toNat : Int) ∧ c.toNat < 128) := by
  unfold capZ capB
  by_cases h1 : b.toNat = 58
  · left; simp [h1]
  · right
    by_cases h2 : b.toNat = 99 ∨ b.toNat = 110 ∨ b.toNat = 111 ∨ b.toNat = 112 ∨ b.toNat = 115
    · refine ⟨b - 32, by simp [h1, h2], ?_, ?_⟩
      · rw [if_neg h1, if_pos h2]
        have : (b - 32).toNat = b.toNat - 32 := by
          rw [UInt8.toNat_sub_of_le]
          · rfl
          · rw [UInt8.le_iff_toNat_le]; show 32 ≤ b.toNat; omega
        rw [this]; omega
      · have : (b - 32).toNat = b.toNat - 32 := by
          rw [UInt8.toNat_sub_of_le]
          · rfl
          · rw [UInt8.le_iff_toNat_le]; show 32 ≤ b.toNat; omega
        rw [this]; omega
    · exact ⟨b, by simp [h1, h2], by rw [if_neg h1, if_neg h2], hb⟩

theorem cap_same (b : UInt8) (h : capZ b.toNat = (b.toNat : Int)) : capB b = [b] := by
  unfold capZ at h
  unfold capB
  split at h
  · omega
  · split at h
    · omega
    · rename_i h1 h2
      rw [if_neg h1, if_neg h2]

theorem capB_len (b : UInt8) : (capB b).length ≤ 1 := by
  unfold capB
  split
  · simp
  · split <;> simp

theorem capL_len (l : List UInt8) : (capL l).length ≤ l.length := by
  induction l with
  | nil => simp [capL]
  | cons a l ih => rw [capL_cons, List.length_append]; have := capB_len a; simp only [List.length_cons]; omega

set_option maxRecDepth 100000 in
set_option maxHeartbeats 2000000 in
theorem capital_any (w : World) (x : Nat) (hx : x < 128) : Calls Tryz.prog 91 #[.int .i32 (x : Int)] w fun e w' => e = .returned (.int .i32 (capZ x)) ∧ w' = w := by
  obtain ⟨z, hz⟩ : ∃ z, capZ x = z := ⟨_, rfl⟩
  rw [hz]
  unfold capZ at hz
  by_cases h1 : x = 58
  · rw [if_pos h1] at hz
    subst hz
    subst h1
    go_enter Tryz.func91, Tryz.ntmps91
    go_wp2_with fail
    go_ret
    exact ⟨rfl, rfl⟩
  · rw [if_neg h1] at hz
    by_cases h2 : x = 99 ∨ x = 110 ∨ x = 111 ∨ x = 112 ∨ x = 115
    · rw [if_pos h2] at hz
      subst hz
      rcases h2 with rfl | rfl | rfl | rfl | rfl
      all_goals
        go_enter Tryz.func91, Tryz.ntmps91
        go_wp2_with fail
        go_ret
        exact ⟨rfl, rfl⟩
    · rw [if_neg h2] at hz
      subst hz
      have e1 : ¬ ((x : Int) = 58) := by omega
      have e2 : ¬ ((x : Int) = 99) := by omega
      have e3 : ¬ ((x : Int) = 110) := by omega
      have e4 : ¬ ((x : Int) = 111) := by omega
      have e5 : ¬ ((x : Int) = 112) := by omega
      have e6 : ¬ ((x : Int) = 115) := by omega
      clear h1 h2
      go_enter Tryz.func91, Tryz.ntmps91
      go_wp2_with fail
      go_ret
      exact ⟨rfl, rfl⟩
end Go.Proofs.YtcabaecbmkgclaaGreatDoor.Cp
namespace Go.Proofs.YtcabaecbmkgclaaGreatDoor.Bu
open Go.RowKit
set_option maxRecDepth 100000 in
set_option maxHeartbeats 2000000 in
theorem wstr_cap {B b : Nat} {bs : List Value} {w : World} (h : Bw B b bs w) (s : ByteArray) (hlen : bs.length + s.size ≤ 100000) (hBw : B ≤ w.heap.size) (m : Nat) (hm : ∃ p n cap, w.cell? ⟨b, 1, none⟩ = some (.slice p n cap) ∧ m ≤ cap) :
    Calls Tryz.prog 67 #[.pointer (some ⟨b, 0, none⟩), .string s] w fun e w' => (∃ v, e = .returned v) ∧ Bw B b (bs ++ Lib.strCells s) w' ∧ Below B w w' ∧ ∃ p n cap, w'.cell? ⟨b, 1, none⟩ = some (.slice p n cap) ∧ m ≤ cap := by
  obtain ⟨i0, hi, hz0, hz1, hz2⟩ := info_parts Tryz.infoByte
  have CP := copy_used b w h.cell0 h.shape
  obtain ⟨ao, cap, c1, ho, hne, hB, hlt, hbk⟩ := h.cells
  have hmc : m ≤ cap := by
    obtain ⟨p, n, cap', hc, hle⟩ := hm
    rw [c1] at hc
    cases hc
    exact hle
  have HO : Hid (w.ownsRowF B 5 1 (.slice ao bs.length cap) bs.length bs) := ho
  have HNE : Hid ((Value.slice ao bs.length cap).ownBlock ≠ some b) := hne
  have HBK : Hid (w.heap[b]? = some (.cells #[.pointer (some ⟨b, 0, none⟩), .slice ao bs.length cap] 151 (0, 0))) := hbk
  clear h ho hne hbk hm
  go_enter Tryz.func67, Tryz.ntmps67
  go_wp2_with fail
  refine CP.mono ?_
  rintro e w1 ⟨rfl, rfl⟩
  clear CP
  go_wp2_with (at_builtin; refine Lib.wpList_append_own_stringF_cap w1 rfl (.tmp 12) (.tmp 13) 149 9 rfl B 5 i0 Tryz.underlying149 Tryz.underlying9 hi hz0 hz1 hz2 (.slice ao bs.length cap) bs.length bs rfl HO.out s rfl ?c3 ?c4 ?c5 ?_)
  case c3 => unfold maxLen; omega
  case c4 => omega
  case c5 => omega
  intro v' w2 hown' hgrow _ hcap
  have hb2 : w2.heap[b]? = some (.cells #[.pointer (some ⟨b, 0, none⟩), .slice ao bs.length cap] 151 (0, 0)) := by
    rw [hgrow.block b hlt (fun e => HNE.out e.symm)]
    exact HBK.out
  have d1 : w2.cell? ⟨b, 1, none⟩ = some (.slice ao bs.length cap) := by rw [Lib.cell_of_heap hb2]; rfl
  have f1 : w2.frozen? ⟨b, 1, none⟩ = false := Lib.frozen_of_heap hb2 1
  obtain ⟨vo, vn, vc, hv⟩ : ∃ vo vn vc, v' = .slice vo vn vc := by
    rcases hown'.2 with ⟨hv, _⟩ | ⟨g, cap, cur, fz, hv, _⟩
    · exact ⟨_, _, _, hv⟩
    · exact ⟨_, _, _, hv⟩
  subst hv
  have hcv : cap ≤ vc := hcap
  have HE : Hid (Bw B b (bs ++ Lib.strCells s) (w2.setCell ⟨b, 1, none⟩ (.slice vo vn vc)) ∧ Below B w1 (w2.setCell ⟨b, 1, none⟩ (.slice vo vn vc)) ∧ ∃ p n cap, (w2.setCell ⟨b, 1, none⟩ (.slice vo vn vc)).cell? ⟨b, 1, none⟩ = some (.slice p n cap) ∧ m ≤ cap) :=
    ⟨Lib.BuilderAtF.put (T := 151) (e := 5) hB hb2 (bs' := bs ++ Lib.strCells s) (by simpa [Lib.strCells_length] using hown') (by decide),
     ((Below.refl B w1).grown hgrow (by omega) (fun k hk => (HO.out.lt k hk).1)).setCell (p := ⟨b, 1, none⟩) hB _,
     _, _, _, World.cell?_setCell_same _ _ _ d1, by omega⟩
  clear hown' hgrow hb2 hcap
  go_wp2_with fail
  go_ret2
  exact ⟨⟨_, rfl⟩, HE.out⟩

/-- A builder that has something in it has room. -/
theorem Bw.cap {B b : Nat} {bs : List Value} {w : World} (h : Bw B b bs w) (h0 : bs ≠ []) : ∃ p n cap, w.cell? ⟨b, 1, none⟩ = some (.slice p n cap) ∧ 1 ≤ cap := by
  obtain ⟨ao, cap, c1, ho, hne, hB, hlt, hbk⟩ := h.cells
  refine ⟨ao, _, cap, c1, ?_⟩
  have hl : 0 < bs.length := List.length_pos_iff.2 h0
  rcases ho.2 with ⟨hv, hn⟩ | ⟨g, cap', cur, fz, hv, _, _, _, hnc, _⟩
  · omega
  · cases hv
    omega
end Go.Proofs.YtcabaecbmkgclaaGreatDoor.Bu
namespace Go.Proofs.YtcabaecbmkgclaaGreatDoor.Cp
open Go.RowKit Go.Proofs.YtcabaecbmkgclaaGreatDoor.Bu
theorem at_drop {s : ByteArray} {pos : Nat} (h : pos < s.size) : s.data.toList.drop pos = s[pos] :: s.data.toList.drop (pos + 1) := by
  have hl : pos < s.data.toList.length := by simpa using h
  rw [List.drop_eq_getElem_cons hl]
  rfl

theorem at_take {s : ByteArray} {pos : Nat} (h : pos < s.size) : s.data.toList.take (pos + 1) = s.data.toList.take pos ++ [s[pos]] := by
  have hl : pos < s.data.toList.length := by simpa using h
  rw [List.take_succ_eq_append_getElem hl]
  rfl

theorem mem_at {s : ByteArray} {pos : Nat} (h : pos < s.size) : s[pos] ∈ s.data.toList := by
  have hl : pos < s.data.toList.length := by simpa using h
  exact List.getElem_mem hl

theorem ext_drop {s : ByteArray} {i : Nat} : (s.extract i s.size).data.toList = s.data.toList.drop i := by
  rw [Lib.extract_data, List.take_of_length_le]
  rw [List.length_drop, ← Lib.size_eq]
  omega
theorem ext_take {s : ByteArray} {i : Nat} : (s.extract 0 i).data.toList = s.data.toList.take i := by
  rw [Lib.extract_data]
  simp

/-- What the first loop leaves. -/
structure Half (w : World) (s : ByteArray) (v : Value) (wx : World) : Prop where
  below : Below w.heap.size w wx
  rest : (v = .string s ∧ capL s.data.toList = s.data.toList ∧ wx.heap[w.heap.size]? = some (.cells #[.pointer none, .slice none 0 0] 151 (0, 0))) ∨
    (∃ (r : ByteArray) (acc : List UInt8), v = .string r ∧ Ascii r.data.toList ∧ r.size ≤ s.size ∧ acc.length ≤ s.size ∧ acc ++ capL r.data.toList = capL s.data.toList ∧ Bw w.heap.size w.heap.size (Lib.byteCells acc) wx ∧ ∃ p n cap, wx.cell? ⟨w.heap.size, 1, none⟩ = some (.slice p n cap) ∧ 1 ≤ cap)

theorem rlen_one {x : Nat} (hx : x < 128) : Lib.runeLen (x : Int) = 1 := by
  unfold Lib.runeLen
  rw [if_neg (by omega), if_pos (by omega)]

set_option maxRecDepth 100000 in
set_option maxHeartbeats 4000000 in
theorem map_any (w : World) (s : ByteArray) (ha : Ascii s.data.toList) (hs : s.size ≤ 1000) :
    Calls Tryz.prog 90 #[.func (.func 91) #[] #[], .string s] w fun e w' => e = .returned (.string ⟨(capL s.data.toList).toArray⟩) ∧ Below w.heap.size w w' := by
  go_enter Tryz.func90, Tryz.ntmps90
  go_upto_block 0 with fail
  go_cut [1, 6, 7, 8, 9] from 15 to 63 (fun s1 s6 s7 s8 s9 wx => Half w s s1 wx)
  case first =>
    go_wp2_with fail
    go_loopg [1] s.size (fun gk s1 wx => s1 = .string s ∧ ∃ pos : Nat, wx.heap[w.heap.size]? = some (.cells #[.pointer none, .slice none 0 0] 151 (0, 0)) ∧ wx.heap[w.heap.size + 1]? = some (.stringIter s pos) ∧ Below w.heap.size w wx ∧
      capL (s.data.toList.take pos) = s.data.toList.take pos ∧ s.size ≤ pos + gk ∧ pos ≤ s.size)
    case atStart =>
      refine ⟨rfl, 0, ?_, ?_, ((Below.refl _ w).alloc (Nat.le_refl _) _).alloc (by simp) _, by simp [capL], by omega, by omega⟩
      · have h1 := heap_alloc_new w (.cells #[.pointer none, .slice none 0 0] 151)
        exact (Below.heap_alloc _ _ _ (by simp)).trans h1
      · have := World.iter_heap (w.alloc (.cells #[.pointer none, .slice none 0 0] 151)) s 0
        simpa using this
    case round =>
      obtain ⟨rfl, pos, hfr, hit, hbw, hsp, hfu, hps⟩ := hrel
      by_cases hlt : pos < s.size
      · obtain ⟨g', rfl⟩ : ∃ g', gk = g' + 1 := ⟨gk - 1, by omega⟩
        have hb8 : (s[pos]'hlt).toNat < 128 := ha _ (mem_at hlt)
        have hnx : ∀ ty, (Instr.next (.pointer (some ⟨w.heap.size + 1, 0, none⟩)) true ty).run Tryz.prog wr = _ := fun ty => Lib.run_next_ascii_at wr (w.heap.size + 1) s pos ty hit hlt hb8
        have hit2 := Lib.iterAt_heap wr (w.heap.size + 1) s pos (pos + 1) hit
        have hbw2 := Lib.below_iterAt hbw (k := w.heap.size + 1) (by omega) s (pos + 1)
        have hfr2 : (wr.iterAt (w.heap.size + 1) s (pos + 1)).heap[w.heap.size]? = _ := (Lib.iterAt_other wr (w.heap.size + 1) w.heap.size s (pos + 1) (by omega)).trans hfr
        obtain ⟨W, hWd⟩ : ∃ W, wr.iterAt (w.heap.size + 1) s (pos + 1) = W := ⟨_, rfl⟩
        rw [hWd] at hnx hit2 hbw2 hfr2
        have hdr := at_drop hlt
        have htk := at_take hlt
        have cS := capital_any W _ hb8
        have hcs := cap_cases _ hb8
        have hsm := cap_same (s[pos]'hlt)
        obtain ⟨bt, hbt⟩ : ∃ bt, s[pos]'hlt = bt := ⟨_, rfl⟩
        rw [hbt] at hb8 hnx hdr htk cS hcs hsm
        obtain ⟨x, hx⟩ : ∃ x, bt.toNat = x := ⟨_, rfl⟩
        rw [hx] at hb8 hnx cS hcs hsm
        have hx5 : ¬ ((x : Int) = 65533) := by omega
        have hx5b : ((x : Int) == 65533) = false := by simp [hx5]
        obtain ⟨M, hM⟩ : ∃ M, capZ x = M := ⟨_, rfl⟩
        rw [hM] at cS hcs hsm
        clear hit hbw hfr hWd hbt hx hM
        by_cases hc : M = (x : Int)
        · have HS : Hid (capL (s.data.toList.take (pos + 1)) = s.data.toList.take (pos + 1)) := by
            show _ = _
            rw [htk, capL_append, hsp, capL_cons, hsm hc]
            simp [capL]
          subst hc
          clear hcs hsm hdr htk hsp
          go_wp2_with fail
          refine cS.mono ?_
          rintro e W' ⟨rfl, rfl⟩
          go_wp2_with fail
          go_roundg g'
          case measure => omega
          case rel => exact ⟨rfl, pos + 1, hfr2, hit2, hbw2, HS.out, by omega, by omega⟩
        · have hcb : (M == (x : Int)) = false := by simp [hc]
          have hs2 := hbw2.size
          have GR := grow_any (B := w.heap.size) (b := w.heap.size) (n := s.size + 4) (Nat.le_refl _) hfr2 hs2 (by omega) (by omega)
          rw [show ((s.size + 4 : Nat) : Int) = (s.size : Int) + 4 from by omega] at GR
          have RL := rlen_any (x : Int) W
          rw [rlen_one hb8] at RL
          have hxt : (s.extract 0 pos).data.toList = s.data.toList.take pos := ext_take
          have hxs : (s.extract 0 pos).size = pos := by rw [Lib.size_eq, hxt, List.length_take, ← Lib.size_eq]; omega
          have hrt : (s.extract (pos + 1) s.size).data.toList = s.data.toList.drop (pos + 1) := ext_drop
          have hrs : (s.extract (pos + 1) s.size).size = s.size - (pos + 1) := by rw [Lib.size_eq, hrt, List.length_drop, ← Lib.size_eq]
          have HALL : Hid (capL s.data.toList = s.data.toList.take pos ++ capB bt ++ capL (s.data.toList.drop (pos + 1))) := by
            show _ = _
            conv => lhs; rw [← List.take_append_drop pos s.data.toList]
            rw [capL_append, hsp, hdr, capL_cons, List.append_assoc]
          have HB2 : Hid (Below w.heap.size w W) := hbw2
          have HR : Hid ((s.extract (pos + 1) s.size).data.toList = s.data.toList.drop (pos + 1) ∧ (s.extract 0 pos).data.toList = s.data.toList.take pos) := ⟨hrt, hxt⟩
          clear hsm hdr htk hsp hfr2 hit2 hbw2 hrt hxt
          rcases hcs with ⟨hM, hcB⟩ | ⟨c, hcB, hM, hc8⟩
          · subst hM
            have HC : Hid (capB bt = []) := hcB
            clear hcB
            go_wp2_with fail
            refine cS.mono ?_
            rintro e W' ⟨rfl, rfl⟩
            clear cS
            go_wp2_with fail
            refine RL.mono ?_
            rintro e W' ⟨rfl, rfl⟩
            clear RL
            go_wp2_with fail
            refine GR.mono ?_
            rintro e W4 ⟨rfl, h4, b4, p4, cap4, hc4, hcap4⟩
            clear GR
            have b4s := b4.size
            have WS := wstr_cap h4 (s.extract 0 pos) (by rw [hxs]; simp; omega) (by omega) 1 ⟨p4, 0, cap4, hc4, by omega⟩
            rw [List.nil_append, Lib.strCells_eq, HR.out.2] at WS
            have HB4 : Hid (Below w.heap.size W' W4) := b4
            clear h4 b4 hc4
            go_wp2_with fail
            refine WS.mono ?_
            rintro e W5 ⟨⟨v5, rfl⟩, h5, b5, hcap5⟩
            clear WS
            have b5s := b5.size
            have HF : Hid (Half w s (.string (s.extract (pos + 1) s.size)) W5) :=
              ⟨(HB2.out.trans HB4.out).trans b5, Or.inr ⟨_, _, rfl, by rw [HR.out.1]; exact ha.drop _, by omega, by rw [List.length_take]; exact Nat.le_trans (Nat.min_le_left _ _) (by omega), by rw [HALL.out, HC.out, HR.out.1, List.append_nil], h5, hcap5⟩⟩
            clear h5 b5 hcap5
            go_wp2_with fail
            go_meet
            exact HF.out
          · subst hM
            have HC : Hid (capB bt = [c]) := hcB
            clear hcB
            go_wp2_with fail
            refine cS.mono ?_
            rintro e W' ⟨rfl, rfl⟩
            clear cS
            go_wp2_with fail
            refine RL.mono ?_
            rintro e W' ⟨rfl, rfl⟩
            clear RL
            go_wp2_with fail
            refine GR.mono ?_
            rintro e W4 ⟨rfl, h4, b4, p4, cap4, hc4, hcap4⟩
            clear GR
            have b4s := b4.size
            have WS := wstr_cap h4 (s.extract 0 pos) (by rw [hxs]; simp; omega) (by omega) 1 ⟨p4, 0, cap4, hc4, by omega⟩
            rw [List.nil_append, Lib.strCells_eq, HR.out.2] at WS
            have HB4 : Hid (Below w.heap.size W' W4) := b4
            clear h4 b4 hc4
            go_wp2_with fail
            refine WS.mono ?_
            rintro e W5 ⟨⟨v5, rfl⟩, h5, b5, hcap5⟩
            clear WS
            have b5s := b5.size
            have WR := wrune_any h5 (c.toNat : Int) (by omega) (by omega) (by rw [Lib.byteCells_length, List.length_take]; omega) (by omega)
            have HB5 : Hid (Below w.heap.size W4 W5) := b5
            clear h5 b5 hcap5
            have hcz : ¬ ((c.toNat : Int) < 0) := by omega
            go_wp2_with fail
            refine WR.mono ?_
            rintro e W6 ⟨⟨v6, rfl⟩, h6, b6⟩
            clear WR
            have h6' : Bw w.heap.size w.heap.size (Lib.byteCells (s.data.toList.take pos ++ [c])) W6 := by
              rw [Lib.byteCells_append]
              exact h6
            have HF : Hid (Half w s (.string (s.extract (pos + 1) s.size)) W6) :=
              ⟨((HB2.out.trans HB4.out).trans HB5.out).trans b6, Or.inr ⟨_, _, rfl, by rw [HR.out.1]; exact ha.drop _, by omega, by rw [List.length_append, List.length_take]; simp only [List.length_singleton]; have := Nat.min_le_left pos s.data.toList.length; omega, by rw [HALL.out, HC.out, HR.out.1], h6', h6'.cap (by simp [Lib.byteCells])⟩⟩
            clear h6 h6' b6
            go_wp2_with fail
            go_meet
            exact HF.out
      · obtain rfl : pos = s.size := by omega
        have hnx : ∀ ty, (Instr.next (.pointer (some ⟨w.heap.size + 1, 0, none⟩)) true ty).run Tryz.prog wr = _ := fun ty => Lib.run_next_end_at wr (w.heap.size + 1) s s.size ty hit hlt
        have HF : Hid (Half w s (.string s) wr) := by
          refine ⟨hbw, Or.inl ⟨rfl, ?_, hfr⟩⟩
          rw [Lib.size_eq, List.take_length] at hsp
          exact hsp
        clear hit hbw hfr hsp
        go_wp2_with fail
        go_meet
        exact HF.out
  case rest =>
    obtain ⟨hbw, hr⟩ := hcut
    rcases hr with ⟨rfl, hsame, hfr⟩ | ⟨r, acc, rfl, har, hrs, hal, hall, hB, p, n, cap, hcp, hc1⟩
    · have c1 : wc.cell? ⟨w.heap.size, 1, none⟩ = some (.slice none 0 0) := by rw [Lib.cell_of_heap hfr]; rfl
      have CA := cap_any w.heap.size none 0 0 wc c1
      have HS : Hid (capL s.data.toList = s.data.toList) := hsame
      have HB : Hid (Below w.heap.size w wc) := hbw
      clear hsame hbw hfr c1
      go_wp2_with fail
      refine CA.mono ?_
      rintro e W' ⟨rfl, rfl⟩
      clear CA
      go_wp2_with fail
      go_ret
      refine ⟨?_, HB.out⟩
      have e : (⟨s.data.toList.toArray⟩ : ByteArray) = s := by cases s; simp
      rw [HS.out, e]
      rfl
    · have CA := cap_any w.heap.size p n cap wc hcp
      have hcz : ¬ ((cap : Int) = 0) := by omega
      have hcb : ((cap : Int) == 0) = false := by simp; omega
      have HAL : Hid (acc ++ capL r.data.toList = capL s.data.toList) := hall
      have HB : Hid (Below w.heap.size w wc ∧ Bw w.heap.size w.heap.size (Lib.byteCells acc) wc) := ⟨hbw, hB⟩
      clear hcp hall hbw hB
      go_wp2_with fail
      refine CA.mono ?_
      rintro e W' ⟨rfl, rfl⟩
      clear CA
      go_wp2_with fail
      go_loopg [] r.size (fun gk wx => ∃ (p2 : Nat) (ac : List UInt8), Bw w.heap.size w.heap.size (Lib.byteCells ac) wx ∧ wx.heap[W'.heap.size]? = some (.stringIter r p2) ∧ Below w.heap.size w wx ∧
        ac ++ capL (r.data.toList.drop p2) = capL s.data.toList ∧ r.size ≤ p2 + gk ∧ p2 ≤ r.size ∧ ac.length ≤ s.size + p2)
      case atStart =>
        refine ⟨0, acc, HB.out.2.alloc _, World.iter_heap W' r 0, HB.out.1.alloc HB.out.1.size _, by rw [List.drop_zero]; exact HAL.out, by omega, by omega, by omega⟩
      case round =>
        obtain ⟨p2, ac, hI, hit, hbw, hacc, hfu, hp2, hacl⟩ := hrel
        have hszI : W'.heap.size < wr.heap.size := (Array.getElem?_eq_some_iff.1 hit).1
        have hBI : w.heap.size < W'.heap.size := HB.out.2.lt
        by_cases hlt : p2 < r.size
        · obtain ⟨g', rfl⟩ : ∃ g', gk = g' + 1 := ⟨gk - 1, by omega⟩
          have hb8 : (r[p2]'hlt).toNat < 128 := har _ (mem_at hlt)
          have hnx : ∀ ty, (Instr.next (.pointer (some ⟨W'.heap.size, 0, none⟩)) true ty).run Tryz.prog wr = _ := fun ty => Lib.run_next_ascii_at wr W'.heap.size r p2 ty hit hlt hb8
          have hI2 := hI.iterAt hit (p2 + 1)
          have hit2 := Lib.iterAt_heap wr W'.heap.size r p2 (p2 + 1) hit
          have hbw2 := Lib.below_iterAt hbw (k := W'.heap.size) (by omega) r (p2 + 1)
          have hsz2 : w.heap.size ≤ (wr.iterAt W'.heap.size r (p2 + 1)).heap.size := by rw [Lib.iterAt_size]; omega
          obtain ⟨W, hWd⟩ : ∃ W, wr.iterAt W'.heap.size r (p2 + 1) = W := ⟨_, rfl⟩
          rw [hWd] at hnx hI2 hit2 hbw2 hsz2
          have hdr := at_drop hlt
          have cS := capital_any W _ hb8
          have hcs := cap_cases _ hb8
          obtain ⟨bt, hbt⟩ : ∃ bt, r[p2]'hlt = bt := ⟨_, rfl⟩
          rw [hbt] at hb8 hnx hdr cS hcs
          obtain ⟨x, hx⟩ : ∃ x, bt.toNat = x := ⟨_, rfl⟩
          rw [hx] at hb8 hnx cS hcs
          obtain ⟨M, hM⟩ : ∃ M, capZ x = M := ⟨_, rfl⟩
          rw [hM] at cS hcs
          have HAC : Hid (ac ++ capB bt ++ capL (r.data.toList.drop (p2 + 1)) = capL s.data.toList) := by
            show _ = _
            rw [← hacc, hdr, capL_cons, List.append_assoc]
          have HIT : Hid (W.heap[W'.heap.size]? = some (.stringIter r (p2 + 1)) ∧ Below w.heap.size w W) := ⟨hit2, hbw2⟩
          clear hit hbw hI hWd hacc hdr hbt hx hM hit2 hbw2
          rcases hcs with ⟨hM, hcB⟩ | ⟨c, hcB, hM, hc8⟩
          · subst hM
            have HC : Hid (capB bt = []) := hcB
            have HI : Hid (Bw w.heap.size w.heap.size (Lib.byteCells ac) W) := hI2
            clear hcB hI2
            go_wp2_with fail
            refine cS.mono ?_
            rintro e W2 ⟨rfl, rfl⟩
            clear cS
            go_wp2_with fail
            go_roundg g'
            case measure => omega
            case rel => exact ⟨p2 + 1, ac, HI.out, HIT.out.1, HIT.out.2, by have := HAC.out; rwa [HC.out, List.append_nil] at this, by omega, by omega, by omega⟩
          · subst hM
            have HC : Hid (capB bt = [c]) := hcB
            have WB := wbyte_any hI2 (c.toNat : Int) (by rw [Lib.byteCells_length]; omega) hsz2
            have hcz : ¬ ((c.toNat : Int) < 0) := by omega
            have hc9 : (c.toNat : Int) < 128 := by omega
            clear hcB hI2
            go_wp2_with fail
            refine cS.mono ?_
            rintro e W2 ⟨rfl, rfl⟩
            clear cS
            go_wp2_with fail
            refine WB.mono ?_
            rintro e W3 ⟨rfl, h3, b3, k3⟩
            clear WB
            have HI : Hid (Bw w.heap.size w.heap.size (Lib.byteCells (ac ++ [c])) W3 ∧ Below w.heap.size W2 W3 ∧ W3.heap[W'.heap.size]? = some (.stringIter r (p2 + 1))) := ⟨by rw [Lib.byteCells_append]; exact h3, b3, k3.iter HIT.out.1 (by omega)⟩
            clear h3 b3 k3
            go_wp2_with fail
            go_roundg g'
            case measure => omega
            case rel => exact ⟨p2 + 1, ac ++ [c], HI.out.1, HI.out.2.2, HIT.out.2.trans HI.out.2.1, by have := HAC.out; rwa [HC.out] at this, by omega, by omega, by rw [List.length_append]; simp only [List.length_singleton]; omega⟩
        · obtain rfl : p2 = r.size := by omega
          have hnx : ∀ ty, (Instr.next (.pointer (some ⟨W'.heap.size, 0, none⟩)) true ty).run Tryz.prog wr = _ := fun ty => Lib.run_next_end_at wr W'.heap.size r r.size ty hit hlt
          have ST := str_any (Or.inr hI) hbw.size
          have HS : Hid (ac = capL s.data.toList ∧ Below w.heap.size w wr) := by
            refine ⟨?_, hbw⟩
            have := hacc
            rw [Lib.size_eq, List.drop_length] at this
            simpa [capL] using this
          clear hI hit hbw hacc
          go_wp2_with fail
          refine ST.mono ?_
          rintro e W8 ⟨rfl, b8⟩
          clear ST
          go_wp2_with fail
          go_ret
          refine ⟨?_, HS.out.2.trans b8⟩
          rw [HS.out.1]
          rfl
end Go.Proofs.YtcabaecbmkgclaaGreatDoor.Cp
