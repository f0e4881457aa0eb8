/-
  What the forest's follow does.
  What the forest's grow does.
  What the forest's barrier and the matching's flip do.
  The matching by itself: its block; what flip does.
  What the matching's pairs does.
  Values of graphs and matchings; what empty does.
-/
import Derived.Test.YtcabaecbmkgclaaGreatDoorR28
namespace Go.Proofs.YtcabaecbmkgclaaGreatDoor.Mg
open Go.RowKit Mt
section
variable {w w' : World} {B : Nat} {g : Gr} {mate : Nat → Option Nat} {f : Fo} {h : Gh}
theorem rt_lt (G : GrOk g) (M : MtOk g mate) (I : Inv g mate f h) {v : Nat} {l : List Nat} (r : Rt g mate f h v l) : ∀ x ∈ l, x < 24 := by
  intro x hx
  have hn := G.n24
  rcases r.lab x hx with e | ⟨_, b, e, _⟩
  · have := I.olt x e.1
    omega
  · have := (G.lt _ _ (M.adj _ _ e)).1
    omega

/-- What follow hands back. -/
def FlIs (w : World) (B : Nat) (g : Gr) (mate : Nat → Option Nat) (R : Option (List Nat) × Fo) (e : Ending) (w' : World) : Prop :=
  FFr B w w' ∧ ((R.1 = none ∧ e = .returned (.tuple #[.slice none 0 0, .bool false]) ∧ FAt w' B g mate R.2) ∨
    ∃ p, R.1 = some p ∧ ∃ rv, e = .returned (.tuple #[rv, .bool true]) ∧ Ints w' w.heap.size rv p ∧ Below w.heap.size w w')

set_option maxRecDepth 100000 in
set_option maxHeartbeats 1000000 in
theorem follow_any (hA : FAt w B g mate f) (G : GrOk g) (M : MtOk g mate) (I : Inv g mate f h) {v u : Nat} (hv : f.outer v = true) (hvu : g.adj v u = true) :
    Calls Tryz.prog 65 #[.pointer (some ⟨B, 0, none⟩), .int .i64 v, .int .i64 u] w fun e w' => FlIs w B g mate (followF mate f v u) e w' := by
  have hn := G.n24
  have hun := (G.lt _ _ hvu).2
  have hu24 : u < 24 := by omega
  have hv24 : v < 24 := by have := I.olt v hv; omega
  have u24 : (u : Int) < 24 := by omega
  have v24 : (v : Int) < 24 := by omega
  have co := hA.outer u hu24
  have ci := hA.inner u hu24
  have hq : f.queue.length ≤ 24 := by have := I.qlen; omega
  have HF : Hid (FAt w B g mate f) := hA
  have HG : Hid (GrOk g ∧ MtOk g mate ∧ Inv g mate f h) := ⟨G, M, I⟩
  have HVU : Hid (f.outer v = true ∧ g.adj v u = true) := ⟨hv, hvu⟩
  clear hA G M I hv hvu
  by_cases h1 : f.outer u = false ∧ f.inner u = false
  · have HX : Hid (followF mate f v u = (none, taken f v u (mateOf mate u))) := by unfold followF; rw [if_pos h1]; exact rfl
    obtain ⟨m, hm, hmo, hmi⟩ := HG.out.2.2.fresh HG.out.2.1 hun h1.1 h1.2
    have hmn := (HG.out.1.lt _ _ (HG.out.2.1.adj _ _ hm)).2
    have e : mateOf mate u = m := by unfold mateOf; rw [hm]; rfl
    rw [e] at HX
    have HTK := take_any HF.out (v := v) hu24 hm (show m < 24 by omega) (by omega)
    rw [h1.1] at co
    rw [h1.2] at ci
    clear h1 hm hmo hmi e
    go_enter Tryz.func65, Tryz.ntmps65
    go_wp2_with fail
    refine HTK.mono ?_
    rintro e w2 ⟨rfl, hA2, hf2⟩
    have HE : Hid (FlIs w B g mate (followF mate f v u) (.returned (.tuple #[.slice none 0 0, .bool false])) w2) := ⟨hf2, .inl (by rw [HX.out]; exact ⟨rfl, rfl, hA2⟩)⟩
    clear HTK hA2 hf2
    go_wp2_with fail
    refine bodyPost_ret (v := .tuple #[.slice none 0 0, .bool false]) ?_ rfl HE.out
    simp [results, Tryz.results65]
  · cases hou : f.outer u
    · have hin : f.inner u = true := by
        cases hi : f.inner u
        · exact absurd ⟨hou, hi⟩ h1
        · rfl
      have HX : Hid (followF mate f v u = (none, f)) := by unfold followF; rw [if_neg h1, if_pos (.inl hou)]; exact rfl
      have HE : Hid (∀ n, FlIs w B g mate (followF mate f v u) (.returned (.tuple #[.slice none 0 0, .bool false])) (w.drewN n)) := fun n => ⟨(FFr.refl B w).drewN n, .inl (by rw [HX.out]; exact ⟨rfl, rfl, HF.out.drewN n⟩)⟩
      rw [hou] at co
      rw [hin] at ci
      clear h1 hou hin
      go_enter Tryz.func65, Tryz.ntmps65
      go_wp2_with fail
      go_quiet (fail)
      go_wp2_with fail
      refine bodyPost_ret (v := .tuple #[.slice none 0 0, .bool false]) ?_ rfl (HE.out _)
      simp [results, Tryz.results65]
    · rw [hou] at co
      have hl1 : ∀ n, (Instr.loadAt 110 (.pointer (some ⟨B, 49 + v * 24, none⟩))).run Tryz.prog (w.drewN n) = .ok (.agg (ringCells (f.ring v)).toArray) (w.drewN n) := fun n => load_ring ((HF.out.drewN n).rangeRing hv24)
      have hl2 : ∀ n, (Instr.loadAt 110 (.pointer (some ⟨B, 49 + u * 24, none⟩))).run Tryz.prog (w.drewN n) = .ok (.agg (ringCells (f.ring u)).toArray) (w.drewN n) := fun n => load_ring ((HF.out.drewN n).rangeRing hu24)
      have heq : ∀ (wx : World) r s, (Op.equalIn 10000 110 (.agg (ringCells r).toArray) (.agg (ringCells s).toArray)).run Tryz.prog wx = .ok (ringEq r s) wx := fun wx r s => run_equal_ring wx 9998 r s
      cases hre : ringEq (f.ring v) (f.ring u)
      · have h2 : ¬ (f.outer u = false ∨ ringEq (f.ring v) (f.ring u) = true) := by rw [hou, hre]; simp
        obtain ⟨l, hl⟩ := HG.out.2.2.route HG.out.2.1 HVU.out.1
        obtain ⟨r, hr⟩ := HG.out.2.2.route HG.out.2.1 hou
        have HX : Hid (followF mate f v u = if l.getLast? = r.getLast? then (none, contractF f l r v u) else (some (l.reverse ++ r), f)) := by
          unfold followF
          rw [if_neg h1, if_neg h2]
          simp only
          rw [hl.eqF HG.out.1 HG.out.2.1 HG.out.2.2, hr.eqF HG.out.1 HG.out.2.1 HG.out.2.2]
          exact rfl
        have HBR : Hid (∀ n, Calls Tryz.prog 87 #[.pointer (some ⟨B, 0, none⟩), .int .i64 v, .int .i64 u] (w.drewN n) fun e w' => BrIs (w.drewN n) B g mate f l r v u e w') := fun n =>
          bridge_any (HF.out.drewN n) (fun a x k => (HG.out.2.2.rlt a x k).2) (by omega) hl.alt hl.free hl.head (by have := hl.len HG.out.1 HG.out.2.1 HG.out.2.2; omega) (rt_lt HG.out.1 HG.out.2.1 HG.out.2.2 hl) (alt_last hl.alt)
            hr.alt hr.free hr.head (by have := hr.len HG.out.1 HG.out.2.1 HG.out.2.2; omega) (rt_lt HG.out.1 HG.out.2.1 HG.out.2.2 hr) (alt_last hr.alt)
        clear h1 h2 hl hr
        go_enter Tryz.func65, Tryz.ntmps65
        go_wp2_with fail
        refine wp_region_quiet_lit (by kernel_rfl) (by kernel_rfl) ?_
        quiet_step (fail)
        quiet_step (fail)
        quiet_step (fail)
        quiet_step (fail)
        quiet_step (fail)
        quiet_step (fail)
        quiet_step (fail)
        quiet_step (fail)
        quiet_step (fail)
        quiet_step (fail)
        quiet_step (fail)
        quiet_step (fail)
        quiet_step (fail)
        refine quiet_load (v := .agg (ringCells (f.ring v)).toArray) (by kernel_rfl) rfl (fun wx hC => by obtain ⟨n, rfl⟩ := hC; exact hl1 n) ?_
        try simp only [Act.put, List.setIfInBounds_toArray, List.set_cons_zero, List.set_cons_succ]
        quiet_step (fail)
        quiet_step (fail)
        quiet_step (fail)
        quiet_step (fail)
        quiet_step (fail)
        refine quiet_load (v := .agg (ringCells (f.ring u)).toArray) (by kernel_rfl) rfl (fun wx hC => by obtain ⟨n, rfl⟩ := hC; exact hl2 n) ?_
        try simp only [Act.put, List.setIfInBounds_toArray, List.set_cons_zero, List.set_cons_succ]
        quiet_step (fail)
        quiet_step (fail)
        quiet_step (fail)
        refine wpQuiet_nil ?_
        intro _ hw'
        obtain ⟨nq, hw''⟩ := hw'
        subst hw''
        go_wp2_with fail
        refine (HBR.out _).mono ?_
        rintro e w2 ⟨hf2, hcase⟩
        have hf0 : FFr B w w2 := ((FFr.refl B w).drewN nq).trans hf2
        rcases hcase with ⟨hlr, rfl, hA2⟩ | ⟨hlr, rv, rfl, hI2, hB2⟩
        · have HE : Hid (FlIs w B g mate (followF mate f v u) (.returned (.tuple #[.slice none 0 0, .bool false])) w2) := ⟨hf0, .inl (by rw [HX.out, if_pos hlr]; exact ⟨rfl, rfl, hA2⟩)⟩
          clear HBR HX hf2 hf0 hA2 hlr
          go_wp2_with fail
          refine bodyPost_ret (v := .tuple #[.slice none 0 0, .bool false]) ?_ rfl HE.out
          simp [results, Tryz.results65]
        · have HE : Hid (FlIs w B g mate (followF mate f v u) (.returned (.tuple #[rv, .bool true])) w2) := ⟨hf0, .inr ⟨_, by rw [HX.out, if_neg hlr], rv, rfl, hI2, (below_drewN (Below.refl _ w) nq).trans hB2⟩⟩
          clear HBR HX hf2 hf0 hI2 hB2 hlr
          go_wp2_with fail
          refine bodyPost_ret (v := .tuple #[rv, .bool true]) ?_ rfl HE.out
          simp [results, Tryz.results65]
      · have HX : Hid (followF mate f v u = (none, f)) := by unfold followF; rw [if_neg h1, if_pos (.inr hre)]; exact rfl
        have HE : Hid (∀ n, FlIs w B g mate (followF mate f v u) (.returned (.tuple #[.slice none 0 0, .bool false])) (w.drewN n)) := fun n => ⟨(FFr.refl B w).drewN n, .inl (by rw [HX.out]; exact ⟨rfl, rfl, HF.out.drewN n⟩)⟩
        clear h1
        go_enter Tryz.func65, Tryz.ntmps65
        go_wp2_with fail
        refine wp_region_quiet_lit (by kernel_rfl) (by kernel_rfl) ?_
        quiet_step (fail)
        quiet_step (fail)
        quiet_step (fail)
        quiet_step (fail)
        quiet_step (fail)
        quiet_step (fail)
        quiet_step (fail)
        quiet_step (fail)
        quiet_step (fail)
        quiet_step (fail)
        quiet_step (fail)
        quiet_step (fail)
        quiet_step (fail)
        refine quiet_load (v := .agg (ringCells (f.ring v)).toArray) (by kernel_rfl) rfl (fun wx hC => by obtain ⟨n, rfl⟩ := hC; exact hl1 n) ?_
        try simp only [Act.put, List.setIfInBounds_toArray, List.set_cons_zero, List.set_cons_succ]
        quiet_step (fail)
        quiet_step (fail)
        quiet_step (fail)
        quiet_step (fail)
        quiet_step (fail)
        refine quiet_load (v := .agg (ringCells (f.ring u)).toArray) (by kernel_rfl) rfl (fun wx hC => by obtain ⟨n, rfl⟩ := hC; exact hl2 n) ?_
        try simp only [Act.put, List.setIfInBounds_toArray, List.set_cons_zero, List.set_cons_succ]
        quiet_step (fail)
        quiet_step (fail)
        quiet_step (fail)
        refine wpQuiet_nil ?_
        intro _ hw'
        obtain ⟨nq, hw''⟩ := hw'
        subst hw''
        go_wp2_with fail
        refine bodyPost_ret (v := .tuple #[.slice none 0 0, .bool false]) ?_ rfl (HE.out _)
        simp [results, Tryz.results65]
end
section
variable {w w' : World} {B : Nat} {g : Gr} {mate : Nat → Option Nat} {f : Fo} {h : Gh}
/-- What grow hands back. -/
def GwIs (w : World) (B : Nat) (g : Gr) (mate : Nat → Option Nat) (e : Ending) (w' : World) : Prop :=
  FFr B w w' ∧ ((e = .returned (.tuple #[.slice none 0 0, .bool false]) ∧ ∃ f' h', FAt w' B g mate f' ∧ Inv g mate f' h' ∧ Mt.Shut g f') ∨
    ∃ p, Aug g mate p ∧ ∃ rv, e = .returned (.tuple #[rv, .bool true]) ∧ Ints w' w.heap.size rv p)

/-- Where grow stands: at the i-th of its queue, at number c. -/
structure GwAt (w : World) (B : Nat) (g : Gr) (mate : Nat → Option Nat) (i c : Nat) (f : Fo) (h : Gh) (wr : World) : Prop where
  fo : FAt wr B g mate f
  inv : Inv g mate f h
  seen : Seen g f i c
  fr : FFr B w wr

theorem FAt.queueAt (hA : FAt w B g mate f) {i v : Nat} (hi : f.queue[i]? = some v) : ∃ gq cq, w.cell? ⟨B, 697, none⟩ = some (.slice (some ⟨gq, 0, none⟩) f.queue.length cq) ∧ w.cell? ⟨gq, i, none⟩ = some (.int .i64 v) := by
  obtain ⟨qv, hc, hI, _⟩ := hA.queue
  obtain ⟨gq, cq, rfl, _, _, hx⟩ := hI.at hi
  exact ⟨gq, cq, hc, hx⟩

theorem FAt.queueLen (hA : FAt w B g mate f) : ∃ so cq, w.cell? ⟨B, 697, none⟩ = some (.slice so f.queue.length cq) := by
  obtain ⟨qv, hc, hI, _⟩ := hA.queue
  obtain ⟨so, cq, rfl⟩ := hI.shape
  exact ⟨so, cq, hc⟩

set_option maxRecDepth 100000 in
set_option maxHeartbeats 1000000 in
theorem grow_any (hA : FAt w B g mate f) (G : GrOk g) (M : MtOk g mate) (I : Inv g mate f h) :
    Calls Tryz.prog 36 #[.pointer (some ⟨B, 0, none⟩)] w fun e w' => GwIs w B g mate e w' := by
  have hn := G.n24
  have HST : Hid (GwAt w B g mate 0 0 f h w) := ⟨hA, I, seen_start, FFr.refl B w⟩
  have HG : Hid (GrOk g ∧ MtOk g mate) := ⟨G, M⟩
  clear hA G M I
  go_enter Tryz.func36, Tryz.ntmps36
  go_wp2_with fail
  go_loopg [4] 26 (fun k v4 wr => ∃ (i : Nat) (f : Fo) (h : Gh), i ≤ f.queue.length ∧ 25 - i ≤ k ∧ v4 = .int .i64 i ∧ GwAt w B g mate i 0 f h wr)
  case atStart => exact ⟨0, f, h, by omega, by omega, rfl, HST.out⟩
  case round =>
    clear HST
    obtain ⟨i, f, h, hi, hk, rfl, hat⟩ := hrel
    have hql : f.queue.length ≤ 24 := by have := hat.inv.qlen; omega
    have HAT : Hid (GwAt w B g mate i 0 f h wr) := hat
    by_cases hlt : i < f.queue.length
    · have hlt' : (i : Int) < (f.queue.length : Int) := by omega
      have gi := List.getElem?_eq_getElem hlt
      generalize f.queue[i] = v at gi
      obtain ⟨gq, cq, c697, cx⟩ := hat.fo.queueAt gi
      have cn := hat.fo.n
      have HV : Hid (f.queue[i]? = some v) := gi
      clear gi hat
      go_wp2_with fail
      have hv24 : v < 24 := by have := HAT.out.inv.olt v ((HAT.out.inv.q v).1 (List.mem_of_getElem? HV.out)); omega
      go_loopg [30] 26 (fun k v30 wr => ∃ (c : Nat) (f : Fo) (h : Gh), c ≤ g.n ∧ 25 - c ≤ k ∧ v30 = .int .i64 c ∧ f.queue[i]? = some v ∧ GwAt w B g mate i c f h wr)
      case atStart => exact ⟨0, f, h, by omega, by omega, rfl, HV.out, HAT.out⟩
      case round =>
        clear HAT HV c697 cx cn hlt hlt' hql hi
        obtain ⟨c, f, h, hc, hkc, rfl, hqi, hat⟩ := hrel
        have HQ : Hid (f.queue[i]? = some v) := hqi
        have HAT : Hid (GwAt w B g mate i c f h wr) := hat
        have HIL : Hid (i < f.queue.length ∧ f.queue.length ≤ 24) := ⟨(List.getElem?_eq_some_iff.1 hqi).1, by have := hat.inv.qlen; omega⟩
        have HVO : Hid (f.outer v = true) := (hat.inv.q v).1 (List.mem_of_getElem? hqi)
        clear hat hqi
        by_cases hcn : c < g.n
        · have hcn' : (c : Int) < (g.n : Int) := by omega
          have HJ := joined_any HAT.out.fo hv24 (show c < 24 by omega)
          cases hadj : g.adj v c
          · rw [hadj] at HJ
            go_wp2_with fail
            refine HJ.mono ?_
            rintro e w2 ⟨rfl, rfl⟩
            go_wp2_with fail
            go_roundg (25 - (c + 1))
            case measure => omega
            case rel => exact ⟨c + 1, f, h, by omega, by omega, by go_num, HQ.out, ⟨HAT.out.fo, HAT.out.inv, seen_skip HG.out.1 HQ.out hadj HAT.out.seen, HAT.out.fr⟩⟩
          · rw [hadj] at HJ
            have HFL := follow_any HAT.out.fo HG.out.1 HG.out.2 HAT.out.inv HVO.out hadj
            have HOK := follow_ok HG.out.1 HG.out.2 HAT.out.inv HVO.out hadj
            have HOK' : Hid _ := HOK
            clear HOK
            go_wp2_with fail
            refine HJ.mono ?_
            rintro e w2 ⟨rfl, rfl⟩
            go_wp2_with fail
            refine HFL.mono ?_
            rintro e w2 ⟨hf2, hcase⟩
            rcases hcase with ⟨hno, rfl, hA2⟩ | ⟨p, hp, rv, rfl, hI2, hB2⟩
            · have HN : Hid (∃ h', GwAt w B g mate i (c + 1) (followF mate f v c).2 h' w2 ∧ (followF mate f v c).2.queue[i]? = some v) := by
                rcases HOK'.out with ⟨p, hp, _⟩ | ⟨_, ⟨h', hI'⟩, hgr, hin, hri⟩
                · rw [hp] at hno
                  cases hno
                · obtain ⟨q, hq⟩ := hgr.queue
                  exact ⟨h', ⟨hA2, hI', seen_step HAT.out.inv hI' hgr HQ.out hin hri HAT.out.seen, HAT.out.fr.trans hf2⟩, by rw [hq, List.getElem?_append_left HIL.out.1]; exact HQ.out⟩
              clear hno hA2 hf2 HFL HJ
              go_wp2_with fail
              go_roundg (25 - (c + 1))
              case measure => omega
              case rel =>
                obtain ⟨h', hg', hq'⟩ := HN.out
                exact ⟨c + 1, _, h', by omega, by omega, by go_num, hq', hg'⟩
            · have HE : Hid (GwIs w B g mate (.returned (.tuple #[rv, .bool true])) w2) := by
                refine ⟨HAT.out.fr.trans hf2, .inr ⟨p, ?_, rv, rfl, ownsRow_mono hI2 HAT.out.fr.size⟩⟩
                rcases HOK'.out with ⟨p', hp', ha⟩ | ⟨hp', _⟩
                · rw [hp'] at hp
                  cases hp
                  exact ha
                · rw [hp'] at hp
                  cases hp
              clear hp hI2 hB2 hf2 HFL HJ
              go_wp2_with fail
              refine bodyPost_ret (v := .tuple #[rv, .bool true]) ?_ rfl HE.out
              simp [results, Tryz.results36]
        · have hcn' : ¬ (c : Int) < (g.n : Int) := by omega
          have ec : c = g.n := by omega
          have hi24 : i < 24 := by have := HIL.out; omega
          subst ec
          go_wp2_with fail
          go_roundg (25 - (i + 1))
          case measure => have := HIL.out; omega
          case rel => exact ⟨i + 1, f, h, HIL.out.1, Nat.le_refl _, by go_num, ⟨HAT.out.fo, HAT.out.inv, seen_row HG.out.1 HAT.out.seen, HAT.out.fr⟩⟩
    · have hlt' : ¬ (i : Int) < (f.queue.length : Int) := by omega
      obtain ⟨so, cq, c697⟩ := hat.fo.queueLen
      have HE : Hid (GwIs w B g mate (.returned (.tuple #[.slice none 0 0, .bool false])) wr) := ⟨hat.fr, .inl ⟨rfl, f, h, hat.fo, hat.inv, seen_end hat.inv (by omega) hat.seen⟩⟩
      clear hat
      go_wp2_with fail
      refine bodyPost_ret (v := .tuple #[.slice none 0 0, .bool false]) ?_ rfl HE.out
      simp [results, Tryz.results36]
end
section
variable {w w' : World} {B : Nat} {g : Gr} {mate : Nat → Option Nat} {f : Fo}
theorem filter_yes {p : Nat → Bool} {c : Nat} (h : p c = true) : (List.range (c + 1)).filter p = (List.range c).filter p ++ [c] := by rw [List.range_succ, List.filter_append]; simp [h]
theorem filter_no {p : Nat → Bool} {c : Nat} (h : p c = false) : (List.range (c + 1)).filter p = (List.range c).filter p := by rw [List.range_succ, List.filter_append]; simp [h]
theorem filter_len (p : Nat → Bool) (c : Nat) : ((List.range c).filter p).length ≤ c := by
  have := List.length_filter_le p (List.range c)
  simpa using this

set_option maxRecDepth 100000 in
set_option maxHeartbeats 1000000 in
theorem barrier_any (hA : FAt w B g mate f) (hn : g.n ≤ 24) :
    Calls Tryz.prog 38 #[.pointer (some ⟨B, 0, none⟩)] w fun e w' => ∃ rv, e = .returned rv ∧ Ints w' w.heap.size rv (barF g.n f) ∧ Below w.heap.size w w' := by
  obtain ⟨i0, hi, hz0, hz1, hz2⟩ := info_parts Tryz.infoInt
  have HF : Hid (FAt w B g mate f) := hA
  have cn := hA.n
  clear hA
  go_enter Tryz.func38, Tryz.ntmps38
  go_wp2_with fail
  go_loopg [3, 10] 26 (fun k v3 v10 wr => ∃ c : Nat, c ≤ g.n ∧ 25 - c ≤ k ∧ v10 = .int .i64 c ∧ Ints wr w.heap.size v3 ((List.range c).filter (bar f)) ∧ Below w.heap.size w wr)
  case atStart => exact ⟨0, by omega, by omega, rfl, Ints.nil _ _, Below.refl _ _⟩
  case round =>
    obtain ⟨c, hc, hk, rfl, hI, hb⟩ := hrel
    have HI : Hid (Ints wr w.heap.size _ ((List.range c).filter (bar f))) := hI
    have HB : Hid (Below w.heap.size w wr) := hb
    have hA := HF.out.below hb
    have hws := hb.size
    have hlen := filter_len (bar f) c
    clear cn
    by_cases hcn : c < g.n
    · have hcn' : (c : Int) < (g.n : Int) := by omega
      have c24 : (c : Int) < 24 := by omega
      have ci := hA.inner c (by omega)
      have co := hA.outer c (by omega)
      obtain ⟨so, sc, hss⟩ := hI.shape
      subst hss
      clear hA hb hI
      cases hin : f.inner c
      · rw [hin] at ci
        have HN : Hid ((List.range (c + 1)).filter (bar f) = (List.range c).filter (bar f)) := filter_no (by unfold bar; simp [hin])
        go_wp2_with fail
        go_roundg (25 - (c + 1))
        case measure => omega
        case rel => exact ⟨c + 1, by omega, Nat.le_refl _, by go_num, by rw [HN.out]; exact HI.out, HB.out⟩
      · rw [hin] at ci
        cases hou : f.outer c
        · rw [hou] at co
          have HN : Hid ((List.range (c + 1)).filter (bar f) = (List.range c).filter (bar f) ++ [c]) := filter_yes (by unfold bar; simp [hin, hou])
          have HINA : Hid (∀ ob, (wr.alloc ob).ownsRow w.heap.size 3 1 (.slice so ((List.range c).filter (bar f)).length sc) ((List.range c).filter (bar f)).length (intCells ((List.range c).filter (bar f)))) := fun ob => HI.out.alloc ob
          have HN1 : Hid (∀ t, ∀ j u, [Value.int .i64 (c : Int)][j]? = some u → (wr.alloc (.cells #[.int .i64 (c : Int)] t)).cell? ((⟨wr.heap.size, 0, none⟩ : Addr).add j) = some u) := fun t j u hj => by
            rw [Addr.add_mid, Nat.zero_add, World.cell?_alloc_new]
            simpa using hj
          generalize hq : (List.range c).filter (bar f) = q at *
          go_wp2_with (at_builtin; go_must (refine wpList_append_mine rfl (.tmp 28) (.tmp 30) 25 rfl w.heap.size 3 i0 (.int .i64 0) 1 8 Tryz.underlying25 hi hz0 hz1 hz2 rfl (by decide) (.slice so q.length sc) q.length (intCells q) rfl (by exact HINA.out _) ⟨wr.heap.size, 0, none⟩ 1 1 [.int .i64 (c : Int)] rfl rfl (by exact HN1.out _) (by intro u hu; simp at hu; rcases hu with rfl; rfl) (by unfold maxLen; omega) (by omega) (by simp; omega) ?_))
          intro v' w2 ho hg hkk
          have HI2 : Hid (Ints w2 w.heap.size v' (q ++ [c])) := by
            unfold Hid Ints
            have e1 : (q ++ [c]).length = q.length + 1 := by simp
            have e2 : intCells (q ++ [c]) = intCells q ++ [.int .i64 (c : Int)] := by simp [intCells]
            rw [e1, e2]
            exact ho
          have HB2 : Hid (Below w.heap.size w w2) := (HB.out.alloc hws _).grown hg (by simp; omega) (fun k hk => (HI.out.lt k hk).1)
          clear ho hg hkk
          go_wp2_with fail
          go_roundg (25 - (c + 1))
          case measure => omega
          case rel => exact ⟨c + 1, by omega, Nat.le_refl _, by go_num, by rw [HN.out]; exact HI2.out, HB2.out⟩
        · rw [hou] at co
          have HN : Hid ((List.range (c + 1)).filter (bar f) = (List.range c).filter (bar f)) := filter_no (by unfold bar; simp [hin, hou])
          go_wp2_with fail
          go_roundg (25 - (c + 1))
          case measure => omega
          case rel => exact ⟨c + 1, by omega, Nat.le_refl _, by go_num, by rw [HN.out]; exact HI.out, HB.out⟩
    · have hcn' : ¬ (c : Int) < (g.n : Int) := by omega
      have ec : c = g.n := by omega
      subst ec
      clear hA hb hI
      go_wp2_with fail
      go_ret
      exact ⟨_, rfl, HI.out, HB.out⟩
end
/-- A matching lies in block M. -/
structure MAt (w : World) (M : Nat) (g : Gr) (mate : Nat → Option Nat) : Prop where
  near : ∀ k, k < 24 → ∃ m : Nat, w.cell? ⟨M, k, none⟩ = some (.int .u32 m) ∧ m < 4294967296 ∧ ∀ j, j < 24 → m.testBit j = g.adj k j
  n : w.cell? ⟨M, 24, none⟩ = some (.int .i64 g.n)
  mate : ∀ k, k < 24 → w.cell? ⟨M, 25 + k, none⟩ = some (.int .i64 (mi (mate k)))
  free : ∀ i, w.frozen? ⟨M, i, none⟩ = false

/-- Nothing but block M has turned, and there may be new blocks. -/
structure MFr (M : Nat) (w w' : World) : Prop where
  os : w'.os = w.os
  tape : w'.tape = w.tape
  output : w'.output = w.output
  size : w.heap.size ≤ w'.heap.size
  block : ∀ k, k < w.heap.size → k ≠ M → w'.heap[k]? = w.heap[k]?

section
variable {w w' : World} {M : Nat} {g : Gr} {mate : Nat → Option Nat}
theorem MAt.lt (h : MAt w M g mate) : M < w.heap.size := World.block_lt_of_cell? w ⟨M, 24, none⟩ h.n

theorem MAt.same (h : MAt w M g mate) (hs : w'.heap[M]? = w.heap[M]?) : MAt w' M g mate := by
  have hc : ∀ i, w'.cell? ⟨M, i, none⟩ = w.cell? ⟨M, i, none⟩ := fun i => World.cell?_of_block hs
  have hf : ∀ i, w'.frozen? ⟨M, i, none⟩ = w.frozen? ⟨M, i, none⟩ := fun i => by simp [World.frozen?, hs]
  exact ⟨fun k hk => by rw [hc]; exact h.near k hk, by rw [hc]; exact h.n, fun k hk => by rw [hc]; exact h.mate k hk, fun i => by rw [hf]; exact h.free i⟩

theorem MFr.refl (M : Nat) (w : World) : MFr M w w := ⟨rfl, rfl, rfl, Nat.le_refl _, fun _ _ _ => rfl⟩
theorem MFr.trans {a b c : World} (h : MFr M a b) (k : MFr M b c) : MFr M a c :=
  ⟨k.os.trans h.os, k.tape.trans h.tape, k.output.trans h.output, Nat.le_trans h.size k.size, fun i hi hm => (k.block i (Nat.lt_of_lt_of_le hi h.size) hm).trans (h.block i hi hm)⟩
theorem MFr.of_below (h : Below w.heap.size w w') : MFr M w w' := ⟨h.os, h.tape, h.output, h.size, fun k hk _ => h.block k hk⟩
theorem MFr.set {a : World} (h : MFr M a w) (i : Nat) (u : Value) : MFr M a (w.setCell ⟨M, i, none⟩ u) :=
  ⟨h.os, h.tape, h.output, by simpa using h.size, fun k hk hn => by rw [Below.heap_setCell w _ u k hn]; exact h.block k hk hn⟩
theorem MFr.drew {a : World} (h : MFr M a w) : MFr M a w.drew := ⟨h.os, h.tape, h.output, h.size, h.block⟩
theorem MFr.drewN {a : World} (h : MFr M a w) (n : Nat) : MFr M a (w.drewN n) := ⟨h.os, h.tape, h.output, h.size, h.block⟩

theorem MAt.set (h : MAt w M g mate) {a : Nat} (ha : a < 24) (b : Nat) : MAt (w.setCell ⟨M, 25 + a, none⟩ (.int .i64 (b : Int))) M g (setAt mate a (some b)) := by
  have hc : ∀ j, j ≠ 25 + a → (w.setCell ⟨M, 25 + a, none⟩ (.int .i64 (b : Int))).cell? ⟨M, j, none⟩ = w.cell? ⟨M, j, none⟩ := fun j hj => cell_set_ne (fun e => hj e.symm) _
  refine ⟨fun k hk => by rw [hc _ (by omega)]; exact h.near k hk, by rw [hc _ (by omega)]; exact h.n, ?_, fun j => by rw [World.frozen?_setCell]; exact h.free j⟩
  intro k hk
  by_cases e : k = a
  · subst e
    rw [World.cell?_setCell_same w _ _ (h.mate k hk)]
    simp [setAt, mi]
  · rw [hc _ (by omega)]
    simp only [setAt, if_neg e]
    exact h.mate k hk

/-- Where flip stands. -/
def MfAt (w : World) (M : Nat) (g : Gr) (mate : Nat → Option Nat) (base : Nat) (pv : Value) (p : List Nat) (k : Nat) (v4 : Value) (wr : World) : Prop :=
  ∃ pre rest mt, p = pre ++ rest ∧ rest.length < k ∧ v4 = .int .i64 (pre.length : Nat) ∧ Mt.flip mt rest = Mt.flip mate p ∧ MAt wr M g mt ∧ Ints wr base pv p ∧ MFr M w wr

set_option maxRecDepth 100000 in
set_option maxHeartbeats 1000000 in
theorem flip_any (hA : MAt w M g mate) {base : Nat} {pv : Value} {p : List Nat} (hp : Ints w base pv p) (hpm : pv.ownBlock ≠ some M) (hl : p.length ≤ 48) (h24 : ∀ x ∈ p, x < 24) (hnd : p.Nodup) :
    Calls Tryz.prog 39 #[.pointer (some ⟨M, 0, none⟩), pv] w fun e w' => e = .returned (.tuple #[]) ∧ MAt w' M g (Mt.flip mate p) ∧ MFr M w w' := by
  obtain ⟨so, sc, hss⟩ := hp.shape
  subst hss
  have HST : Hid (MfAt w M g mate base (.slice so p.length sc) p 49 (.int .i64 (0 : Nat)) w) := ⟨[], p, mate, rfl, by omega, rfl, rfl, hA, hp, MFr.refl M w⟩
  have H24 : Hid (∀ x ∈ p, x < 24) := h24
  have HND : Hid p.Nodup := hnd
  have HPM : Hid ((Value.slice so p.length sc).ownBlock ≠ some M) := hpm
  clear hA hp hpm h24 hnd
  go_enter Tryz.func39, Tryz.ntmps39
  go_wp2_with fail
  go_loopg [4] 49 (fun k v4 wr => MfAt w M g mate base (.slice so p.length sc) p k v4 wr)
  case atStart => exact HST.out
  case round =>
    clear HST
    obtain ⟨pre, rest, mt, hsp, hk, rfl, hfl, hA, hI, hfr⟩ := hrel
    have HA : Hid (MAt wr M g mt) := hA
    have HI : Hid (Ints wr base (.slice so p.length sc) p) := hI
    have HFR : Hid (MFr M w wr) := hfr
    have hpl : p.length = pre.length + rest.length := by rw [hsp, List.length_append]
    have HSP : Hid (p = pre ++ rest) := hsp
    have HFL : Hid (Mt.flip mt rest = Mt.flip mate p) := hfl
    clear hsp hfl hfr
    match rest, hk, hpl, HSP, HFL with
    | [], hk, hpl, HSP, HFL =>
      have hlt' : ¬ ((pre.length : Int) + 1 < (p.length : Int)) := by simp at hpl; omega
      have HE : Hid (MAt wr M g (Mt.flip mate p)) := by rw [← HFL.out]; exact HA.out
      clear hA hI
      go_wp2_with fail
      go_end0
      exact ⟨rfl, HE.out, HFR.out⟩
    | [z], hk, hpl, HSP, HFL =>
      have hlt' : ¬ ((pre.length : Int) + 1 < (p.length : Int)) := by simp at hpl; omega
      have HE : Hid (MAt wr M g (Mt.flip mate p)) := by rw [← HFL.out]; exact HA.out
      clear hA hI
      go_wp2_with fail
      go_end0
      exact ⟨rfl, HE.out, HFR.out⟩
    | a :: b :: l, hk, hpl, HSP, HFL =>
      have hlt' : ((pre.length : Int) + 1 < (p.length : Int)) := by simp at hpl; omega
      have ga : p[pre.length]? = some a := by rw [HSP.out]; simp
      have gb : p[pre.length + 1]? = some b := by rw [HSP.out]; simp
      have ha24 := H24.out a (List.mem_of_getElem? ga)
      have hb24 := H24.out b (List.mem_of_getElem? gb)
      have a24 : (a : Int) < 24 := by omega
      have b24 : (b : Int) < 24 := by omega
      have hab : a ≠ b := by
        rintro rfl
        have := HND.out
        rw [HSP.out] at this
        have := (List.nodup_append.1 this).2.1
        simp at this
      obtain ⟨gg, cap, es, hbg, hgl, ca⟩ := hI.at ga
      simp only [Value.slice.injEq, true_and] at es
      obtain ⟨rfl, rfl⟩ := es
      obtain ⟨gg', cap', es, _, _, cb⟩ := hI.at gb
      have egg : gg' = gg := by injection es with e1; injection e1 with e1; injection e1 with e1; exact e1.symm
      subst egg
      have ma := hA.mate a ha24
      have mb := hA.mate b hb24
      have fa := hA.free (25 + a)
      have fb := hA.free (25 + b)
      have hpre : (pre.length : Int) < (p.length : Int) := by omega
      clear hA hI es ga gb
      go_wp2_with fail
      go_quiet (fail)
      go_wp2_with fail
      go_region
      have HA2 : Hid (MAt (((wr.drewN (nq + 1)).setCell ⟨M, 25 + a, none⟩ (.int .i64 (b : Int))).setCell ⟨M, 25 + b, none⟩ (.int .i64 (a : Int))) M g (setAt (setAt mt a (some b)) b (some a))) := ((HA.out.same (w' := wr.drewN (nq + 1)) rfl).set ha24 b).set hb24 a
      have HF2 : Hid (MFr M w (((wr.drewN (nq + 1)).setCell ⟨M, 25 + a, none⟩ (.int .i64 (b : Int))).setCell ⟨M, 25 + b, none⟩ (.int .i64 (a : Int)))) := ((HFR.out.drewN (nq + 1)).set _ _).set _ _
      have HI2 : Hid (Ints (((wr.drewN (nq + 1)).setCell ⟨M, 25 + a, none⟩ (.int .i64 (b : Int))).setCell ⟨M, 25 + b, none⟩ (.int .i64 (a : Int))) base (.slice (some ⟨gg', 0, none⟩) p.length sc) p) := ownsRow_same HI.out fun k hk => by
        have hkM : k ≠ M := fun e => HPM.out (by rw [hk, e])
        rw [Below.heap_setCell _ _ _ k hkM, Below.heap_setCell _ _ _ k hkM]
        rfl
      generalize ((wr.drewN (nq + 1)).setCell ⟨M, 25 + a, none⟩ (.int .i64 (b : Int))).setCell ⟨M, 25 + b, none⟩ (.int .i64 (a : Int)) = w2 at HA2 HF2 HI2 ⊢
      clear ca cb ma mb fa fb
      go_wp2_with fail
      go_roundg (l.length + 1)
      case measure => simp at hk; omega
      case rel => exact ⟨pre ++ [a, b], l, setAt (setAt mt a (some b)) b (some a), by rw [HSP.out]; simp, by omega, by simp, HFL.out, HA2.out, HI2.out, HF2.out⟩
end
theorem Tryz.infoPair2 : (Tryz.prog.info? 48).map (fun i => (i.zero, i.size, i.bytes)) = some (some (.agg #[.int .i64 0, .int .i64 0]), 2, 16) := by kernel_rfl

def pairCells (l : List (Nat × Nat)) : List Value := l.flatMap fun p => [.int .i64 (p.1 : Int), .int .i64 (p.2 : Int)]
theorem pairCells_append (l r : List (Nat × Nat)) : pairCells (l ++ r) = pairCells l ++ pairCells r := by simp [pairCells]

/-- A list of pairs of the call's own. -/
def Prs (w : World) (base : Nat) (v : Value) (l : List (Nat × Nat)) : Prop := w.ownsRow base 48 2 v l.length (pairCells l)

theorem Prs.nil (w : World) (base : Nat) : Prs w base (.slice none 0 0) [] := ⟨rfl, .inl ⟨rfl, rfl⟩⟩

section
variable {w w' : World} {M : Nat} {g : Gr} {mate : Nat → Option Nat}
def prOf (mate : Nat → Option Nat) (c : Nat) : List (Nat × Nat) := ((List.range c).filter fun v => (mate v).isSome && decide (v < mateOf mate v)).map fun v => (v, mateOf mate v)

theorem prOf_len (mate : Nat → Option Nat) (c : Nat) : (prOf mate c).length ≤ c := by
  unfold prOf
  rw [List.length_map]
  exact filter_len _ c

theorem prOf_no {c : Nat} (h : ((mate c).isSome && decide (c < mateOf mate c)) = false) : prOf mate (c + 1) = prOf mate c := by
  unfold prOf
  rw [filter_no h]

theorem prOf_yes {c m : Nat} (h : mate c = some m) (hc : c < m) : prOf mate (c + 1) = prOf mate c ++ [(c, m)] := by
  unfold prOf
  have e : mateOf mate c = m := by unfold mateOf; rw [h]; rfl
  rw [filter_yes (by rw [e, h]; simp [hc]), List.map_append]
  simp [e]

set_option maxRecDepth 100000 in
set_option maxHeartbeats 1000000 in
theorem pairs_any (hA : MAt w M g mate) (hn : g.n ≤ 24) :
    Calls Tryz.prog 37 #[.pointer (some ⟨M, 0, none⟩)] w fun e w' => ∃ rv, e = .returned rv ∧ Prs w' w.heap.size rv (pairsF g.n mate) ∧ Below w.heap.size w w' := by
  obtain ⟨i0, hi, hz0, hz1, hz2⟩ := info_parts Tryz.infoPair2
  have HF : Hid (MAt w M g mate) := hA
  have cn := hA.n
  clear hA
  go_enter Tryz.func37, Tryz.ntmps37
  go_wp2_with fail
  go_loopg [3, 9] 26 (fun k v3 v9 wr => ∃ c : Nat, c ≤ g.n ∧ 25 - c ≤ k ∧ v9 = .int .i64 c ∧ Prs wr w.heap.size v3 (prOf mate c) ∧ Below w.heap.size w wr)
  case atStart => exact ⟨0, by omega, by omega, rfl, Prs.nil _ _, Below.refl _ _⟩
  case round =>
    obtain ⟨c, hc, hk, rfl, hI, hb⟩ := hrel
    have HI : Hid (Prs wr w.heap.size _ (prOf mate c)) := hI
    have HB : Hid (Below w.heap.size w wr) := hb
    have hA := HF.out.same (w' := wr) (hb.block M HF.out.lt)
    have hws := hb.size
    have hlen := prOf_len mate c
    clear cn
    by_cases hcn : c < g.n
    · have hcn' : (c : Int) < (g.n : Int) := by omega
      have c24 : (c : Int) < 24 := by omega
      have cm := hA.mate c (by omega)
      obtain ⟨so, sc, hss⟩ := ownsRow_shape hI
      subst hss
      clear hA hb hI
      cases hm : mate c with
      | none =>
        rw [hm] at cm
        simp only [mi] at cm
        have hg' : ¬ ((-1 : Int) > (c : Int)) := by omega
        have HN : Hid (prOf mate (c + 1) = prOf mate c) := prOf_no (by rw [hm]; rfl)
        go_wp2_with fail
        go_roundg (25 - (c + 1))
        case measure => omega
        case rel => exact ⟨c + 1, by omega, Nat.le_refl _, by go_num, by rw [HN.out]; exact HI.out, HB.out⟩
      | some m =>
        rw [hm] at cm
        simp only [mi] at cm
        by_cases hcm : c < m
        · have hg' : (m : Int) > (c : Int) := by omega
          have HN : Hid (prOf mate (c + 1) = prOf mate c ++ [(c, m)]) := prOf_yes hm hcm
          have HINA : Hid (∀ ob, (wr.alloc ob).ownsRow w.heap.size 48 2 (.slice so (prOf mate c).length sc) (prOf mate c).length (pairCells (prOf mate c))) := fun ob => World.ownsRow.alloc HI.out ob
          have HN1 : Hid (∀ t, ∀ j u, [Value.int .i64 (c : Int), .int .i64 (m : Int)][j]? = some u → (wr.alloc (.cells #[.int .i64 (c : Int), .int .i64 (m : Int)] t)).cell? ((⟨wr.heap.size, 0, none⟩ : Addr).add j) = some u) := fun t => cells2 wr _ _ t
          generalize hq : prOf mate c = q at *
          go_wp2_with (at_builtin; go_must (refine wpList_append_mine rfl (.tmp 20) (.tmp 29) 29 rfl w.heap.size 48 i0 (.agg #[.int .i64 0, .int .i64 0]) 2 16 Tryz.underlying29 hi hz0 hz1 hz2 rfl (by decide) (.slice so q.length sc) q.length (pairCells q) rfl (by exact HINA.out _) ⟨wr.heap.size, 0, none⟩ 1 1 [.int .i64 (c : Int), .int .i64 (m : Int)] rfl rfl (by exact HN1.out _) (by intro u hu; simp at hu; rcases hu with rfl | rfl <;> rfl) (by unfold maxLen; omega) (by omega) (by simp; omega) ?_))
          intro v' w2 ho hg hkk
          have HI2 : Hid (Prs w2 w.heap.size v' (q ++ [(c, m)])) := by
            unfold Hid Prs
            have e1 : (q ++ [(c, m)]).length = q.length + 1 := by simp
            have e2 : pairCells (q ++ [(c, m)]) = pairCells q ++ [.int .i64 (c : Int), .int .i64 (m : Int)] := by rw [pairCells_append]; rfl
            rw [e1, e2]
            exact ho
          have HB2 : Hid (Below w.heap.size w w2) := (HB.out.alloc hws _).grown hg (by simp; omega) (fun k hk => (HI.out.lt k hk).1)
          clear ho hg hkk
          go_wp2_with fail
          go_roundg (25 - (c + 1))
          case measure => omega
          case rel => exact ⟨c + 1, by omega, Nat.le_refl _, by go_num, by rw [HN.out]; exact HI2.out, HB2.out⟩
        · have hg' : ¬ ((m : Int) > (c : Int)) := by omega
          have HN : Hid (prOf mate (c + 1) = prOf mate c) := prOf_no (by unfold mateOf; rw [hm]; simp; omega)
          go_wp2_with fail
          go_roundg (25 - (c + 1))
          case measure => omega
          case rel => exact ⟨c + 1, by omega, Nat.le_refl _, by go_num, by rw [HN.out]; exact HI.out, HB.out⟩
    · have hcn' : ¬ (c : Int) < (g.n : Int) := by omega
      have ec : c = g.n := by omega
      subst ec
      clear hA hb hI
      go_wp2_with fail
      go_ret
      exact ⟨_, rfl, HI.out, HB.out⟩
end
def nearCells (nr : Nat → Nat) : List Value := (List.range 24).map fun k => .int .u32 (nr k : Int)
def mateCells (mt : Nat → Int) : List Value := (List.range 24).map fun k => .int .i64 (mt k)
/-- The cells of a matching. -/
def matCells (nr : Nat → Nat) (n : Nat) (mt : Nat → Int) : List Value := nearCells nr ++ (.int .i64 (n : Int) :: mateCells mt)

theorem Tryz.sizeGraph : (Tryz.prog.info? 65).map (·.size) = some 24 := by kernel_rfl
theorem Tryz.sizeMatching : (Tryz.prog.info? 107).map (·.size) = some 49 := by kernel_rfl

theorem nearCells_len (nr : Nat → Nat) : (nearCells nr).length = 24 := by simp [nearCells]
theorem matCells_len (nr : Nat → Nat) (n : Nat) (mt : Nat → Int) : (matCells nr n mt).length = 49 := by simp [matCells, nearCells, mateCells]
theorem matCells_near (nr : Nat → Nat) (n : Nat) (mt : Nat → Int) {k : Nat} (hk : k < 24) : (matCells nr n mt)[k]? = some (.int .u32 (nr k : Int)) := by
  unfold matCells
  rw [List.getElem?_append_left (by rw [nearCells_len]; exact hk)]
  simp [nearCells, hk]
theorem matCells_n (nr : Nat → Nat) (n : Nat) (mt : Nat → Int) : (matCells nr n mt)[24]? = some (.int .i64 (n : Int)) := by
  unfold matCells
  rw [List.getElem?_append_right (by rw [nearCells_len]; exact Nat.le_refl _), nearCells_len]
  rfl
theorem matCells_mate (nr : Nat → Nat) (n : Nat) (mt : Nat → Int) {k : Nat} (hk : k < 24) : (matCells nr n mt)[25 + k]? = some (.int .i64 (mt k)) := by
  unfold matCells
  rw [List.getElem?_append_right (by rw [nearCells_len]; omega), nearCells_len, show 25 + k - 24 = k + 1 by omega, List.getElem?_cons_succ]
  simp [mateCells, hk]
theorem matCells_one (nr : Nat → Nat) (n : Nat) (mt : Nat → Int) : (matCells nr n mt).toArray.all (·.oneCell') = true := all_oneCell_toArray (by
  intro v hv
  unfold matCells nearCells mateCells at hv
  simp only [List.mem_append, List.mem_map, List.mem_cons] at hv
  rcases hv with ⟨_, _, rfl⟩ | rfl | ⟨_, _, rfl⟩ <;> rfl)

set_option maxRecDepth 100000 in
theorem build_mat (w : World) (nr : Nat → Nat) (n : Nat) : (Instr.build 107 #[(0, .agg (nearCells nr).toArray), (1, .int .i64 (n : Int))]).run Tryz.prog w = .ok (.agg (matCells nr n fun _ => 0).toArray) w := by kernel_rfl
theorem alloc_mat (w : World) : (Instr.alloc 107 true (.tuple #[])).run Tryz.prog w = .ok (.pointer (some ⟨w.heap.size, 0, none⟩)) (w.alloc (.cells (matCells (fun _ => 0) 0 fun _ => 0).toArray 107)) := by kernel_rfl
theorem wpList_build {P : Program} {ops : Array Oper} {rest : List Oper} {op : Oper} {a : Act} {w : World} {Q : Exit → Act → World → Prop} (hgd : op.guard = none) (t : TypeId) (parts : Array (Nat × Operand)) (ho : op.op = .build t parts) (vals : Array (Nat × Value)) (hv : (parts.map fun (i, x) => (i, a.eval x)) = vals) (v : Value)
    (hr : (Instr.build t vals).run P w = .ok v w) (h : wpList P ops Q rest (a.put op.dst v) w) : wpList P ops Q (op :: rest) a w :=
  wpList_plain hgd fun _ hK => by
    unfold Oper.wp execOp
    simp only [ho, hv, Sem.run_bind, Sem.run_pure, hr, Result.andThen_ok]
    exact hK _ _ h

theorem wpList_alloc {P : Program} {ops : Array Oper} {rest : List Oper} {op : Oper} {a : Act} {w : World} {Q : Exit → Act → World → Prop} (hgd : op.guard = none) (t : TypeId) (ho : op.op = .alloc t) (v : Value) (w' : World)
    (hr : (Instr.alloc t true (.tuple #[])).run P w = .ok v w') (h : wpList P ops Q rest (a.put op.dst v) w') : wpList P ops Q (op :: rest) a w :=
  wpList_plain hgd fun _ hK => by
    unfold Oper.wp execOp
    simp only [ho, Sem.run_bind, Sem.run_pure, hr, Result.andThen_ok]
    exact hK _ _ h

theorem graph_range (w : World) (nr : Nat → Nat) (t : TypeId) : (w.alloc (.cells (nearCells nr).toArray t)).rangeAt w.heap.size 0 (nearCells nr) := by
  intro j u hj
  rw [Nat.zero_add, World.cell?_alloc_new]
  simpa using hj

theorem mat_there (w : World) (nr : Nat → Nat) (n : Nat) (mt : Nat → Int) (t : TypeId) : (w.alloc (.cells (matCells nr n mt).toArray t)).there w.heap.size 0 49 := by
  intro j hj
  rw [Nat.zero_add]
  refine ⟨?_, by simp⟩
  rw [World.cell?_alloc_new]
  simp [matCells_len, hj]

theorem mat_stored {wx : World} {L : Nat} (nr : Nat → Nat) (n : Nat) (mt : Nat → Int) (ht : wx.there L 0 49) : (loadVar 107 ⟨L, 0, none⟩).run Tryz.prog (wx.setCells L 0 (matCells nr n mt)) = .ok (.agg (matCells nr n mt).toArray) (wx.setCells L 0 (matCells nr n mt)) :=
  run_loadVar_mid _ L 0 _ (matCells nr n mt) _ (World.rangeAt_setCells_same wx L 0 (matCells nr n mt) (by rw [matCells_len]; exact ht)) Tryz.underlying107 rfl (by rw [matCells_len]; exact Tryz.sizeMatching)

theorem mat_size (nr : Nat → Nat) (n : Nat) (mt : Nat → Int) : (matCells nr n mt).toArray.size = 49 := by simp [matCells_len]

/-- Where empty stands. -/
structure EmAt (A : Nat) (w wr : World) (nr : Nat → Nat) (n : Nat) (cur : Nat → Int) : Prop where
  below : Below A w wr
  box : wr.rangeAt (A + 2) 0 (matCells nr n cur)
  thr : wr.there (A + 2) 0 49
  res : wr.there (A + 1) 0 49

theorem EmAt.start (w : World) (nr : Nat → Nat) (n : Nat) (t t' : TypeId) : EmAt w.heap.size w ((((w.alloc (.cells (nearCells nr).toArray t)).alloc (.cells (matCells (fun _ => 0) 0 fun _ => 0).toArray t')).alloc (.cells (matCells (fun _ => 0) 0 fun _ => 0).toArray t')).setCells (w.heap.size + 2) 0 (matCells nr n fun _ => 0)) nr n (fun _ => 0) := by
  have h1 : (w.alloc (.cells (nearCells nr).toArray t)).heap.size = w.heap.size + 1 := by simp
  have h2 : ((w.alloc (.cells (nearCells nr).toArray t)).alloc (.cells (matCells (fun _ => 0) 0 fun _ => 0).toArray t')).heap.size = w.heap.size + 2 := by simp
  have hth : (((w.alloc (.cells (nearCells nr).toArray t)).alloc (.cells (matCells (fun _ => 0) 0 fun _ => 0).toArray t')).alloc (.cells (matCells (fun _ => 0) 0 fun _ => 0).toArray t')).there (w.heap.size + 2) 0 49 := by
    rw [← h2]
    exact mat_there _ _ _ _ _
  refine ⟨below_cells (by omega) _ _ _ ((((Below.refl _ w).alloc (Nat.le_refl _) _).alloc (by omega) _).alloc (by omega) _), World.rangeAt_setCells_same _ _ _ _ (by rw [matCells_len]; exact hth), World.there_setCells hth _ _ _, World.there_setCells (World.there_alloc ?_ _) _ _ _⟩
  rw [← h1]
  exact mat_there _ _ _ _ _

theorem EmAt.set {A : Nat} {w wr : World} {nr : Nat → Nat} {n : Nat} {cur cur' : Nat → Int} (h : EmAt A w wr nr n cur) {i : Nat} (hi : i < 24) (b : Int) (h1 : cur' i = b) (h2 : ∀ x, x ≠ i → cur' x = cur x) : EmAt A w (wr.setCell ⟨A + 2, 25 + i, none⟩ (.int .i64 b)) nr n cur' := by
  refine ⟨h.below.setCell (p := ⟨A + 2, 25 + i, none⟩) (by show A ≤ A + 2; omega) _, ?_, World.there_setCells h.thr (A + 2) (25 + i) [.int .i64 b], World.there_setCells h.res (A + 2) (25 + i) [.int .i64 b]⟩
  intro j v hj
  rw [Nat.zero_add]
  have hj49 : j < 49 := by
    have := (List.getElem?_eq_some_iff.1 hj).1
    rwa [matCells_len] at this
  by_cases e : j = 25 + i
  · subst e
    rw [matCells_mate _ _ _ hi] at hj
    cases hj
    have := (h.thr (25 + i) (by omega)).1
    rw [Nat.zero_add] at this
    rw [World.cell?_setCell_same' _ _ _ this, h1]
  · rw [World.cell?_setCell_other (w := wr) (a := ⟨A + 2, 25 + i, none⟩) (b := ⟨A + 2, j, none⟩) (v := .int .i64 b) (by intro e'; injection e' with _ e'; exact e e'.symm)]
    have old : ∀ u, (matCells nr n cur)[j]? = some u → wr.cell? ⟨A + 2, j, none⟩ = some u := fun u hu => by
      have := h.box j u hu
      rwa [Nat.zero_add] at this
    apply old
    rw [← hj]
    rcases Nat.lt_trichotomy j 24 with k | k | k
    · rw [matCells_near _ _ _ k, matCells_near _ _ _ k]
    · subst k
      rw [matCells_n, matCells_n]
    · obtain ⟨q, rfl⟩ : ∃ q, j = 25 + q := ⟨j - 25, by omega⟩
      rw [matCells_mate _ _ _ (by omega), matCells_mate _ _ _ (by omega), h2 q (by omega)]

theorem EmAt.cell {A : Nat} {w wr : World} {nr : Nat → Nat} {n : Nat} {cur : Nat → Int} (h : EmAt A w wr nr n cur) {i : Nat} (hi : i < 24) : wr.cell? ⟨A + 2, 25 + i, none⟩ = some (.int .i64 (cur i)) ∧ wr.frozen? ⟨A + 2, 25 + i, none⟩ = false := by
  have := h.box (25 + i) _ (matCells_mate nr n cur hi)
  have t := (h.thr (25 + i) (by omega)).2
  rw [Nat.zero_add] at this t
  exact ⟨this, t⟩

theorem matCells_congr {nr : Nat → Nat} {n : Nat} {a b : Nat → Int} (h : ∀ x, x < 24 → a x = b x) : matCells nr n a = matCells nr n b := by
  unfold matCells mateCells
  rw [List.map_congr_left fun x hx => by rw [h x (List.mem_range.1 hx)]]

set_option maxRecDepth 100000 in
set_option maxHeartbeats 1000000 in
theorem empty_any (w : World) (nr : Nat → Nat) (n : Nat) :
    Calls Tryz.prog 34 #[.agg (nearCells nr).toArray, .int .i64 (n : Int)] w fun e w' => e = .returned (.agg (matCells nr n fun _ => -1).toArray) ∧ Below w.heap.size w w' := by
  have HST : Hid (EmAt w.heap.size w ((((w.alloc (.cells (nearCells nr).toArray 65)).alloc (.cells (matCells (fun _ => 0) 0 fun _ => 0).toArray 107)).alloc (.cells (matCells (fun _ => 0) 0 fun _ => 0).toArray 107)).setCells (w.heap.size + 2) 0 (matCells nr n fun _ => 0)) nr n (fun _ => 0)) := EmAt.start w nr n _ _
  have HGR : Hid ((((w.alloc (.cells (nearCells nr).toArray 65)).alloc (.cells (matCells (fun _ => 0) 0 fun _ => 0).toArray 107))).rangeAt w.heap.size 0 (nearCells nr)) := World.rangeAt_alloc (graph_range w nr _) _
  have HTH : Hid ((((w.alloc (.cells (nearCells nr).toArray 65)).alloc (.cells (matCells (fun _ => 0) 0 fun _ => 0).toArray 107)).alloc (.cells (matCells (fun _ => 0) 0 fun _ => 0).toArray 107)).there (w.heap.size + 2) 0 49) := by
    have h2 : ((w.alloc (.cells (nearCells nr).toArray 65)).alloc (.cells (matCells (fun _ => 0) 0 fun _ => 0).toArray 107)).heap.size = w.heap.size + 2 := by simp
    rw [← h2]
    exact mat_there _ _ _ _ _
  go_enter Tryz.func34, Tryz.ntmps34
  go_upto_region 2 with (first | (refine wpList_alloc rfl 107 rfl _ _ (alloc_mat _) ?_; simp only [Act.put, List.setIfInBounds_toArray, List.set_cons_zero, List.set_cons_succ]) | (refine wpList_load_mid rfl 65 (.tmp 2) rfl w.heap.size 0 (by simp [Act.eval]) (nearCells nr) _ HGR.out Tryz.underlying65 rfl (by rw [Tryz.sizeGraph, nearCells_len]) ?_; simp only [Act.put, List.setIfInBounds_toArray, List.set_cons_zero, List.set_cons_succ]) | (refine wpList_build rfl 107 #[(0, .tmp 7), (1, .tmp 8)] rfl #[(0, .agg (nearCells nr).toArray), (1, .int .i64 (n : Int))] (by simp [Act.eval]) (.agg (matCells nr n fun _ => 0).toArray) (build_mat _ nr n) ?_; simp only [Act.put, List.setIfInBounds_toArray, List.set_cons_zero, List.set_cons_succ]) | (refine wpList_store_mid rfl 107 (.tmp 5) (.tmp 9) rfl (w.heap.size + 2) 0 (matCells nr n fun _ => 0).toArray (by simp [Act.eval]) (by simp [Act.eval]) (by rw [mat_size]; exact HTH.out) (by rw [mat_size]; exact Tryz.sizeMatching) (matCells_one _ _ _) ?_; simp only [Act.put]))
  generalize World.setCells _ _ _ _ = w2 at HST ⊢
  have e1 : (w.alloc (.cells (nearCells nr).toArray 65)).heap.size = w.heap.size + 1 := by simp
  have e2 : ((w.alloc (.cells (nearCells nr).toArray 65)).alloc (.cells (matCells (fun _ => 0) 0 fun _ => 0).toArray 107)).heap.size = w.heap.size + 2 := by simp
  rw [e1, e2]
  clear e1 e2
  clear HGR HTH
  go_wp2_with fail
  go_loopg [10] 26 (fun k vi wr => ∃ i : Nat, i ≤ 24 ∧ 25 - i ≤ k ∧ vi = .int .i64 i ∧ EmAt w.heap.size w wr nr n (fun x => if x < i then -1 else 0))
  case atStart => exact ⟨0, by omega, by omega, rfl, HST.out⟩
  case round =>
    clear HST
    obtain ⟨i, hi, hk, rfl, hat⟩ := hrel
    have HAT : Hid (EmAt w.heap.size w wr nr n (fun x => if x < i then -1 else 0)) := hat
    clear hat
    by_cases hlt : i < 24
    · have hlt' : (i : Int) < (24 : Int) := by omega
      obtain ⟨ci, fi⟩ := HAT.out.cell hlt
      have HAN : Hid (EmAt w.heap.size w (wr.setCell ⟨w.heap.size + 2, 25 + i, none⟩ (.int .i64 (-1))) nr n (fun x => if x < i + 1 then -1 else 0)) := HAT.out.set hlt _ (by simp) (fun x hx => by
        by_cases k : x < i
        · rw [if_pos k, if_pos (by omega)]
        · rw [if_neg k, if_neg (by omega)])
      go_wp2_with fail
      go_roundg (25 - (i + 1))
      case measure => omega
      case rel => exact ⟨i + 1, by omega, Nat.le_refl _, by go_num, HAN.out⟩
    · have hlt' : ¬ (i : Int) < (24 : Int) := by omega
      have HE : Hid (matCells nr n (fun x => if x < i then -1 else 0) = matCells nr n (fun _ => -1)) := matCells_congr fun x hx => by rw [if_pos (by omega)]
      have HBX : Hid (wr.rangeAt (w.heap.size + 2) 0 (matCells nr n (fun _ => -1))) := by
        have := HAT.out.box
        rw [HE.out] at this
        exact this
      go_wp2_with (first | (refine wpList_load_mid rfl 107 (.tmp 5) rfl (w.heap.size + 2) 0 (by simp [Act.eval]) (matCells nr n (fun _ => -1)) _ HBX.out Tryz.underlying107 rfl (by rw [Tryz.sizeMatching, matCells_len]) ?_; simp only [Act.put, List.setIfInBounds_toArray, List.set_cons_zero, List.set_cons_succ]) | (refine wpList_store_mid rfl 107 (.tmp 4) (.tmp 17) rfl (w.heap.size + 1) 0 (matCells nr n (fun _ => -1)).toArray (by simp [Act.eval]) (by rfl) (by rw [mat_size]; exact HAT.out.res) (by rw [mat_size]; exact Tryz.sizeMatching) (matCells_one _ _ _) ?_; simp only [Act.put]))
      have HLD := mat_stored nr n (fun _ => -1) HAT.out.res
      refine bodyPost_ret (v := .agg (matCells nr n (fun _ => -1)).toArray) ?_ rfl ⟨rfl, below_cells (by omega) _ _ _ HAT.out.below⟩
      simp [results, Tryz.results34, asAddr, HLD]
end Go.Proofs.YtcabaecbmkgclaaGreatDoor.Mg
