/-
  The plain reader: what a text of the document comes to, said on lists and numbers alone (no program, no memory).
  The program's reader in memory: what its block and its two lists hold when it stands at a state of the plain reader; what a call may have turned.
  What the cursor's methods and the reader's small tests on bytes do: peek, ended, take, digit, fail, isSign, startsRing, clash, given, chargeOf.
  What take, digit and HasPrefix do.
  The lists behind the reader, read element by element; an atom in a box of its own.
-/
import Derived.BigQuiet
import Derived.Deep.QuietTactic
import Derived.Test.YtcabaecbmkgclaaGreatDoorRows
import Derived.WalkKit
import Derived.WalkLawsBesides
import Derived.WalkSpells
namespace Go.Proofs.YtcabaecbmkgclaaGreatDoor.Bz
structure Atm where
  el : ByteArray
  aro : Bool
  ch : Int
  hy : Int
  pl : Nat
  br : Bool

structure Bnd where
  a : Nat
  b : Nat
  o : Int
  pl : Nat

structure Hung where
  mark : Int
  spot : Int
  atom : Int

structure Opn where
  hung : Hung
  place : Nat

structure St where
  pos : Nat
  atoms : List Atm
  bonds : List Bnd
  rings : Nat → Option Opn

abbrev R (α : Type) := Except (Int × Int) α

def byteAt (s : ByteArray) (i : Nat) : Int := if h : i < s.size then (s[i].toNat : Int) else 0

theorem byteAt_lt (s : ByteArray) (i : Nat) (h : i < s.size) : byteAt s i = (s[i].toNat : Int) := by simp [byteAt, h]
theorem byteAt_ge (s : ByteArray) (i : Nat) (h : ¬ i < s.size) : byteAt s i = 0 := by simp [byteAt, h]
theorem byteAt_nonneg (s : ByteArray) (i : Nat) : 0 ≤ byteAt s i := by unfold byteAt; split <;> omega
theorem byteAt_le (s : ByteArray) (i : Nat) : byteAt s i ≤ 255 := by
  unfold byteAt; split
  · rename_i h; have := s[i].toNat_lt; omega
  · omega
theorem lt_of_byteAt {s : ByteArray} {i : Nat} (h : byteAt s i ≠ 0) : i < s.size := by
  unfold byteAt at h; split at h
  · assumption
  · exact absurd rfl h

def isSign (c : Int) : Bool := c == 45 || c == 61 || c == 35 || c == 58
def isDigit (c : Int) : Bool := decide (48 ≤ c) && decide (c ≤ 57)
def startsRing (c : Int) : Bool := c == 37 || isDigit c

def one (c : Int) : ByteArray := ⟨#[c.toNat.toUInt8]⟩

/-- The element that is written at a place: its name, whether it is in small letters, its length. -/
def element (s : ByteArray) (i : Nat) : Option (ByteArray × Bool × Nat) :=
  let c := byteAt s i
  if c = 67 ∧ byteAt s (i + 1) = 108 then some (⟨#[67, 108]⟩, false, 2)
  else if c = 66 ∧ byteAt s (i + 1) = 114 then some (⟨#[66, 114]⟩, false, 2)
  else if c = 67 ∨ c = 66 ∨ c = 78 ∨ c = 79 ∨ c = 80 ∨ c = 83 ∨ c = 70 ∨ c = 73 then some (one c, false, 1)
  else if c = 99 ∨ c = 110 ∨ c = 111 ∨ c = 112 ∨ c = 115 then some (one (c - 32), true, 1)
  else none

/-- What follows the name in brackets: the charge, the hydrogens, the place behind. -/
def hydro (s : ByteArray) (i : Nat) : Int × Nat :=
  if byteAt s i = 72 then (if 49 ≤ byteAt s (i + 1) ∧ byteAt s (i + 1) ≤ 52 then (byteAt s (i + 1) - 48, i + 2) else (1, i + 1)) else (0, i)
def charge (s : ByteArray) (i : Nat) : Int × Nat :=
  if byteAt s i = 43 then (1, i + 1) else if byteAt s i = 45 then (-1, i + 1) else (0, i)
def bracket (s : ByteArray) (i : Nat) : R (Int × Int × Nat) :=
  let h := hydro s i
  let c := charge s h.2
  if byteAt s c.2 = 93 then .ok (c.1, h.1, c.2 + 1) else .error (2, c.2)

def aro (p : St) (a : Int) : Bool := match p.atoms[a.toNat]? with
  | some x => x.aro
  | none => false
def order (p : St) (mark a b : Int) : Int :=
  if mark = 45 then 1 else if mark = 61 then 2 else if mark = 35 then 3 else if mark = 58 then 4 else if aro p a && aro p b then 4 else 1
def bonded (l : List Bnd) (a b : Nat) : Bool := l.any fun x => (x.a == a && x.b == b) || (x.a == b && x.b == a)
def bind (p : St) (a b : Nat) (o : Int) (pl : Nat) : St := { p with bonds := p.bonds ++ [⟨min a b, max a b, o, pl⟩] }

def full (p : St) : Bool := p.atoms.length == 24

def atom (s : ByteArray) (h : Hung) (p : St) : R (Nat × St) :=
  let br := byteAt s p.pos == 91
  let i := if br then p.pos + 1 else p.pos
  match element s i with
  | none => if br && full p then .error (5, p.pos) else .error (2, i)
  | some (el, ar, n) =>
    if h.mark = 58 ∧ ar = false then .error (3, h.spot)
    else if full p then .error (5, p.pos)
    else
      match (if br then bracket s (i + n) else .ok (0, 0, i + n)) with
      | .error e => .error e
      | .ok (ch, hy, j) =>
        let q : St := { p with pos := j, atoms := p.atoms ++ [⟨el, ar, ch, hy, p.pos, br⟩] }
        let k := p.atoms.length
        .ok (k, if h.atom = -1 then q else bind q h.atom.toNat k (order q h.mark h.atom k) p.pos)

def bondEnd (s : ByteArray) (a : Nat) (p : St) : R (Hung × St) :=
  let c := byteAt s p.pos
  if isSign c then
    if c = 58 ∧ aro p a = false then .error (3, p.pos) else .ok (⟨c, p.pos, a⟩, { p with pos := p.pos + 1 })
  else .ok (⟨0, 0, a⟩, p)

def link (s : ByteArray) (a : Nat) (p : St) : R (Hung × St) :=
  if byteAt s p.pos = 46 then .ok (⟨0, 0, -1⟩, { p with pos := p.pos + 1 }) else bondEnd s a p

def ringAhead (s : ByteArray) (p : St) : Bool :=
  if isSign (byteAt s p.pos) then startsRing (byteAt s (p.pos + 1)) else startsRing (byteAt s p.pos)

def ringNumber (s : ByteArray) (i : Nat) : R (Nat × Nat) :=
  if byteAt s i = 37 then
    if isDigit (byteAt s (i + 1)) then
      if isDigit (byteAt s (i + 2)) then .ok ((10 * (byteAt s (i + 1) - 48) + (byteAt s (i + 2) - 48)).toNat, i + 3) else .error (2, i + 2)
    else .error (2, i + 1)
  else if isDigit (byteAt s i) then .ok ((byteAt s i - 48).toNat, i + 1) else .error (2, i)

def clash (a b : Int) : Bool := a != 0 && b != 0 && a != b
def given (a b : Int) : Int := if a = 0 then b else a

def setRing (f : Nat → Option Opn) (n : Nat) (o : Option Opn) : Nat → Option Opn := fun k => if k = n then o else f k

def closeRing (first last : Hung) (place : Nat) (p : St) : R St :=
  let mixed := !(aro p first.atom && aro p last.atom)
  if last.mark = 58 ∧ mixed = true then .error (3, last.spot)
  else if first.mark = 58 ∧ last.mark = 0 ∧ mixed = true then .error (3, place)
  else if first.atom = last.atom ∨ bonded p.bonds first.atom.toNat last.atom.toNat = true ∨ clash first.mark last.mark = true then .error (4, place)
  else .ok (bind p first.atom.toNat last.atom.toNat (order p (given first.mark last.mark) first.atom last.atom) place)

def ring (s : ByteArray) (a : Nat) (p : St) : R St :=
  match bondEnd s a p with
  | .error e => .error e
  | .ok (e, p) =>
    match ringNumber s p.pos with
    | .error e => .error e
    | .ok (n, j) =>
      match p.rings n with
      | none => .ok { p with pos := j, rings := setRing p.rings n (some ⟨e, p.pos⟩) }
      | some o => closeRing o.hung e p.pos { p with pos := j, rings := setRing p.rings n none }

/-- Ring numbers of an atom, as many as there are (n: more than there can be). -/
def ringsOf (s : ByteArray) (a : Nat) : Nat → St → R St
  | 0, p => .ok p
  | n + 1, p => if ringAhead s p then
      match ring s a p with
      | .error e => .error e
      | .ok p => ringsOf s a n p
    else .ok p

def branch (s : ByteArray) (chain : Hung → St → R St) (a : Nat) (p : St) : R St :=
  match link s a p with
  | .error e => .error e
  | .ok (h, p) =>
    match chain h p with
    | .error e => .error e
    | .ok p => if byteAt s p.pos = 41 then .ok { p with pos := p.pos + 1 } else .error (2, p.pos)

def branches (s : ByteArray) (chain : Hung → St → R St) (a : Nat) : Nat → St → R St
  | 0, p => .ok p
  | n + 1, p => if byteAt s p.pos = 40 then
      match branch s chain a { p with pos := p.pos + 1 } with
      | .error e => .error e
      | .ok p => branches s chain a n p
    else .ok p

def knot (s : ByteArray) (chain : Hung → St → R St) (h : Hung) (p : St) : R (Nat × St) :=
  match atom s h p with
  | .error e => .error e
  | .ok (a, p) =>
    match ringsOf s a (s.size + 1) p with
    | .error e => .error e
    | .ok p =>
      match branches s chain a (s.size + 1) p with
      | .error e => .error e
      | .ok p => .ok (a, p)

def linkedKnot (s : ByteArray) (chain : Hung → St → R St) (a : Nat) (p : St) : R (Nat × St) :=
  match link s a p with
  | .error e => .error e
  | .ok (h, p) => knot s chain h p

def linked (s : ByteArray) (chain : Hung → St → R St) : Nat → Nat → St → R St
  | 0, _, p => .ok p
  | n + 1, a, p => if p.pos < s.size ∧ byteAt s p.pos ≠ 41 then
      match linkedKnot s chain a p with
      | .error e => .error e
      | .ok (a, p) => linked s chain n a p
    else .ok p

/-- A chain (n: deeper than brackets can nest). -/
def chain (s : ByteArray) : Nat → Hung → St → R St
  | 0, _, _ => .error (0, 0)
  | n + 1, h, p =>
    match knot s (chain s n) h p with
    | .error e => .error e
    | .ok (a, p) => linked s (chain s n) (s.size + 1) a p

/-- The leftmost place of the first n ring numbers that is open, d if there is none. -/
def leftmost (f : Nat → Option Opn) (d : Nat) : Nat → Nat
  | 0 => d
  | n + 1 => match f n with
    | some o => min (leftmost f d n) o.place
    | none => leftmost f d n

def valences (el : ByteArray) (ch : Int) : List Int :=
  let pick (none plus minus : List Int) : List Int := if ch > 0 then plus else if ch < 0 then minus else none
  if el = ⟨#[66]⟩ then pick [3] [] [4]
  else if el = ⟨#[67]⟩ then pick [4] [3] [3]
  else if el = ⟨#[78]⟩ ∨ el = ⟨#[80]⟩ then pick [3, 5] [4] [2]
  else if el = ⟨#[79]⟩ then pick [2] [3] [1]
  else if el = ⟨#[83]⟩ then pick [2, 4, 6] [3, 5] [1]
  else pick [1] [2] [0]

def sum (l : List Bnd) (a : Nat) : Int :=
  (l.map fun b => if b.a = a ∨ b.b = a then (if b.o = 4 then 1 else b.o) else 0).sum

def missing (l : List Int) (n : Int) : Int := match l.find? (fun v => decide (n ≤ v)) with
  | some v => v - n
  | none => 0

def implied (a : Atm) (n : Int) : Int :=
  if a.aro then (if a.el = ⟨#[67]⟩ then max (3 - n) 0 else 0) else missing (valences a.el a.ch) n

def withHydrogens (l : List Bnd) (i : Nat) (a : Atm) : Atm := if a.br then a else { a with hy := implied a (sum l i) }

def wrong (l : List Bnd) (i : Nat) (a : Atm) : Bool :=
  let n := sum l i + a.hy
  if a.aro then (match (valences a.el a.ch).head? with
    | some v => !(n == v - 1) && !(n == v)
    | none => true)
  else !((valences a.el a.ch).contains n)

/-- The first atom from i on whose valence is wrong. -/
def firstWrong (l : List Bnd) : Nat → List Atm → Option Atm
  | _, [] => none
  | i, a :: r => if wrong l i a then some a else firstWrong l (i + 1) r

def start : St := ⟨0, [], [], fun _ => none⟩

/-- A text's molecule, or what is wrong in it, and where. -/
def parse (s : ByteArray) : R (List Atm × List Bnd) :=
  if s.size > 160 then .error (1, 0)
  else match chain s (s.size + 1) ⟨0, 0, -1⟩ start with
  | .error e => .error e
  | .ok p =>
    if p.pos < s.size then .error (2, p.pos)
    else if leftmost p.rings s.size 100 < s.size then .error (4, leftmost p.rings s.size 100)
    else
      let l := p.atoms.mapIdx (withHydrogens p.bonds)
      match firstWrong p.bonds 0 l with
      | some a => .error (6, a.pl)
      | none => .ok (l, p.bonds)

end Go.Proofs.YtcabaecbmkgclaaGreatDoor.Bz
namespace Go.Proofs.YtcabaecbmkgclaaGreatDoor
open Go.RowKit Bz
def atmCells (a : Atm) : List Value := [.string a.el, .bool a.aro, .int .i64 a.ch, .int .i64 a.hy, .int .i64 a.pl, .bool a.br]
def bndCells (b : Bnd) : List Value := [.int .i64 b.a, .int .i64 b.b, .int .i64 b.o]
def pbCells (b : Bnd) : List Value := [.int .i64 b.a, .int .i64 b.b, .int .i64 b.o, .int .i64 b.pl]
def opnCells : Option Opn → List Value
  | none => [.int .u8 0, .int .i64 0, .int .i64 0, .int .i64 0, .bool false]
  | some o => [.int .u8 o.hung.mark, .int .i64 o.hung.spot, .int .i64 o.hung.atom, .int .i64 o.place, .bool true]

theorem opnCells_length (o : Option Opn) : (opnCells o).length = 5 := by cases o <;> rfl

/-- Block k is the reader's own: its block, or the row of one of its lists. -/
def Mine (w : World) (B k : Nat) : Prop :=
  k = B ∨ (∃ v, w.cell? ⟨B, 26, none⟩ = some v ∧ v.ownBlock = some k) ∨ (∃ v, w.cell? ⟨B, 27, none⟩ = some v ∧ v.ownBlock = some k)

structure Rd (w : World) (B : Nat) (s : ByteArray) (p : St) : Prop where
  text : w.cell? ⟨B, 0, none⟩ = some (.string s)
  pos : w.cell? ⟨B, 1, none⟩ = some (.int .i64 p.pos)
  near : ∀ k, k < 24 → ∃ m : Nat, w.cell? ⟨B, 2 + k, none⟩ = some (.int .u32 m) ∧ m < 4294967296 ∧ ∀ j, j < 24 → m.testBit j = bonded p.bonds k j
  atoms : ∃ v, w.cell? ⟨B, 26, none⟩ = some v ∧ w.ownsRow (B + 1) 124 6 v p.atoms.length (p.atoms.flatMap atmCells)
  bonds : ∃ v, w.cell? ⟨B, 27, none⟩ = some v ∧ w.ownsRow (B + 1) 102 4 v p.bonds.length (p.bonds.flatMap pbCells)
  err : ∃ v, w.cell? ⟨B, 28, none⟩ = some v
  plc : ∃ v, w.cell? ⟨B, 29, none⟩ = some v
  rings : ∀ n j v, n < 100 → (opnCells (p.rings n))[j]? = some v → w.cell? ⟨B, 30 + n * 5 + j, none⟩ = some v
  free : ∀ i, w.frozen? ⟨B, i, none⟩ = false

theorem Rd.lt {w : World} {B : Nat} {s : ByteArray} {p : St} (h : Rd w B s p) : B < w.heap.size := World.block_lt_of_cell? w ⟨B, 0, none⟩ h.text

theorem Rd.mine {w : World} {B : Nat} {s : ByteArray} {p : St} (h : Rd w B s p) {k : Nat} (hk : Mine w B k) : B ≤ k ∧ k < w.heap.size := by
  rcases hk with rfl | ⟨v, hv, hk⟩ | ⟨v, hv, hk⟩
  · exact ⟨Nat.le_refl _, h.lt⟩
  · obtain ⟨v', hv', ho⟩ := h.atoms
    rw [hv] at hv'; cases hv'
    have := ho.lt k hk
    omega
  · obtain ⟨v', hv', ho⟩ := h.bonds
    rw [hv] at hv'; cases hv'
    have := ho.lt k hk
    omega

theorem Mine.same {w w' : World} {B k : Nat} (hB : w'.heap[B]? = w.heap[B]?) : Mine w' B k ↔ Mine w B k := by
  have h1 : w'.cell? ⟨B, 26, none⟩ = w.cell? ⟨B, 26, none⟩ := World.cell?_of_block (w := w) hB
  have h2 : w'.cell? ⟨B, 27, none⟩ = w.cell? ⟨B, 27, none⟩ := World.cell?_of_block (w := w) hB
  unfold Mine
  rw [h1, h2]

theorem ownsRow_same {w w' : World} {base : Nat} {e : TypeId} {size : Nat} {v : Value} {n : Nat} {xs : List Value} (h : w.ownsRow base e size v n xs)
    (hs : ∀ k, v.ownBlock = some k → w'.heap[k]? = w.heap[k]?) : w'.ownsRow base e size v n xs := by
  refine ⟨h.1, ?_⟩
  rcases h.2 with hn | ⟨g, cap, cur, rfl, hb, hg, r⟩
  · exact .inl hn
  · exact .inr ⟨g, cap, cur, rfl, hb, by rw [hs g rfl]; exact hg, r⟩

/-- What is the reader's own is as it was: so the reader stands as it stood. -/
theorem Rd.same {w w' : World} {B : Nat} {s : ByteArray} {p : St} (h : Rd w B s p) (hs : ∀ k, Mine w B k → w'.heap[k]? = w.heap[k]?) : Rd w' B s p := by
  have hB := hs B (.inl rfl)
  have hc : ∀ i, w'.cell? ⟨B, i, none⟩ = w.cell? ⟨B, i, none⟩ := fun i => World.cell?_of_block (w := w) hB
  have hf : ∀ i, w'.frozen? ⟨B, i, none⟩ = w.frozen? ⟨B, i, none⟩ := fun i => World.frozen?_of_block (w := w) hB
  obtain ⟨va, ha, oa⟩ := h.atoms
  obtain ⟨vb, hb, ob⟩ := h.bonds
  exact ⟨by rw [hc]; exact h.text, by rw [hc]; exact h.pos, fun k hk => by rw [hc]; exact h.near k hk,
    ⟨va, by rw [hc]; exact ha, ownsRow_same oa fun k hk => hs k (.inr (.inl ⟨va, ha, hk⟩))⟩,
    ⟨vb, by rw [hc]; exact hb, ownsRow_same ob fun k hk => hs k (.inr (.inr ⟨vb, hb, hk⟩))⟩,
    by rw [hc]; exact h.err, by rw [hc]; exact h.plc, fun n j v hn hv => by rw [hc]; exact h.rings n j v hn hv, fun i => by rw [hf]; exact h.free i⟩

/-- What a call of the reader's may have turned: the reader's own blocks, and new ones. -/
structure Fr (B : Nat) (w w' : World) : Prop where
  os : w'.os = w.os
  tape : w'.tape = w.tape
  output : w'.output = w.output
  size : w.heap.size ≤ w'.heap.size
  block : ∀ k, k < w.heap.size → ¬ Mine w B k → w'.heap[k]? = w.heap[k]?
  mine : ∀ k, k < w.heap.size → Mine w' B k → Mine w B k

theorem Fr.refl (B : Nat) (w : World) : Fr B w w := ⟨rfl, rfl, rfl, Nat.le_refl _, fun _ _ _ => rfl, fun _ _ h => h⟩

theorem Fr.trans {B : Nat} {a b c : World} (h : Fr B a b) (k : Fr B b c) : Fr B a c :=
  ⟨k.os.trans h.os, k.tape.trans h.tape, k.output.trans h.output, Nat.le_trans h.size k.size,
    fun i hi hm => (k.block i (Nat.lt_of_lt_of_le hi h.size) (fun e => hm (h.mine i hi e))).trans (h.block i hi hm),
    fun i hi hm => h.mine i hi (k.mine i (Nat.lt_of_lt_of_le hi h.size) hm)⟩

theorem Fr.drewN {B : Nat} {a w : World} (h : Fr B a w) (n : Nat) : Fr B a (w.drewN n) := h.trans ⟨rfl, rfl, rfl, Nat.le_refl _, fun _ _ _ => rfl, fun _ _ h => h⟩
theorem Fr.drew {B : Nat} {a w : World} (h : Fr B a w) : Fr B a w.drew := h.trans ⟨rfl, rfl, rfl, Nat.le_refl _, fun _ _ _ => rfl, fun _ _ h => h⟩

theorem heap_alloc_lt (w : World) (o : Obj) (k : Nat) (h : k < w.heap.size) : (w.alloc o).heap[k]? = w.heap[k]? := Below.heap_alloc w o k h

theorem Fr.alloc {B : Nat} {a w : World} (h : Fr B a w) (hB : B < w.heap.size) (o : Obj) : Fr B a (w.alloc o) :=
  h.trans ⟨rfl, rfl, rfl, by simp, fun k hk _ => heap_alloc_lt w o k hk, fun k _ hm => (Mine.same (heap_alloc_lt w o B hB)).1 hm⟩

/-- A store into a block that is not the reader's own, or into one of its own cells that hold no list. -/
theorem Fr.setCell {B : Nat} {a w : World} (h : Fr B a w) {q : Addr} (hq : q.block = B ∨ a.heap.size ≤ q.block) (h6 : q.block = B → q.off ≠ 26 ∧ q.off ≠ 27) (u : Value) : Fr B a (w.setCell q u) := by
  have hm : ∀ k, Mine (w.setCell q u) B k → Mine w B k := by
    intro k hk
    have e : ∀ i, (i = 26 ∨ i = 27) → (w.setCell q u).cell? ⟨B, i, none⟩ = w.cell? ⟨B, i, none⟩ := by
      intro i hi
      refine World.cell?_setCell_other w q ⟨B, i, none⟩ u ?_
      intro e
      have e1 := congrArg Addr.block e
      have e2 := congrArg Addr.off e
      simp only at e1 e2
      have := h6 e1
      omega
    unfold Mine at hk ⊢
    rw [e 26 (.inl rfl), e 27 (.inr rfl)] at hk
    exact hk
  refine ⟨h.os, h.tape, h.output, by simpa using h.size, fun k hk hn => ?_, fun k hk hk' => h.mine k hk (hm k hk')⟩
  rw [Below.heap_setCell w q u k ?_]
  · exact h.block k hk hn
  · rintro rfl
    rcases hq with hq | hq
    · exact hn (.inl hq)
    · omega

theorem Fr.cell {B : Nat} {w w' : World} (h : Fr B w w') {b : Nat} (hb : b < w.heap.size) (hm : ¬ Mine w B b) (i : Nat) : w'.cell? ⟨b, i, none⟩ = w.cell? ⟨b, i, none⟩ :=
  World.cell?_of_block (w := w) (h.block b hb hm)
theorem Fr.frozen {B : Nat} {w w' : World} (h : Fr B w w') {b : Nat} (hb : b < w.heap.size) (hm : ¬ Mine w B b) (i : Nat) : w'.frozen? ⟨b, i, none⟩ = w.frozen? ⟨b, i, none⟩ :=
  World.frozen?_of_block (w := w) (h.block b hb hm)

/-- A block that was laid when the reader was there already is not the reader's. -/
theorem Rd.notMine {w : World} {B : Nat} {s : ByteArray} {p : St} (h : Rd w B s p) (o : Obj) : ¬ Mine (w.alloc o) B w.heap.size := fun hm =>
  Nat.lt_irrefl _ (h.mine ((Mine.same (heap_alloc_lt w o B h.lt)).1 hm)).2

theorem Rd.drewN {w : World} {B : Nat} {s : ByteArray} {p : St} (h : Rd w B s p) (n : Nat) : Rd (w.drewN n) B s p := h.same fun _ _ => rfl
theorem Rd.drew {w : World} {B : Nat} {s : ByteArray} {p : St} (h : Rd w B s p) : Rd w.drew B s p := h.same fun _ _ => rfl
theorem Rd.alloc {w : World} {B : Nat} {s : ByteArray} {p : St} (h : Rd w B s p) (o : Obj) : Rd (w.alloc o) B s p := h.same fun k hk => heap_alloc_lt w o k (h.mine hk).2
theorem Rd.setOther {w : World} {B : Nat} {s : ByteArray} {p : St} (h : Rd w B s p) {q : Addr} (hq : ¬ Mine w B q.block) (u : Value) : Rd (w.setCell q u) B s p :=
  h.same fun k hk => Below.heap_setCell w q u k (by rintro rfl; exact hq hk)

theorem cell_set_ne {w : World} {B i j : Nat} (h : i ≠ j) (u : Value) : (w.setCell ⟨B, i, none⟩ u).cell? ⟨B, j, none⟩ = w.cell? ⟨B, j, none⟩ :=
  World.cell?_setCell_other w _ _ u (fun e => h (by simpa using congrArg Addr.off e))

theorem ownsRow_setB {w : World} {B : Nat} {e : TypeId} {size : Nat} {v : Value} {n : Nat} {xs : List Value} (h : w.ownsRow (B + 1) e size v n xs) (i : Nat) (u : Value) :
    (w.setCell ⟨B, i, none⟩ u).ownsRow (B + 1) e size v n xs := ownsRow_setCell_below h (by simp) u

theorem Rd.setPos {w : World} {B : Nat} {s : ByteArray} {p : St} (h : Rd w B s p) (n : Nat) (u : Value) (hu : u = .int .i64 n) : Rd (w.setCell ⟨B, 1, none⟩ u) B s { p with pos := n } := by
  subst hu
  obtain ⟨va, ha, oa⟩ := h.atoms
  obtain ⟨vb, hb, ob⟩ := h.bonds
  exact ⟨by rw [cell_set_ne (by omega)]; exact h.text, World.cell?_setCell_same w _ _ h.pos, fun k hk => by rw [cell_set_ne (by omega)]; exact h.near k hk,
    ⟨va, by rw [cell_set_ne (by omega)]; exact ha, ownsRow_setB oa _ _⟩, ⟨vb, by rw [cell_set_ne (by omega)]; exact hb, ownsRow_setB ob _ _⟩,
    by rw [cell_set_ne (by omega)]; exact h.err, by rw [cell_set_ne (by omega)]; exact h.plc, fun n j v hn hv => by rw [cell_set_ne (by omega)]; exact h.rings n j v hn hv,
    fun i => by rw [World.frozen?_setCell]; exact h.free i⟩

theorem Fr.setPos {B : Nat} {a w : World} (h : Fr B a w) (u : Value) : Fr B a (w.setCell ⟨B, 1, none⟩ u) := h.setCell (.inl rfl) (fun _ => ⟨by simp, by simp⟩) u

/-- Something is wrong: the reader says what, and where. -/
structure Wrong (w : World) (B : Nat) (e : Int × Int) : Prop where
  err : w.cell? ⟨B, 28, none⟩ = some (.int .i64 e.1)
  plc : w.cell? ⟨B, 29, none⟩ = some (.int .i64 e.2)

theorem Wrong.drewN {w : World} {B : Nat} {e : Int × Int} (h : Wrong w B e) (n : Nat) : Wrong (w.drewN n) B e := ⟨h.err, h.plc⟩

theorem ret_bool {a b : Bool} (h : a = b) : Ending.returned (.bool a) = .returned (.bool b) := by rw [h]
theorem ret_int {k : IntKind} {a b : Int} (h : a = b) : Ending.returned (.int k a) = .returned (.int k b) := by rw [h]

section
variable {w : World} {B : Nat} {s : ByteArray} {p : St}
set_option maxHeartbeats 400000 in
theorem peek_in (h : Rd w B s p) (n : Nat) (hs : s.size ≤ 160) (hlt : p.pos + n < s.size) :
    Calls Tryz.prog 80 #[.pointer (some ⟨B, 0, none⟩), .int .i64 n] w fun e w' => e = .returned (.int .u8 (byteAt s (p.pos + n))) ∧ ∃ k, w' = w.drewN k := by
  have h0 := h.text
  have h1 := h.pos
  rw [byteAt_lt _ _ hlt]
  have hw : IntKind.i64.wrap ((p.pos : Int) + (n : Int)) = (p.pos : Int) + (n : Int) := by rw [IntKind.wrap_i64]; omega
  have hb : (p.pos : Int) + (n : Int) < (s.size : Int) := by omega
  have hb0 : 0 ≤ (p.pos : Int) + (n : Int) := by omega
  have ht : ((p.pos : Int) + (n : Int)).toNat = p.pos + n := by omega
  go_enter Tryz.func80, Tryz.ntmps80
  go_wp2
  go_quiet (fail)
  go_wp2
  go_quiet (fail)
  go_wp2
  go_ret
  exact ⟨rfl, _, World.drewN_drewN _ _ _⟩

set_option maxHeartbeats 400000 in
theorem peek_out (h : Rd w B s p) (n : Nat) (hs : s.size ≤ 160) (hn : n ≤ 10) (hp : p.pos ≤ s.size) (hlt : ¬ p.pos + n < s.size) :
    Calls Tryz.prog 80 #[.pointer (some ⟨B, 0, none⟩), .int .i64 n] w fun e w' => e = .returned (.int .u8 (byteAt s (p.pos + n))) ∧ ∃ k, w' = w.drewN k := by
  have h0 := h.text
  have h1 := h.pos
  rw [byteAt_ge _ _ hlt]
  have hw : IntKind.i64.wrap ((p.pos : Int) + (n : Int)) = (p.pos : Int) + (n : Int) := by rw [IntKind.wrap_i64]; omega
  have hb : ¬ (p.pos : Int) + (n : Int) < (s.size : Int) := by omega
  go_enter Tryz.func80, Tryz.ntmps80
  go_wp2
  go_quiet (fail)
  go_wp2
  go_ret
  exact ⟨rfl, _, rfl⟩

theorem peek_any (h : Rd w B s p) (n : Nat) (hs : s.size ≤ 160) (hn : n ≤ 10) (hp : p.pos ≤ s.size) :
    Calls Tryz.prog 80 #[.pointer (some ⟨B, 0, none⟩), .int .i64 n] w fun e w' => e = .returned (.int .u8 (byteAt s (p.pos + n))) ∧ ∃ k, w' = w.drewN k := by
  by_cases hlt : p.pos + n < s.size
  · exact peek_in h n hs hlt
  · exact peek_out h n hs hn hp hlt

theorem peek0 (h : Rd w B s p) (hs : s.size ≤ 160) (hp : p.pos ≤ s.size) :
    Calls Tryz.prog 80 #[.pointer (some ⟨B, 0, none⟩), .int .i64 0] w fun e w' => e = .returned (.int .u8 (byteAt s p.pos)) ∧ ∃ k, w' = w.drewN k :=
  peek_any h 0 hs (by omega) hp
theorem peek1 (h : Rd w B s p) (hs : s.size ≤ 160) (hp : p.pos ≤ s.size) :
    Calls Tryz.prog 80 #[.pointer (some ⟨B, 0, none⟩), .int .i64 1] w fun e w' => e = .returned (.int .u8 (byteAt s (p.pos + 1))) ∧ ∃ k, w' = w.drewN k :=
  peek_any h 1 hs (by omega) hp

set_option maxHeartbeats 400000 in
theorem ended_any (h : Rd w B s p) (hp : p.pos ≤ s.size) :
    Calls Tryz.prog 56 #[.pointer (some ⟨B, 0, none⟩)] w fun e w' => e = .returned (.bool (!decide (p.pos < s.size))) ∧ ∃ k, w' = w.drewN k := by
  have h0 := h.text
  have h1 := h.pos
  have he : ((p.pos : Int) == (s.size : Int)) = !decide (p.pos < s.size) := by
    rw [Bool.eq_iff_iff]; simp; omega
  go_enter Tryz.func56, Tryz.ntmps56
  go_wp2
  go_quiet (fail)
  go_wp2
  go_ret
  exact ⟨ret_bool (by first | exact he | rfl), _, rfl⟩

set_option maxHeartbeats 400000 in
theorem fail_any (h : Rd w B s p) (e pl : Int) :
    Calls Tryz.prog 57 #[.pointer (some ⟨B, 28, none⟩), .int .i64 e, .int .i64 pl] w fun r w' => r = .returned (.bool false) ∧ Wrong w' B (e, pl) ∧ Fr B w w' := by
  obtain ⟨v28, h28⟩ := h.err
  obtain ⟨v29, h29⟩ := h.plc
  have f28 := h.free 28
  have f29 := h.free 29
  go_enter Tryz.func57, Tryz.ntmps57
  go_wp2
  go_ret
  exact ⟨rfl, ⟨by rw [World.cell?_setCell_other _ _ _ _ (by simp)]; exact World.cell?_setCell_same w _ _ h28, World.cell?_setCell_same _ _ _ (by rw [cell_set_ne (by omega)]; exact h29)⟩,
    ((Fr.refl B w).setCell (.inl rfl) (by simp) _).setCell (.inl rfl) (by simp) _⟩

set_option maxHeartbeats 400000 in
theorem isSign_any (c : Int) (w : World) : Calls Tryz.prog 131 #[.int .u8 c] w fun e w' => e = .returned (.bool (isSign c)) ∧ w' = w := by
  go_enter Tryz.func131, Tryz.ntmps131
  go_wp2
  all_goals (go_ret; exact ⟨ret_bool (by simp_all [isSign]), rfl⟩)

set_option maxHeartbeats 400000 in
theorem startsRing_any (c : Int) (w : World) : Calls Tryz.prog 132 #[.int .u8 c] w fun e w' => e = .returned (.bool (startsRing c)) ∧ w' = w := by
  go_enter Tryz.func132, Tryz.ntmps132
  go_wp2
  all_goals (go_ret; exact ⟨ret_bool (by simp_all [startsRing, isDigit] <;> (intros; omega)), rfl⟩)

set_option maxHeartbeats 400000 in
theorem clash_any (a b : Int) (w : World) : Calls Tryz.prog 155 #[.int .u8 a, .int .u8 b] w fun e w' => e = .returned (.bool (clash a b)) ∧ w' = w := by
  go_enter Tryz.func155, Tryz.ntmps155
  go_wp2
  all_goals (go_ret; exact ⟨ret_bool (by simp_all [clash]), rfl⟩)

set_option maxHeartbeats 400000 in
theorem given_any (a b : Int) (w : World) : Calls Tryz.prog 156 #[.int .u8 a, .int .u8 b] w fun e w' => e = .returned (.int .u8 (given a b)) ∧ w' = w := by
  by_cases h : a = 0
  · have h' : (a != 0) = false := by simp [h]
    go_enter Tryz.func156, Tryz.ntmps156
    go_wp2
    all_goals (go_ret; exact ⟨ret_int (by simp_all [given]), rfl⟩)
  · have h' : (a != 0) = true := by simp [h]
    go_enter Tryz.func156, Tryz.ntmps156
    go_wp2
    all_goals (go_ret; exact ⟨ret_int (by simp_all [given]), rfl⟩)

set_option maxHeartbeats 400000 in
theorem chargeOf_any (a : Int) (w : World) : Calls Tryz.prog 153 #[.int .u8 a] w fun e w' => e = .returned (.int .i64 (if a = 45 then -1 else 1)) ∧ w' = w := by
  by_cases h : a = 45
  · have h' : (a == 45) = true := by simp [h]
    go_enter Tryz.func153, Tryz.ntmps153
    go_wp2
    all_goals (go_ret; exact ⟨ret_int (by simp_all), rfl⟩)
  · have h' : (a == 45) = false := by simp [h]
    go_enter Tryz.func153, Tryz.ntmps153
    go_wp2
    all_goals (go_ret; exact ⟨ret_int (by simp_all), rfl⟩)
end
def hasWord (s : ByteArray) (i : Nat) (wd : ByteArray) : Bool := decide (wd.size ≤ s.size - i) && (((s.extract i s.size).extract 0 wd.size).toList == wd.toList)

theorem getElem?_byteAt (s : ByteArray) (i : Nat) : s.data.toList[i]? = if i < s.size then some (byteAt s i).toNat.toUInt8 else none := by
  by_cases h : i < s.size
  · rw [if_pos h, byteAt_lt s i h]
    have h' : i < s.data.size := h
    simp [ByteArray.getElem_eq_getElem_data]
  · rw [if_neg h]
    have h' : ¬ i < s.data.size := h
    simp; omega

theorem take_extract (s : ByteArray) (i n : Nat) : ((s.extract i s.size).extract 0 n).toList = (s.data.toList.drop i).take n := by
  rw [ByteArray.toList_eq]
  apply List.ext_getElem?
  intro k
  simp only [ByteArray.data_extract, Array.toList_extract, List.getElem?_take, List.getElem?_drop, List.extract_eq_take_drop, Nat.zero_add, Nat.sub_zero]
  by_cases hk : k < n
  · by_cases hi : i + k < s.size
    · simp [hk]
      omega
    · have : s.data.toList[i + k]? = none := by rw [getElem?_byteAt, if_neg hi]
      simp [hk, this]
  · simp [hk]

theorem u8_eq (s : ByteArray) (i : Nat) (c : UInt8) : (byteAt s i).toNat.toUInt8 = c ↔ byteAt s i = (c.toNat : Int) := by
  have h0 := byteAt_nonneg s i
  have h1 := byteAt_le s i
  rw [← UInt8.toNat_inj]
  have : (byteAt s i).toNat.toUInt8.toNat = (byteAt s i).toNat := by
    simp; omega
  omega

theorem drop_one (s : ByteArray) (i : Nat) (h : i < s.size) : s.data.toList.drop i = (byteAt s i).toNat.toUInt8 :: s.data.toList.drop (i + 1) := by
  have h' : i < s.data.toList.length := by simpa using h
  rw [List.drop_eq_getElem_cons h']
  have := getElem?_byteAt s i
  rw [if_pos h, List.getElem?_eq_getElem h'] at this
  simp only [Option.some.injEq] at this
  rw [this]

theorem hasWord1 (s : ByteArray) (i : Nat) (c : UInt8) (hc : c ≠ 0) : hasWord s i ⟨#[c]⟩ = (byteAt s i == (c.toNat : Int)) := by
  unfold hasWord
  have hsz : (ByteArray.mk #[c]).size = 1 := rfl
  have hc' : c.toNat ≠ 0 := fun e => hc (by rw [← UInt8.toNat_inj]; simpa using e)
  rw [hsz, take_extract, ByteArray.toList_eq]
  by_cases h : i < s.size
  · have h1 : decide (1 ≤ s.size - i) = true := by simp; omega
    rw [h1, Bool.true_and, drop_one s i h]
    show ([(byteAt s i).toNat.toUInt8] == [c]) = _
    rw [Bool.eq_iff_iff]
    simp only [List.cons_beq_cons, beq_iff_eq, Bool.and_true, BEq.rfl, u8_eq]
  · have h1 : decide (1 ≤ s.size - i) = false := by simp; omega
    rw [h1, Bool.false_and, byteAt_ge s i h]
    symm
    simp
    omega

theorem hasWord2 (s : ByteArray) (i : Nat) (c d : UInt8) (_hc : c ≠ 0) (hd : d ≠ 0) : hasWord s i ⟨#[c, d]⟩ = (byteAt s i == (c.toNat : Int) && byteAt s (i + 1) == (d.toNat : Int)) := by
  unfold hasWord
  have hsz : (ByteArray.mk #[c, d]).size = 2 := rfl
  have hd' : d.toNat ≠ 0 := fun e => hd (by rw [← UInt8.toNat_inj]; simpa using e)
  rw [hsz, take_extract, ByteArray.toList_eq]
  by_cases h : i + 1 < s.size
  · have h1 : decide (2 ≤ s.size - i) = true := by simp; omega
    rw [h1, Bool.true_and, drop_one s i (by omega), drop_one s (i + 1) h]
    show ([(byteAt s i).toNat.toUInt8, (byteAt s (i + 1)).toNat.toUInt8] == [c, d]) = _
    rw [Bool.eq_iff_iff]
    simp only [List.cons_beq_cons, beq_iff_eq, Bool.and_true, BEq.rfl, u8_eq, Bool.and_eq_true]
  · have h1 : decide (2 ≤ s.size - i) = false := by simp; omega
    rw [h1, Bool.false_and, byteAt_ge s (i + 1) h]
    symm
    simp
    intro _
    omega

set_option maxHeartbeats 400000 in
theorem hasPrefix0 (a wd : ByteArray) (w : World) (_h1 : a.size ≤ 160) (_h2 : wd.size ≤ 10) :
    Calls Tryz.prog 157 #[.string a, .string wd] w fun e w' => e = .returned (.bool (decide (wd.size ≤ a.size) && ((a.extract 0 wd.size).toList == wd.toList))) ∧ w' = w := by
  by_cases h : wd.size ≤ a.size
  · go_enter Tryz.func157, Tryz.ntmps157
    go_wp2
    all_goals (go_ret; exact ⟨ret_bool (by simp [h]), rfl⟩)
  · have h' : decide ((wd.size : Int) ≤ (a.size : Int)) = false := by simp; omega
    go_enter Tryz.func157, Tryz.ntmps157
    go_wp2
    all_goals (go_ret; exact ⟨ret_bool (by simp; omega), rfl⟩)

set_option maxHeartbeats 400000 in
theorem hasPrefix_any (a wd : ByteArray) (w : World) (h1 : a.size ≤ 160) (h2 : wd.size ≤ 10) :
    Calls Tryz.prog 136 #[.string a, .string wd] w fun e w' => e = .returned (.bool (decide (wd.size ≤ a.size) && ((a.extract 0 wd.size).toList == wd.toList))) ∧ w' = w := by
  go_enter Tryz.func136, Tryz.ntmps136
  go_wp2_with (go_at_call 157; refine (hasPrefix0 _ _ _ h1 h2).mono ?_; rintro e w' ⟨rfl, rfl⟩)
  go_ret
  exact ⟨rfl, rfl⟩

theorem size_extract (s : ByteArray) (i : Nat) : (s.extract i s.size).size = s.size - i := by simp

theorem hasPrefix_at (s : ByteArray) (i : Nat) (wd : ByteArray) (w : World) (h1 : s.size ≤ 160) (h2 : wd.size ≤ 10) :
    Calls Tryz.prog 136 #[.string (s.extract i s.size), .string wd] w fun e w' => e = .returned (.bool (hasWord s i wd)) ∧ w' = w := by
  have h := hasPrefix_any (s.extract i s.size) wd w (by rw [size_extract]; omega) h2
  rw [size_extract] at h
  exact h

section
variable {w : World} {B : Nat} {s : ByteArray} {p : St}
set_option maxHeartbeats 400000 in
theorem take_no (h : Rd w B s p) (hs : s.size ≤ 160) (hp : p.pos ≤ s.size) (wd : ByteArray) (h2 : wd.size ≤ 10) (hw : hasWord s p.pos wd = false) :
    Calls Tryz.prog 105 #[.pointer (some ⟨B, 0, none⟩), .string wd] w fun e w' => e = .returned (.bool false) ∧ ∃ k, w' = w.drewN k := by
  have h0 := h.text
  have h1 := h.pos
  have hq : (p.pos : Int) ≤ (s.size : Int) := by omega
  go_enter Tryz.func105, Tryz.ntmps105
  go_wp2_with fail
  go_quiet ((go_at_call 136; exact Calls.quiet_of_same (hasPrefix_at _ _ _ _ hs h2)))
  go_wp2
  go_ret
  exact ⟨rfl, _, rfl⟩

set_option maxHeartbeats 400000 in
theorem take_yes (h : Rd w B s p) (hs : s.size ≤ 160) (hp : p.pos ≤ s.size) (wd : ByteArray) (h2 : wd.size ≤ 10) (hw : hasWord s p.pos wd = true) :
    Calls Tryz.prog 105 #[.pointer (some ⟨B, 0, none⟩), .string wd] w fun e w' => e = .returned (.bool true) ∧ Rd w' B s { p with pos := p.pos + wd.size } ∧ Fr B w w' := by
  have h0 := h.text
  have h1 := h.pos
  have hf := h.free 1
  have hq : (p.pos : Int) ≤ (s.size : Int) := by omega
  go_enter Tryz.func105, Tryz.ntmps105
  go_wp2_with fail
  go_quiet ((go_at_call 136; exact Calls.quiet_of_same (hasPrefix_at _ _ _ _ hs h2)))
  go_wp2
  go_ret
  exact ⟨rfl, (h.drewN _).setPos _ _ (by go_num), ((Fr.refl B w).drewN _).setPos _⟩

/-- One letter. -/
theorem take1 (h : Rd w B s p) (hs : s.size ≤ 160) (hp : p.pos ≤ s.size) (c : UInt8) (n : Int) (hn : (c.toNat : Int) = n) (hc : c ≠ 0) :
    Calls Tryz.prog 105 #[.pointer (some ⟨B, 0, none⟩), .string ⟨#[c]⟩] w fun e w' =>
      e = .returned (.bool (byteAt s p.pos == n)) ∧ Rd w' B s (if byteAt s p.pos = n then { p with pos := p.pos + 1 } else p) ∧ Fr B w w' := by
  subst hn
  by_cases hb : byteAt s p.pos = (c.toNat : Int)
  · refine (take_yes h hs hp ⟨#[c]⟩ (by show 1 ≤ 10; omega) (by rw [hasWord1 s _ c hc]; simpa using hb)).mono ?_
    rintro e w' ⟨rfl, h1, h2⟩
    exact ⟨ret_bool (by simp [hb]), by rw [if_pos hb]; exact h1, h2⟩
  · refine (take_no h hs hp ⟨#[c]⟩ (by show 1 ≤ 10; omega) (by rw [hasWord1 s _ c hc]; simpa using hb)).mono ?_
    rintro e w' ⟨rfl, k, rfl⟩
    exact ⟨ret_bool (by simp [hb]), by rw [if_neg hb]; exact h.drewN k, (Fr.refl B w).drewN k⟩

/-- Two letters. -/
theorem take2 (h : Rd w B s p) (hs : s.size ≤ 160) (hp : p.pos ≤ s.size) (c d : UInt8) (n m : Int) (hn : (c.toNat : Int) = n) (hm : (d.toNat : Int) = m) (hc : c ≠ 0) (hd : d ≠ 0) :
    Calls Tryz.prog 105 #[.pointer (some ⟨B, 0, none⟩), .string ⟨#[c, d]⟩] w fun e w' =>
      e = .returned (.bool (byteAt s p.pos == n && byteAt s (p.pos + 1) == m)) ∧
      Rd w' B s (if byteAt s p.pos = n ∧ byteAt s (p.pos + 1) = m then { p with pos := p.pos + 2 } else p) ∧ Fr B w w' := by
  subst hn hm
  by_cases hb : byteAt s p.pos = (c.toNat : Int) ∧ byteAt s (p.pos + 1) = (d.toNat : Int)
  · refine (take_yes h hs hp ⟨#[c, d]⟩ (by show 2 ≤ 10; omega) (by rw [hasWord2 s _ c d hc hd]; simpa using hb)).mono ?_
    rintro e w' ⟨rfl, h1, h2⟩
    exact ⟨ret_bool (by simp [hb]), by rw [if_pos hb]; exact h1, h2⟩
  · refine (take_no h hs hp ⟨#[c, d]⟩ (by show 2 ≤ 10; omega) (by rw [hasWord2 s _ c d hc hd]; simpa using hb)).mono ?_
    rintro e w' ⟨rfl, k, rfl⟩
    exact ⟨ret_bool (by symm; simpa using hb), by rw [if_neg hb]; exact h.drewN k, (Fr.refl B w).drewN k⟩

set_option maxHeartbeats 400000 in
theorem digit_any (h : Rd w B s p) (hs : s.size ≤ 160) (hp : p.pos ≤ s.size) (lo hi : Int) (hlo : 48 ≤ lo) :
    Calls Tryz.prog 152 #[.pointer (some ⟨B, 0, none⟩), .int .u8 lo, .int .u8 hi] w fun e w' =>
      e = .returned (.tuple (if lo ≤ byteAt s p.pos ∧ byteAt s p.pos ≤ hi then #[.int .i64 (byteAt s p.pos - 48), .bool true] else #[.int .i64 0, .bool false])) ∧
      Rd w' B s (if lo ≤ byteAt s p.pos ∧ byteAt s p.pos ≤ hi then { p with pos := p.pos + 1 } else p) ∧ Fr B w w' := by
  have h0 := h.text
  have h1 := h.pos
  have hf := h.free 1
  have b0 := byteAt_nonneg s p.pos
  have b1 := byteAt_le s p.pos
  by_cases hb : lo ≤ byteAt s p.pos ∧ byteAt s p.pos ≤ hi
  · rw [if_pos hb, if_pos hb]
    obtain ⟨hb1, hb2⟩ := hb
    go_enter Tryz.func152, Tryz.ntmps152
    go_wp2_with (go_at_call 80; refine (peek0 h hs hp).mono ?_; rintro e w' ⟨rfl, k, rfl⟩)
    go_ret2
    exact ⟨rfl, (h.drewN _).setPos _ _ (by go_num), ((Fr.refl B w).drewN _).setPos _⟩
  · rw [if_neg hb, if_neg hb]
    by_cases hb1 : byteAt s p.pos < lo
    · clear hb
      go_enter Tryz.func152, Tryz.ntmps152
      go_wp2_with (go_at_call 80; refine (peek0 h hs hp).mono ?_; rintro e w' ⟨rfl, k, rfl⟩)
      go_ret2
      exact ⟨rfl, h.drewN _, (Fr.refl B w).drewN _⟩
    · have hb2 : hi < byteAt s p.pos := by omega
      clear hb
      go_enter Tryz.func152, Tryz.ntmps152
      go_wp2_with (go_at_call 80; refine (peek0 h hs hp).mono ?_; rintro e w' ⟨rfl, k, rfl⟩)
      go_ret2
      exact ⟨rfl, h.drewN _, (Fr.refl B w).drewN _⟩
end
theorem flatMap_get {α : Type} (f : α → List Value) (m : Nat) (hf : ∀ a, (f a).length = m) : ∀ (l : List α) (i j : Nat) (a : α), l[i]? = some a → j < m → (l.flatMap f)[i * m + j]? = (f a)[j]?
  | [], i, _, _, h, _ => by simp at h
  | x :: r, 0, j, a, h, hj => by
    simp at h; subst h
    rw [List.flatMap_cons, Nat.zero_mul, Nat.zero_add, List.getElem?_append_left (by rw [hf]; exact hj)]
  | x :: r, i + 1, j, a, h, hj => by
    simp at h
    rw [List.flatMap_cons, List.getElem?_append_right (by rw [hf, Nat.succ_mul]; omega), hf]
    have : (i + 1) * m + j - m = i * m + j := by rw [Nat.succ_mul]; omega
    rw [this]
    exact flatMap_get f m hf r i j a h hj

theorem atmCells_len (a : Atm) : (atmCells a).length = 6 := rfl
theorem bndCells_len (a : Bnd) : (bndCells a).length = 3 := rfl
theorem pbCells_len (a : Bnd) : (pbCells a).length = 4 := rfl

theorem ownsRow_shape {w : World} {base : Nat} {e : TypeId} {size : Nat} {v : Value} {n : Nat} {xs : List Value} (h : w.ownsRow base e size v n xs) : ∃ ao cap, v = .slice ao n cap := by
  rcases h.2 with ⟨rfl, rfl⟩ | ⟨g, cap, cur, rfl, _⟩
  · exact ⟨none, 0, rfl⟩
  · exact ⟨_, cap, rfl⟩

theorem ownsRow_at {w : World} {base : Nat} {e : TypeId} {size : Nat} {v : Value} {n : Nat} {xs : List Value} (h : w.ownsRow base e size v n xs) (hn : 0 < n) :
    ∃ g cap, v = .slice (some ⟨g, 0, none⟩) n cap ∧ base ≤ g ∧ g < w.heap.size ∧ (∀ j, j < n * size → w.cell? ⟨g, j, none⟩ = xs[j]?) ∧ ∀ j, w.frozen? ⟨g, j, none⟩ = false := by
  have hl := h.lt
  rcases h.2 with ⟨_, rfl⟩ | ⟨g, cap, cur, rfl, _⟩
  · exact absurd hn (Nat.lt_irrefl _)
  · obtain ⟨h1, h2⟩ := hl g rfl
    exact ⟨g, cap, rfl, h1, h2, h.cellAt, h.frozenAt⟩

section
variable {w : World} {B : Nat} {s : ByteArray} {p : St}
theorem Rd.atomsLen (h : Rd w B s p) : ∃ ao cap, w.cell? ⟨B, 26, none⟩ = some (.slice ao p.atoms.length cap) := by
  obtain ⟨v, hv, ho⟩ := h.atoms
  obtain ⟨ao, cap, rfl⟩ := ownsRow_shape ho
  exact ⟨ao, cap, hv⟩

/-- The atoms' list, when there is one: where each cell lies. -/
theorem Rd.atomsAt (h : Rd w B s p) (hn : 0 < p.atoms.length) : ∃ g cap, w.cell? ⟨B, 26, none⟩ = some (.slice (some ⟨g, 0, none⟩) p.atoms.length cap) ∧
    (∀ i a j v, p.atoms[i]? = some a → (atmCells a)[j]? = some v → w.cell? ⟨g, i * 6 + j, none⟩ = some v) ∧ (∀ j, w.frozen? ⟨g, j, none⟩ = false) ∧ B < g ∧ g < w.heap.size := by
  obtain ⟨v, hv, ho⟩ := h.atoms
  obtain ⟨g, cap, rfl, h1, h2, h3, h4⟩ := ownsRow_at ho hn
  refine ⟨g, cap, hv, ?_, h4, h1, h2⟩
  intro i a j u hi hj
  have hj6 : j < 6 := by
    have := (List.getElem?_eq_some_iff.1 hj).1
    simpa [atmCells_len] using this
  have hil : i < p.atoms.length := (List.getElem?_eq_some_iff.1 hi).1
  rw [h3 (i * 6 + j) (by omega), flatMap_get atmCells 6 atmCells_len _ i j a hi hj6, hj]

theorem Rd.bondsAt (h : Rd w B s p) (hn : 0 < p.bonds.length) : ∃ g cap, w.cell? ⟨B, 27, none⟩ = some (.slice (some ⟨g, 0, none⟩) p.bonds.length cap) ∧
    (∀ i a j v, p.bonds[i]? = some a → (pbCells a)[j]? = some v → w.cell? ⟨g, i * 4 + j, none⟩ = some v) ∧ (∀ j, w.frozen? ⟨g, j, none⟩ = false) ∧ B < g ∧ g < w.heap.size := by
  obtain ⟨v, hv, ho⟩ := h.bonds
  obtain ⟨g, cap, rfl, h1, h2, h3, h4⟩ := ownsRow_at ho hn
  refine ⟨g, cap, hv, ?_, h4, h1, h2⟩
  intro i a j u hi hj
  have hj6 : j < 4 := by
    have := (List.getElem?_eq_some_iff.1 hj).1
    simpa [pbCells_len] using this
  have hil : i < p.bonds.length := (List.getElem?_eq_some_iff.1 hi).1
  rw [h3 (i * 4 + j) (by omega), flatMap_get pbCells 4 pbCells_len _ i j a hi hj6, hj]
end
/-- An atom in a box of its own. -/
structure Bx (w : World) (L : Nat) (a : Atm) : Prop where
  c0 : w.cell? ⟨L, 0, none⟩ = some (.string a.el)
  c1 : w.cell? ⟨L, 1, none⟩ = some (.bool a.aro)
  c2 : w.cell? ⟨L, 2, none⟩ = some (.int .i64 a.ch)
  c3 : w.cell? ⟨L, 3, none⟩ = some (.int .i64 a.hy)
  c4 : w.cell? ⟨L, 4, none⟩ = some (.int .i64 a.pl)
  c5 : w.cell? ⟨L, 5, none⟩ = some (.bool a.br)
  fz : ∀ i, w.frozen? ⟨L, i, none⟩ = false

theorem Bx.same {w w' : World} {L : Nat} {a : Atm} (h : Bx w L a) (hs : w'.heap[L]? = w.heap[L]?) : Bx w' L a := by
  have hc : ∀ i, w'.cell? ⟨L, i, none⟩ = w.cell? ⟨L, i, none⟩ := fun i => World.cell?_of_block (w := w) hs
  have hf : ∀ i, w'.frozen? ⟨L, i, none⟩ = w.frozen? ⟨L, i, none⟩ := fun i => World.frozen?_of_block (w := w) hs
  exact ⟨by rw [hc]; exact h.c0, by rw [hc]; exact h.c1, by rw [hc]; exact h.c2, by rw [hc]; exact h.c3, by rw [hc]; exact h.c4, by rw [hc]; exact h.c5, fun i => by rw [hf]; exact h.fz i⟩

theorem Bx.lt {w : World} {L : Nat} {a : Atm} (h : Bx w L a) : L < w.heap.size := World.block_lt_of_cell? w ⟨L, 0, none⟩ h.c0

/-- As Fr, but block L may have turned too. -/
structure FrX (B L : Nat) (w w' : World) : Prop where
  os : w'.os = w.os
  tape : w'.tape = w.tape
  output : w'.output = w.output
  size : w.heap.size ≤ w'.heap.size
  block : ∀ k, k < w.heap.size → ¬ Mine w B k → k ≠ L → w'.heap[k]? = w.heap[k]?
  mine : ∀ k, k < w.heap.size → Mine w' B k → Mine w B k

theorem Fr.x {B : Nat} {w w' : World} (h : Fr B w w') (L : Nat) : FrX B L w w' := ⟨h.os, h.tape, h.output, h.size, fun k hk hm _ => h.block k hk hm, h.mine⟩

theorem FrX.trans {B L : Nat} {a b c : World} (h : FrX B L a b) (k : FrX B L b c) : FrX B L a c :=
  ⟨k.os.trans h.os, k.tape.trans h.tape, k.output.trans h.output, Nat.le_trans h.size k.size,
    fun i hi hm hl => (k.block i (Nat.lt_of_lt_of_le hi h.size) (fun e => hm (h.mine i hi e)) hl).trans (h.block i hi hm hl),
    fun i hi hm => h.mine i hi (k.mine i (Nat.lt_of_lt_of_le hi h.size) hm)⟩

/-- Block L was laid behind the first world. -/
theorem Fr.transX {B L : Nat} {a b c : World} (h : Fr B a b) (hL : a.heap.size ≤ L) (k : FrX B L b c) : Fr B a c :=
  ⟨k.os.trans h.os, k.tape.trans h.tape, k.output.trans h.output, Nat.le_trans h.size k.size,
    fun i hi hm => (k.block i (Nat.lt_of_lt_of_le hi h.size) (fun e => hm (h.mine i hi e)) (by omega)).trans (h.block i hi hm),
    fun i hi hm => h.mine i hi (k.mine i (Nat.lt_of_lt_of_le hi h.size) hm)⟩

theorem FrX.set {B L : Nat} {a w : World} (h : FrX B L a w) (hL : L ≠ B) (i : Nat) (u : Value) : FrX B L a (w.setCell ⟨L, i, none⟩ u) := by
  have hB : (w.setCell ⟨L, i, none⟩ u).heap[B]? = w.heap[B]? := Below.heap_setCell w _ u B (by simpa using fun e => hL e.symm)
  refine ⟨h.os, h.tape, h.output, by simpa using h.size, fun k hk hm hl => ?_, fun k hk hm => h.mine k hk ((Mine.same hB).1 hm)⟩
  rw [Below.heap_setCell w _ u k (by simpa using hl)]
  exact h.block k hk hm hl

theorem FrX.notMine {B L k : Nat} {a w : World} (h : FrX B L a w) (hk : k < a.heap.size) (hm : ¬ Mine a B k) : ¬ Mine w B k := fun e => hm (h.mine k hk e)
theorem Fr.notMine {B k : Nat} {a w : World} (h : Fr B a w) (hk : k < a.heap.size) (hm : ¬ Mine a B k) : ¬ Mine w B k := fun e => hm (h.mine k hk e)

theorem Bx.fr {B : Nat} {w w' : World} {L : Nat} {a : Atm} (h : Bx w L a) (hf : Fr B w w') (hm : ¬ Mine w B L) : Bx w' L a := h.same (hf.block L h.lt hm)

theorem Bx.setHy {w : World} {L : Nat} {a : Atm} (h : Bx w L a) (n : Int) : Bx (w.setCell ⟨L, 3, none⟩ (.int .i64 n)) L { a with hy := n } :=
  ⟨by rw [cell_set_ne (by omega)]; exact h.c0, by rw [cell_set_ne (by omega)]; exact h.c1, by rw [cell_set_ne (by omega)]; exact h.c2, World.cell?_setCell_same w _ _ h.c3,
    by rw [cell_set_ne (by omega)]; exact h.c4, by rw [cell_set_ne (by omega)]; exact h.c5, fun i => by rw [World.frozen?_setCell]; exact h.fz i⟩
theorem Bx.setCh {w : World} {L : Nat} {a : Atm} (h : Bx w L a) (n : Int) : Bx (w.setCell ⟨L, 2, none⟩ (.int .i64 n)) L { a with ch := n } :=
  ⟨by rw [cell_set_ne (by omega)]; exact h.c0, by rw [cell_set_ne (by omega)]; exact h.c1, World.cell?_setCell_same w _ _ h.c2, by rw [cell_set_ne (by omega)]; exact h.c3,
    by rw [cell_set_ne (by omega)]; exact h.c4, by rw [cell_set_ne (by omega)]; exact h.c5, fun i => by rw [World.frozen?_setCell]; exact h.fz i⟩
theorem Bx.setEl {w : World} {L : Nat} {a : Atm} (h : Bx w L a) (x : ByteArray) : Bx (w.setCell ⟨L, 0, none⟩ (.string x)) L { a with el := x } :=
  ⟨World.cell?_setCell_same w _ _ h.c0, by rw [cell_set_ne (by omega)]; exact h.c1, by rw [cell_set_ne (by omega)]; exact h.c2, by rw [cell_set_ne (by omega)]; exact h.c3,
    by rw [cell_set_ne (by omega)]; exact h.c4, by rw [cell_set_ne (by omega)]; exact h.c5, fun i => by rw [World.frozen?_setCell]; exact h.fz i⟩
theorem Bx.setAro {w : World} {L : Nat} {a : Atm} (h : Bx w L a) (x : Bool) : Bx (w.setCell ⟨L, 1, none⟩ (.bool x)) L { a with aro := x } :=
  ⟨by rw [cell_set_ne (by omega)]; exact h.c0, World.cell?_setCell_same w _ _ h.c1, by rw [cell_set_ne (by omega)]; exact h.c2, by rw [cell_set_ne (by omega)]; exact h.c3,
    by rw [cell_set_ne (by omega)]; exact h.c4, by rw [cell_set_ne (by omega)]; exact h.c5, fun i => by rw [World.frozen?_setCell]; exact h.fz i⟩
theorem Bx.setBr {w : World} {L : Nat} {a : Atm} (h : Bx w L a) (x : Bool) : Bx (w.setCell ⟨L, 5, none⟩ (.bool x)) L { a with br := x } :=
  ⟨by rw [cell_set_ne (by omega)]; exact h.c0, by rw [cell_set_ne (by omega)]; exact h.c1, by rw [cell_set_ne (by omega)]; exact h.c2, by rw [cell_set_ne (by omega)]; exact h.c3,
    by rw [cell_set_ne (by omega)]; exact h.c4, World.cell?_setCell_same w _ _ h.c5, fun i => by rw [World.frozen?_setCell]; exact h.fz i⟩

theorem Rd.ne_of_notMine {w : World} {B L : Nat} (hm : ¬ Mine w B L) : L ≠ B := fun e => hm (.inl e)

end Go.Proofs.YtcabaecbmkgclaaGreatDoor
