/- Layer 6: steps of code, plainly; rows of steps, of numbers, of rows as they are read. -/
import Derived.Test.YtibkegalbcjmpaaNa
namespace Go.Proofs.Ytibkegalbcjmpaa
open Go.RowKit

/-- A slice, each element as R tells. -/
def SlD {α : Type} (S : Nat) (R : World → Nat → Nat → α → Prop) (w : World) (v : Value) (xs : List α) : Prop :=
  ∃ ad cap, v = .slice ad xs.length cap ∧ (xs.length ≤ cap ∧ (ad = none → cap = 0)) ∧ cap ≤ 9223372036854775807 ∧ ∀ i, (hi : i < xs.length) → ∃ b off, ad = some ⟨b, off, none⟩ ∧ b < w.heap.size ∧ R w b (off + i * S) xs[i]
theorem SlD.mono {α : Type} {S : Nat} {R : World → Nat → Nat → α → Prop} {w w' : World} {v : Value} {xs : List α} (h : SlD S R w v xs) (hb : w.heap.size ≤ w'.heap.size) (hR : ∀ b off x, b < w.heap.size → R w b off x → R w' b off x) : SlD S R w' v xs := by
  obtain ⟨ad, cap, hv, h1, h2, hc⟩ := h
  refine ⟨ad, cap, hv, h1, h2, fun i hi => ?_⟩
  obtain ⟨b, off, ha, hl, g1⟩ := hc i hi
  exact ⟨b, off, ha, Nat.lt_of_lt_of_le hl hb, hR _ _ _ hl g1⟩
theorem SlD.shape {α : Type} {S : Nat} {R : World → Nat → Nat → α → Prop} {w : World} {v : Value} {xs : List α} (h : SlD S R w v xs) : ∃ ad cap, v = .slice ad xs.length cap := by
  obtain ⟨ad, cap, hv, _⟩ := h; exact ⟨ad, cap, hv⟩
theorem SlD.nil {α : Type} {S : Nat} {R : World → Nat → Nat → α → Prop} {w : World} : SlD S R w (.slice none 0 0) [] := ⟨none, 0, rfl, ⟨Nat.le_refl _, fun _ => rfl⟩, by omega, fun i hi => absurd hi (Nat.not_lt_zero _)⟩

/-- A step of code. -/
structure Opn where
  op : Int
  n : Int
  t : Int

def Opn.cells (o : Opn) : List Value := [.int .i64 o.op, .int .i64 o.n, .int .i64 o.t]

def OpAt (w : World) (b off : Nat) (o : Opn) : Prop := w.cell? ⟨b, off, none⟩ = some (.int .i64 o.op) ∧ w.cell? ⟨b, off + 1, none⟩ = some (.int .i64 o.n) ∧ w.cell? ⟨b, off + 2, none⟩ = some (.int .i64 o.t)
def IntAt (w : World) (b off : Nat) (x : Int) : Prop := w.cell? ⟨b, off, none⟩ = some (.int .i64 x)
def StrAt (w : World) (b off : Nat) (x : ByteArray) : Prop := w.cell? ⟨b, off, none⟩ = some (.string x)
abbrev OpsD := SlD 3 OpAt
abbrev IntsD := SlD 1 IntAt
abbrev StrsD := SlD 1 StrAt
def RowAt (w : World) (b off : Nat) (x : List Int × Value) : Prop := w.cell? ⟨b, off, none⟩ = some x.2 ∧ IntsD w x.2 x.1
abbrev AllD := SlD 1 RowAt
section
variable {w w' : World} {v : Value}
theorem OpsD.below {xs : List Opn} (h : OpsD w v xs) (hb : Below w.heap.size w w') : OpsD w' v xs := h.mono hb.size fun _ _ _ hl h => ⟨(hb.cell (p := ⟨_, _, none⟩) hl).trans h.1, (hb.cell (p := ⟨_, _, none⟩) hl).trans h.2.1, (hb.cell (p := ⟨_, _, none⟩) hl).trans h.2.2⟩
theorem IntsD.below {xs : List Int} (h : IntsD w v xs) (hb : Below w.heap.size w w') : IntsD w' v xs := h.mono hb.size fun _ _ _ hl h => (hb.cell (p := ⟨_, _, none⟩) hl).trans h
theorem StrsD.below {xs : List ByteArray} (h : StrsD w v xs) (hb : Below w.heap.size w w') : StrsD w' v xs := h.mono hb.size fun _ _ _ hl h => (hb.cell (p := ⟨_, _, none⟩) hl).trans h
theorem AllD.below {xs : List (List Int × Value)} (h : AllD w v xs) (hb : Below w.heap.size w w') : AllD w' v xs := h.mono hb.size fun _ _ _ hl h => ⟨(hb.cell (p := ⟨_, _, none⟩) hl).trans h.1, IntsD.below h.2 hb⟩
end

/-- How many numbers lie there at most, and are left: both are -1 if a step can't be taken. -/
def htsL : List Opn → Int → Int → Int × Int
  | [], m, k => (m, k)
  | o :: r, m, k => if ar o.op < 0 ∨ k < ar o.op then (-1, -1) else htsL r (max m (k + 1 - ar o.op)) (k + 1 - ar o.op)

theorem htsL_at (l : List Opn) (i : Nat) (h : i < l.length) (m k : Int) : htsL (l.drop i) m k = if ar l[i].op < 0 ∨ k < ar l[i].op then (-1, -1) else htsL (l.drop (i + 1)) (max m (k + 1 - ar l[i].op)) (k + 1 - ar l[i].op) := by
  rw [List.drop_eq_getElem_cons h]; rfl
theorem htsL_over (l : List Opn) (i : Nat) (h : ¬ i < l.length) (m k : Int) : htsL (l.drop i) m k = (m, k) := by
  rw [List.drop_eq_nil_of_le (by omega)]; rfl

/-- Is a number one of the first n? -/
def inB (i n : Int) : Bool := decide (0 ≤ i ∧ i < n)

/-- Are a step's indexes, or is its number, right? -/
def okO (regs : List Int) (own locs : Int) (o : Opn) : Bool :=
  if o.op = 1 then inB o.n 10000 else if o.op = 2 then inB o.n own else if o.op = 3 then inB o.n locs else if o.op = 4 then inB o.t regs.length && inB o.n (regs.getD o.t.toNat 0) else true

def rightO (l : List Opn) (regs : List Int) (own locs : Int) : Bool := decide ((htsL l 0 0).2 = 1) && l.all (okO regs own locs)

def tru (b : Bool) : Int := if b then 1 else 0

/-- What an operator makes of two numbers. -/
def twoO (op a b m : Int) : Int :=
  if op = 6 then (a + b) % m else if op = 7 then (a - b + m) % m else if op = 8 then a * b % m else if op = 9 then tru (decide (a = b)) else if op = 10 then tru (decide (a ≠ b))
  else if op = 11 then tru (decide (a < b)) else if op = 12 then tru (decide (a ≤ b)) else if op = 13 then tru (decide (a ≠ 0 ∧ b ≠ 0)) else tru (decide (a ≠ 0 ∨ b ≠ 0))

/-- All that code reads. -/
structure Nbs where
  mod : Int
  own : List Int
  all : List (List Int)
  mem : List Int

def rdO (s : Nbs) (o : Opn) : Int := if o.op = 2 then s.own.getD o.n.toNat 0 else if o.op = 3 then s.mem.getD o.n.toNat 0 else if o.op = 4 then (s.all.getD o.t.toNat []).getD o.n.toNat 0 else o.n

/-- The stack behind a step: its top first. -/
def stO (s : Nbs) (o : Opn) (st : List Int) : List Int :=
  match st with
  | b :: a :: r => if ar o.op = 0 then rdO s o % s.mod :: st else if ar o.op = 1 then tru (decide (b = 0)) :: a :: r else twoO o.op a b s.mod :: r
  | [b] => if ar o.op = 0 then rdO s o % s.mod :: st else [tru (decide (b = 0))]
  | [] => [rdO s o % s.mod]

def runO (s : Nbs) : List Opn → List Int → List Int
  | [], st => st
  | o :: r, st => runO s r (stO s o st)

def okI (m x : Int) : Bool := decide (0 ≤ x ∧ x < m)
def allB (m : Int) (l : List Int) : Bool := l.all (okI m)

def rightN (s : Nbs) : Bool := decide (2 ≤ s.mod ∧ s.mod ≤ 16) && (allB s.mod s.own && (allB s.mod s.mem && s.all.all (allB s.mod)))

/-- What code is worth, or that it has no value. -/
def valO (l : List Opn) (s : Nbs) : Int × Bool :=
  if rightN s && rightO l (s.all.map fun x => (x.length : Int)) s.own.length s.mem.length then ((runO s l []).getD 0 0, true) else (0, false)

end Go.Proofs.Ytibkegalbcjmpaa
