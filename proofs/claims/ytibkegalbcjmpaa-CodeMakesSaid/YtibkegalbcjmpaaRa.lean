/- The parser as a plain function, and what its parts are. -/
import Derived.Test.YtibkegalbcjmpaaKa
namespace Go.Proofs.Ytibkegalbcjmpaa
open Go.RowKit

/-- An expression as a tree. -/
inductive Ex where
  | leaf (x : Nd)
  | un (x : Nd) (a : Ex)
  | bin (x : Nd) (a b : Ex)

def Ex.flat : Ex → List Nd
  | .leaf x => [x]
  | .un x a => x :: a.flat
  | .bin x a b => x :: (a.flat ++ b.flat)
def Ex.size : Ex → Nat
  | .leaf _ => 1
  | .un _ a => a.size + 1
  | .bin _ a b => a.size + b.size + 1
def Ex.depth : Ex → Nat
  | .leaf _ => 0
  | .un _ a => a.depth + 1
  | .bin _ a b => max a.depth b.depth + 1

theorem Ex.flat_length (e : Ex) : e.flat.length = e.size := by
  induction e with
  | leaf x => rfl
  | un x a ih => simp [flat, size, ih]
  | bin x a b iha ihb => simp [flat, size, iha, ihb]

/-- What was read: an expression and the place behind it, or what is wrong, and where. -/
inductive Res where
  | ok (e : Ex) (j : Nat)
  | err (k a : Nat)

/-- What is to be read: an expression of a floor (5: an operand), or what follows one. -/
inductive Cmd where
  | lv (n : Nat)
  | more (n : Nat) (e : Ex)

def opsOf : Nat → List Nat
  | 0 => [14]
  | 1 => [13]
  | 2 => [9, 10, 11, 12]
  | 3 => [6, 7]
  | _ => [8]

def plc (l : List Tok) (i : Nat) : Nat := (tokO l i).2.2.2
def txt (l : List Tok) (i : Nat) : ByteArray := ⟨(tokO l i).2.1.toArray⟩
def opN (op pl : Nat) : Nd := ⟨op, 0, ⟨#[]⟩, ⟨#[]⟩, pl⟩
def nuAt (l : List Tok) (i : Nat) : Bool := decide ((tokO l i).1 = 2) && numB ((tokO l i).2.2.1 : Int)
def refR (l : List Tok) (i : Nat) : Res := .err (refK l i).1 (refK l i).2
def namedR (l : List Tok) (i : Nat) : Res :=
  if sgAt l (i + 1) [46] then
    if nmAt l (i + 2) then .ok (.leaf ⟨4, 0, txt l (i + 2), txt l i, plc l i⟩) (i + 3) else refR l (i + 2)
  else .ok (.leaf ⟨2, 0, txt l i, ⟨#[]⟩, plc l i⟩) (i + 1)

def run (l : List Tok) : Nat → Cmd → Nat → Nat → Option Res
  | 0, _, _, _ => none
  | f + 1, .lv n, d, i =>
    if n = 5 then
      if sgAt l i [33] then
        if d = 30 then some (.err 7 (plc l i)) else
        match run l f (.lv 5) (d + 1) (i + 1) with
        | none => none
        | some (.err k a) => some (.err k a)
        | some (.ok e j) => some (.ok (.un (opN 5 (plc l i)) e) j)
      else if sgAt l i [40] then
        if d = 30 then some (.err 7 (plc l i)) else
        match run l f (.lv 0) (d + 1) (i + 1) with
        | none => none
        | some (.err k a) => some (.err k a)
        | some (.ok e j) => if sgAt l j [41] then some (.ok e (j + 1)) else some (refR l j)
      else if nmAt l i then some (namedR l i)
      else if nuAt l i then some (.ok (.leaf ⟨1, (tokO l i).2.2.1, ⟨#[]⟩, ⟨#[]⟩, plc l i⟩) (i + 1))
      else some (refR l i)
    else match run l f (.lv (n + 1)) d i with
      | none => none
      | some (.err k a) => some (.err k a)
      | some (.ok e j) => run l f (.more n e) d j
  | f + 1, .more n e, d, i =>
    if which l i (opsOf n) = 0 then some (.ok e i) else
    match run l f (.lv (n + 1)) d (i + 1) with
    | none => none
    | some (.err k a) => some (.err k a)
    | some (.ok y j) => if n = 2 then some (.ok (.bin (opN (which l i (opsOf n)) (plc l i)) e y) j) else run l f (.more n (.bin (opN (which l i (opsOf n)) (plc l i)) e y)) d j

/-- What a part is for what was read. -/
def ResOK (r : Res) (p : PtR) (j : Nat) (er pl : Int) : Prop := match r with
  | .ok e j0 => j = j0 ∧ er = 0 ∧ pl = 0 ∧ p.s = e.size ∧ p.d = e.depth ∧ (p.s ≤ 200 ∧ p.d ≤ 30 → p.xs = e.flat)
  | .err k a => er = k ∧ pl = a ∧ k ≠ 0

/-- A part that the parser made, of so many tokens. -/
def PtIn (w : World) (B : Nat) (p : PtR) (c : Nat) : Prop := w.ownsRow B 57 5 p.nv p.xs.length (rowN p.xs) ∧ p.xs.length ≤ 200 ∧ (p.xs.length : Int) ≤ p.s ∧ p.s ≤ c ∧ 0 ≤ p.d ∧ p.d ≤ p.s

/-- Beside an error a part may be one greater. -/
def slack (er : Int) : Nat := if er = 0 then 0 else 1

theorem PtIn.own {w : World} {B c : Nat} {p : PtR} (h : PtIn w B p c) (hc : c ≤ 1000000) : PtOwn w B p := by
  obtain ⟨h1, h2, h3, h4, h5, h6⟩ := h
  exact ⟨h1, h2, by omega, by omega, h5, by omega⟩

/-- What join gives, as a part. -/
theorem join_part {x : Nd} {ps : List PtR} {B : Nat} {w : World} {e : Ending} {w' : World} (h : JoinAns x ps B w e w') (hl : (xsF x ps).length ≤ szF ps 1) (h0 : 0 ≤ szF ps 1) :
    ∃ p : PtR, e = .returned (.agg #[p.nv, .int .i64 p.s, .int .i64 p.d]) ∧ w'.ownsRow B 57 5 p.nv p.xs.length (rowN p.xs) ∧ p.xs.length ≤ 200 ∧ (p.xs.length : Int) ≤ p.s ∧ p.s = szF ps 1 ∧ p.d = dpF ps 0 ∧ (p.s ≤ 200 ∧ p.d ≤ 30 → p.xs = xsF x ps) ∧ Below w.heap.size w w' := by
  obtain ⟨nv, xs, rfl, ho, h1, h2, hb⟩ := h
  obtain ⟨ad, cap, rfl, _⟩ := own_shape ho
  refine ⟨⟨ad, cap, szF ps 1, dpF ps 0, xs⟩, rfl, ho, ?_, ?_, rfl, rfl, h1, hb⟩
  · by_cases h : szF ps 1 ≤ 200 ∧ dpF ps 0 ≤ 30
    · rw [h1 h]
      have := h.1
      have e1 : ((xsF x ps).length : Int) ≤ 200 := by omega
      show (xsF x ps).length ≤ 200
      omega
    · rw [h2 h]; simp
  · show (xs.length : Int) ≤ szF ps 1
    by_cases h : szF ps 1 ≤ 200 ∧ dpF ps 0 ≤ 30
    · rw [h1 h]; exact hl
    · rw [h2 h]; exact h0

/-- join of no part, one, two. -/
def nodeV (x : Nd) : Value := .agg #[.int .i64 x.op, .int .i64 x.n, .string x.nm, .string x.inn, .int .i64 x.pl]
def JoinTo (x : Nd) (s d : Int) (xs : List Nd) (B : Nat) (w : World) (e : Ending) (w' : World) : Prop :=
  ∃ p : PtR, e = .returned (.agg #[p.nv, .int .i64 p.s, .int .i64 p.d]) ∧ w'.ownsRow B 57 5 p.nv p.xs.length (rowN p.xs) ∧ p.xs.length ≤ 200 ∧ (p.xs.length : Int) ≤ p.s ∧ p.s = s ∧ p.d = d ∧ (p.s ≤ 200 ∧ p.d ≤ 30 → p.xs = x :: xs) ∧ Below w.heap.size w w'

end Go.Proofs.Ytibkegalbcjmpaa
