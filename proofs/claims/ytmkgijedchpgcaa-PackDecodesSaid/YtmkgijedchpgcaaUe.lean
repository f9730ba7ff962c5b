/- Units and configurations as they lie in memory; plainly, when they are right. -/
import Derived.Test.YtmkgijedchpgcaaUd
namespace Go.Proofs.Ytmkgijedchpgcaa
set_option linter.unusedSimpArgs false
set_option linter.unusedVariables false
open Go.RowKit

/-- An instruction. -/
structure Ins where
  op : Int
  reg : Int
  loc : Int
  e : List Opn
  f : List Opn
  ne : Bool
  to : Int

/-- An instruction with its slices. -/
structure II where
  x : Ins
  ev : Value
  fv : Value
def II.cells (t : II) : List Value := [.int .i64 t.x.op, .int .i64 t.x.reg, .int .i64 t.x.loc, t.ev, t.fv, .bool t.x.ne, .int .i64 t.x.to]
def CellsAt (w : World) (b off : Nat) (l : List Value) : Prop := ∀ i, (h : i < l.length) → w.cell? ⟨b, off + i, none⟩ = some l[i]
structure IsAt (w : World) (b off : Nat) (t : II) : Prop where
  c0 : w.cell? ⟨b, off, none⟩ = some (.int .i64 t.x.op)
  c1 : w.cell? ⟨b, off + 1, none⟩ = some (.int .i64 t.x.reg)
  c2 : w.cell? ⟨b, off + 2, none⟩ = some (.int .i64 t.x.loc)
  c3 : w.cell? ⟨b, off + 3, none⟩ = some t.ev
  c4 : w.cell? ⟨b, off + 4, none⟩ = some t.fv
  c5 : w.cell? ⟨b, off + 5, none⟩ = some (.bool t.x.ne)
  c6 : w.cell? ⟨b, off + 6, none⟩ = some (.int .i64 t.x.to)
  e : OpsD w t.ev t.x.e
  f : OpsD w t.fv t.x.f
abbrev InsD := SlD 7 IsAt
structure RwAt (w : World) (b off : Nat) (x : List II × Value) : Prop where
  c : w.cell? ⟨b, off, none⟩ = some x.2
  r : InsD w x.2 x.1
abbrev CodD := SlD 1 RwAt
structure BfAt (w : World) (b off : Nat) (x : List Ent × Value) : Prop where
  c : w.cell? ⟨b, off, none⟩ = some x.2
  r : EntsD w x.2 x.1
abbrev BufsD := SlD 1 BfAt

section
variable {w w' : World} {v : Value}
theorem IsAt.below {b off : Nat} {t : II} (h : IsAt w b off t) (hb : Below w.heap.size w w') (hl : b < w.heap.size) : IsAt w' b off t :=
  ⟨(hb.cell (p := ⟨_, _, none⟩) hl).trans h.c0, (hb.cell (p := ⟨_, _, none⟩) hl).trans h.c1, (hb.cell (p := ⟨_, _, none⟩) hl).trans h.c2, (hb.cell (p := ⟨_, _, none⟩) hl).trans h.c3, (hb.cell (p := ⟨_, _, none⟩) hl).trans h.c4, (hb.cell (p := ⟨_, _, none⟩) hl).trans h.c5, (hb.cell (p := ⟨_, _, none⟩) hl).trans h.c6, OpsD.below h.e hb, OpsD.below h.f hb⟩
theorem InsD.below {xs : List II} (h : InsD w v xs) (hb : Below w.heap.size w w') : InsD w' v xs := h.mono hb.size fun _ _ _ hl h => h.below hb hl
theorem CodD.below {xs : List (List II × Value)} (h : CodD w v xs) (hb : Below w.heap.size w w') : CodD w' v xs := h.mono hb.size fun _ _ _ hl h => ⟨(hb.cell (p := ⟨_, _, none⟩) hl).trans h.c, InsD.below h.r hb⟩
theorem BufsD.below {xs : List (List Ent × Value)} (h : BufsD w v xs) (hb : Below w.heap.size w w') : BufsD w' v xs := h.mono hb.size fun _ _ _ hl h => ⟨(hb.cell (p := ⟨_, _, none⟩) hl).trans h.c, EntsD.below h.r hb⟩
end

/-- An element of a slice that is read. -/
theorem SlD.at {α : Type} {S : Nat} {R : World → Nat → Nat → α → Prop} {w : World} {ad : Option Addr} {n cap : Nat} {xs : List α} (h : SlD S R w (.slice ad n cap) xs) (k : Nat) (hk : k < xs.length) : ∃ b off, ad = some ⟨b, off, none⟩ ∧ b < w.heap.size ∧ R w b (off + k * S) xs[k] := by
  obtain ⟨ad', cap', hv, _, _, hc⟩ := h
  injection hv with e1 _ _
  obtain ⟨b, off, he, hl, h3⟩ := hc _ hk
  exact ⟨b, off, e1.trans he, hl, h3⟩
theorem SlD.len {α : Type} {S : Nat} {R : World → Nat → Nat → α → Prop} {w : World} {ad : Option Addr} {n cap : Nat} {xs : List α} (h : SlD S R w (.slice ad n cap) xs) : n = xs.length := by
  obtain ⟨ad', cap', hv, _⟩ := h
  injection hv

/-- A unit; a configuration. -/
structure Un where
  mod : Int
  init : List Int
  regs : List Int
  code : List (List II × Value)
structure UnD (w : World) (vi vr vc : Value) (u : Un) : Prop where
  i : IntsD w vi u.init
  r : IntsD w vr u.regs
  c : CodD w vc u.code
structure Cf where
  pc : List Int
  regs : List (List Int × Value)
  mem : List Int
  buf : List (List Ent × Value)
structure CfD (w : World) (vp vr vm vb : Value) (c : Cf) : Prop where
  p : IntsD w vp c.pc
  r : AllD w vr c.regs
  m : IntsD w vm c.mem
  b : BufsD w vb c.buf
theorem UnD.below {w w' : World} {vi vr vc : Value} {u : Un} (h : UnD w vi vr vc u) (hb : Below w.heap.size w w') : UnD w' vi vr vc u := ⟨IntsD.below h.i hb, IntsD.below h.r hb, CodD.below h.c hb⟩
theorem CfD.below {w w' : World} {vp vr vm vb : Value} {c : Cf} (h : CfD w vp vr vm vb c) (hb : Below w.heap.size w w') : CfD w' vp vr vm vb c := ⟨IntsD.below h.p hb, AllD.below h.r hb, IntsD.below h.m hb, BufsD.below h.b hb⟩

/-- Few instructions, short code. -/
def lightI (x : Ins) : Bool := decide (x.e.length ≤ 300) && decide (x.f.length ≤ 300)
def lightR (l : List II) : Bool := decide (l.length ≤ 200) && l.all fun t => lightI t.x
def lightU (u : Un) : Bool := decide (u.init.length ≤ 20) && (decide (u.regs.length ≤ 20) && (decide (u.code.length ≤ 8) && u.code.all fun r => lightR r.1))

/-- What an instruction of a kind has. -/
def hasR (op : Int) : Bool := decide (op = 2 ∨ op = 3 ∨ op = 5 ∨ op = 6 ∨ op = 7)
def hasL (op : Int) : Bool := decide (op = 3 ∨ op = 4 ∨ op = 5 ∨ op = 6 ∨ op = 7 ∨ op = 9)
def hasE (op : Int) : Bool := decide (op = 2 ∨ op = 4 ∨ op = 5 ∨ op = 6 ∨ op = 7 ∨ op = 9 ∨ op = 21)
def hasF (op : Int) : Bool := decide (op = 5)
def hasN (op : Int) : Bool := decide (op = 9)
def hasT (op : Int) : Bool := decide (op = 20 ∨ op = 21)
def isK (op : Int) : Bool := decide ((2 ≤ op ∧ op ≤ 9) ∨ (20 ≤ op ∧ op ≤ 22))
def idxB (i : Int) (h : Bool) (n : Int) : Bool := if h then inB i n else decide (i = 0)
def codB (l : List Opn) (h : Bool) (own : Int) : Bool := if h then rightO l [] own 0 else decide (l.length = 0)
def insB (x : Ins) (own locs n : Int) : Bool :=
  isK x.op && (idxB x.reg (hasR x.op) own && (idxB x.loc (hasL x.op) locs && (idxB x.to (hasT x.op) n && (codB x.e (hasE x.op) own && (codB x.f (hasF x.op) own && (hasN x.op || !x.ne))))))
/-- Are these the instructions of a thread: Done stands last, and nowhere else? -/
def seqF (own locs n : Int) : List II → Nat → Bool
  | [], _ => true
  | t :: r, k => (decide (t.x.op = 22) == decide ((k : Int) = n - 1) && insB t.x own locs n) && seqF own locs n r (k + 1)
def seqB (l : List II) (own locs : Int) : Bool := decide (1 ≤ l.length ∧ l.length ≤ 1000) && seqF own locs l.length l 0
def thrF (locs : Int) : List Int → List (List II × Value) → Bool
  | o :: r, c :: s => (inB o 7 && seqB c.1 o locs) && thrF locs r s
  | _, _ => true
def rightU (u : Un) : Bool :=
  decide (2 ≤ u.mod ∧ u.mod ≤ 16 ∧ u.init.length ≤ 6 ∧ 1 ≤ u.regs.length ∧ u.regs.length ≤ 4 ∧ u.code.length = u.regs.length) && (u.init.all (fun n => inB n u.mod) && thrF u.init.length u.regs u.code)

end Go.Proofs.Ytmkgijedchpgcaa
