/- Layer 14: edges, graphs and rows of truths, as they are read; light, alike. -/
import Derived.Test.YtkdpimifojjhaaaJa
namespace Go.Proofs.Ytkdpimifojjhaaa
set_option linter.unusedSimpArgs false
set_option linter.unusedVariables false
open Go.RowKit

/-- An edge: from, agent, to. -/
abbrev Edg := Int × Int × Int
def cellsG (e : Edg) : List Value := [.int .i64 e.1, .int .i64 e.2.1, .int .i64 e.2.2]
def rowG (l : List Edg) : List Value := l.flatMap cellsG
def EdgAt (w : World) (b off : Nat) (e : Edg) : Prop := w.cell? ⟨b, off, none⟩ = some (.int .i64 e.1) ∧ w.cell? ⟨b, off + 1, none⟩ = some (.int .i64 e.2.1) ∧ w.cell? ⟨b, off + 2, none⟩ = some (.int .i64 e.2.2)
abbrev EdgsD := SlD 3 EdgAt
def TruAt (w : World) (b off : Nat) (x : Bool) : Prop := w.cell? ⟨b, off, none⟩ = some (.bool x)
abbrev TrusD := SlD 1 TruAt
theorem EdgsD.below {w w' : World} {v : Value} {xs : List Edg} (h : EdgsD w v xs) (hb : Below w.heap.size w w') : EdgsD w' v xs := h.mono hb.size fun _ _ _ hl h => ⟨(hb.cell (p := ⟨_, _, none⟩) hl).trans h.1, (hb.cell (p := ⟨_, _, none⟩) hl).trans h.2.1, (hb.cell (p := ⟨_, _, none⟩) hl).trans h.2.2⟩
theorem TrusD.below {w w' : World} {v : Value} {xs : List Bool} (h : TrusD w v xs) (hb : Below w.heap.size w w') : TrusD w' v xs := h.mono hb.size fun _ _ _ hl h => (hb.cell (p := ⟨_, _, none⟩) hl).trans h
/-- A graph. -/
structure Gr where
  st : List Int
  ag : List Int
  to : List Int
structure GrD (w : World) (vs va vt : Value) (g : Gr) : Prop where
  s : IntsD w vs g.st
  a : IntsD w va g.ag
  t : IntsD w vt g.to
theorem GrD.below {w w' : World} {vs va vt : Value} {g : Gr} (h : GrD w vs va vt g) (hb : Below w.heap.size w w') : GrD w' vs va vt g := ⟨h.s.below hb, h.a.below hb, h.t.below hb⟩
theorem SlD.at14 {α : Type} {S : Nat} {R : World → Nat → Nat → α → Prop} {w : World} {ad : Option Addr} {n cap : Nat} {xs : List α} (h : SlD S R w (.slice ad n cap) xs) (k : Nat) (hk : k < xs.length) : ∃ b off, ad = some ⟨b, off, none⟩ ∧ b < w.heap.size ∧ R w b (off + k * S) xs[k] := by
  obtain ⟨ad', cap', hv, h1, h2, hc⟩ := h
  injection hv with e1 e2 e3
  subst e1
  exact hc k hk
theorem TrusD.at2 {w : World} {ad : Option Addr} {n cap : Nat} {xs : List Bool} (h : TrusD w (.slice ad n cap) xs) (k : Nat) (hk : k < xs.length) : ∃ b off, ad = some ⟨b, off, none⟩ ∧ b < w.heap.size ∧ w.cell? ⟨b, off + k, none⟩ = some (.bool xs[k]) := by
  obtain ⟨b, off, ha, hl, hR⟩ := SlD.at14 h k hk
  exact ⟨b, off, ha, hl, by have := hR; unfold TruAt at this; rwa [Nat.mul_one] at this⟩
theorem EdgsD.at2 {w : World} {ad : Option Addr} {n cap : Nat} {xs : List Edg} (h : EdgsD w (.slice ad n cap) xs) (k : Nat) (hk : k < xs.length) : ∃ b off, ad = some ⟨b, off, none⟩ ∧ b < w.heap.size ∧ EdgAt w b (off + k * 3) xs[k] := SlD.at14 h k hk

def lightG (g : Gr) : Bool := decide (g.st.length ≤ 80) && (decide (g.to.length ≤ 400) && decide (g.ag.length ≤ 400))
/-- Two graphs are alike. -/
def sameG (g h : Gr) : Bool := decide (g.st = h.st) && (decide (g.to = h.to) && decide (g.ag = h.ag))
theorem drop_eq_iff {α : Type} [DecidableEq α] (l1 l2 : List α) (k : Nat) (h1 : k < l1.length) (h2 : k < l2.length) : decide (l1.drop k = l2.drop k) = (decide (l1[k] = l2[k]) && decide (l1.drop (k + 1) = l2.drop (k + 1))) := by
  rw [List.drop_eq_getElem_cons h1, List.drop_eq_getElem_cons h2, Bool.eq_iff_iff]
  simp only [decide_eq_true_eq, Bool.and_eq_true, List.cons.injEq]

end Go.Proofs.Ytkdpimifojjhaaa
