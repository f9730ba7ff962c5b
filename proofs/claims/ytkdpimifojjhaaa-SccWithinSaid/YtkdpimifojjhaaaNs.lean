/- Layer 14, the code: Build. -/
import Derived.Test.YtkdpimifojjhaaaNm
namespace Go.Proofs.Ytkdpimifojjhaaa
set_option linter.unusedSimpArgs false
set_option linter.unusedVariables false
open Go.RowKit

/-- Is there a graph of these edges? Which one, which error? -/
def okB (n : Int) (l : List Edg) : Bool := decide (0 ≤ n) && l.all (okE n)
def buildG (n : Int) (l : List Edg) : Gr := if okB n l = true then bld n.toNat l else noG
def buildE (n : Int) (l : List Edg) : Int := if okB n l = true then 0 else 1
theorem all_at {l : List Edg} {p : Edg → Bool} {k : Nat} (h : k < l.length) : (l.drop k).all p = (p l[k] && (l.drop (k + 1)).all p) := by
  rw [List.drop_eq_getElem_cons h, List.all_cons]

theorem okE_parts (N : Int) (e : Edg) : okE N e = (decide (0 ≤ e.1 ∧ e.1 < N) && (decide (0 ≤ e.2.2 ∧ e.2.2 < N) && decide (0 ≤ e.2.1))) := by
  rw [Bool.eq_iff_iff]
  unfold okE
  simp only [Bool.and_eq_true, decide_eq_true_eq]
end Go.Proofs.Ytkdpimifojjhaaa
