/- Layer 14: the reference's Graphs. -/
import Derived.Test.YtkdpimifojjhaaaNb
namespace Go.Proofs.Ytkdpimifojjhaaa
set_option linter.unusedSimpArgs false
set_option linter.unusedVariables false
open Go.RowKit

theorem two_bks (w : World) (T : Nat) (c1 c2 : Array Value) : Below w.heap.size w ((w.alloc (.cells c1 T)).alloc (.cells c2 T)) ∧ Bk ((w.alloc (.cells c1 T)).alloc (.cells c2 T)) w.heap.size T c1 ∧ Bk ((w.alloc (.cells c1 T)).alloc (.cells c2 T)) (w.heap.size + 1) T c2 :=
  ⟨bal (bal (Below.refl _ _) _) _, bk_alloc (Bk.new _ _ _) _, bk_at2 _ _ _ _⟩
end Go.Proofs.Ytkdpimifojjhaaa
