/- Layer 9: the reference's Final. -/
import Derived.Test.YtmkgijedchpgcaaUq
namespace Go.Proofs.Ytmkgijedchpgcaa
set_option linter.unusedSimpArgs false
set_option linter.unusedVariables false
open Go.RowKit

def finF (u : Un) (c : Cf) : Nat → Nat → Bool
  | 0, _ => true
  | f + 1, k => endedC u c k && finF u c f (k + 1)
def finalC (u : Un) (c : Cf) : Bool := finF u c u.code.length 0 && quietC c
theorem finF_at (u : Un) (c : Cf) (n k : Nat) (h : k < n) : finF u c (n - k) k = (endedC u c k && finF u c (n - (k + 1)) (k + 1)) := by
  obtain ⟨f, hf⟩ : ∃ f, n - k = f + 1 := ⟨n - k - 1, by omega⟩
  rw [hf, show n - (k + 1) = f by omega]; rfl

end Go.Proofs.Ytmkgijedchpgcaa
