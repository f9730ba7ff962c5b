/- Layer 9: the reference's Ended, Final. -/
import Derived.Test.YtmkgijedchpgcaaUp
namespace Go.Proofs.Ytmkgijedchpgcaa
set_option linter.unusedSimpArgs false
set_option linter.unusedVariables false
open Go.RowKit

def endedC (u : Un) (c : Cf) (t : Int) : Bool :=
  if 0 ≤ t ∧ t < u.code.length ∧ t < c.pc.length then
    (if 0 ≤ c.pc.getD t.toNat 0 ∧ c.pc.getD t.toNat 0 < ((u.code.getD t.toNat ([], undef)).1.length : Int) then decide ((((u.code.getD t.toNat ([], undef)).1[(c.pc.getD t.toNat 0).toNat]?).map fun i => i.x.op) = some 22) else false)
  else false

end Go.Proofs.Ytmkgijedchpgcaa
