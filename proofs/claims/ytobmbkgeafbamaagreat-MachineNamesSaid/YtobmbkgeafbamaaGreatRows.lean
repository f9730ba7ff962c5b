/-
  No cell of these rows narrows 'for every input' (looked for: loops, veiled, ifaces, maps, wideKeys, modest, calm, conditions, laid).
  DERIVED. THE GIVEN ROWS OF THIS SEAT. 6 by the template 'for every input the law returns true; each argument reads behind the call as it read before'; 0 by the template 'total and deterministic' (their statements: YtobmbkgeafbamaaGreatTotals.lean).
  GIVEN WITH THE SEED: the statements are not yours to turn. If you find one false, say at which input.
  Laid BY PROGRAM, IN A SANDBOX (cutbox-rows.mjs): the forced cells as the released guide's own fill.sh prints them over the translation df2b33f4d3938ca9… (all of the seat's roots in one cut). By AI agents, Wed Nov 11 2026. No macro, syntax, notation, axiom, sorry.
-/
import Derived.Test.YtobmbkgeafbamaaGreatChecked
import GoSem.Claim
import GoSem.ClaimJoined
import GoSem.ClaimMapViews
import Derived.JoinedTies
import Derived.KernelRfl
namespace Go.Proofs.YtobmbkgeafbamaaGreat
/- THE CELL 'sum', in the pinned program and in every row, IS THE sha256 OF THE DUMP (.gsa) THAT YtobmbkgeafbamaaGreatProg.lean LOADS. Nothing in Lean hashes anything: it is a label: what it is worth is what the hold of that sum in a sandbox is worth. -/
noncomputable def Tryz.pinned : Pinned := { name := "ytobmbkgeafbamaagreat", sum := "df2b33f4d3938ca984286c365e65001049ea860f762ef96ef0d9437590ea2c32", checked := Tryz.checked }
namespace Rows
def none {H : Type} : Left H := { results := [], args := [] }

/-- 'spinnakerlaw10.StepActs': WHATEVER THE INPUT: true; the input reads as it did. -/
def stepActsSpec : ChangeSpec := { name := "stepActs", fn := fun _ => fun
  | [d] => { results := [.lit (.bool true)], args := [d] }
  | _ => none }
def stepActsRow : OpenClaim := { program := "ytobmbkgeafbamaagreat", sum := "df2b33f4d3938ca984286c365e65001049ea860f762ef96ef0d9437590ea2c32", func := "spinnaker/spinnakerlaw10.StepActs", spec := "stepActs", unfollowed := true, recurses := true, apart := false }
def StepActsSaid : Prop := stepActsRow.holds Tryz.pinned (OpenSpec.ofChange stepActsSpec)

/-- ITS FALSE NEIGHBOUR: 'it returns false'. Refute it at one input. -/
def stepActsWrong : ChangeSpec := { name := "stepActs", fn := fun _ => fun
  | [d] => { results := [.lit (.bool false)], args := [d] }
  | _ => none }
def StepActsWrongFalsely : Prop := stepActsRow.holds Tryz.pinned (OpenSpec.ofChange stepActsWrong)

/-- 'spinnakerlaw10.StepFlushes': WHATEVER THE INPUT: true; the input reads as it did. -/
def stepFlushesSpec : ChangeSpec := { name := "stepFlushes", fn := fun _ => fun
  | [d] => { results := [.lit (.bool true)], args := [d] }
  | _ => none }
def stepFlushesRow : OpenClaim := { program := "ytobmbkgeafbamaagreat", sum := "df2b33f4d3938ca984286c365e65001049ea860f762ef96ef0d9437590ea2c32", func := "spinnaker/spinnakerlaw10.StepFlushes", spec := "stepFlushes", unfollowed := true, recurses := true, apart := false }
def StepFlushesSaid : Prop := stepFlushesRow.holds Tryz.pinned (OpenSpec.ofChange stepFlushesSpec)

/-- ITS FALSE NEIGHBOUR: 'it returns false'. Refute it at one input. -/
def stepFlushesWrong : ChangeSpec := { name := "stepFlushes", fn := fun _ => fun
  | [d] => { results := [.lit (.bool false)], args := [d] }
  | _ => none }
def StepFlushesWrongFalsely : Prop := stepFlushesRow.holds Tryz.pinned (OpenSpec.ofChange stepFlushesWrong)

/-- 'spinnakerlaw11.MachineNames': WHATEVER THE INPUT: true; the input reads as it did. -/
def machineNamesSpec : ChangeSpec := { name := "machineNames", fn := fun _ => fun
  | [d1, d2, d3] => { results := [.lit (.bool true)], args := [d1, d2, d3] }
  | _ => none }
def machineNamesRow : OpenClaim := { program := "ytobmbkgeafbamaagreat", sum := "df2b33f4d3938ca984286c365e65001049ea860f762ef96ef0d9437590ea2c32", func := "spinnaker/spinnakerlaw11.MachineNames", spec := "machineNames", unfollowed := true, recurses := true, apart := false }
def MachineNamesSaid : Prop := machineNamesRow.holds Tryz.pinned (OpenSpec.ofChange machineNamesSpec)

/-- ITS FALSE NEIGHBOUR: 'it returns false'. Refute it at one input. -/
def machineNamesWrong : ChangeSpec := { name := "machineNames", fn := fun _ => fun
  | [d1, d2, d3] => { results := [.lit (.bool false)], args := [d1, d2, d3] }
  | _ => none }
def MachineNamesWrongFalsely : Prop := machineNamesRow.holds Tryz.pinned (OpenSpec.ofChange machineNamesWrong)

/-- 'spinnakerlaw11.MachineActs': WHATEVER THE INPUT: true; the input reads as it did. -/
def machineActsSpec : ChangeSpec := { name := "machineActs", fn := fun _ => fun
  | [d] => { results := [.lit (.bool true)], args := [d] }
  | _ => none }
def machineActsRow : OpenClaim := { program := "ytobmbkgeafbamaagreat", sum := "df2b33f4d3938ca984286c365e65001049ea860f762ef96ef0d9437590ea2c32", func := "spinnaker/spinnakerlaw11.MachineActs", spec := "machineActs", unfollowed := true, recurses := true, apart := false }
def MachineActsSaid : Prop := machineActsRow.holds Tryz.pinned (OpenSpec.ofChange machineActsSpec)

/-- ITS FALSE NEIGHBOUR: 'it returns false'. Refute it at one input. -/
def machineActsWrong : ChangeSpec := { name := "machineActs", fn := fun _ => fun
  | [d] => { results := [.lit (.bool false)], args := [d] }
  | _ => none }
def MachineActsWrongFalsely : Prop := machineActsRow.holds Tryz.pinned (OpenSpec.ofChange machineActsWrong)

/-- 'spinnakerlaw11.MachineDead': WHATEVER THE INPUT: true; the input reads as it did. -/
def machineDeadSpec : ChangeSpec := { name := "machineDead", fn := fun _ => fun
  | [d] => { results := [.lit (.bool true)], args := [d] }
  | _ => none }
def machineDeadRow : OpenClaim := { program := "ytobmbkgeafbamaagreat", sum := "df2b33f4d3938ca984286c365e65001049ea860f762ef96ef0d9437590ea2c32", func := "spinnaker/spinnakerlaw11.MachineDead", spec := "machineDead", unfollowed := true, recurses := true, apart := false }
def MachineDeadSaid : Prop := machineDeadRow.holds Tryz.pinned (OpenSpec.ofChange machineDeadSpec)

/-- ITS FALSE NEIGHBOUR: 'it returns false'. Refute it at one input. -/
def machineDeadWrong : ChangeSpec := { name := "machineDead", fn := fun _ => fun
  | [d] => { results := [.lit (.bool false)], args := [d] }
  | _ => none }
def MachineDeadWrongFalsely : Prop := machineDeadRow.holds Tryz.pinned (OpenSpec.ofChange machineDeadWrong)

/-- 'spinnakerlaw11.MachineRuns': WHATEVER THE INPUT: true; the input reads as it did. -/
def machineRunsSpec : ChangeSpec := { name := "machineRuns", fn := fun _ => fun
  | [d1, d2, d3] => { results := [.lit (.bool true)], args := [d1, d2, d3] }
  | _ => none }
def machineRunsRow : OpenClaim := { program := "ytobmbkgeafbamaagreat", sum := "df2b33f4d3938ca984286c365e65001049ea860f762ef96ef0d9437590ea2c32", func := "spinnaker/spinnakerlaw11.MachineRuns", spec := "machineRuns", unfollowed := true, recurses := true, apart := false }
def MachineRunsSaid : Prop := machineRunsRow.holds Tryz.pinned (OpenSpec.ofChange machineRunsSpec)

/-- ITS FALSE NEIGHBOUR: 'it returns false'. Refute it at one input. -/
def machineRunsWrong : ChangeSpec := { name := "machineRuns", fn := fun _ => fun
  | [d1, d2, d3] => { results := [.lit (.bool false)], args := [d1, d2, d3] }
  | _ => none }
def MachineRunsWrongFalsely : Prop := machineRunsRow.holds Tryz.pinned (OpenSpec.ofChange machineRunsWrong)

/- THE SECOND FORM. 'bulk': how many values and letters a reading holds, each counted each time it is reached (what is shared counts as often as it is met; a slice's spare places count too). A statement '..UptoSaid' is the law's where the arguments, and the package variables that the reading takes, are together of bulk at most 1048576: NARROWER than '..Said'. Prove '..Said' where nothing that the law and all that it calls make is longer than what came in: it says more and counts as full. Else prove '..UptoSaid'. A law counts once. -/
mutual
def uptoBulk {H : Type} : DataW H → Nat
  | .lit (.string bytes) => bytes.length + 1
  | .lit _ => 1
  | .nil => 1
  | .ptr d => uptoBulk d + 1
  | .slice elems spare => uptoBulkAll elems + uptoBulkAll spare + 1
  | .agg parts => uptoBulkAll parts + 1
  | .iface _ d => uptoBulk d + 1
  | .map entries => uptoBulkEntries entries + 1
  | .held _ => 1
def uptoBulkAll {H : Type} : List (DataW H) → Nat
  | [] => 0
  | d :: r => uptoBulk d + uptoBulkAll r
def uptoBulkEntries {H : Type} : List (Lit × DataW H) → Nat
  | [] => 0
  | x :: r => uptoBulkEntry x + uptoBulkEntries r
def uptoBulkEntry {H : Type} : Lit × DataW H → Nat
  | (.string bytes, d) => bytes.length + uptoBulk d + 1
  | (_, d) => uptoBulk d + 1
 end
def uptoSmall : (H : Type) → List (DataW H) → Bool := fun _ ds => decide (uptoBulkAll ds ≤ 1048576)
def OpenSpec.upto (s : _root_.Go.ChangeSpec) : _root_.Go.OpenSpec := { _root_.Go.OpenSpec.ofChange s with cond := some uptoSmall }

/-- 'spinnakerlaw10.StepActs', WHERE WHAT IT READS IS OF BULK AT MOST 1048576: true; the input reads as it did. -/
def stepActsUptoRow : OpenClaim := { program := "ytobmbkgeafbamaagreat", sum := "df2b33f4d3938ca984286c365e65001049ea860f762ef96ef0d9437590ea2c32", func := "spinnaker/spinnakerlaw10.StepActs", spec := "stepActs", unfollowed := true, recurses := true, apart := false, narrowed := true }
def StepActsUptoSaid : Prop := stepActsUptoRow.holds Tryz.pinned (OpenSpec.upto stepActsSpec)

/-- 'spinnakerlaw10.StepFlushes', WHERE WHAT IT READS IS OF BULK AT MOST 1048576: true; the input reads as it did. -/
def stepFlushesUptoRow : OpenClaim := { program := "ytobmbkgeafbamaagreat", sum := "df2b33f4d3938ca984286c365e65001049ea860f762ef96ef0d9437590ea2c32", func := "spinnaker/spinnakerlaw10.StepFlushes", spec := "stepFlushes", unfollowed := true, recurses := true, apart := false, narrowed := true }
def StepFlushesUptoSaid : Prop := stepFlushesUptoRow.holds Tryz.pinned (OpenSpec.upto stepFlushesSpec)

/-- 'spinnakerlaw11.MachineNames', WHERE WHAT IT READS IS OF BULK AT MOST 1048576: true; the input reads as it did. -/
def machineNamesUptoRow : OpenClaim := { program := "ytobmbkgeafbamaagreat", sum := "df2b33f4d3938ca984286c365e65001049ea860f762ef96ef0d9437590ea2c32", func := "spinnaker/spinnakerlaw11.MachineNames", spec := "machineNames", unfollowed := true, recurses := true, apart := false, narrowed := true }
def MachineNamesUptoSaid : Prop := machineNamesUptoRow.holds Tryz.pinned (OpenSpec.upto machineNamesSpec)

/-- 'spinnakerlaw11.MachineActs', WHERE WHAT IT READS IS OF BULK AT MOST 1048576: true; the input reads as it did. -/
def machineActsUptoRow : OpenClaim := { program := "ytobmbkgeafbamaagreat", sum := "df2b33f4d3938ca984286c365e65001049ea860f762ef96ef0d9437590ea2c32", func := "spinnaker/spinnakerlaw11.MachineActs", spec := "machineActs", unfollowed := true, recurses := true, apart := false, narrowed := true }
def MachineActsUptoSaid : Prop := machineActsUptoRow.holds Tryz.pinned (OpenSpec.upto machineActsSpec)

/-- 'spinnakerlaw11.MachineDead', WHERE WHAT IT READS IS OF BULK AT MOST 1048576: true; the input reads as it did. -/
def machineDeadUptoRow : OpenClaim := { program := "ytobmbkgeafbamaagreat", sum := "df2b33f4d3938ca984286c365e65001049ea860f762ef96ef0d9437590ea2c32", func := "spinnaker/spinnakerlaw11.MachineDead", spec := "machineDead", unfollowed := true, recurses := true, apart := false, narrowed := true }
def MachineDeadUptoSaid : Prop := machineDeadUptoRow.holds Tryz.pinned (OpenSpec.upto machineDeadSpec)

/-- 'spinnakerlaw11.MachineRuns', WHERE WHAT IT READS IS OF BULK AT MOST 1048576: true; the input reads as it did. -/
def machineRunsUptoRow : OpenClaim := { program := "ytobmbkgeafbamaagreat", sum := "df2b33f4d3938ca984286c365e65001049ea860f762ef96ef0d9437590ea2c32", func := "spinnaker/spinnakerlaw11.MachineRuns", spec := "machineRuns", unfollowed := true, recurses := true, apart := false, narrowed := true }
def MachineRunsUptoSaid : Prop := machineRunsUptoRow.holds Tryz.pinned (OpenSpec.upto machineRunsSpec)

end Rows
end Go.Proofs.YtobmbkgeafbamaaGreat
