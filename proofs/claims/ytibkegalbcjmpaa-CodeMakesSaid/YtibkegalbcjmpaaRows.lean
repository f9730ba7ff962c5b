/-
  No cell of these rows narrows 'for every input' (looked for: loops, veiled, ifaces, maps, wideKeys, modest, calm, conditions, laid).
  DERIVED. THE GIVEN ROWS OF THIS SEAT. 5 by the template 'for every input the law returns true; each argument reads behind the call as it read before'; 0 by the template 'total and deterministic' (their statements: YtibkegalbcjmpaaTotals.lean).
  GIVEN WITH THE SEED: the statements are not yours to turn. If you find one false, say at which input.
  Laid BY PROGRAM, IN A SANDBOX (cutbox-rows.mjs): the forced cells as the released guide's own fill.sh prints them over the translation 2af0315c4d7ff721… (all of the seat's roots in one cut). By AI agents, Wed Nov 11 2026. No macro, syntax, notation, axiom, sorry.
-/
import Derived.Test.YtibkegalbcjmpaaChecked
import GoSem.Claim
import GoSem.ClaimJoined
import GoSem.ClaimMapViews
import Derived.JoinedTies
import Derived.KernelRfl
namespace Go.Proofs.Ytibkegalbcjmpaa
/- THE CELL 'sum', in the pinned program and in every row, IS THE sha256 OF THE DUMP (.gsa) THAT YtibkegalbcjmpaaProg.lean LOADS. Nothing in Lean hashes anything: it is a label: what it is worth is what the hold of that sum in a sandbox is worth. -/
noncomputable def Try.pinned : Pinned := { name := "ytibkegalbcjmpaa", sum := "2af0315c4d7ff7215f613aefbb87f75d0c3952ca888629d33e3ebc98df406f77", checked := Try.checked }
namespace Rows
def none {H : Type} : Left H := { results := [], args := [] }

/-- 'spinnakerlaw06.CodeMakes': WHATEVER THE INPUT: true; the input reads as it did. -/
def codeMakesSpec : ChangeSpec := { name := "codeMakes", fn := fun _ => fun
  | [d1, d2, d3] => { results := [.lit (.bool true)], args := [d1, d2, d3] }
  | _ => none }
def codeMakesRow : OpenClaim := { program := "ytibkegalbcjmpaa", sum := "2af0315c4d7ff7215f613aefbb87f75d0c3952ca888629d33e3ebc98df406f77", func := "spinnaker/spinnakerlaw06.CodeMakes", spec := "codeMakes", unfollowed := true, recurses := true, apart := false }
def CodeMakesSaid : Prop := codeMakesRow.holds Try.pinned (OpenSpec.ofChange codeMakesSpec)

/-- ITS FALSE NEIGHBOUR: 'it returns false'. Refute it at one input. -/
def codeMakesWrong : ChangeSpec := { name := "codeMakes", fn := fun _ => fun
  | [d1, d2, d3] => { results := [.lit (.bool false)], args := [d1, d2, d3] }
  | _ => none }
def CodeMakesWrongFalsely : Prop := codeMakesRow.holds Try.pinned (OpenSpec.ofChange codeMakesWrong)

/-- 'spinnakerlaw06.CodeValues': WHATEVER THE INPUT: true; the input reads as it did. -/
def codeValuesSpec : ChangeSpec := { name := "codeValues", fn := fun _ => fun
  | [d1, d2] => { results := [.lit (.bool true)], args := [d1, d2] }
  | _ => none }
def codeValuesRow : OpenClaim := { program := "ytibkegalbcjmpaa", sum := "2af0315c4d7ff7215f613aefbb87f75d0c3952ca888629d33e3ebc98df406f77", func := "spinnaker/spinnakerlaw06.CodeValues", spec := "codeValues", unfollowed := true, recurses := true, apart := false }
def CodeValuesSaid : Prop := codeValuesRow.holds Try.pinned (OpenSpec.ofChange codeValuesSpec)

/-- ITS FALSE NEIGHBOUR: 'it returns false'. Refute it at one input. -/
def codeValuesWrong : ChangeSpec := { name := "codeValues", fn := fun _ => fun
  | [d1, d2] => { results := [.lit (.bool false)], args := [d1, d2] }
  | _ => none }
def CodeValuesWrongFalsely : Prop := codeValuesRow.holds Try.pinned (OpenSpec.ofChange codeValuesWrong)

/-- 'spinnakerlaw06.CodeBounds': WHATEVER THE INPUT: true; the input reads as it did. -/
def codeBoundsSpec : ChangeSpec := { name := "codeBounds", fn := fun _ => fun
  | [d1, d2, d3] => { results := [.lit (.bool true)], args := [d1, d2, d3] }
  | _ => none }
def codeBoundsRow : OpenClaim := { program := "ytibkegalbcjmpaa", sum := "2af0315c4d7ff7215f613aefbb87f75d0c3952ca888629d33e3ebc98df406f77", func := "spinnaker/spinnakerlaw06.CodeBounds", spec := "codeBounds", unfollowed := true, recurses := true, apart := false }
def CodeBoundsSaid : Prop := codeBoundsRow.holds Try.pinned (OpenSpec.ofChange codeBoundsSpec)

/-- ITS FALSE NEIGHBOUR: 'it returns false'. Refute it at one input. -/
def codeBoundsWrong : ChangeSpec := { name := "codeBounds", fn := fun _ => fun
  | [d1, d2, d3] => { results := [.lit (.bool false)], args := [d1, d2, d3] }
  | _ => none }
def CodeBoundsWrongFalsely : Prop := codeBoundsRow.holds Try.pinned (OpenSpec.ofChange codeBoundsWrong)

/-- 'spinnakerlaw06.CodeSwaps': WHATEVER THE INPUT: true; the input reads as it did. -/
def codeSwapsSpec : ChangeSpec := { name := "codeSwaps", fn := fun _ => fun
  | [d1, d2, d3] => { results := [.lit (.bool true)], args := [d1, d2, d3] }
  | _ => none }
def codeSwapsRow : OpenClaim := { program := "ytibkegalbcjmpaa", sum := "2af0315c4d7ff7215f613aefbb87f75d0c3952ca888629d33e3ebc98df406f77", func := "spinnaker/spinnakerlaw06.CodeSwaps", spec := "codeSwaps", unfollowed := true, recurses := true, apart := false }
def CodeSwapsSaid : Prop := codeSwapsRow.holds Try.pinned (OpenSpec.ofChange codeSwapsSpec)

/-- ITS FALSE NEIGHBOUR: 'it returns false'. Refute it at one input. -/
def codeSwapsWrong : ChangeSpec := { name := "codeSwaps", fn := fun _ => fun
  | [d1, d2, d3] => { results := [.lit (.bool false)], args := [d1, d2, d3] }
  | _ => none }
def CodeSwapsWrongFalsely : Prop := codeSwapsRow.holds Try.pinned (OpenSpec.ofChange codeSwapsWrong)

/-- 'spinnakerlaw06.CodeRows': WHATEVER THE INPUT: true; the input reads as it did. -/
def codeRowsSpec : ChangeSpec := { name := "codeRows", fn := fun _ => fun
  | [d1, d2, d3] => { results := [.lit (.bool true)], args := [d1, d2, d3] }
  | _ => none }
def codeRowsRow : OpenClaim := { program := "ytibkegalbcjmpaa", sum := "2af0315c4d7ff7215f613aefbb87f75d0c3952ca888629d33e3ebc98df406f77", func := "spinnaker/spinnakerlaw06.CodeRows", spec := "codeRows", unfollowed := true, recurses := true, apart := false }
def CodeRowsSaid : Prop := codeRowsRow.holds Try.pinned (OpenSpec.ofChange codeRowsSpec)

/-- ITS FALSE NEIGHBOUR: 'it returns false'. Refute it at one input. -/
def codeRowsWrong : ChangeSpec := { name := "codeRows", fn := fun _ => fun
  | [d1, d2, d3] => { results := [.lit (.bool false)], args := [d1, d2, d3] }
  | _ => none }
def CodeRowsWrongFalsely : Prop := codeRowsRow.holds Try.pinned (OpenSpec.ofChange codeRowsWrong)

/- THE SECOND FORM. 'bulk': how many values and letters a reading holds, each counted each time it is reached (what is shared counts as often as it is met; a slice's spare places count too). A statement '..UptoSaid' is the law's where the arguments, and the package variables that the reading takes, are together of bulk at most 1048576: NARROWER than '..Said'. Prove '..Said' where nothing that the law and all that it calls make is longer than what came in: it says more and counts as full. Else prove '..UptoSaid'. A law counts once. -/
mutual
def uptoBulk {H : Type} : DataW H → Nat
  | .lit (.string bytes) => bytes.length + 1
  | .lit _ => 1
  | .nil => 1
  | .ptr d => uptoBulk d + 1
  | .slice elems spare => uptoBulkAll elems + uptoBulkAll spare + 1
  | .agg parts => uptoBulkAll parts + 1
  | .iface _ d => uptoBulk d + 1
  | .map entries => uptoBulkEntries entries + 1
  | .held _ => 1
def uptoBulkAll {H : Type} : List (DataW H) → Nat
  | [] => 0
  | d :: r => uptoBulk d + uptoBulkAll r
def uptoBulkEntries {H : Type} : List (Lit × DataW H) → Nat
  | [] => 0
  | x :: r => uptoBulkEntry x + uptoBulkEntries r
def uptoBulkEntry {H : Type} : Lit × DataW H → Nat
  | (.string bytes, d) => bytes.length + uptoBulk d + 1
  | (_, d) => uptoBulk d + 1
 end
def uptoSmall : (H : Type) → List (DataW H) → Bool := fun _ ds => decide (uptoBulkAll ds ≤ 1048576)
def OpenSpec.upto (s : _root_.Go.ChangeSpec) : _root_.Go.OpenSpec := { _root_.Go.OpenSpec.ofChange s with cond := some uptoSmall }

/-- 'spinnakerlaw06.CodeMakes', WHERE WHAT IT READS IS OF BULK AT MOST 1048576: true; the input reads as it did. -/
def codeMakesUptoRow : OpenClaim := { program := "ytibkegalbcjmpaa", sum := "2af0315c4d7ff7215f613aefbb87f75d0c3952ca888629d33e3ebc98df406f77", func := "spinnaker/spinnakerlaw06.CodeMakes", spec := "codeMakes", unfollowed := true, recurses := true, apart := false, narrowed := true }
def CodeMakesUptoSaid : Prop := codeMakesUptoRow.holds Try.pinned (OpenSpec.upto codeMakesSpec)

/-- 'spinnakerlaw06.CodeValues', WHERE WHAT IT READS IS OF BULK AT MOST 1048576: true; the input reads as it did. -/
def codeValuesUptoRow : OpenClaim := { program := "ytibkegalbcjmpaa", sum := "2af0315c4d7ff7215f613aefbb87f75d0c3952ca888629d33e3ebc98df406f77", func := "spinnaker/spinnakerlaw06.CodeValues", spec := "codeValues", unfollowed := true, recurses := true, apart := false, narrowed := true }
def CodeValuesUptoSaid : Prop := codeValuesUptoRow.holds Try.pinned (OpenSpec.upto codeValuesSpec)

/-- 'spinnakerlaw06.CodeBounds', WHERE WHAT IT READS IS OF BULK AT MOST 1048576: true; the input reads as it did. -/
def codeBoundsUptoRow : OpenClaim := { program := "ytibkegalbcjmpaa", sum := "2af0315c4d7ff7215f613aefbb87f75d0c3952ca888629d33e3ebc98df406f77", func := "spinnaker/spinnakerlaw06.CodeBounds", spec := "codeBounds", unfollowed := true, recurses := true, apart := false, narrowed := true }
def CodeBoundsUptoSaid : Prop := codeBoundsUptoRow.holds Try.pinned (OpenSpec.upto codeBoundsSpec)

/-- 'spinnakerlaw06.CodeSwaps', WHERE WHAT IT READS IS OF BULK AT MOST 1048576: true; the input reads as it did. -/
def codeSwapsUptoRow : OpenClaim := { program := "ytibkegalbcjmpaa", sum := "2af0315c4d7ff7215f613aefbb87f75d0c3952ca888629d33e3ebc98df406f77", func := "spinnaker/spinnakerlaw06.CodeSwaps", spec := "codeSwaps", unfollowed := true, recurses := true, apart := false, narrowed := true }
def CodeSwapsUptoSaid : Prop := codeSwapsUptoRow.holds Try.pinned (OpenSpec.upto codeSwapsSpec)

/-- 'spinnakerlaw06.CodeRows', WHERE WHAT IT READS IS OF BULK AT MOST 1048576: true; the input reads as it did. -/
def codeRowsUptoRow : OpenClaim := { program := "ytibkegalbcjmpaa", sum := "2af0315c4d7ff7215f613aefbb87f75d0c3952ca888629d33e3ebc98df406f77", func := "spinnaker/spinnakerlaw06.CodeRows", spec := "codeRows", unfollowed := true, recurses := true, apart := false, narrowed := true }
def CodeRowsUptoSaid : Prop := codeRowsUptoRow.holds Try.pinned (OpenSpec.upto codeRowsSpec)

end Rows
end Go.Proofs.Ytibkegalbcjmpaa
