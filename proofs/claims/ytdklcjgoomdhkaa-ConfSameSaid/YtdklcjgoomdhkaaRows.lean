/-
  No cell of these rows narrows 'for every input' (looked for: loops, veiled, ifaces, maps, wideKeys, modest, calm, conditions, laid).
  DERIVED. THE GIVEN ROWS OF THIS SEAT. 4 by the template 'for every input the law returns true; each argument reads behind the call as it read before'; 0 by the template 'total and deterministic' (their statements: YtdklcjgoomdhkaaTotals.lean).
  GIVEN WITH THE SEED: the statements are not yours to turn. If you find one false, say at which input.
  Laid BY PROGRAM, IN A SANDBOX (cutbox-rows.mjs): the forced cells as the released guide's own fill.sh prints them over the translation 39d5325beffc36e8… (all of the seat's roots in one cut). By AI agents, Wed Nov 11 2026. No macro, syntax, notation, axiom, sorry.
-/
import Derived.Test.YtdklcjgoomdhkaaChecked
import GoSem.Claim
import GoSem.ClaimJoined
import GoSem.ClaimMapViews
import Derived.JoinedTies
import Derived.KernelRfl
namespace Go.Proofs.Ytdklcjgoomdhkaa
/- THE CELL 'sum', in the pinned program and in every row, IS THE sha256 OF THE DUMP (.gsa) THAT YtdklcjgoomdhkaaProg.lean LOADS. Nothing in Lean hashes anything: it is a label: what it is worth is what the hold of that sum in a sandbox is worth. -/
noncomputable def Try.pinned : Pinned := { name := "ytdklcjgoomdhkaa", sum := "39d5325beffc36e8a66dba560a571d237ebc180c47040fd78ef72fde01c78209", checked := Try.checked }
namespace Rows
def none {H : Type} : Left H := { results := [], args := [] }

/-- 'spinnakerlaw09.ConfStarts': WHATEVER THE INPUT: true; the input reads as it did. -/
def confStartsSpec : ChangeSpec := { name := "confStarts", fn := fun _ => fun
  | [d] => { results := [.lit (.bool true)], args := [d] }
  | _ => none }
def confStartsRow : OpenClaim := { program := "ytdklcjgoomdhkaa", sum := "39d5325beffc36e8a66dba560a571d237ebc180c47040fd78ef72fde01c78209", func := "spinnaker/spinnakerlaw09.ConfStarts", spec := "confStarts", unfollowed := true, recurses := true, apart := false }
def ConfStartsSaid : Prop := confStartsRow.holds Try.pinned (OpenSpec.ofChange confStartsSpec)

/-- ITS FALSE NEIGHBOUR: 'it returns false'. Refute it at one input. -/
def confStartsWrong : ChangeSpec := { name := "confStarts", fn := fun _ => fun
  | [d] => { results := [.lit (.bool false)], args := [d] }
  | _ => none }
def ConfStartsWrongFalsely : Prop := confStartsRow.holds Try.pinned (OpenSpec.ofChange confStartsWrong)

/-- 'spinnakerlaw09.ConfTells': WHATEVER THE INPUT: true; the input reads as it did. -/
def confTellsSpec : ChangeSpec := { name := "confTells", fn := fun _ => fun
  | [d1, d2, d3] => { results := [.lit (.bool true)], args := [d1, d2, d3] }
  | _ => none }
def confTellsRow : OpenClaim := { program := "ytdklcjgoomdhkaa", sum := "39d5325beffc36e8a66dba560a571d237ebc180c47040fd78ef72fde01c78209", func := "spinnaker/spinnakerlaw09.ConfTells", spec := "confTells", unfollowed := true, recurses := true, apart := false }
def ConfTellsSaid : Prop := confTellsRow.holds Try.pinned (OpenSpec.ofChange confTellsSpec)

/-- ITS FALSE NEIGHBOUR: 'it returns false'. Refute it at one input. -/
def confTellsWrong : ChangeSpec := { name := "confTells", fn := fun _ => fun
  | [d1, d2, d3] => { results := [.lit (.bool false)], args := [d1, d2, d3] }
  | _ => none }
def ConfTellsWrongFalsely : Prop := confTellsRow.holds Try.pinned (OpenSpec.ofChange confTellsWrong)

/-- 'spinnakerlaw09.ConfSame': WHATEVER THE INPUT: true; the input reads as it did. -/
def confSameSpec : ChangeSpec := { name := "confSame", fn := fun _ => fun
  | [d1, d2] => { results := [.lit (.bool true)], args := [d1, d2] }
  | _ => none }
def confSameRow : OpenClaim := { program := "ytdklcjgoomdhkaa", sum := "39d5325beffc36e8a66dba560a571d237ebc180c47040fd78ef72fde01c78209", func := "spinnaker/spinnakerlaw09.ConfSame", spec := "confSame", unfollowed := true, recurses := true, apart := false }
def ConfSameSaid : Prop := confSameRow.holds Try.pinned (OpenSpec.ofChange confSameSpec)

/-- ITS FALSE NEIGHBOUR: 'it returns false'. Refute it at one input. -/
def confSameWrong : ChangeSpec := { name := "confSame", fn := fun _ => fun
  | [d1, d2] => { results := [.lit (.bool false)], args := [d1, d2] }
  | _ => none }
def ConfSameWrongFalsely : Prop := confSameRow.holds Try.pinned (OpenSpec.ofChange confSameWrong)

/-- 'spinnakerlaw09.ConfBegins': WHATEVER THE INPUT: true; the input reads as it did. -/
def confBeginsSpec : ChangeSpec := { name := "confBegins", fn := fun _ => fun
  | [d1, d2, d3] => { results := [.lit (.bool true)], args := [d1, d2, d3] }
  | _ => none }
def confBeginsRow : OpenClaim := { program := "ytdklcjgoomdhkaa", sum := "39d5325beffc36e8a66dba560a571d237ebc180c47040fd78ef72fde01c78209", func := "spinnaker/spinnakerlaw09.ConfBegins", spec := "confBegins", unfollowed := true, recurses := true, apart := false }
def ConfBeginsSaid : Prop := confBeginsRow.holds Try.pinned (OpenSpec.ofChange confBeginsSpec)

/-- ITS FALSE NEIGHBOUR: 'it returns false'. Refute it at one input. -/
def confBeginsWrong : ChangeSpec := { name := "confBegins", fn := fun _ => fun
  | [d1, d2, d3] => { results := [.lit (.bool false)], args := [d1, d2, d3] }
  | _ => none }
def ConfBeginsWrongFalsely : Prop := confBeginsRow.holds Try.pinned (OpenSpec.ofChange confBeginsWrong)

/- THE SECOND FORM. 'bulk': how many values and letters a reading holds, each counted each time it is reached (what is shared counts as often as it is met; a slice's spare places count too). A statement '..UptoSaid' is the law's where the arguments, and the package variables that the reading takes, are together of bulk at most 1048576: NARROWER than '..Said'. Prove '..Said' where nothing that the law and all that it calls make is longer than what came in: it says more and counts as full. Else prove '..UptoSaid'. A law counts once. -/
mutual
def uptoBulk {H : Type} : DataW H → Nat
  | .lit (.string bytes) => bytes.length + 1
  | .lit _ => 1
  | .nil => 1
  | .ptr d => uptoBulk d + 1
  | .slice elems spare => uptoBulkAll elems + uptoBulkAll spare + 1
  | .agg parts => uptoBulkAll parts + 1
  | .iface _ d => uptoBulk d + 1
  | .map entries => uptoBulkEntries entries + 1
  | .held _ => 1
def uptoBulkAll {H : Type} : List (DataW H) → Nat
  | [] => 0
  | d :: r => uptoBulk d + uptoBulkAll r
def uptoBulkEntries {H : Type} : List (Lit × DataW H) → Nat
  | [] => 0
  | x :: r => uptoBulkEntry x + uptoBulkEntries r
def uptoBulkEntry {H : Type} : Lit × DataW H → Nat
  | (.string bytes, d) => bytes.length + uptoBulk d + 1
  | (_, d) => uptoBulk d + 1
 end
def uptoSmall : (H : Type) → List (DataW H) → Bool := fun _ ds => decide (uptoBulkAll ds ≤ 1048576)
def OpenSpec.upto (s : _root_.Go.ChangeSpec) : _root_.Go.OpenSpec := { _root_.Go.OpenSpec.ofChange s with cond := some uptoSmall }

/-- 'spinnakerlaw09.ConfStarts', WHERE WHAT IT READS IS OF BULK AT MOST 1048576: true; the input reads as it did. -/
def confStartsUptoRow : OpenClaim := { program := "ytdklcjgoomdhkaa", sum := "39d5325beffc36e8a66dba560a571d237ebc180c47040fd78ef72fde01c78209", func := "spinnaker/spinnakerlaw09.ConfStarts", spec := "confStarts", unfollowed := true, recurses := true, apart := false, narrowed := true }
def ConfStartsUptoSaid : Prop := confStartsUptoRow.holds Try.pinned (OpenSpec.upto confStartsSpec)

/-- 'spinnakerlaw09.ConfTells', WHERE WHAT IT READS IS OF BULK AT MOST 1048576: true; the input reads as it did. -/
def confTellsUptoRow : OpenClaim := { program := "ytdklcjgoomdhkaa", sum := "39d5325beffc36e8a66dba560a571d237ebc180c47040fd78ef72fde01c78209", func := "spinnaker/spinnakerlaw09.ConfTells", spec := "confTells", unfollowed := true, recurses := true, apart := false, narrowed := true }
def ConfTellsUptoSaid : Prop := confTellsUptoRow.holds Try.pinned (OpenSpec.upto confTellsSpec)

/-- 'spinnakerlaw09.ConfSame', WHERE WHAT IT READS IS OF BULK AT MOST 1048576: true; the input reads as it did. -/
def confSameUptoRow : OpenClaim := { program := "ytdklcjgoomdhkaa", sum := "39d5325beffc36e8a66dba560a571d237ebc180c47040fd78ef72fde01c78209", func := "spinnaker/spinnakerlaw09.ConfSame", spec := "confSame", unfollowed := true, recurses := true, apart := false, narrowed := true }
def ConfSameUptoSaid : Prop := confSameUptoRow.holds Try.pinned (OpenSpec.upto confSameSpec)

/-- 'spinnakerlaw09.ConfBegins', WHERE WHAT IT READS IS OF BULK AT MOST 1048576: true; the input reads as it did. -/
def confBeginsUptoRow : OpenClaim := { program := "ytdklcjgoomdhkaa", sum := "39d5325beffc36e8a66dba560a571d237ebc180c47040fd78ef72fde01c78209", func := "spinnaker/spinnakerlaw09.ConfBegins", spec := "confBegins", unfollowed := true, recurses := true, apart := false, narrowed := true }
def ConfBeginsUptoSaid : Prop := confBeginsUptoRow.holds Try.pinned (OpenSpec.upto confBeginsSpec)

end Rows
end Go.Proofs.Ytdklcjgoomdhkaa
