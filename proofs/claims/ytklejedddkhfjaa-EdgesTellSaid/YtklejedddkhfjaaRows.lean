/-
  No cell of these rows narrows 'for every input' (looked for: loops, veiled, ifaces, maps, wideKeys, modest, calm, conditions, laid).
  DERIVED. THE GIVEN ROWS OF THIS SEAT. 5 by the template 'for every input the law returns true; each argument reads behind the call as it read before'; 0 by the template 'total and deterministic' (their statements: YtklejedddkhfjaaTotals.lean).
  GIVEN WITH THE SEED: the statements are not yours to turn. If you find one false, say at which input.
  Laid BY PROGRAM, IN A SANDBOX (cutbox-rows.mjs): the forced cells as the released guide's own fill.sh prints them over the translation 422afa400b3f2577… (all of the seat's roots in one cut). By AI agents, Wed Nov 11 2026. No macro, syntax, notation, axiom, sorry.
-/
import Derived.Test.YtklejedddkhfjaaChecked
import GoSem.Claim
import GoSem.ClaimJoined
import GoSem.ClaimMapViews
import Derived.JoinedTies
import Derived.KernelRfl
namespace Go.Proofs.Ytklejedddkhfjaa
/- THE CELL 'sum', in the pinned program and in every row, IS THE sha256 OF THE DUMP (.gsa) THAT YtklejedddkhfjaaProg.lean LOADS. Nothing in Lean hashes anything: it is a label: what it is worth is what the hold of that sum in a sandbox is worth. -/
noncomputable def Try.pinned : Pinned := { name := "ytklejedddkhfjaa", sum := "422afa400b3f257709a7157021b6a44f696f08341e97872e9f892eac9ed00402", checked := Try.checked }
namespace Rows
def none {H : Type} : Left H := { results := [], args := [] }

/-- 'spinnakerlaw14.EdgesBuild': WHATEVER THE INPUT: true; the input reads as it did. -/
def edgesBuildSpec : ChangeSpec := { name := "edgesBuild", fn := fun _ => fun
  | [d1, d2] => { results := [.lit (.bool true)], args := [d1, d2] }
  | _ => none }
def edgesBuildRow : OpenClaim := { program := "ytklejedddkhfjaa", sum := "422afa400b3f257709a7157021b6a44f696f08341e97872e9f892eac9ed00402", func := "spinnaker/spinnakerlaw14.EdgesBuild", spec := "edgesBuild", unfollowed := true, recurses := true, apart := false }
def EdgesBuildSaid : Prop := edgesBuildRow.holds Try.pinned (OpenSpec.ofChange edgesBuildSpec)

/-- ITS FALSE NEIGHBOUR: 'it returns false'. Refute it at one input. -/
def edgesBuildWrong : ChangeSpec := { name := "edgesBuild", fn := fun _ => fun
  | [d1, d2] => { results := [.lit (.bool false)], args := [d1, d2] }
  | _ => none }
def EdgesBuildWrongFalsely : Prop := edgesBuildRow.holds Try.pinned (OpenSpec.ofChange edgesBuildWrong)

/-- 'spinnakerlaw14.EdgesTell': WHATEVER THE INPUT: true; the input reads as it did. -/
def edgesTellSpec : ChangeSpec := { name := "edgesTell", fn := fun _ => fun
  | [d1, d2, d3] => { results := [.lit (.bool true)], args := [d1, d2, d3] }
  | _ => none }
def edgesTellRow : OpenClaim := { program := "ytklejedddkhfjaa", sum := "422afa400b3f257709a7157021b6a44f696f08341e97872e9f892eac9ed00402", func := "spinnaker/spinnakerlaw14.EdgesTell", spec := "edgesTell", unfollowed := true, recurses := true, apart := false }
def EdgesTellSaid : Prop := edgesTellRow.holds Try.pinned (OpenSpec.ofChange edgesTellSpec)

/-- ITS FALSE NEIGHBOUR: 'it returns false'. Refute it at one input. -/
def edgesTellWrong : ChangeSpec := { name := "edgesTell", fn := fun _ => fun
  | [d1, d2, d3] => { results := [.lit (.bool false)], args := [d1, d2, d3] }
  | _ => none }
def EdgesTellWrongFalsely : Prop := edgesTellRow.holds Try.pinned (OpenSpec.ofChange edgesTellWrong)

/-- 'spinnakerlaw14.EdgesBack': WHATEVER THE INPUT: true; the input reads as it did. -/
def edgesBackSpec : ChangeSpec := { name := "edgesBack", fn := fun _ => fun
  | [d] => { results := [.lit (.bool true)], args := [d] }
  | _ => none }
def edgesBackRow : OpenClaim := { program := "ytklejedddkhfjaa", sum := "422afa400b3f257709a7157021b6a44f696f08341e97872e9f892eac9ed00402", func := "spinnaker/spinnakerlaw14.EdgesBack", spec := "edgesBack", unfollowed := true, recurses := true, apart := false }
def EdgesBackSaid : Prop := edgesBackRow.holds Try.pinned (OpenSpec.ofChange edgesBackSpec)

/-- ITS FALSE NEIGHBOUR: 'it returns false'. Refute it at one input. -/
def edgesBackWrong : ChangeSpec := { name := "edgesBack", fn := fun _ => fun
  | [d] => { results := [.lit (.bool false)], args := [d] }
  | _ => none }
def EdgesBackWrongFalsely : Prop := edgesBackRow.holds Try.pinned (OpenSpec.ofChange edgesBackWrong)

/-- 'spinnakerlaw14.EdgesReach': WHATEVER THE INPUT: true; the input reads as it did. -/
def edgesReachSpec : ChangeSpec := { name := "edgesReach", fn := fun _ => fun
  | [d1, d2] => { results := [.lit (.bool true)], args := [d1, d2] }
  | _ => none }
def edgesReachRow : OpenClaim := { program := "ytklejedddkhfjaa", sum := "422afa400b3f257709a7157021b6a44f696f08341e97872e9f892eac9ed00402", func := "spinnaker/spinnakerlaw14.EdgesReach", spec := "edgesReach", unfollowed := true, recurses := true, apart := false }
def EdgesReachSaid : Prop := edgesReachRow.holds Try.pinned (OpenSpec.ofChange edgesReachSpec)

/-- ITS FALSE NEIGHBOUR: 'it returns false'. Refute it at one input. -/
def edgesReachWrong : ChangeSpec := { name := "edgesReach", fn := fun _ => fun
  | [d1, d2] => { results := [.lit (.bool false)], args := [d1, d2] }
  | _ => none }
def EdgesReachWrongFalsely : Prop := edgesReachRow.holds Try.pinned (OpenSpec.ofChange edgesReachWrong)

/-- 'spinnakerlaw14.EdgesParts': WHATEVER THE INPUT: true; the input reads as it did. -/
def edgesPartsSpec : ChangeSpec := { name := "edgesParts", fn := fun _ => fun
  | [d] => { results := [.lit (.bool true)], args := [d] }
  | _ => none }
def edgesPartsRow : OpenClaim := { program := "ytklejedddkhfjaa", sum := "422afa400b3f257709a7157021b6a44f696f08341e97872e9f892eac9ed00402", func := "spinnaker/spinnakerlaw14.EdgesParts", spec := "edgesParts", unfollowed := true, recurses := true, apart := false }
def EdgesPartsSaid : Prop := edgesPartsRow.holds Try.pinned (OpenSpec.ofChange edgesPartsSpec)

/-- ITS FALSE NEIGHBOUR: 'it returns false'. Refute it at one input. -/
def edgesPartsWrong : ChangeSpec := { name := "edgesParts", fn := fun _ => fun
  | [d] => { results := [.lit (.bool false)], args := [d] }
  | _ => none }
def EdgesPartsWrongFalsely : Prop := edgesPartsRow.holds Try.pinned (OpenSpec.ofChange edgesPartsWrong)

/- THE SECOND FORM. 'bulk': how many values and letters a reading holds, each counted each time it is reached (what is shared counts as often as it is met; a slice's spare places count too). A statement '..UptoSaid' is the law's where the arguments, and the package variables that the reading takes, are together of bulk at most 1048576: NARROWER than '..Said'. Prove '..Said' where nothing that the law and all that it calls make is longer than what came in: it says more and counts as full. Else prove '..UptoSaid'. A law counts once. -/
mutual
def uptoBulk {H : Type} : DataW H → Nat
  | .lit (.string bytes) => bytes.length + 1
  | .lit _ => 1
  | .nil => 1
  | .ptr d => uptoBulk d + 1
  | .slice elems spare => uptoBulkAll elems + uptoBulkAll spare + 1
  | .agg parts => uptoBulkAll parts + 1
  | .iface _ d => uptoBulk d + 1
  | .map entries => uptoBulkEntries entries + 1
  | .held _ => 1
def uptoBulkAll {H : Type} : List (DataW H) → Nat
  | [] => 0
  | d :: r => uptoBulk d + uptoBulkAll r
def uptoBulkEntries {H : Type} : List (Lit × DataW H) → Nat
  | [] => 0
  | x :: r => uptoBulkEntry x + uptoBulkEntries r
def uptoBulkEntry {H : Type} : Lit × DataW H → Nat
  | (.string bytes, d) => bytes.length + uptoBulk d + 1
  | (_, d) => uptoBulk d + 1
 end
def uptoSmall : (H : Type) → List (DataW H) → Bool := fun _ ds => decide (uptoBulkAll ds ≤ 1048576)
def OpenSpec.upto (s : _root_.Go.ChangeSpec) : _root_.Go.OpenSpec := { _root_.Go.OpenSpec.ofChange s with cond := some uptoSmall }

/-- 'spinnakerlaw14.EdgesBuild', WHERE WHAT IT READS IS OF BULK AT MOST 1048576: true; the input reads as it did. -/
def edgesBuildUptoRow : OpenClaim := { program := "ytklejedddkhfjaa", sum := "422afa400b3f257709a7157021b6a44f696f08341e97872e9f892eac9ed00402", func := "spinnaker/spinnakerlaw14.EdgesBuild", spec := "edgesBuild", unfollowed := true, recurses := true, apart := false, narrowed := true }
def EdgesBuildUptoSaid : Prop := edgesBuildUptoRow.holds Try.pinned (OpenSpec.upto edgesBuildSpec)

/-- 'spinnakerlaw14.EdgesTell', WHERE WHAT IT READS IS OF BULK AT MOST 1048576: true; the input reads as it did. -/
def edgesTellUptoRow : OpenClaim := { program := "ytklejedddkhfjaa", sum := "422afa400b3f257709a7157021b6a44f696f08341e97872e9f892eac9ed00402", func := "spinnaker/spinnakerlaw14.EdgesTell", spec := "edgesTell", unfollowed := true, recurses := true, apart := false, narrowed := true }
def EdgesTellUptoSaid : Prop := edgesTellUptoRow.holds Try.pinned (OpenSpec.upto edgesTellSpec)

/-- 'spinnakerlaw14.EdgesBack', WHERE WHAT IT READS IS OF BULK AT MOST 1048576: true; the input reads as it did. -/
def edgesBackUptoRow : OpenClaim := { program := "ytklejedddkhfjaa", sum := "422afa400b3f257709a7157021b6a44f696f08341e97872e9f892eac9ed00402", func := "spinnaker/spinnakerlaw14.EdgesBack", spec := "edgesBack", unfollowed := true, recurses := true, apart := false, narrowed := true }
def EdgesBackUptoSaid : Prop := edgesBackUptoRow.holds Try.pinned (OpenSpec.upto edgesBackSpec)

/-- 'spinnakerlaw14.EdgesReach', WHERE WHAT IT READS IS OF BULK AT MOST 1048576: true; the input reads as it did. -/
def edgesReachUptoRow : OpenClaim := { program := "ytklejedddkhfjaa", sum := "422afa400b3f257709a7157021b6a44f696f08341e97872e9f892eac9ed00402", func := "spinnaker/spinnakerlaw14.EdgesReach", spec := "edgesReach", unfollowed := true, recurses := true, apart := false, narrowed := true }
def EdgesReachUptoSaid : Prop := edgesReachUptoRow.holds Try.pinned (OpenSpec.upto edgesReachSpec)

/-- 'spinnakerlaw14.EdgesParts', WHERE WHAT IT READS IS OF BULK AT MOST 1048576: true; the input reads as it did. -/
def edgesPartsUptoRow : OpenClaim := { program := "ytklejedddkhfjaa", sum := "422afa400b3f257709a7157021b6a44f696f08341e97872e9f892eac9ed00402", func := "spinnaker/spinnakerlaw14.EdgesParts", spec := "edgesParts", unfollowed := true, recurses := true, apart := false, narrowed := true }
def EdgesPartsUptoSaid : Prop := edgesPartsUptoRow.holds Try.pinned (OpenSpec.upto edgesPartsSpec)

end Rows
end Go.Proofs.Ytklejedddkhfjaa
