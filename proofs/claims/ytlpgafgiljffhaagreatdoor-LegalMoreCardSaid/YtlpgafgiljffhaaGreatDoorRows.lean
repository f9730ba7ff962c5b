/-
  NARROWER THAN 'FOR EVERY INPUT', by the rows' own cells (each row's printed sentence says how): LegalChecks: laid · LegalTexts: laid · LegalNames: laid · LegalLess: laid · LegalMore: laid.
  DERIVED. THE GIVEN ROWS OF THIS SEAT. 5 by the template 'for every input the law returns true; each argument reads behind the call as it read before'; 0 by the template 'total and deterministic' (their statements: YtlpgafgiljffhaaGreatDoorTotals.lean).
  GIVEN WITH THE SEED: the statements are not yours to turn. If you find one false, say at which input.
  Laid BY PROGRAM, IN A SANDBOX (cutbox-rows.mjs): the forced cells as the released guide's own fill.sh prints them over the translation 85e5a9ba9666d41f… (all of the seat's roots in one cut). By AI agents, Wed Nov 11 2026. No macro, syntax, notation, axiom, sorry.
-/
import Derived.Test.YtlpgafgiljffhaaGreatDoorChecked
import GoSem.Claim
import GoSem.ClaimJoined
import GoSem.ClaimMapViews
import Derived.JoinedTies
import Derived.KernelRfl
namespace Go.Proofs.YtlpgafgiljffhaaGreatDoor
/- THE CELL 'sum', in the pinned program and in every row, IS THE sha256 OF THE DUMP (.gsa) THAT YtlpgafgiljffhaaGreatDoorProg.lean LOADS. Nothing in Lean hashes anything: it is a label: what it is worth is what the hold of that sum in a sandbox is worth. -/
noncomputable def Tryz.pinned : Pinned := { name := "ytlpgafgiljffhaagreatdoor", sum := "85e5a9ba9666d41fd40a1f5daf1286b8cc0edd37fa45f5e649c69bee20e323f9", checked := Tryz.checked }
namespace Rows
def none {H : Type} : Left H := { results := [], args := [] }

/- WHAT THE LISTED PACKAGE-LEVEL VARIABLES READ AS WHEN THE CALL BEGINS. Each datum BY PROGRAM (the guide's laid-datum.mjs) off the statement by which the dump's own 'gosem.cut.vars' lays the variable. In a bare row this is a premise. The card (YtlpgafgiljffhaaGreatDoorCards.lean) ties it to the program's text. -/
def laid_spinnaker_stmt_fields {H : Type} : DataW H := .agg [.agg [.lit (.bool false), .lit (.bool false), .lit (.bool false), .lit (.bool false), .lit (.bool false), .lit (.bool false), .lit (.bool false)], .agg [.lit (.bool false), .lit (.bool false), .lit (.bool false), .lit (.bool false), .lit (.bool false), .lit (.bool false), .lit (.bool false)], .agg [.lit (.bool true), .lit (.bool false), .lit (.bool true), .lit (.bool false), .lit (.bool false), .lit (.bool false), .lit (.bool false)], .agg [.lit (.bool true), .lit (.bool true), .lit (.bool false), .lit (.bool false), .lit (.bool false), .lit (.bool false), .lit (.bool false)], .agg [.lit (.bool false), .lit (.bool true), .lit (.bool true), .lit (.bool false), .lit (.bool false), .lit (.bool false), .lit (.bool false)], .agg [.lit (.bool true), .lit (.bool true), .lit (.bool true), .lit (.bool true), .lit (.bool false), .lit (.bool false), .lit (.bool false)], .agg [.lit (.bool true), .lit (.bool true), .lit (.bool true), .lit (.bool false), .lit (.bool false), .lit (.bool false), .lit (.bool false)], .agg [.lit (.bool true), .lit (.bool true), .lit (.bool true), .lit (.bool false), .lit (.bool false), .lit (.bool false), .lit (.bool false)], .agg [.lit (.bool false), .lit (.bool false), .lit (.bool false), .lit (.bool false), .lit (.bool false), .lit (.bool false), .lit (.bool false)], .agg [.lit (.bool false), .lit (.bool true), .lit (.bool true), .lit (.bool false), .lit (.bool true), .lit (.bool false), .lit (.bool false)], .agg [.lit (.bool false), .lit (.bool false), .lit (.bool true), .lit (.bool false), .lit (.bool false), .lit (.bool true), .lit (.bool true)], .agg [.lit (.bool false), .lit (.bool false), .lit (.bool true), .lit (.bool false), .lit (.bool false), .lit (.bool true), .lit (.bool false)], .agg [.lit (.bool false), .lit (.bool false), .lit (.bool false), .lit (.bool false), .lit (.bool false), .lit (.bool true), .lit (.bool false)], .agg [.lit (.bool false), .lit (.bool false), .lit (.bool false), .lit (.bool false), .lit (.bool false), .lit (.bool false), .lit (.bool false)]]

/-- 'spinnakerlaw05.LegalChecks': WHATEVER THE INPUT: true; the input reads as it did. -/
def legalChecksSpec : ChangeSpec := { name := "legalChecks", fn := fun _ => fun
  | [d] => { results := [.lit (.bool true)], args := [d] }
  | _ => none }
def legalChecksRow : OpenClaim := { program := "ytlpgafgiljffhaagreatdoor", sum := "85e5a9ba9666d41fd40a1f5daf1286b8cc0edd37fa45f5e649c69bee20e323f9", func := "spinnaker/spinnakerlaw05.LegalChecks", spec := "legalChecks", unfollowed := true, recurses := true, named := ["spinnaker/stmt.fields"], apart := false, laid := [("spinnaker/stmt.fields", laid_spinnaker_stmt_fields)] }
def LegalChecksSaid : Prop := legalChecksRow.holds Tryz.pinned (OpenSpec.ofChange legalChecksSpec)

/-- ITS FALSE NEIGHBOUR: 'it returns false'. Refute it at one input. -/
def legalChecksWrong : ChangeSpec := { name := "legalChecks", fn := fun _ => fun
  | [d] => { results := [.lit (.bool false)], args := [d] }
  | _ => none }
def LegalChecksWrongFalsely : Prop := legalChecksRow.holds Tryz.pinned (OpenSpec.ofChange legalChecksWrong)

/-- 'spinnakerlaw05.LegalTexts': WHATEVER THE INPUT: true; the input reads as it did. -/
def legalTextsSpec : ChangeSpec := { name := "legalTexts", fn := fun _ => fun
  | [d] => { results := [.lit (.bool true)], args := [d] }
  | _ => none }
def legalTextsRow : OpenClaim := { program := "ytlpgafgiljffhaagreatdoor", sum := "85e5a9ba9666d41fd40a1f5daf1286b8cc0edd37fa45f5e649c69bee20e323f9", func := "spinnaker/spinnakerlaw05.LegalTexts", spec := "legalTexts", unfollowed := true, recurses := true, named := ["spinnaker/stmt.fields"], apart := false, laid := [("spinnaker/stmt.fields", laid_spinnaker_stmt_fields)] }
def LegalTextsSaid : Prop := legalTextsRow.holds Tryz.pinned (OpenSpec.ofChange legalTextsSpec)

/-- ITS FALSE NEIGHBOUR: 'it returns false'. Refute it at one input. -/
def legalTextsWrong : ChangeSpec := { name := "legalTexts", fn := fun _ => fun
  | [d] => { results := [.lit (.bool false)], args := [d] }
  | _ => none }
def LegalTextsWrongFalsely : Prop := legalTextsRow.holds Tryz.pinned (OpenSpec.ofChange legalTextsWrong)

/-- 'spinnakerlaw05.LegalNames': WHATEVER THE INPUT: true; the input reads as it did. -/
def legalNamesSpec : ChangeSpec := { name := "legalNames", fn := fun _ => fun
  | [d1, d2, d3] => { results := [.lit (.bool true)], args := [d1, d2, d3] }
  | _ => none }
def legalNamesRow : OpenClaim := { program := "ytlpgafgiljffhaagreatdoor", sum := "85e5a9ba9666d41fd40a1f5daf1286b8cc0edd37fa45f5e649c69bee20e323f9", func := "spinnaker/spinnakerlaw05.LegalNames", spec := "legalNames", unfollowed := true, recurses := true, named := ["spinnaker/stmt.fields"], apart := false, laid := [("spinnaker/stmt.fields", laid_spinnaker_stmt_fields)] }
def LegalNamesSaid : Prop := legalNamesRow.holds Tryz.pinned (OpenSpec.ofChange legalNamesSpec)

/-- ITS FALSE NEIGHBOUR: 'it returns false'. Refute it at one input. -/
def legalNamesWrong : ChangeSpec := { name := "legalNames", fn := fun _ => fun
  | [d1, d2, d3] => { results := [.lit (.bool false)], args := [d1, d2, d3] }
  | _ => none }
def LegalNamesWrongFalsely : Prop := legalNamesRow.holds Tryz.pinned (OpenSpec.ofChange legalNamesWrong)

/-- 'spinnakerlaw05.LegalLess': WHATEVER THE INPUT: true; the input reads as it did. -/
def legalLessSpec : ChangeSpec := { name := "legalLess", fn := fun _ => fun
  | [d] => { results := [.lit (.bool true)], args := [d] }
  | _ => none }
def legalLessRow : OpenClaim := { program := "ytlpgafgiljffhaagreatdoor", sum := "85e5a9ba9666d41fd40a1f5daf1286b8cc0edd37fa45f5e649c69bee20e323f9", func := "spinnaker/spinnakerlaw05.LegalLess", spec := "legalLess", unfollowed := true, recurses := true, named := ["spinnaker/stmt.fields"], apart := false, laid := [("spinnaker/stmt.fields", laid_spinnaker_stmt_fields)] }
def LegalLessSaid : Prop := legalLessRow.holds Tryz.pinned (OpenSpec.ofChange legalLessSpec)

/-- ITS FALSE NEIGHBOUR: 'it returns false'. Refute it at one input. -/
def legalLessWrong : ChangeSpec := { name := "legalLess", fn := fun _ => fun
  | [d] => { results := [.lit (.bool false)], args := [d] }
  | _ => none }
def LegalLessWrongFalsely : Prop := legalLessRow.holds Tryz.pinned (OpenSpec.ofChange legalLessWrong)

/-- 'spinnakerlaw05.LegalMore': WHATEVER THE INPUT: true; the input reads as it did. -/
def legalMoreSpec : ChangeSpec := { name := "legalMore", fn := fun _ => fun
  | [d1, d2] => { results := [.lit (.bool true)], args := [d1, d2] }
  | _ => none }
def legalMoreRow : OpenClaim := { program := "ytlpgafgiljffhaagreatdoor", sum := "85e5a9ba9666d41fd40a1f5daf1286b8cc0edd37fa45f5e649c69bee20e323f9", func := "spinnaker/spinnakerlaw05.LegalMore", spec := "legalMore", unfollowed := true, recurses := true, named := ["spinnaker/stmt.fields"], apart := false, laid := [("spinnaker/stmt.fields", laid_spinnaker_stmt_fields)] }
def LegalMoreSaid : Prop := legalMoreRow.holds Tryz.pinned (OpenSpec.ofChange legalMoreSpec)

/-- ITS FALSE NEIGHBOUR: 'it returns false'. Refute it at one input. -/
def legalMoreWrong : ChangeSpec := { name := "legalMore", fn := fun _ => fun
  | [d1, d2] => { results := [.lit (.bool false)], args := [d1, d2] }
  | _ => none }
def LegalMoreWrongFalsely : Prop := legalMoreRow.holds Tryz.pinned (OpenSpec.ofChange legalMoreWrong)

/- THE SECOND FORM. 'bulk': how many values and letters a reading holds, each counted each time it is reached (what is shared counts as often as it is met; a slice's spare places count too). A statement '..UptoSaid' is the law's where the arguments, and the package variables that the reading takes, are together of bulk at most 1048576: NARROWER than '..Said'. Prove '..Said' where nothing that the law and all that it calls make is longer than what came in: it says more and counts as full. Else prove '..UptoSaid'. A law counts once. -/
mutual
def uptoBulk {H : Type} : DataW H → Nat
  | .lit (.string bytes) => bytes.length + 1
  | .lit _ => 1
  | .nil => 1
  | .ptr d => uptoBulk d + 1
  | .slice elems spare => uptoBulkAll elems + uptoBulkAll spare + 1
  | .agg parts => uptoBulkAll parts + 1
  | .iface _ d => uptoBulk d + 1
  | .map entries => uptoBulkEntries entries + 1
  | .held _ => 1
def uptoBulkAll {H : Type} : List (DataW H) → Nat
  | [] => 0
  | d :: r => uptoBulk d + uptoBulkAll r
def uptoBulkEntries {H : Type} : List (Lit × DataW H) → Nat
  | [] => 0
  | x :: r => uptoBulkEntry x + uptoBulkEntries r
def uptoBulkEntry {H : Type} : Lit × DataW H → Nat
  | (.string bytes, d) => bytes.length + uptoBulk d + 1
  | (_, d) => uptoBulk d + 1
 end
def uptoSmall : (H : Type) → List (DataW H) → Bool := fun _ ds => decide (uptoBulkAll ds ≤ 1048576)
def OpenSpec.upto (s : _root_.Go.ChangeSpec) : _root_.Go.OpenSpec := { _root_.Go.OpenSpec.ofChange s with cond := some uptoSmall }

/-- 'spinnakerlaw05.LegalChecks', WHERE WHAT IT READS IS OF BULK AT MOST 1048576: true; the input reads as it did. -/
def legalChecksUptoRow : OpenClaim := { program := "ytlpgafgiljffhaagreatdoor", sum := "85e5a9ba9666d41fd40a1f5daf1286b8cc0edd37fa45f5e649c69bee20e323f9", func := "spinnaker/spinnakerlaw05.LegalChecks", spec := "legalChecks", unfollowed := true, recurses := true, named := ["spinnaker/stmt.fields"], apart := false, laid := [("spinnaker/stmt.fields", laid_spinnaker_stmt_fields)], narrowed := true }
def LegalChecksUptoSaid : Prop := legalChecksUptoRow.holds Tryz.pinned (OpenSpec.upto legalChecksSpec)

/-- 'spinnakerlaw05.LegalTexts', WHERE WHAT IT READS IS OF BULK AT MOST 1048576: true; the input reads as it did. -/
def legalTextsUptoRow : OpenClaim := { program := "ytlpgafgiljffhaagreatdoor", sum := "85e5a9ba9666d41fd40a1f5daf1286b8cc0edd37fa45f5e649c69bee20e323f9", func := "spinnaker/spinnakerlaw05.LegalTexts", spec := "legalTexts", unfollowed := true, recurses := true, named := ["spinnaker/stmt.fields"], apart := false, laid := [("spinnaker/stmt.fields", laid_spinnaker_stmt_fields)], narrowed := true }
def LegalTextsUptoSaid : Prop := legalTextsUptoRow.holds Tryz.pinned (OpenSpec.upto legalTextsSpec)

/-- 'spinnakerlaw05.LegalNames', WHERE WHAT IT READS IS OF BULK AT MOST 1048576: true; the input reads as it did. -/
def legalNamesUptoRow : OpenClaim := { program := "ytlpgafgiljffhaagreatdoor", sum := "85e5a9ba9666d41fd40a1f5daf1286b8cc0edd37fa45f5e649c69bee20e323f9", func := "spinnaker/spinnakerlaw05.LegalNames", spec := "legalNames", unfollowed := true, recurses := true, named := ["spinnaker/stmt.fields"], apart := false, laid := [("spinnaker/stmt.fields", laid_spinnaker_stmt_fields)], narrowed := true }
def LegalNamesUptoSaid : Prop := legalNamesUptoRow.holds Tryz.pinned (OpenSpec.upto legalNamesSpec)

/-- 'spinnakerlaw05.LegalLess', WHERE WHAT IT READS IS OF BULK AT MOST 1048576: true; the input reads as it did. -/
def legalLessUptoRow : OpenClaim := { program := "ytlpgafgiljffhaagreatdoor", sum := "85e5a9ba9666d41fd40a1f5daf1286b8cc0edd37fa45f5e649c69bee20e323f9", func := "spinnaker/spinnakerlaw05.LegalLess", spec := "legalLess", unfollowed := true, recurses := true, named := ["spinnaker/stmt.fields"], apart := false, laid := [("spinnaker/stmt.fields", laid_spinnaker_stmt_fields)], narrowed := true }
def LegalLessUptoSaid : Prop := legalLessUptoRow.holds Tryz.pinned (OpenSpec.upto legalLessSpec)

/-- 'spinnakerlaw05.LegalMore', WHERE WHAT IT READS IS OF BULK AT MOST 1048576: true; the input reads as it did. -/
def legalMoreUptoRow : OpenClaim := { program := "ytlpgafgiljffhaagreatdoor", sum := "85e5a9ba9666d41fd40a1f5daf1286b8cc0edd37fa45f5e649c69bee20e323f9", func := "spinnaker/spinnakerlaw05.LegalMore", spec := "legalMore", unfollowed := true, recurses := true, named := ["spinnaker/stmt.fields"], apart := false, laid := [("spinnaker/stmt.fields", laid_spinnaker_stmt_fields)], narrowed := true }
def LegalMoreUptoSaid : Prop := legalMoreUptoRow.holds Tryz.pinned (OpenSpec.upto legalMoreSpec)

end Rows
end Go.Proofs.YtlpgafgiljffhaaGreatDoor
