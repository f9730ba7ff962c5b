/-
  NARROWER THAN 'FOR EVERY INPUT', by the rows' own cells (each row's printed sentence says how): ProgParses: laid · ProgShows: laid · ProgBack: laid · ProgRight: laid · ProgBlanks: laid.
  DERIVED. THE GIVEN ROWS OF THIS SEAT. 5 by the template 'for every input the law returns true; each argument reads behind the call as it read before'; 0 by the template 'total and deterministic' (their statements: YtcghccjnadagcaaGreatDoorTotals.lean).
  GIVEN WITH THE SEED: the statements are not yours to turn. If you find one false, say at which input.
  Laid BY PROGRAM, IN A SANDBOX (cutbox-rows.mjs): the forced cells as the released guide's own fill.sh prints them over the translation 706788647490025a… (all of the seat's roots in one cut). By AI agents, Wed Nov 11 2026. No macro, syntax, notation, axiom, sorry.
-/
import Derived.Test.YtcghccjnadagcaaGreatDoorChecked
import GoSem.Claim
import GoSem.ClaimJoined
import GoSem.ClaimMapViews
import Derived.JoinedTies
import Derived.KernelRfl
namespace Go.Proofs.YtcghccjnadagcaaGreatDoor
/- THE CELL 'sum', in the pinned program and in every row, IS THE sha256 OF THE DUMP (.gsa) THAT YtcghccjnadagcaaGreatDoorProg.lean LOADS. Nothing in Lean hashes anything: it is a label: what it is worth is what the hold of that sum in a sandbox is worth. -/
noncomputable def Tryz.pinned : Pinned := { name := "ytcghccjnadagcaagreatdoor", sum := "706788647490025a3a1eba22bb3f9255db7bceb04cdb2636789f50f56c9ca502", checked := Tryz.checked }
namespace Rows
def none {H : Type} : Left H := { results := [], args := [] }

/- WHAT THE LISTED PACKAGE-LEVEL VARIABLES READ AS WHEN THE CALL BEGINS. Each datum BY PROGRAM (the guide's laid-datum.mjs) off the statement by which the dump's own 'gosem.cut.vars' lays the variable. In a bare row this is a premise. The card (YtcghccjnadagcaaGreatDoorCards.lean) ties it to the program's text. -/
def laid_math_bits_deBruijn32tab {H : Type} : DataW H := .agg [.lit (.int .u8 0), .lit (.int .u8 1), .lit (.int .u8 28), .lit (.int .u8 2), .lit (.int .u8 29), .lit (.int .u8 14), .lit (.int .u8 24), .lit (.int .u8 3), .lit (.int .u8 30), .lit (.int .u8 22), .lit (.int .u8 20), .lit (.int .u8 15), .lit (.int .u8 25), .lit (.int .u8 17), .lit (.int .u8 4), .lit (.int .u8 8), .lit (.int .u8 31), .lit (.int .u8 27), .lit (.int .u8 13), .lit (.int .u8 23), .lit (.int .u8 21), .lit (.int .u8 19), .lit (.int .u8 16), .lit (.int .u8 7), .lit (.int .u8 26), .lit (.int .u8 12), .lit (.int .u8 18), .lit (.int .u8 6), .lit (.int .u8 11), .lit (.int .u8 5), .lit (.int .u8 10), .lit (.int .u8 9)]
def laid_math_bits_deBruijn64tab {H : Type} : DataW H := .agg [.lit (.int .u8 0), .lit (.int .u8 1), .lit (.int .u8 56), .lit (.int .u8 2), .lit (.int .u8 57), .lit (.int .u8 49), .lit (.int .u8 28), .lit (.int .u8 3), .lit (.int .u8 61), .lit (.int .u8 58), .lit (.int .u8 42), .lit (.int .u8 50), .lit (.int .u8 38), .lit (.int .u8 29), .lit (.int .u8 17), .lit (.int .u8 4), .lit (.int .u8 62), .lit (.int .u8 47), .lit (.int .u8 59), .lit (.int .u8 36), .lit (.int .u8 45), .lit (.int .u8 43), .lit (.int .u8 51), .lit (.int .u8 22), .lit (.int .u8 53), .lit (.int .u8 39), .lit (.int .u8 33), .lit (.int .u8 30), .lit (.int .u8 24), .lit (.int .u8 18), .lit (.int .u8 12), .lit (.int .u8 5), .lit (.int .u8 63), .lit (.int .u8 55), .lit (.int .u8 48), .lit (.int .u8 27), .lit (.int .u8 60), .lit (.int .u8 41), .lit (.int .u8 37), .lit (.int .u8 16), .lit (.int .u8 46), .lit (.int .u8 35), .lit (.int .u8 44), .lit (.int .u8 21), .lit (.int .u8 52), .lit (.int .u8 32), .lit (.int .u8 23), .lit (.int .u8 11), .lit (.int .u8 54), .lit (.int .u8 26), .lit (.int .u8 40), .lit (.int .u8 15), .lit (.int .u8 34), .lit (.int .u8 20), .lit (.int .u8 31), .lit (.int .u8 10), .lit (.int .u8 25), .lit (.int .u8 14), .lit (.int .u8 19), .lit (.int .u8 9), .lit (.int .u8 13), .lit (.int .u8 8), .lit (.int .u8 7), .lit (.int .u8 6)]
def laid_internal_strconv_uint64pow10 {H : Type} : DataW H := .agg [.lit (.int .u64 1), .lit (.int .u64 10), .lit (.int .u64 100), .lit (.int .u64 1000), .lit (.int .u64 10000), .lit (.int .u64 100000), .lit (.int .u64 1000000), .lit (.int .u64 10000000), .lit (.int .u64 100000000), .lit (.int .u64 1000000000), .lit (.int .u64 10000000000), .lit (.int .u64 100000000000), .lit (.int .u64 1000000000000), .lit (.int .u64 10000000000000), .lit (.int .u64 100000000000000), .lit (.int .u64 1000000000000000), .lit (.int .u64 10000000000000000), .lit (.int .u64 100000000000000000), .lit (.int .u64 1000000000000000000), .lit (.int .u64 10000000000000000000)]
def laid_spinnaker_expr_signs {H : Type} : DataW H := .agg [.lit (.string []), .lit (.string []), .lit (.string []), .lit (.string []), .lit (.string []), .lit (.string [33]), .lit (.string [43]), .lit (.string [45]), .lit (.string [42]), .lit (.string [61, 61]), .lit (.string [33, 61]), .lit (.string [60]), .lit (.string [60, 61]), .lit (.string [38, 38]), .lit (.string [124, 124])]
def laid_spinnaker_stmt_fields {H : Type} : DataW H := .agg [.agg [.lit (.bool false), .lit (.bool false), .lit (.bool false), .lit (.bool false), .lit (.bool false), .lit (.bool false), .lit (.bool false)], .agg [.lit (.bool false), .lit (.bool false), .lit (.bool false), .lit (.bool false), .lit (.bool false), .lit (.bool false), .lit (.bool false)], .agg [.lit (.bool true), .lit (.bool false), .lit (.bool true), .lit (.bool false), .lit (.bool false), .lit (.bool false), .lit (.bool false)], .agg [.lit (.bool true), .lit (.bool true), .lit (.bool false), .lit (.bool false), .lit (.bool false), .lit (.bool false), .lit (.bool false)], .agg [.lit (.bool false), .lit (.bool true), .lit (.bool true), .lit (.bool false), .lit (.bool false), .lit (.bool false), .lit (.bool false)], .agg [.lit (.bool true), .lit (.bool true), .lit (.bool true), .lit (.bool true), .lit (.bool false), .lit (.bool false), .lit (.bool false)], .agg [.lit (.bool true), .lit (.bool true), .lit (.bool true), .lit (.bool false), .lit (.bool false), .lit (.bool false), .lit (.bool false)], .agg [.lit (.bool true), .lit (.bool true), .lit (.bool true), .lit (.bool false), .lit (.bool false), .lit (.bool false), .lit (.bool false)], .agg [.lit (.bool false), .lit (.bool false), .lit (.bool false), .lit (.bool false), .lit (.bool false), .lit (.bool false), .lit (.bool false)], .agg [.lit (.bool false), .lit (.bool true), .lit (.bool true), .lit (.bool false), .lit (.bool true), .lit (.bool false), .lit (.bool false)], .agg [.lit (.bool false), .lit (.bool false), .lit (.bool true), .lit (.bool false), .lit (.bool false), .lit (.bool true), .lit (.bool true)], .agg [.lit (.bool false), .lit (.bool false), .lit (.bool true), .lit (.bool false), .lit (.bool false), .lit (.bool true), .lit (.bool false)], .agg [.lit (.bool false), .lit (.bool false), .lit (.bool false), .lit (.bool false), .lit (.bool false), .lit (.bool true), .lit (.bool false)], .agg [.lit (.bool false), .lit (.bool false), .lit (.bool false), .lit (.bool false), .lit (.bool false), .lit (.bool false), .lit (.bool false)]]
def laid_spinnaker_prog_words {H : Type} : DataW H := .agg [.lit (.string []), .lit (.string [102, 111, 114, 97, 108, 108]), .lit (.string [101, 120, 105, 115, 116, 115]), .lit (.string [97, 108, 119, 97, 121, 115])]

/-- 'spinnakerlaw04.ProgParses': WHATEVER THE INPUT: true; the input reads as it did. -/
def progParsesSpec : ChangeSpec := { name := "progParses", fn := fun _ => fun
  | [d] => { results := [.lit (.bool true)], args := [d] }
  | _ => none }
def progParsesRow : OpenClaim := { program := "ytcghccjnadagcaagreatdoor", sum := "706788647490025a3a1eba22bb3f9255db7bceb04cdb2636789f50f56c9ca502", func := "spinnaker/spinnakerlaw04.ProgParses", spec := "progParses", inPlace := ["internal/abi.NoEscape", "internal/bytealg.MakeNoZero"], unfollowed := true, recurses := true, named := ["spinnaker/expr.signs", "spinnaker/prog.words", "spinnaker/stmt.fields", "internal/strconv.uint64pow10", "math/bits.deBruijn32tab", "math/bits.deBruijn64tab"], apart := false, laid := [("math/bits.deBruijn32tab", laid_math_bits_deBruijn32tab), ("math/bits.deBruijn64tab", laid_math_bits_deBruijn64tab), ("internal/strconv.uint64pow10", laid_internal_strconv_uint64pow10), ("spinnaker/expr.signs", laid_spinnaker_expr_signs), ("spinnaker/stmt.fields", laid_spinnaker_stmt_fields), ("spinnaker/prog.words", laid_spinnaker_prog_words)] }
def ProgParsesSaid : Prop := progParsesRow.holds Tryz.pinned (OpenSpec.ofChange progParsesSpec)

/-- ITS FALSE NEIGHBOUR: 'it returns false'. Refute it at one input. -/
def progParsesWrong : ChangeSpec := { name := "progParses", fn := fun _ => fun
  | [d] => { results := [.lit (.bool false)], args := [d] }
  | _ => none }
def ProgParsesWrongFalsely : Prop := progParsesRow.holds Tryz.pinned (OpenSpec.ofChange progParsesWrong)

/-- 'spinnakerlaw04.ProgShows': WHATEVER THE INPUT: true; the input reads as it did. -/
def progShowsSpec : ChangeSpec := { name := "progShows", fn := fun _ => fun
  | [d] => { results := [.lit (.bool true)], args := [d] }
  | _ => none }
def progShowsRow : OpenClaim := { program := "ytcghccjnadagcaagreatdoor", sum := "706788647490025a3a1eba22bb3f9255db7bceb04cdb2636789f50f56c9ca502", func := "spinnaker/spinnakerlaw04.ProgShows", spec := "progShows", inPlace := ["internal/abi.NoEscape", "internal/bytealg.MakeNoZero"], unfollowed := true, recurses := true, named := ["spinnaker/expr.signs", "spinnaker/prog.words", "spinnaker/stmt.fields", "internal/strconv.uint64pow10", "math/bits.deBruijn32tab", "math/bits.deBruijn64tab"], apart := false, laid := [("math/bits.deBruijn32tab", laid_math_bits_deBruijn32tab), ("math/bits.deBruijn64tab", laid_math_bits_deBruijn64tab), ("internal/strconv.uint64pow10", laid_internal_strconv_uint64pow10), ("spinnaker/expr.signs", laid_spinnaker_expr_signs), ("spinnaker/stmt.fields", laid_spinnaker_stmt_fields), ("spinnaker/prog.words", laid_spinnaker_prog_words)] }
def ProgShowsSaid : Prop := progShowsRow.holds Tryz.pinned (OpenSpec.ofChange progShowsSpec)

/-- ITS FALSE NEIGHBOUR: 'it returns false'. Refute it at one input. -/
def progShowsWrong : ChangeSpec := { name := "progShows", fn := fun _ => fun
  | [d] => { results := [.lit (.bool false)], args := [d] }
  | _ => none }
def ProgShowsWrongFalsely : Prop := progShowsRow.holds Tryz.pinned (OpenSpec.ofChange progShowsWrong)

/-- 'spinnakerlaw04.ProgBack': WHATEVER THE INPUT: true; the input reads as it did. -/
def progBackSpec : ChangeSpec := { name := "progBack", fn := fun _ => fun
  | [d] => { results := [.lit (.bool true)], args := [d] }
  | _ => none }
def progBackRow : OpenClaim := { program := "ytcghccjnadagcaagreatdoor", sum := "706788647490025a3a1eba22bb3f9255db7bceb04cdb2636789f50f56c9ca502", func := "spinnaker/spinnakerlaw04.ProgBack", spec := "progBack", inPlace := ["internal/abi.NoEscape", "internal/bytealg.MakeNoZero"], unfollowed := true, recurses := true, named := ["spinnaker/stmt.fields", "spinnaker/expr.signs", "spinnaker/prog.words", "internal/strconv.uint64pow10", "math/bits.deBruijn32tab", "math/bits.deBruijn64tab"], apart := false, laid := [("math/bits.deBruijn32tab", laid_math_bits_deBruijn32tab), ("math/bits.deBruijn64tab", laid_math_bits_deBruijn64tab), ("internal/strconv.uint64pow10", laid_internal_strconv_uint64pow10), ("spinnaker/expr.signs", laid_spinnaker_expr_signs), ("spinnaker/stmt.fields", laid_spinnaker_stmt_fields), ("spinnaker/prog.words", laid_spinnaker_prog_words)] }
def ProgBackSaid : Prop := progBackRow.holds Tryz.pinned (OpenSpec.ofChange progBackSpec)

/-- ITS FALSE NEIGHBOUR: 'it returns false'. Refute it at one input. -/
def progBackWrong : ChangeSpec := { name := "progBack", fn := fun _ => fun
  | [d] => { results := [.lit (.bool false)], args := [d] }
  | _ => none }
def ProgBackWrongFalsely : Prop := progBackRow.holds Tryz.pinned (OpenSpec.ofChange progBackWrong)

/-- 'spinnakerlaw04.ProgRight': WHATEVER THE INPUT: true; the input reads as it did. -/
def progRightSpec : ChangeSpec := { name := "progRight", fn := fun _ => fun
  | [d] => { results := [.lit (.bool true)], args := [d] }
  | _ => none }
def progRightRow : OpenClaim := { program := "ytcghccjnadagcaagreatdoor", sum := "706788647490025a3a1eba22bb3f9255db7bceb04cdb2636789f50f56c9ca502", func := "spinnaker/spinnakerlaw04.ProgRight", spec := "progRight", inPlace := ["internal/abi.NoEscape", "internal/bytealg.MakeNoZero"], unfollowed := true, recurses := true, named := ["spinnaker/expr.signs", "spinnaker/prog.words", "spinnaker/stmt.fields", "internal/strconv.uint64pow10", "math/bits.deBruijn32tab", "math/bits.deBruijn64tab"], apart := false, laid := [("math/bits.deBruijn32tab", laid_math_bits_deBruijn32tab), ("math/bits.deBruijn64tab", laid_math_bits_deBruijn64tab), ("internal/strconv.uint64pow10", laid_internal_strconv_uint64pow10), ("spinnaker/expr.signs", laid_spinnaker_expr_signs), ("spinnaker/stmt.fields", laid_spinnaker_stmt_fields), ("spinnaker/prog.words", laid_spinnaker_prog_words)] }
def ProgRightSaid : Prop := progRightRow.holds Tryz.pinned (OpenSpec.ofChange progRightSpec)

/-- ITS FALSE NEIGHBOUR: 'it returns false'. Refute it at one input. -/
def progRightWrong : ChangeSpec := { name := "progRight", fn := fun _ => fun
  | [d] => { results := [.lit (.bool false)], args := [d] }
  | _ => none }
def ProgRightWrongFalsely : Prop := progRightRow.holds Tryz.pinned (OpenSpec.ofChange progRightWrong)

/-- 'spinnakerlaw04.ProgBlanks': WHATEVER THE INPUT: true; the input reads as it did. -/
def progBlanksSpec : ChangeSpec := { name := "progBlanks", fn := fun _ => fun
  | [d] => { results := [.lit (.bool true)], args := [d] }
  | _ => none }
def progBlanksRow : OpenClaim := { program := "ytcghccjnadagcaagreatdoor", sum := "706788647490025a3a1eba22bb3f9255db7bceb04cdb2636789f50f56c9ca502", func := "spinnaker/spinnakerlaw04.ProgBlanks", spec := "progBlanks", inPlace := ["internal/abi.NoEscape", "internal/bytealg.MakeNoZero"], unfollowed := true, recurses := true, named := ["spinnaker/expr.signs", "spinnaker/prog.words", "spinnaker/stmt.fields", "internal/strconv.uint64pow10", "math/bits.deBruijn32tab", "math/bits.deBruijn64tab"], apart := false, laid := [("math/bits.deBruijn32tab", laid_math_bits_deBruijn32tab), ("math/bits.deBruijn64tab", laid_math_bits_deBruijn64tab), ("internal/strconv.uint64pow10", laid_internal_strconv_uint64pow10), ("spinnaker/expr.signs", laid_spinnaker_expr_signs), ("spinnaker/stmt.fields", laid_spinnaker_stmt_fields), ("spinnaker/prog.words", laid_spinnaker_prog_words)] }
def ProgBlanksSaid : Prop := progBlanksRow.holds Tryz.pinned (OpenSpec.ofChange progBlanksSpec)

/-- ITS FALSE NEIGHBOUR: 'it returns false'. Refute it at one input. -/
def progBlanksWrong : ChangeSpec := { name := "progBlanks", fn := fun _ => fun
  | [d] => { results := [.lit (.bool false)], args := [d] }
  | _ => none }
def ProgBlanksWrongFalsely : Prop := progBlanksRow.holds Tryz.pinned (OpenSpec.ofChange progBlanksWrong)

/- THE SECOND FORM. 'bulk': how many values and letters a reading holds, each counted each time it is reached (what is shared counts as often as it is met; a slice's spare places count too). A statement '..UptoSaid' is the law's where the arguments, and the package variables that the reading takes, are together of bulk at most 1048576: NARROWER than '..Said'. Prove '..Said' where nothing that the law and all that it calls make is longer than what came in: it says more and counts as full. Else prove '..UptoSaid'. A law counts once. -/
mutual
def uptoBulk {H : Type} : DataW H → Nat
  | .lit (.string bytes) => bytes.length + 1
  | .lit _ => 1
  | .nil => 1
  | .ptr d => uptoBulk d + 1
  | .slice elems spare => uptoBulkAll elems + uptoBulkAll spare + 1
  | .agg parts => uptoBulkAll parts + 1
  | .iface _ d => uptoBulk d + 1
  | .map entries => uptoBulkEntries entries + 1
  | .held _ => 1
def uptoBulkAll {H : Type} : List (DataW H) → Nat
  | [] => 0
  | d :: r => uptoBulk d + uptoBulkAll r
def uptoBulkEntries {H : Type} : List (Lit × DataW H) → Nat
  | [] => 0
  | x :: r => uptoBulkEntry x + uptoBulkEntries r
def uptoBulkEntry {H : Type} : Lit × DataW H → Nat
  | (.string bytes, d) => bytes.length + uptoBulk d + 1
  | (_, d) => uptoBulk d + 1
 end
def uptoSmall : (H : Type) → List (DataW H) → Bool := fun _ ds => decide (uptoBulkAll ds ≤ 1048576)
def OpenSpec.upto (s : _root_.Go.ChangeSpec) : _root_.Go.OpenSpec := { _root_.Go.OpenSpec.ofChange s with cond := some uptoSmall }

/-- 'spinnakerlaw04.ProgParses', WHERE WHAT IT READS IS OF BULK AT MOST 1048576: true; the input reads as it did. -/
def progParsesUptoRow : OpenClaim := { program := "ytcghccjnadagcaagreatdoor", sum := "706788647490025a3a1eba22bb3f9255db7bceb04cdb2636789f50f56c9ca502", func := "spinnaker/spinnakerlaw04.ProgParses", spec := "progParses", inPlace := ["internal/abi.NoEscape", "internal/bytealg.MakeNoZero"], unfollowed := true, recurses := true, named := ["spinnaker/expr.signs", "spinnaker/prog.words", "spinnaker/stmt.fields", "internal/strconv.uint64pow10", "math/bits.deBruijn32tab", "math/bits.deBruijn64tab"], apart := false, laid := [("math/bits.deBruijn32tab", laid_math_bits_deBruijn32tab), ("math/bits.deBruijn64tab", laid_math_bits_deBruijn64tab), ("internal/strconv.uint64pow10", laid_internal_strconv_uint64pow10), ("spinnaker/expr.signs", laid_spinnaker_expr_signs), ("spinnaker/stmt.fields", laid_spinnaker_stmt_fields), ("spinnaker/prog.words", laid_spinnaker_prog_words)], narrowed := true }
def ProgParsesUptoSaid : Prop := progParsesUptoRow.holds Tryz.pinned (OpenSpec.upto progParsesSpec)

/-- 'spinnakerlaw04.ProgShows', WHERE WHAT IT READS IS OF BULK AT MOST 1048576: true; the input reads as it did. -/
def progShowsUptoRow : OpenClaim := { program := "ytcghccjnadagcaagreatdoor", sum := "706788647490025a3a1eba22bb3f9255db7bceb04cdb2636789f50f56c9ca502", func := "spinnaker/spinnakerlaw04.ProgShows", spec := "progShows", inPlace := ["internal/abi.NoEscape", "internal/bytealg.MakeNoZero"], unfollowed := true, recurses := true, named := ["spinnaker/expr.signs", "spinnaker/prog.words", "spinnaker/stmt.fields", "internal/strconv.uint64pow10", "math/bits.deBruijn32tab", "math/bits.deBruijn64tab"], apart := false, laid := [("math/bits.deBruijn32tab", laid_math_bits_deBruijn32tab), ("math/bits.deBruijn64tab", laid_math_bits_deBruijn64tab), ("internal/strconv.uint64pow10", laid_internal_strconv_uint64pow10), ("spinnaker/expr.signs", laid_spinnaker_expr_signs), ("spinnaker/stmt.fields", laid_spinnaker_stmt_fields), ("spinnaker/prog.words", laid_spinnaker_prog_words)], narrowed := true }
def ProgShowsUptoSaid : Prop := progShowsUptoRow.holds Tryz.pinned (OpenSpec.upto progShowsSpec)

/-- 'spinnakerlaw04.ProgBack', WHERE WHAT IT READS IS OF BULK AT MOST 1048576: true; the input reads as it did. -/
def progBackUptoRow : OpenClaim := { program := "ytcghccjnadagcaagreatdoor", sum := "706788647490025a3a1eba22bb3f9255db7bceb04cdb2636789f50f56c9ca502", func := "spinnaker/spinnakerlaw04.ProgBack", spec := "progBack", inPlace := ["internal/abi.NoEscape", "internal/bytealg.MakeNoZero"], unfollowed := true, recurses := true, named := ["spinnaker/stmt.fields", "spinnaker/expr.signs", "spinnaker/prog.words", "internal/strconv.uint64pow10", "math/bits.deBruijn32tab", "math/bits.deBruijn64tab"], apart := false, laid := [("math/bits.deBruijn32tab", laid_math_bits_deBruijn32tab), ("math/bits.deBruijn64tab", laid_math_bits_deBruijn64tab), ("internal/strconv.uint64pow10", laid_internal_strconv_uint64pow10), ("spinnaker/expr.signs", laid_spinnaker_expr_signs), ("spinnaker/stmt.fields", laid_spinnaker_stmt_fields), ("spinnaker/prog.words", laid_spinnaker_prog_words)], narrowed := true }
def ProgBackUptoSaid : Prop := progBackUptoRow.holds Tryz.pinned (OpenSpec.upto progBackSpec)

/-- 'spinnakerlaw04.ProgRight', WHERE WHAT IT READS IS OF BULK AT MOST 1048576: true; the input reads as it did. -/
def progRightUptoRow : OpenClaim := { program := "ytcghccjnadagcaagreatdoor", sum := "706788647490025a3a1eba22bb3f9255db7bceb04cdb2636789f50f56c9ca502", func := "spinnaker/spinnakerlaw04.ProgRight", spec := "progRight", inPlace := ["internal/abi.NoEscape", "internal/bytealg.MakeNoZero"], unfollowed := true, recurses := true, named := ["spinnaker/expr.signs", "spinnaker/prog.words", "spinnaker/stmt.fields", "internal/strconv.uint64pow10", "math/bits.deBruijn32tab", "math/bits.deBruijn64tab"], apart := false, laid := [("math/bits.deBruijn32tab", laid_math_bits_deBruijn32tab), ("math/bits.deBruijn64tab", laid_math_bits_deBruijn64tab), ("internal/strconv.uint64pow10", laid_internal_strconv_uint64pow10), ("spinnaker/expr.signs", laid_spinnaker_expr_signs), ("spinnaker/stmt.fields", laid_spinnaker_stmt_fields), ("spinnaker/prog.words", laid_spinnaker_prog_words)], narrowed := true }
def ProgRightUptoSaid : Prop := progRightUptoRow.holds Tryz.pinned (OpenSpec.upto progRightSpec)

/-- 'spinnakerlaw04.ProgBlanks', WHERE WHAT IT READS IS OF BULK AT MOST 1048576: true; the input reads as it did. -/
def progBlanksUptoRow : OpenClaim := { program := "ytcghccjnadagcaagreatdoor", sum := "706788647490025a3a1eba22bb3f9255db7bceb04cdb2636789f50f56c9ca502", func := "spinnaker/spinnakerlaw04.ProgBlanks", spec := "progBlanks", inPlace := ["internal/abi.NoEscape", "internal/bytealg.MakeNoZero"], unfollowed := true, recurses := true, named := ["spinnaker/expr.signs", "spinnaker/prog.words", "spinnaker/stmt.fields", "internal/strconv.uint64pow10", "math/bits.deBruijn32tab", "math/bits.deBruijn64tab"], apart := false, laid := [("math/bits.deBruijn32tab", laid_math_bits_deBruijn32tab), ("math/bits.deBruijn64tab", laid_math_bits_deBruijn64tab), ("internal/strconv.uint64pow10", laid_internal_strconv_uint64pow10), ("spinnaker/expr.signs", laid_spinnaker_expr_signs), ("spinnaker/stmt.fields", laid_spinnaker_stmt_fields), ("spinnaker/prog.words", laid_spinnaker_prog_words)], narrowed := true }
def ProgBlanksUptoSaid : Prop := progBlanksUptoRow.holds Tryz.pinned (OpenSpec.upto progBlanksSpec)

end Rows
end Go.Proofs.YtcghccjnadagcaaGreatDoor
