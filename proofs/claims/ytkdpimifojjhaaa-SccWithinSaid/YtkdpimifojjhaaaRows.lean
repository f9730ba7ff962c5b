/-
  No cell of these rows narrows 'for every input' (looked for: loops, veiled, ifaces, maps, wideKeys, modest, calm, conditions, laid).
  DERIVED. THE GIVEN ROWS OF THIS SEAT. 5 by the template 'for every input the law returns true; each argument reads behind the call as it read before'; 0 by the template 'total and deterministic' (their statements: YtkdpimifojjhaaaTotals.lean).
  GIVEN WITH THE SEED: the statements are not yours to turn. If you find one false, say at which input.
  Laid BY PROGRAM, IN A SANDBOX (cutbox-rows.mjs): the forced cells as the released guide's own fill.sh prints them over the translation 501cb0fe4199ee9a… (all of the seat's roots in one cut). By AI agents, Wed Nov 11 2026. No macro, syntax, notation, axiom, sorry.
-/
import Derived.Test.YtkdpimifojjhaaaChecked
import GoSem.Claim
import GoSem.ClaimJoined
import GoSem.ClaimMapViews
import Derived.JoinedTies
import Derived.KernelRfl
namespace Go.Proofs.Ytkdpimifojjhaaa
/- THE CELL 'sum', in the pinned program and in every row, IS THE sha256 OF THE DUMP (.gsa) THAT YtkdpimifojjhaaaProg.lean LOADS. Nothing in Lean hashes anything: it is a label: what it is worth is what the hold of that sum in a sandbox is worth. -/
noncomputable def Try.pinned : Pinned := { name := "ytkdpimifojjhaaa", sum := "501cb0fe4199ee9a871d370fcc5db0983de786c38da4e8b2d35b8bf2d04325c0", checked := Try.checked }
namespace Rows
def none {H : Type} : Left H := { results := [], args := [] }

/-- 'spinnakerlaw17.SccParts': WHATEVER THE INPUT: true; the input reads as it did. -/
def sccPartsSpec : ChangeSpec := { name := "sccParts", fn := fun _ => fun
  | [d] => { results := [.lit (.bool true)], args := [d] }
  | _ => none }
def sccPartsRow : OpenClaim := { program := "ytkdpimifojjhaaa", sum := "501cb0fe4199ee9a871d370fcc5db0983de786c38da4e8b2d35b8bf2d04325c0", func := "spinnaker/spinnakerlaw17.SccParts", spec := "sccParts", unfollowed := true, recurses := true, apart := false }
def SccPartsSaid : Prop := sccPartsRow.holds Try.pinned (OpenSpec.ofChange sccPartsSpec)

/-- ITS FALSE NEIGHBOUR: 'it returns false'. Refute it at one input. -/
def sccPartsWrong : ChangeSpec := { name := "sccParts", fn := fun _ => fun
  | [d] => { results := [.lit (.bool false)], args := [d] }
  | _ => none }
def SccPartsWrongFalsely : Prop := sccPartsRow.holds Try.pinned (OpenSpec.ofChange sccPartsWrong)

/-- 'spinnakerlaw17.SccWithin': WHATEVER THE INPUT: true; the input reads as it did. -/
def sccWithinSpec : ChangeSpec := { name := "sccWithin", fn := fun _ => fun
  | [d1, d2, d3] => { results := [.lit (.bool true)], args := [d1, d2, d3] }
  | _ => none }
def sccWithinRow : OpenClaim := { program := "ytkdpimifojjhaaa", sum := "501cb0fe4199ee9a871d370fcc5db0983de786c38da4e8b2d35b8bf2d04325c0", func := "spinnaker/spinnakerlaw17.SccWithin", spec := "sccWithin", unfollowed := true, recurses := true, apart := false }
def SccWithinSaid : Prop := sccWithinRow.holds Try.pinned (OpenSpec.ofChange sccWithinSpec)

/-- ITS FALSE NEIGHBOUR: 'it returns false'. Refute it at one input. -/
def sccWithinWrong : ChangeSpec := { name := "sccWithin", fn := fun _ => fun
  | [d1, d2, d3] => { results := [.lit (.bool false)], args := [d1, d2, d3] }
  | _ => none }
def SccWithinWrongFalsely : Prop := sccWithinRow.holds Try.pinned (OpenSpec.ofChange sccWithinWrong)

/-- 'spinnakerlaw17.SccOrder': WHATEVER THE INPUT: true; the input reads as it did. -/
def sccOrderSpec : ChangeSpec := { name := "sccOrder", fn := fun _ => fun
  | [d] => { results := [.lit (.bool true)], args := [d] }
  | _ => none }
def sccOrderRow : OpenClaim := { program := "ytkdpimifojjhaaa", sum := "501cb0fe4199ee9a871d370fcc5db0983de786c38da4e8b2d35b8bf2d04325c0", func := "spinnaker/spinnakerlaw17.SccOrder", spec := "sccOrder", unfollowed := true, recurses := true, apart := false }
def SccOrderSaid : Prop := sccOrderRow.holds Try.pinned (OpenSpec.ofChange sccOrderSpec)

/-- ITS FALSE NEIGHBOUR: 'it returns false'. Refute it at one input. -/
def sccOrderWrong : ChangeSpec := { name := "sccOrder", fn := fun _ => fun
  | [d] => { results := [.lit (.bool false)], args := [d] }
  | _ => none }
def SccOrderWrongFalsely : Prop := sccOrderRow.holds Try.pinned (OpenSpec.ofChange sccOrderWrong)

/-- 'spinnakerlaw17.SccRing': WHATEVER THE INPUT: true; the input reads as it did. -/
def sccRingSpec : ChangeSpec := { name := "sccRing", fn := fun _ => fun
  | [d1, d2] => { results := [.lit (.bool true)], args := [d1, d2] }
  | _ => none }
def sccRingRow : OpenClaim := { program := "ytkdpimifojjhaaa", sum := "501cb0fe4199ee9a871d370fcc5db0983de786c38da4e8b2d35b8bf2d04325c0", func := "spinnaker/spinnakerlaw17.SccRing", spec := "sccRing", unfollowed := true, recurses := true, apart := false }
def SccRingSaid : Prop := sccRingRow.holds Try.pinned (OpenSpec.ofChange sccRingSpec)

/-- ITS FALSE NEIGHBOUR: 'it returns false'. Refute it at one input. -/
def sccRingWrong : ChangeSpec := { name := "sccRing", fn := fun _ => fun
  | [d1, d2] => { results := [.lit (.bool false)], args := [d1, d2] }
  | _ => none }
def SccRingWrongFalsely : Prop := sccRingRow.holds Try.pinned (OpenSpec.ofChange sccRingWrong)

/-- 'spinnakerlaw17.SccBack': WHATEVER THE INPUT: true; the input reads as it did. -/
def sccBackSpec : ChangeSpec := { name := "sccBack", fn := fun _ => fun
  | [d] => { results := [.lit (.bool true)], args := [d] }
  | _ => none }
def sccBackRow : OpenClaim := { program := "ytkdpimifojjhaaa", sum := "501cb0fe4199ee9a871d370fcc5db0983de786c38da4e8b2d35b8bf2d04325c0", func := "spinnaker/spinnakerlaw17.SccBack", spec := "sccBack", unfollowed := true, recurses := true, apart := false }
def SccBackSaid : Prop := sccBackRow.holds Try.pinned (OpenSpec.ofChange sccBackSpec)

/-- ITS FALSE NEIGHBOUR: 'it returns false'. Refute it at one input. -/
def sccBackWrong : ChangeSpec := { name := "sccBack", fn := fun _ => fun
  | [d] => { results := [.lit (.bool false)], args := [d] }
  | _ => none }
def SccBackWrongFalsely : Prop := sccBackRow.holds Try.pinned (OpenSpec.ofChange sccBackWrong)

/- THE SECOND FORM. 'bulk': how many values and letters a reading holds, each counted each time it is reached (what is shared counts as often as it is met; a slice's spare places count too). A statement '..UptoSaid' is the law's where the arguments, and the package variables that the reading takes, are together of bulk at most 1048576: NARROWER than '..Said'. Prove '..Said' where nothing that the law and all that it calls make is longer than what came in: it says more and counts as full. Else prove '..UptoSaid'. A law counts once. -/
mutual
def uptoBulk {H : Type} : DataW H → Nat
  | .lit (.string bytes) => bytes.length + 1
  | .lit _ => 1
  | .nil => 1
  | .ptr d => uptoBulk d + 1
  | .slice elems spare => uptoBulkAll elems + uptoBulkAll spare + 1
  | .agg parts => uptoBulkAll parts + 1
  | .iface _ d => uptoBulk d + 1
  | .map entries => uptoBulkEntries entries + 1
  | .held _ => 1
def uptoBulkAll {H : Type} : List (DataW H) → Nat
  | [] => 0
  | d :: r => uptoBulk d + uptoBulkAll r
def uptoBulkEntries {H : Type} : List (Lit × DataW H) → Nat
  | [] => 0
  | x :: r => uptoBulkEntry x + uptoBulkEntries r
def uptoBulkEntry {H : Type} : Lit × DataW H → Nat
  | (.string bytes, d) => bytes.length + uptoBulk d + 1
  | (_, d) => uptoBulk d + 1
 end
def uptoSmall : (H : Type) → List (DataW H) → Bool := fun _ ds => decide (uptoBulkAll ds ≤ 1048576)
def OpenSpec.upto (s : _root_.Go.ChangeSpec) : _root_.Go.OpenSpec := { _root_.Go.OpenSpec.ofChange s with cond := some uptoSmall }

/-- 'spinnakerlaw17.SccParts', WHERE WHAT IT READS IS OF BULK AT MOST 1048576: true; the input reads as it did. -/
def sccPartsUptoRow : OpenClaim := { program := "ytkdpimifojjhaaa", sum := "501cb0fe4199ee9a871d370fcc5db0983de786c38da4e8b2d35b8bf2d04325c0", func := "spinnaker/spinnakerlaw17.SccParts", spec := "sccParts", unfollowed := true, recurses := true, apart := false, narrowed := true }
def SccPartsUptoSaid : Prop := sccPartsUptoRow.holds Try.pinned (OpenSpec.upto sccPartsSpec)

/-- 'spinnakerlaw17.SccWithin', WHERE WHAT IT READS IS OF BULK AT MOST 1048576: true; the input reads as it did. -/
def sccWithinUptoRow : OpenClaim := { program := "ytkdpimifojjhaaa", sum := "501cb0fe4199ee9a871d370fcc5db0983de786c38da4e8b2d35b8bf2d04325c0", func := "spinnaker/spinnakerlaw17.SccWithin", spec := "sccWithin", unfollowed := true, recurses := true, apart := false, narrowed := true }
def SccWithinUptoSaid : Prop := sccWithinUptoRow.holds Try.pinned (OpenSpec.upto sccWithinSpec)

/-- 'spinnakerlaw17.SccOrder', WHERE WHAT IT READS IS OF BULK AT MOST 1048576: true; the input reads as it did. -/
def sccOrderUptoRow : OpenClaim := { program := "ytkdpimifojjhaaa", sum := "501cb0fe4199ee9a871d370fcc5db0983de786c38da4e8b2d35b8bf2d04325c0", func := "spinnaker/spinnakerlaw17.SccOrder", spec := "sccOrder", unfollowed := true, recurses := true, apart := false, narrowed := true }
def SccOrderUptoSaid : Prop := sccOrderUptoRow.holds Try.pinned (OpenSpec.upto sccOrderSpec)

/-- 'spinnakerlaw17.SccRing', WHERE WHAT IT READS IS OF BULK AT MOST 1048576: true; the input reads as it did. -/
def sccRingUptoRow : OpenClaim := { program := "ytkdpimifojjhaaa", sum := "501cb0fe4199ee9a871d370fcc5db0983de786c38da4e8b2d35b8bf2d04325c0", func := "spinnaker/spinnakerlaw17.SccRing", spec := "sccRing", unfollowed := true, recurses := true, apart := false, narrowed := true }
def SccRingUptoSaid : Prop := sccRingUptoRow.holds Try.pinned (OpenSpec.upto sccRingSpec)

/-- 'spinnakerlaw17.SccBack', WHERE WHAT IT READS IS OF BULK AT MOST 1048576: true; the input reads as it did. -/
def sccBackUptoRow : OpenClaim := { program := "ytkdpimifojjhaaa", sum := "501cb0fe4199ee9a871d370fcc5db0983de786c38da4e8b2d35b8bf2d04325c0", func := "spinnaker/spinnakerlaw17.SccBack", spec := "sccBack", unfollowed := true, recurses := true, apart := false, narrowed := true }
def SccBackUptoSaid : Prop := sccBackUptoRow.holds Try.pinned (OpenSpec.upto sccBackSpec)

end Rows
end Go.Proofs.Ytkdpimifojjhaaa
