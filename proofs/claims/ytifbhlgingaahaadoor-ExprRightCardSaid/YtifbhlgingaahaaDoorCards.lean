/-
  DERIVED. GIVEN WITH THE SEED: THE CARDS: each row of YtifbhlgingaahaaDoorRows.lean that lists a variable, with what it lists TIED to the program's text (the seventh form; the later family's looks); each row that meets fmt, with fmt's text TOLD by the authors' own Lean function (tested against real Go, not proved from fmt's source: count such statements apart). THE CARD IS WHAT COUNTS. Prove the row's statement (the work); the ties are given (YtifbhlgingaahaaDoorTie.lean); close each card by the builder's one call (the guide's Derived/Test/ToyasCard.lean, 'card_holds'). Laid BY PROGRAM, IN A SANDBOX (cutbox-door.mjs). By AI agents, Wed Nov 11 2026. No macro, syntax, notation, axiom, sorry.
-/
import Derived.Test.YtifbhlgingaahaaDoorRows
import GoSem.ClaimSeven
namespace Go.Proofs.YtifbhlgingaahaaDoor
namespace Rows

/-- THE TIED CARD OF 'spinnakerlaw02.ExprShows'. -/
def exprShowsCard : Claim7 := { stood := { row := exprShowsRow, standIns := [], harness := (true, "92be97c160f9e8c6f06f98685dd478be0fd2911c0b3acf8e17fc0867f5510c69"), looks := false }, kinds := [], alts := [], laidByText := true, laidKinds := [.data, .data, .data, .data], laidTests := true, laidLooks := .later }
def ExprShowsCardSaid : Prop := Claim7.holds Tryd.pinned (.plain (OpenSpec.ofChange exprShowsSpec)) exprShowsCard

/-- THE TIED CARD OF 'spinnakerlaw02.ExprBack'. -/
def exprBackCard : Claim7 := { stood := { row := exprBackRow, standIns := [], harness := (true, "92be97c160f9e8c6f06f98685dd478be0fd2911c0b3acf8e17fc0867f5510c69"), looks := false }, kinds := [], alts := [], laidByText := true, laidKinds := [.data, .data, .data, .data], laidTests := true, laidLooks := .later }
def ExprBackCardSaid : Prop := Claim7.holds Tryd.pinned (.plain (OpenSpec.ofChange exprBackSpec)) exprBackCard

/-- THE TIED CARD OF 'spinnakerlaw02.ExprRight'. -/
def exprRightCard : Claim7 := { stood := { row := exprRightRow, standIns := [], harness := (true, "92be97c160f9e8c6f06f98685dd478be0fd2911c0b3acf8e17fc0867f5510c69"), looks := false }, kinds := [], alts := [], laidByText := true, laidKinds := [.data, .data, .data, .data], laidTests := true, laidLooks := .later }
def ExprRightCardSaid : Prop := Claim7.holds Tryd.pinned (.plain (OpenSpec.ofChange exprRightSpec)) exprRightCard

/-- THE SECOND FORM's CARD OF 'spinnakerlaw02.ExprShows'. -/
def exprShowsUptoCard : Claim7 := { stood := { row := exprShowsUptoRow, standIns := [], harness := (true, "92be97c160f9e8c6f06f98685dd478be0fd2911c0b3acf8e17fc0867f5510c69"), looks := false }, kinds := [], alts := [], laidByText := true, laidKinds := [.data, .data, .data, .data], laidTests := true, laidLooks := .later }
def ExprShowsUptoCardSaid : Prop := Claim7.holds Tryd.pinned (.plain (OpenSpec.upto exprShowsSpec)) exprShowsUptoCard

/-- THE SECOND FORM's CARD OF 'spinnakerlaw02.ExprBack'. -/
def exprBackUptoCard : Claim7 := { stood := { row := exprBackUptoRow, standIns := [], harness := (true, "92be97c160f9e8c6f06f98685dd478be0fd2911c0b3acf8e17fc0867f5510c69"), looks := false }, kinds := [], alts := [], laidByText := true, laidKinds := [.data, .data, .data, .data], laidTests := true, laidLooks := .later }
def ExprBackUptoCardSaid : Prop := Claim7.holds Tryd.pinned (.plain (OpenSpec.upto exprBackSpec)) exprBackUptoCard

/-- THE SECOND FORM's CARD OF 'spinnakerlaw02.ExprRight'. -/
def exprRightUptoCard : Claim7 := { stood := { row := exprRightUptoRow, standIns := [], harness := (true, "92be97c160f9e8c6f06f98685dd478be0fd2911c0b3acf8e17fc0867f5510c69"), looks := false }, kinds := [], alts := [], laidByText := true, laidKinds := [.data, .data, .data, .data], laidTests := true, laidLooks := .later }
def ExprRightUptoCardSaid : Prop := Claim7.holds Tryd.pinned (.plain (OpenSpec.upto exprRightSpec)) exprRightUptoCard
end Rows
end Go.Proofs.YtifbhlgingaahaaDoor
