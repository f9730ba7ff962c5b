/-
  DERIVED. GIVEN WITH THE SEED: THE CARDS: each row of YtcghccjnadagcaaGreatDoorRows.lean that lists a variable, with what it lists TIED to the program's text (the seventh form; the later family's looks); each row that meets fmt, with fmt's text TOLD by the authors' own Lean function (tested against real Go, not proved from fmt's source: count such statements apart). THE CARD IS WHAT COUNTS. Prove the row's statement (the work); the ties are given (YtcghccjnadagcaaGreatDoorTie.lean); close each card by the builder's one call (the guide's Derived/Test/ToyasCard.lean, 'card_holds'). Laid BY PROGRAM, IN A SANDBOX (cutbox-door.mjs). By AI agents, Wed Nov 11 2026. No macro, syntax, notation, axiom, sorry.
-/
import Derived.Test.YtcghccjnadagcaaGreatDoorRows
import GoSem.ClaimSeven
namespace Go.Proofs.YtcghccjnadagcaaGreatDoor
namespace Rows

/-- THE TIED CARD OF 'spinnakerlaw04.ProgParses'. -/
def progParsesCard : Claim7 := { stood := { row := progParsesRow, standIns := [], harness := (true, "19bb8aa1d8061144c491f764c0f8ea02cd7951f68cd56ffc1c4bb9faba466245"), looks := false }, kinds := [], alts := [], laidByText := true, laidKinds := [.data, .data, .data, .data, .data, .data], laidTests := true, laidLooks := .later }
def ProgParsesCardSaid : Prop := Claim7.holds Tryz.pinned (.plain (OpenSpec.ofChange progParsesSpec)) progParsesCard

/-- THE TIED CARD OF 'spinnakerlaw04.ProgShows'. -/
def progShowsCard : Claim7 := { stood := { row := progShowsRow, standIns := [], harness := (true, "19bb8aa1d8061144c491f764c0f8ea02cd7951f68cd56ffc1c4bb9faba466245"), looks := false }, kinds := [], alts := [], laidByText := true, laidKinds := [.data, .data, .data, .data, .data, .data], laidTests := true, laidLooks := .later }
def ProgShowsCardSaid : Prop := Claim7.holds Tryz.pinned (.plain (OpenSpec.ofChange progShowsSpec)) progShowsCard

/-- THE TIED CARD OF 'spinnakerlaw04.ProgBack'. -/
def progBackCard : Claim7 := { stood := { row := progBackRow, standIns := [], harness := (true, "19bb8aa1d8061144c491f764c0f8ea02cd7951f68cd56ffc1c4bb9faba466245"), looks := false }, kinds := [], alts := [], laidByText := true, laidKinds := [.data, .data, .data, .data, .data, .data], laidTests := true, laidLooks := .later }
def ProgBackCardSaid : Prop := Claim7.holds Tryz.pinned (.plain (OpenSpec.ofChange progBackSpec)) progBackCard

/-- THE TIED CARD OF 'spinnakerlaw04.ProgRight'. -/
def progRightCard : Claim7 := { stood := { row := progRightRow, standIns := [], harness := (true, "19bb8aa1d8061144c491f764c0f8ea02cd7951f68cd56ffc1c4bb9faba466245"), looks := false }, kinds := [], alts := [], laidByText := true, laidKinds := [.data, .data, .data, .data, .data, .data], laidTests := true, laidLooks := .later }
def ProgRightCardSaid : Prop := Claim7.holds Tryz.pinned (.plain (OpenSpec.ofChange progRightSpec)) progRightCard

/-- THE TIED CARD OF 'spinnakerlaw04.ProgBlanks'. -/
def progBlanksCard : Claim7 := { stood := { row := progBlanksRow, standIns := [], harness := (true, "19bb8aa1d8061144c491f764c0f8ea02cd7951f68cd56ffc1c4bb9faba466245"), looks := false }, kinds := [], alts := [], laidByText := true, laidKinds := [.data, .data, .data, .data, .data, .data], laidTests := true, laidLooks := .later }
def ProgBlanksCardSaid : Prop := Claim7.holds Tryz.pinned (.plain (OpenSpec.ofChange progBlanksSpec)) progBlanksCard

/-- THE SECOND FORM's CARD OF 'spinnakerlaw04.ProgParses'. -/
def progParsesUptoCard : Claim7 := { stood := { row := progParsesUptoRow, standIns := [], harness := (true, "19bb8aa1d8061144c491f764c0f8ea02cd7951f68cd56ffc1c4bb9faba466245"), looks := false }, kinds := [], alts := [], laidByText := true, laidKinds := [.data, .data, .data, .data, .data, .data], laidTests := true, laidLooks := .later }
def ProgParsesUptoCardSaid : Prop := Claim7.holds Tryz.pinned (.plain (OpenSpec.upto progParsesSpec)) progParsesUptoCard

/-- THE SECOND FORM's CARD OF 'spinnakerlaw04.ProgShows'. -/
def progShowsUptoCard : Claim7 := { stood := { row := progShowsUptoRow, standIns := [], harness := (true, "19bb8aa1d8061144c491f764c0f8ea02cd7951f68cd56ffc1c4bb9faba466245"), looks := false }, kinds := [], alts := [], laidByText := true, laidKinds := [.data, .data, .data, .data, .data, .data], laidTests := true, laidLooks := .later }
def ProgShowsUptoCardSaid : Prop := Claim7.holds Tryz.pinned (.plain (OpenSpec.upto progShowsSpec)) progShowsUptoCard

/-- THE SECOND FORM's CARD OF 'spinnakerlaw04.ProgBack'. -/
def progBackUptoCard : Claim7 := { stood := { row := progBackUptoRow, standIns := [], harness := (true, "19bb8aa1d8061144c491f764c0f8ea02cd7951f68cd56ffc1c4bb9faba466245"), looks := false }, kinds := [], alts := [], laidByText := true, laidKinds := [.data, .data, .data, .data, .data, .data], laidTests := true, laidLooks := .later }
def ProgBackUptoCardSaid : Prop := Claim7.holds Tryz.pinned (.plain (OpenSpec.upto progBackSpec)) progBackUptoCard

/-- THE SECOND FORM's CARD OF 'spinnakerlaw04.ProgRight'. -/
def progRightUptoCard : Claim7 := { stood := { row := progRightUptoRow, standIns := [], harness := (true, "19bb8aa1d8061144c491f764c0f8ea02cd7951f68cd56ffc1c4bb9faba466245"), looks := false }, kinds := [], alts := [], laidByText := true, laidKinds := [.data, .data, .data, .data, .data, .data], laidTests := true, laidLooks := .later }
def ProgRightUptoCardSaid : Prop := Claim7.holds Tryz.pinned (.plain (OpenSpec.upto progRightSpec)) progRightUptoCard

/-- THE SECOND FORM's CARD OF 'spinnakerlaw04.ProgBlanks'. -/
def progBlanksUptoCard : Claim7 := { stood := { row := progBlanksUptoRow, standIns := [], harness := (true, "19bb8aa1d8061144c491f764c0f8ea02cd7951f68cd56ffc1c4bb9faba466245"), looks := false }, kinds := [], alts := [], laidByText := true, laidKinds := [.data, .data, .data, .data, .data, .data], laidTests := true, laidLooks := .later }
def ProgBlanksUptoCardSaid : Prop := Claim7.holds Tryz.pinned (.plain (OpenSpec.upto progBlanksSpec)) progBlanksUptoCard
end Rows
end Go.Proofs.YtcghccjnadagcaaGreatDoor
