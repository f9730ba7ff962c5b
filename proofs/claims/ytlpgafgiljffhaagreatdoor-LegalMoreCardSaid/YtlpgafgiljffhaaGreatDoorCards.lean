/-
  DERIVED. GIVEN WITH THE SEED: THE CARDS: each row of YtlpgafgiljffhaaGreatDoorRows.lean that lists a variable, with what it lists TIED to the program's text (the seventh form; the later family's looks); each row that meets fmt, with fmt's text TOLD by the authors' own Lean function (tested against real Go, not proved from fmt's source: count such statements apart). THE CARD IS WHAT COUNTS. Prove the row's statement (the work); the ties are given (YtlpgafgiljffhaaGreatDoorTie.lean); close each card by the builder's one call (the guide's Derived/Test/ToyasCard.lean, 'card_holds'). Laid BY PROGRAM, IN A SANDBOX (cutbox-door.mjs). By AI agents, Wed Nov 11 2026. No macro, syntax, notation, axiom, sorry.
-/
import Derived.Test.YtlpgafgiljffhaaGreatDoorRows
import GoSem.ClaimSeven
namespace Go.Proofs.YtlpgafgiljffhaaGreatDoor
namespace Rows

/-- THE TIED CARD OF 'spinnakerlaw05.LegalChecks'. -/
def legalChecksCard : Claim7 := { stood := { row := legalChecksRow, standIns := [], harness := (true, "0517573ad065ed08d70782cc362e97e711f93a1cd22b15c59b5ddb50f0291e46"), looks := false }, kinds := [], alts := [], laidByText := true, laidKinds := [.data], laidTests := true, laidLooks := .later }
def LegalChecksCardSaid : Prop := Claim7.holds Tryz.pinned (.plain (OpenSpec.ofChange legalChecksSpec)) legalChecksCard

/-- THE TIED CARD OF 'spinnakerlaw05.LegalTexts'. -/
def legalTextsCard : Claim7 := { stood := { row := legalTextsRow, standIns := [], harness := (true, "0517573ad065ed08d70782cc362e97e711f93a1cd22b15c59b5ddb50f0291e46"), looks := false }, kinds := [], alts := [], laidByText := true, laidKinds := [.data], laidTests := true, laidLooks := .later }
def LegalTextsCardSaid : Prop := Claim7.holds Tryz.pinned (.plain (OpenSpec.ofChange legalTextsSpec)) legalTextsCard

/-- THE TIED CARD OF 'spinnakerlaw05.LegalNames'. -/
def legalNamesCard : Claim7 := { stood := { row := legalNamesRow, standIns := [], harness := (true, "0517573ad065ed08d70782cc362e97e711f93a1cd22b15c59b5ddb50f0291e46"), looks := false }, kinds := [], alts := [], laidByText := true, laidKinds := [.data], laidTests := true, laidLooks := .later }
def LegalNamesCardSaid : Prop := Claim7.holds Tryz.pinned (.plain (OpenSpec.ofChange legalNamesSpec)) legalNamesCard

/-- THE TIED CARD OF 'spinnakerlaw05.LegalLess'. -/
def legalLessCard : Claim7 := { stood := { row := legalLessRow, standIns := [], harness := (true, "0517573ad065ed08d70782cc362e97e711f93a1cd22b15c59b5ddb50f0291e46"), looks := false }, kinds := [], alts := [], laidByText := true, laidKinds := [.data], laidTests := true, laidLooks := .later }
def LegalLessCardSaid : Prop := Claim7.holds Tryz.pinned (.plain (OpenSpec.ofChange legalLessSpec)) legalLessCard

/-- THE TIED CARD OF 'spinnakerlaw05.LegalMore'. -/
def legalMoreCard : Claim7 := { stood := { row := legalMoreRow, standIns := [], harness := (true, "0517573ad065ed08d70782cc362e97e711f93a1cd22b15c59b5ddb50f0291e46"), looks := false }, kinds := [], alts := [], laidByText := true, laidKinds := [.data], laidTests := true, laidLooks := .later }
def LegalMoreCardSaid : Prop := Claim7.holds Tryz.pinned (.plain (OpenSpec.ofChange legalMoreSpec)) legalMoreCard

/-- THE SECOND FORM's CARD OF 'spinnakerlaw05.LegalChecks'. -/
def legalChecksUptoCard : Claim7 := { stood := { row := legalChecksUptoRow, standIns := [], harness := (true, "0517573ad065ed08d70782cc362e97e711f93a1cd22b15c59b5ddb50f0291e46"), looks := false }, kinds := [], alts := [], laidByText := true, laidKinds := [.data], laidTests := true, laidLooks := .later }
def LegalChecksUptoCardSaid : Prop := Claim7.holds Tryz.pinned (.plain (OpenSpec.upto legalChecksSpec)) legalChecksUptoCard

/-- THE SECOND FORM's CARD OF 'spinnakerlaw05.LegalTexts'. -/
def legalTextsUptoCard : Claim7 := { stood := { row := legalTextsUptoRow, standIns := [], harness := (true, "0517573ad065ed08d70782cc362e97e711f93a1cd22b15c59b5ddb50f0291e46"), looks := false }, kinds := [], alts := [], laidByText := true, laidKinds := [.data], laidTests := true, laidLooks := .later }
def LegalTextsUptoCardSaid : Prop := Claim7.holds Tryz.pinned (.plain (OpenSpec.upto legalTextsSpec)) legalTextsUptoCard

/-- THE SECOND FORM's CARD OF 'spinnakerlaw05.LegalNames'. -/
def legalNamesUptoCard : Claim7 := { stood := { row := legalNamesUptoRow, standIns := [], harness := (true, "0517573ad065ed08d70782cc362e97e711f93a1cd22b15c59b5ddb50f0291e46"), looks := false }, kinds := [], alts := [], laidByText := true, laidKinds := [.data], laidTests := true, laidLooks := .later }
def LegalNamesUptoCardSaid : Prop := Claim7.holds Tryz.pinned (.plain (OpenSpec.upto legalNamesSpec)) legalNamesUptoCard

/-- THE SECOND FORM's CARD OF 'spinnakerlaw05.LegalLess'. -/
def legalLessUptoCard : Claim7 := { stood := { row := legalLessUptoRow, standIns := [], harness := (true, "0517573ad065ed08d70782cc362e97e711f93a1cd22b15c59b5ddb50f0291e46"), looks := false }, kinds := [], alts := [], laidByText := true, laidKinds := [.data], laidTests := true, laidLooks := .later }
def LegalLessUptoCardSaid : Prop := Claim7.holds Tryz.pinned (.plain (OpenSpec.upto legalLessSpec)) legalLessUptoCard

/-- THE SECOND FORM's CARD OF 'spinnakerlaw05.LegalMore'. -/
def legalMoreUptoCard : Claim7 := { stood := { row := legalMoreUptoRow, standIns := [], harness := (true, "0517573ad065ed08d70782cc362e97e711f93a1cd22b15c59b5ddb50f0291e46"), looks := false }, kinds := [], alts := [], laidByText := true, laidKinds := [.data], laidTests := true, laidLooks := .later }
def LegalMoreUptoCardSaid : Prop := Claim7.holds Tryz.pinned (.plain (OpenSpec.upto legalMoreSpec)) legalMoreUptoCard
end Rows
end Go.Proofs.YtlpgafgiljffhaaGreatDoor
