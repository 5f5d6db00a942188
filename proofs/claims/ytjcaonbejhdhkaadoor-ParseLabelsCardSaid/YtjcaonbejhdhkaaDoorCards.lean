/-
  DERIVED. GIVEN WITH THE SEED: THE CARDS: each row of YtjcaonbejhdhkaaDoorRows.lean that lists a variable, with what it lists TIED to the program's text (the seventh form; the later family's looks); each row that meets fmt, with fmt's text TOLD by the authors' own Lean function (tested against real Go, not proved from fmt's source: count such statements apart). THE CARD IS WHAT COUNTS. Prove the row's statement (the work); the ties are given (YtjcaonbejhdhkaaDoorTie.lean); close each card by the builder's one call (the guide's Derived/Test/ToyasCard.lean, 'card_holds'). Laid BY PROGRAM, IN A SANDBOX (cutbox-door.mjs). By AI agents, Wed Nov 11 2026. No macro, syntax, notation, axiom, sorry.
-/
import Derived.Test.YtjcaonbejhdhkaaDoorRows
import GoSem.ClaimSeven
namespace Go.Proofs.YtjcaonbejhdhkaaDoor
namespace Rows

/-- THE TIED CARD OF 'slotcodelaw09.ParseLines'. -/
def parseLinesCard : Claim7 := { stood := { row := parseLinesRow, standIns := [], harness := (true, "a1f8b87e6dbda903701e963bda931e5c0b24fd5eccdf74e2e04c504231cc5742"), looks := true }, kinds := [], alts := [], laidByText := true, laidKinds := [.data, .data], laidTests := true, laidLooks := .later }
def ParseLinesCardSaid : Prop := Claim7.holds Tryd.pinned (.plain (OpenSpec.ofChange parseLinesSpec)) parseLinesCard

/-- THE TIED CARD OF 'slotcodelaw09.ParseStatements'. -/
def parseStatementsCard : Claim7 := { stood := { row := parseStatementsRow, standIns := [], harness := (true, "a1f8b87e6dbda903701e963bda931e5c0b24fd5eccdf74e2e04c504231cc5742"), looks := true }, kinds := [], alts := [], laidByText := true, laidKinds := [.data, .data], laidTests := true, laidLooks := .later }
def ParseStatementsCardSaid : Prop := Claim7.holds Tryd.pinned (.plain (OpenSpec.ofChange parseStatementsSpec)) parseStatementsCard

/-- THE TIED CARD OF 'slotcodelaw09.ParseAsserts'. -/
def parseAssertsCard : Claim7 := { stood := { row := parseAssertsRow, standIns := [], harness := (true, "a1f8b87e6dbda903701e963bda931e5c0b24fd5eccdf74e2e04c504231cc5742"), looks := true }, kinds := [], alts := [], laidByText := true, laidKinds := [.data, .data], laidTests := true, laidLooks := .later }
def ParseAssertsCardSaid : Prop := Claim7.holds Tryd.pinned (.plain (OpenSpec.ofChange parseAssertsSpec)) parseAssertsCard

/-- THE TIED CARD OF 'slotcodelaw09.ParseIsCorrect'. -/
def parseIsCorrectCard : Claim7 := { stood := { row := parseIsCorrectRow, standIns := [], harness := (true, "a1f8b87e6dbda903701e963bda931e5c0b24fd5eccdf74e2e04c504231cc5742"), looks := true }, kinds := [], alts := [], laidByText := true, laidKinds := [.data, .data], laidTests := true, laidLooks := .later }
def ParseIsCorrectCardSaid : Prop := Claim7.holds Tryd.pinned (.plain (OpenSpec.ofChange parseIsCorrectSpec)) parseIsCorrectCard

/-- THE TIED CARD OF 'slotcodelaw09.ParseIgnores'. -/
def parseIgnoresCard : Claim7 := { stood := { row := parseIgnoresRow, standIns := [], harness := (true, "a1f8b87e6dbda903701e963bda931e5c0b24fd5eccdf74e2e04c504231cc5742"), looks := true }, kinds := [], alts := [], laidByText := true, laidKinds := [.data, .data], laidTests := true, laidLooks := .later }
def ParseIgnoresCardSaid : Prop := Claim7.holds Tryd.pinned (.plain (OpenSpec.ofChange parseIgnoresSpec)) parseIgnoresCard

/-- THE TIED CARD OF 'slotcodelaw09.ParseLabels'. -/
def parseLabelsCard : Claim7 := { stood := { row := parseLabelsRow, standIns := [], harness := (true, "a1f8b87e6dbda903701e963bda931e5c0b24fd5eccdf74e2e04c504231cc5742"), looks := true }, kinds := [], alts := [], laidByText := true, laidKinds := [.data, .data], laidTests := true, laidLooks := .later }
def ParseLabelsCardSaid : Prop := Claim7.holds Tryd.pinned (.plain (OpenSpec.ofChange parseLabelsSpec)) parseLabelsCard

/-- THE SECOND FORM's CARD OF 'slotcodelaw09.ParseLines'. -/
def parseLinesUptoCard : Claim7 := { stood := { row := parseLinesUptoRow, standIns := [], harness := (true, "a1f8b87e6dbda903701e963bda931e5c0b24fd5eccdf74e2e04c504231cc5742"), looks := true }, kinds := [], alts := [], laidByText := true, laidKinds := [.data, .data], laidTests := true, laidLooks := .later }
def ParseLinesUptoCardSaid : Prop := Claim7.holds Tryd.pinned (.plain (OpenSpec.upto parseLinesSpec)) parseLinesUptoCard

/-- THE SECOND FORM's CARD OF 'slotcodelaw09.ParseStatements'. -/
def parseStatementsUptoCard : Claim7 := { stood := { row := parseStatementsUptoRow, standIns := [], harness := (true, "a1f8b87e6dbda903701e963bda931e5c0b24fd5eccdf74e2e04c504231cc5742"), looks := true }, kinds := [], alts := [], laidByText := true, laidKinds := [.data, .data], laidTests := true, laidLooks := .later }
def ParseStatementsUptoCardSaid : Prop := Claim7.holds Tryd.pinned (.plain (OpenSpec.upto parseStatementsSpec)) parseStatementsUptoCard

/-- THE SECOND FORM's CARD OF 'slotcodelaw09.ParseAsserts'. -/
def parseAssertsUptoCard : Claim7 := { stood := { row := parseAssertsUptoRow, standIns := [], harness := (true, "a1f8b87e6dbda903701e963bda931e5c0b24fd5eccdf74e2e04c504231cc5742"), looks := true }, kinds := [], alts := [], laidByText := true, laidKinds := [.data, .data], laidTests := true, laidLooks := .later }
def ParseAssertsUptoCardSaid : Prop := Claim7.holds Tryd.pinned (.plain (OpenSpec.upto parseAssertsSpec)) parseAssertsUptoCard

/-- THE SECOND FORM's CARD OF 'slotcodelaw09.ParseIsCorrect'. -/
def parseIsCorrectUptoCard : Claim7 := { stood := { row := parseIsCorrectUptoRow, standIns := [], harness := (true, "a1f8b87e6dbda903701e963bda931e5c0b24fd5eccdf74e2e04c504231cc5742"), looks := true }, kinds := [], alts := [], laidByText := true, laidKinds := [.data, .data], laidTests := true, laidLooks := .later }
def ParseIsCorrectUptoCardSaid : Prop := Claim7.holds Tryd.pinned (.plain (OpenSpec.upto parseIsCorrectSpec)) parseIsCorrectUptoCard

/-- THE SECOND FORM's CARD OF 'slotcodelaw09.ParseIgnores'. -/
def parseIgnoresUptoCard : Claim7 := { stood := { row := parseIgnoresUptoRow, standIns := [], harness := (true, "a1f8b87e6dbda903701e963bda931e5c0b24fd5eccdf74e2e04c504231cc5742"), looks := true }, kinds := [], alts := [], laidByText := true, laidKinds := [.data, .data], laidTests := true, laidLooks := .later }
def ParseIgnoresUptoCardSaid : Prop := Claim7.holds Tryd.pinned (.plain (OpenSpec.upto parseIgnoresSpec)) parseIgnoresUptoCard

/-- THE SECOND FORM's CARD OF 'slotcodelaw09.ParseLabels'. -/
def parseLabelsUptoCard : Claim7 := { stood := { row := parseLabelsUptoRow, standIns := [], harness := (true, "a1f8b87e6dbda903701e963bda931e5c0b24fd5eccdf74e2e04c504231cc5742"), looks := true }, kinds := [], alts := [], laidByText := true, laidKinds := [.data, .data], laidTests := true, laidLooks := .later }
def ParseLabelsUptoCardSaid : Prop := Claim7.holds Tryd.pinned (.plain (OpenSpec.upto parseLabelsSpec)) parseLabelsUptoCard
end Rows
end Go.Proofs.YtjcaonbejhdhkaaDoor
