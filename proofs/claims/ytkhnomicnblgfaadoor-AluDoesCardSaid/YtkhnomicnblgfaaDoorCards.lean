/-
  DERIVED. GIVEN WITH THE SEED: THE CARDS: each row of YtkhnomicnblgfaaDoorRows.lean that lists a variable, with what it lists TIED to the program's text (the seventh form; the later family's looks); each row that meets fmt, with fmt's text TOLD by the authors' own Lean function (tested against real Go, not proved from fmt's source: count such statements apart). THE CARD IS WHAT COUNTS. Prove the row's statement (the work); the ties are given (YtkhnomicnblgfaaDoorTie.lean); close each card by the builder's one call (the guide's Derived/Test/ToyasCard.lean, 'card_holds'). Laid BY PROGRAM, IN A SANDBOX (cutbox-door.mjs). By AI agents, Wed Nov 11 2026. No macro, syntax, notation, axiom, sorry.
-/
import Derived.Test.YtkhnomicnblgfaaDoorRows
import GoSem.ClaimSeven
namespace Go.Proofs.YtkhnomicnblgfaaDoor
namespace Rows

/-- THE TIED CARD OF 'slotcodelaw06.AluDoes'. -/
def aluDoesCard : Claim7 := { stood := { row := aluDoesRow, standIns := [], harness := (true, "c4b0f213e8293d4ec68ba40c0ca6da894c6e3496a9363ffa585d4e111ac11d0f"), looks := false }, kinds := [], alts := [], laidByText := true, laidKinds := [.data], laidTests := true, laidLooks := .later }
def AluDoesCardSaid : Prop := Claim7.holds Tryd.pinned (.plain (OpenSpec.ofChange aluDoesSpec)) aluDoesCard

/-- THE TIED CARD OF 'slotcodelaw06.AluOperands'. -/
def aluOperandsCard : Claim7 := { stood := { row := aluOperandsRow, standIns := [], harness := (true, "c4b0f213e8293d4ec68ba40c0ca6da894c6e3496a9363ffa585d4e111ac11d0f"), looks := false }, kinds := [], alts := [], laidByText := true, laidKinds := [.data], laidTests := true, laidLooks := .later }
def AluOperandsCardSaid : Prop := Claim7.holds Tryd.pinned (.plain (OpenSpec.ofChange aluOperandsSpec)) aluOperandsCard

/-- THE TIED CARD OF 'slotcodelaw06.AluSwaps'. -/
def aluSwapsCard : Claim7 := { stood := { row := aluSwapsRow, standIns := [], harness := (true, "c4b0f213e8293d4ec68ba40c0ca6da894c6e3496a9363ffa585d4e111ac11d0f"), looks := false }, kinds := [], alts := [], laidByText := true, laidKinds := [.data], laidTests := true, laidLooks := .later }
def AluSwapsCardSaid : Prop := Claim7.holds Tryd.pinned (.plain (OpenSpec.ofChange aluSwapsSpec)) aluSwapsCard

/-- THE TIED CARD OF 'slotcodelaw06.AluDivides'. -/
def aluDividesCard : Claim7 := { stood := { row := aluDividesRow, standIns := [], harness := (true, "c4b0f213e8293d4ec68ba40c0ca6da894c6e3496a9363ffa585d4e111ac11d0f"), looks := false }, kinds := [], alts := [], laidByText := true, laidKinds := [.data], laidTests := true, laidLooks := .later }
def AluDividesCardSaid : Prop := Claim7.holds Tryd.pinned (.plain (OpenSpec.ofChange aluDividesSpec)) aluDividesCard

/-- THE TIED CARD OF 'slotcodelaw06.AluLow'. -/
def aluLowCard : Claim7 := { stood := { row := aluLowRow, standIns := [], harness := (true, "c4b0f213e8293d4ec68ba40c0ca6da894c6e3496a9363ffa585d4e111ac11d0f"), looks := false }, kinds := [], alts := [], laidByText := true, laidKinds := [.data], laidTests := true, laidLooks := .later }
def AluLowCardSaid : Prop := Claim7.holds Tryd.pinned (.plain (OpenSpec.ofChange aluLowSpec)) aluLowCard

/-- THE TIED CARD OF 'slotcodelaw06.AluInverse'. -/
def aluInverseCard : Claim7 := { stood := { row := aluInverseRow, standIns := [], harness := (true, "c4b0f213e8293d4ec68ba40c0ca6da894c6e3496a9363ffa585d4e111ac11d0f"), looks := false }, kinds := [], alts := [], laidByText := true, laidKinds := [.data], laidTests := true, laidLooks := .later }
def AluInverseCardSaid : Prop := Claim7.holds Tryd.pinned (.plain (OpenSpec.ofChange aluInverseSpec)) aluInverseCard

/-- THE SECOND FORM's CARD OF 'slotcodelaw06.AluDoes'. -/
def aluDoesUptoCard : Claim7 := { stood := { row := aluDoesUptoRow, standIns := [], harness := (true, "c4b0f213e8293d4ec68ba40c0ca6da894c6e3496a9363ffa585d4e111ac11d0f"), looks := false }, kinds := [], alts := [], laidByText := true, laidKinds := [.data], laidTests := true, laidLooks := .later }
def AluDoesUptoCardSaid : Prop := Claim7.holds Tryd.pinned (.plain (OpenSpec.upto aluDoesSpec)) aluDoesUptoCard

/-- THE SECOND FORM's CARD OF 'slotcodelaw06.AluOperands'. -/
def aluOperandsUptoCard : Claim7 := { stood := { row := aluOperandsUptoRow, standIns := [], harness := (true, "c4b0f213e8293d4ec68ba40c0ca6da894c6e3496a9363ffa585d4e111ac11d0f"), looks := false }, kinds := [], alts := [], laidByText := true, laidKinds := [.data], laidTests := true, laidLooks := .later }
def AluOperandsUptoCardSaid : Prop := Claim7.holds Tryd.pinned (.plain (OpenSpec.upto aluOperandsSpec)) aluOperandsUptoCard

/-- THE SECOND FORM's CARD OF 'slotcodelaw06.AluSwaps'. -/
def aluSwapsUptoCard : Claim7 := { stood := { row := aluSwapsUptoRow, standIns := [], harness := (true, "c4b0f213e8293d4ec68ba40c0ca6da894c6e3496a9363ffa585d4e111ac11d0f"), looks := false }, kinds := [], alts := [], laidByText := true, laidKinds := [.data], laidTests := true, laidLooks := .later }
def AluSwapsUptoCardSaid : Prop := Claim7.holds Tryd.pinned (.plain (OpenSpec.upto aluSwapsSpec)) aluSwapsUptoCard

/-- THE SECOND FORM's CARD OF 'slotcodelaw06.AluDivides'. -/
def aluDividesUptoCard : Claim7 := { stood := { row := aluDividesUptoRow, standIns := [], harness := (true, "c4b0f213e8293d4ec68ba40c0ca6da894c6e3496a9363ffa585d4e111ac11d0f"), looks := false }, kinds := [], alts := [], laidByText := true, laidKinds := [.data], laidTests := true, laidLooks := .later }
def AluDividesUptoCardSaid : Prop := Claim7.holds Tryd.pinned (.plain (OpenSpec.upto aluDividesSpec)) aluDividesUptoCard

/-- THE SECOND FORM's CARD OF 'slotcodelaw06.AluLow'. -/
def aluLowUptoCard : Claim7 := { stood := { row := aluLowUptoRow, standIns := [], harness := (true, "c4b0f213e8293d4ec68ba40c0ca6da894c6e3496a9363ffa585d4e111ac11d0f"), looks := false }, kinds := [], alts := [], laidByText := true, laidKinds := [.data], laidTests := true, laidLooks := .later }
def AluLowUptoCardSaid : Prop := Claim7.holds Tryd.pinned (.plain (OpenSpec.upto aluLowSpec)) aluLowUptoCard

/-- THE SECOND FORM's CARD OF 'slotcodelaw06.AluInverse'. -/
def aluInverseUptoCard : Claim7 := { stood := { row := aluInverseUptoRow, standIns := [], harness := (true, "c4b0f213e8293d4ec68ba40c0ca6da894c6e3496a9363ffa585d4e111ac11d0f"), looks := false }, kinds := [], alts := [], laidByText := true, laidKinds := [.data], laidTests := true, laidLooks := .later }
def AluInverseUptoCardSaid : Prop := Claim7.holds Tryd.pinned (.plain (OpenSpec.upto aluInverseSpec)) aluInverseUptoCard
end Rows
end Go.Proofs.YtkhnomicnblgfaaDoor
