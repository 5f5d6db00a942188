/-
  DERIVED. GIVEN WITH THE SEED: THE CARDS: each row of YtbneaihpnfkcdaaGreatDoorRows.lean that lists a variable, with what it lists TIED to the program's text (the seventh form; the later family's looks); each row that meets fmt, with fmt's text TOLD by the authors' own Lean function (tested against real Go, not proved from fmt's source: count such statements apart). THE CARD IS WHAT COUNTS. Prove the row's statement (the work); the ties are given (YtbneaihpnfkcdaaGreatDoorTie.lean); close each card by the builder's one call (the guide's Derived/Test/ToyasCard.lean, 'card_holds'). Laid BY PROGRAM, IN A SANDBOX (cutbox-door.mjs). By AI agents, Wed Nov 11 2026. No macro, syntax, notation, axiom, sorry.
-/
import Derived.Test.YtbneaihpnfkcdaaGreatDoorRows
import GoSem.ClaimSeven
namespace Go.Proofs.YtbneaihpnfkcdaaGreatDoor
namespace Rows

/-- THE TIED CARD OF 'slotcodelaw11.PrintDefs'. -/
def printDefsCard : Claim7 := { stood := { row := printDefsRow, standIns := [], harness := (true, "1c252df4fc1a819881aa05bb5ac23bdf26c19284add693a81d22313ad5b5543f"), looks := true }, kinds := [], alts := [], laidByText := true, laidKinds := [.data, .data, .data, .data, .data], laidTests := true, laidLooks := .later }
def PrintDefsCardSaid : Prop := Claim7.holds Tryz.pinned (.plain (OpenSpec.ofChange printDefsSpec)) printDefsCard

/-- THE TIED CARD OF 'slotcodelaw11.PrintPrograms'. -/
def printProgramsCard : Claim7 := { stood := { row := printProgramsRow, standIns := [], harness := (true, "1c252df4fc1a819881aa05bb5ac23bdf26c19284add693a81d22313ad5b5543f"), looks := true }, kinds := [], alts := [], laidByText := true, laidKinds := [.data, .data, .data, .data, .data], laidTests := true, laidLooks := .later }
def PrintProgramsCardSaid : Prop := Claim7.holds Tryz.pinned (.plain (OpenSpec.ofChange printProgramsSpec)) printProgramsCard

/-- THE TIED CARD OF 'slotcodelaw11.PrintIsCanonical'. -/
def printIsCanonicalCard : Claim7 := { stood := { row := printIsCanonicalRow, standIns := [], harness := (true, "1c252df4fc1a819881aa05bb5ac23bdf26c19284add693a81d22313ad5b5543f"), looks := true }, kinds := [], alts := [], laidByText := true, laidKinds := [.data, .data, .data, .data, .data], laidTests := true, laidLooks := .later }
def PrintIsCanonicalCardSaid : Prop := Claim7.holds Tryz.pinned (.plain (OpenSpec.ofChange printIsCanonicalSpec)) printIsCanonicalCard

/-- THE TIED CARD OF 'slotcodelaw11.PrintIgnores'. -/
def printIgnoresCard : Claim7 := { stood := { row := printIgnoresRow, standIns := [], harness := (true, "1c252df4fc1a819881aa05bb5ac23bdf26c19284add693a81d22313ad5b5543f"), looks := true }, kinds := [], alts := [], laidByText := true, laidKinds := [.data, .data, .data, .data, .data, .data, .pinned], laidTests := true, laidLooks := .later }
def PrintIgnoresCardSaid : Prop := Claim7.holds Tryz.pinned (.plain (OpenSpec.ofChange printIgnoresSpec)) printIgnoresCard

/-- THE SECOND FORM's CARD OF 'slotcodelaw11.PrintDefs'. -/
def printDefsUptoCard : Claim7 := { stood := { row := printDefsUptoRow, standIns := [], harness := (true, "1c252df4fc1a819881aa05bb5ac23bdf26c19284add693a81d22313ad5b5543f"), looks := true }, kinds := [], alts := [], laidByText := true, laidKinds := [.data, .data, .data, .data, .data], laidTests := true, laidLooks := .later }
def PrintDefsUptoCardSaid : Prop := Claim7.holds Tryz.pinned (.plain (OpenSpec.upto printDefsSpec)) printDefsUptoCard

/-- THE SECOND FORM's CARD OF 'slotcodelaw11.PrintPrograms'. -/
def printProgramsUptoCard : Claim7 := { stood := { row := printProgramsUptoRow, standIns := [], harness := (true, "1c252df4fc1a819881aa05bb5ac23bdf26c19284add693a81d22313ad5b5543f"), looks := true }, kinds := [], alts := [], laidByText := true, laidKinds := [.data, .data, .data, .data, .data], laidTests := true, laidLooks := .later }
def PrintProgramsUptoCardSaid : Prop := Claim7.holds Tryz.pinned (.plain (OpenSpec.upto printProgramsSpec)) printProgramsUptoCard

/-- THE SECOND FORM's CARD OF 'slotcodelaw11.PrintIsCanonical'. -/
def printIsCanonicalUptoCard : Claim7 := { stood := { row := printIsCanonicalUptoRow, standIns := [], harness := (true, "1c252df4fc1a819881aa05bb5ac23bdf26c19284add693a81d22313ad5b5543f"), looks := true }, kinds := [], alts := [], laidByText := true, laidKinds := [.data, .data, .data, .data, .data], laidTests := true, laidLooks := .later }
def PrintIsCanonicalUptoCardSaid : Prop := Claim7.holds Tryz.pinned (.plain (OpenSpec.upto printIsCanonicalSpec)) printIsCanonicalUptoCard

/-- THE SECOND FORM's CARD OF 'slotcodelaw11.PrintIgnores'. -/
def printIgnoresUptoCard : Claim7 := { stood := { row := printIgnoresUptoRow, standIns := [], harness := (true, "1c252df4fc1a819881aa05bb5ac23bdf26c19284add693a81d22313ad5b5543f"), looks := true }, kinds := [], alts := [], laidByText := true, laidKinds := [.data, .data, .data, .data, .data, .data, .pinned], laidTests := true, laidLooks := .later }
def PrintIgnoresUptoCardSaid : Prop := Claim7.holds Tryz.pinned (.plain (OpenSpec.upto printIgnoresSpec)) printIgnoresUptoCard
end Rows
end Go.Proofs.YtbneaihpnfkcdaaGreatDoor
