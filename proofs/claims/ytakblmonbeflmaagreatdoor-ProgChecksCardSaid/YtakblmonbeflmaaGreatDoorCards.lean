/-
  DERIVED. GIVEN WITH THE SEED: THE CARDS: each row of YtakblmonbeflmaaGreatDoorRows.lean that lists a variable, with what it lists TIED to the program's text (the seventh form; the later family's looks); each row that meets fmt, with fmt's text TOLD by the authors' own Lean function (tested against real Go, not proved from fmt's source: count such statements apart). THE CARD IS WHAT COUNTS. Prove the row's statement (the work); the ties are given (YtakblmonbeflmaaGreatDoorTie.lean); close each card by the builder's one call (the guide's Derived/Test/ToyasCard.lean, 'card_holds'). Laid BY PROGRAM, IN A SANDBOX (cutbox-door.mjs). By AI agents, Wed Nov 11 2026. No macro, syntax, notation, axiom, sorry.
-/
import Derived.Test.YtakblmonbeflmaaGreatDoorRows
import GoSem.ClaimSeven
namespace Go.Proofs.YtakblmonbeflmaaGreatDoor
namespace Rows

/-- THE TIED CARD OF 'slotcodelaw10.ProgChecks'. -/
def progChecksCard : Claim7 := { stood := { row := progChecksRow, standIns := [], harness := (true, "d7ccb89ed62bd3a96f9b8bc6887a2c09e8718da0d7639bdfa6eff8b5f6bb84dd"), looks := true }, kinds := [], alts := [], laidByText := true, laidKinds := [.data, .data], laidTests := true, laidLooks := .later }
def ProgChecksCardSaid : Prop := Claim7.holds Tryz.pinned (.plain (OpenSpec.ofChange progChecksSpec)) progChecksCard

/-- THE TIED CARD OF 'slotcodelaw10.ProgSame'. -/
def progSameCard : Claim7 := { stood := { row := progSameRow, standIns := [], harness := (true, "d7ccb89ed62bd3a96f9b8bc6887a2c09e8718da0d7639bdfa6eff8b5f6bb84dd"), looks := true }, kinds := [], alts := [], laidByText := true, laidKinds := [.data, .data], laidTests := true, laidLooks := .later }
def ProgSameCardSaid : Prop := Claim7.holds Tryz.pinned (.plain (OpenSpec.ofChange progSameSpec)) progSameCard

/-- THE TIED CARD OF 'slotcodelaw10.ProgClones'. -/
def progClonesCard : Claim7 := { stood := { row := progClonesRow, standIns := [], harness := (true, "d7ccb89ed62bd3a96f9b8bc6887a2c09e8718da0d7639bdfa6eff8b5f6bb84dd"), looks := true }, kinds := [], alts := [], laidByText := true, laidKinds := [.data, .data], laidTests := true, laidLooks := .later }
def ProgClonesCardSaid : Prop := Claim7.holds Tryz.pinned (.plain (OpenSpec.ofChange progClonesSpec)) progClonesCard

/-- THE TIED CARD OF 'slotcodelaw10.ProgLabels'. -/
def progLabelsCard : Claim7 := { stood := { row := progLabelsRow, standIns := [], harness := (true, "d7ccb89ed62bd3a96f9b8bc6887a2c09e8718da0d7639bdfa6eff8b5f6bb84dd"), looks := true }, kinds := [], alts := [], laidByText := true, laidKinds := [.data, .data], laidTests := true, laidLooks := .later }
def ProgLabelsCardSaid : Prop := Claim7.holds Tryz.pinned (.plain (OpenSpec.ofChange progLabelsSpec)) progLabelsCard

/-- THE TIED CARD OF 'slotcodelaw10.ProgIsCorrect'. -/
def progIsCorrectCard : Claim7 := { stood := { row := progIsCorrectRow, standIns := [], harness := (true, "d7ccb89ed62bd3a96f9b8bc6887a2c09e8718da0d7639bdfa6eff8b5f6bb84dd"), looks := true }, kinds := [], alts := [], laidByText := true, laidKinds := [.data, .data], laidTests := true, laidLooks := .later }
def ProgIsCorrectCardSaid : Prop := Claim7.holds Tryz.pinned (.plain (OpenSpec.ofChange progIsCorrectSpec)) progIsCorrectCard

/-- THE SECOND FORM's CARD OF 'slotcodelaw10.ProgChecks'. -/
def progChecksUptoCard : Claim7 := { stood := { row := progChecksUptoRow, standIns := [], harness := (true, "d7ccb89ed62bd3a96f9b8bc6887a2c09e8718da0d7639bdfa6eff8b5f6bb84dd"), looks := true }, kinds := [], alts := [], laidByText := true, laidKinds := [.data, .data], laidTests := true, laidLooks := .later }
def ProgChecksUptoCardSaid : Prop := Claim7.holds Tryz.pinned (.plain (OpenSpec.upto progChecksSpec)) progChecksUptoCard

/-- THE SECOND FORM's CARD OF 'slotcodelaw10.ProgSame'. -/
def progSameUptoCard : Claim7 := { stood := { row := progSameUptoRow, standIns := [], harness := (true, "d7ccb89ed62bd3a96f9b8bc6887a2c09e8718da0d7639bdfa6eff8b5f6bb84dd"), looks := true }, kinds := [], alts := [], laidByText := true, laidKinds := [.data, .data], laidTests := true, laidLooks := .later }
def ProgSameUptoCardSaid : Prop := Claim7.holds Tryz.pinned (.plain (OpenSpec.upto progSameSpec)) progSameUptoCard

/-- THE SECOND FORM's CARD OF 'slotcodelaw10.ProgClones'. -/
def progClonesUptoCard : Claim7 := { stood := { row := progClonesUptoRow, standIns := [], harness := (true, "d7ccb89ed62bd3a96f9b8bc6887a2c09e8718da0d7639bdfa6eff8b5f6bb84dd"), looks := true }, kinds := [], alts := [], laidByText := true, laidKinds := [.data, .data], laidTests := true, laidLooks := .later }
def ProgClonesUptoCardSaid : Prop := Claim7.holds Tryz.pinned (.plain (OpenSpec.upto progClonesSpec)) progClonesUptoCard

/-- THE SECOND FORM's CARD OF 'slotcodelaw10.ProgLabels'. -/
def progLabelsUptoCard : Claim7 := { stood := { row := progLabelsUptoRow, standIns := [], harness := (true, "d7ccb89ed62bd3a96f9b8bc6887a2c09e8718da0d7639bdfa6eff8b5f6bb84dd"), looks := true }, kinds := [], alts := [], laidByText := true, laidKinds := [.data, .data], laidTests := true, laidLooks := .later }
def ProgLabelsUptoCardSaid : Prop := Claim7.holds Tryz.pinned (.plain (OpenSpec.upto progLabelsSpec)) progLabelsUptoCard

/-- THE SECOND FORM's CARD OF 'slotcodelaw10.ProgIsCorrect'. -/
def progIsCorrectUptoCard : Claim7 := { stood := { row := progIsCorrectUptoRow, standIns := [], harness := (true, "d7ccb89ed62bd3a96f9b8bc6887a2c09e8718da0d7639bdfa6eff8b5f6bb84dd"), looks := true }, kinds := [], alts := [], laidByText := true, laidKinds := [.data, .data], laidTests := true, laidLooks := .later }
def ProgIsCorrectUptoCardSaid : Prop := Claim7.holds Tryz.pinned (.plain (OpenSpec.upto progIsCorrectSpec)) progIsCorrectUptoCard
end Rows
end Go.Proofs.YtakblmonbeflmaaGreatDoor
