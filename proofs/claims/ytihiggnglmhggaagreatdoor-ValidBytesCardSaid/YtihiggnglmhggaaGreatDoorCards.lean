/-
  DERIVED. GIVEN WITH THE SEED: THE CARDS: each row of YtihiggnglmhggaaGreatDoorRows.lean that lists a variable, with what it lists TIED to the program's text (the seventh form; the later family's looks); each row that meets fmt, with fmt's text TOLD by the authors' own Lean function (tested against real Go, not proved from fmt's source: count such statements apart). THE CARD IS WHAT COUNTS. Prove the row's statement (the work); the ties are given (YtihiggnglmhggaaGreatDoorTie.lean); close each card by the builder's one call (the guide's Derived/Test/ToyasCard.lean, 'card_holds'). Laid BY PROGRAM, IN A SANDBOX (cutbox-door.mjs). By AI agents, Wed Nov 11 2026. No macro, syntax, notation, axiom, sorry.
-/
import Derived.Test.YtihiggnglmhggaaGreatDoorRows
import GoSem.ClaimSeven
namespace Go.Proofs.YtihiggnglmhggaaGreatDoor
namespace Rows

/-- THE TIED CARD OF 'slotcodelaw17.ValidChecks'. -/
def validChecksCard : Claim7 := { stood := { row := validChecksRow, standIns := [], harness := (true, "a0fc58a5203a16e288cc2be7bf54ab12de23e3f81823125fd42458e08f63e28d"), looks := false }, kinds := [], alts := [], laidByText := true, laidKinds := [.data, .data], laidTests := true, laidLooks := .later }
def ValidChecksCardSaid : Prop := Claim7.holds Tryz.pinned (.plain (OpenSpec.ofChange validChecksSpec)) validChecksCard

/-- THE TIED CARD OF 'slotcodelaw17.ValidBytes'. -/
def validBytesCard : Claim7 := { stood := { row := validBytesRow, standIns := [], harness := (true, "a0fc58a5203a16e288cc2be7bf54ab12de23e3f81823125fd42458e08f63e28d"), looks := false }, kinds := [], alts := [], laidByText := true, laidKinds := [.data, .data], laidTests := true, laidLooks := .later }
def ValidBytesCardSaid : Prop := Claim7.holds Tryz.pinned (.plain (OpenSpec.ofChange validBytesSpec)) validBytesCard

/-- THE TIED CARD OF 'slotcodelaw17.ValidCode'. -/
def validCodeCard : Claim7 := { stood := { row := validCodeRow, standIns := [], harness := (true, "a0fc58a5203a16e288cc2be7bf54ab12de23e3f81823125fd42458e08f63e28d"), looks := false }, kinds := [], alts := [], laidByText := true, laidKinds := [.data, .data], laidTests := true, laidLooks := .later }
def ValidCodeCardSaid : Prop := Claim7.holds Tryz.pinned (.plain (OpenSpec.ofChange validCodeSpec)) validCodeCard

/-- THE TIED CARD OF 'slotcodelaw17.ValidTargets'. -/
def validTargetsCard : Claim7 := { stood := { row := validTargetsRow, standIns := [], harness := (true, "a0fc58a5203a16e288cc2be7bf54ab12de23e3f81823125fd42458e08f63e28d"), looks := false }, kinds := [], alts := [], laidByText := true, laidKinds := [.data, .data], laidTests := true, laidLooks := .later }
def ValidTargetsCardSaid : Prop := Claim7.holds Tryz.pinned (.plain (OpenSpec.ofChange validTargetsSpec)) validTargetsCard

/-- THE TIED CARD OF 'slotcodelaw17.ValidPrograms'. -/
def validProgramsCard : Claim7 := { stood := { row := validProgramsRow, standIns := [], harness := (true, "a0fc58a5203a16e288cc2be7bf54ab12de23e3f81823125fd42458e08f63e28d"), looks := false }, kinds := [], alts := [], laidByText := true, laidKinds := [.data, .data], laidTests := true, laidLooks := .later }
def ValidProgramsCardSaid : Prop := Claim7.holds Tryz.pinned (.plain (OpenSpec.ofChange validProgramsSpec)) validProgramsCard

/-- THE TIED CARD OF 'slotcodelaw17.ValidSlots'. -/
def validSlotsCard : Claim7 := { stood := { row := validSlotsRow, standIns := [], harness := (true, "a0fc58a5203a16e288cc2be7bf54ab12de23e3f81823125fd42458e08f63e28d"), looks := false }, kinds := [], alts := [], laidByText := true, laidKinds := [.data, .data], laidTests := true, laidLooks := .later }
def ValidSlotsCardSaid : Prop := Claim7.holds Tryz.pinned (.plain (OpenSpec.ofChange validSlotsSpec)) validSlotsCard

/-- THE SECOND FORM's CARD OF 'slotcodelaw17.ValidChecks'. -/
def validChecksUptoCard : Claim7 := { stood := { row := validChecksUptoRow, standIns := [], harness := (true, "a0fc58a5203a16e288cc2be7bf54ab12de23e3f81823125fd42458e08f63e28d"), looks := false }, kinds := [], alts := [], laidByText := true, laidKinds := [.data, .data], laidTests := true, laidLooks := .later }
def ValidChecksUptoCardSaid : Prop := Claim7.holds Tryz.pinned (.plain (OpenSpec.upto validChecksSpec)) validChecksUptoCard

/-- THE SECOND FORM's CARD OF 'slotcodelaw17.ValidBytes'. -/
def validBytesUptoCard : Claim7 := { stood := { row := validBytesUptoRow, standIns := [], harness := (true, "a0fc58a5203a16e288cc2be7bf54ab12de23e3f81823125fd42458e08f63e28d"), looks := false }, kinds := [], alts := [], laidByText := true, laidKinds := [.data, .data], laidTests := true, laidLooks := .later }
def ValidBytesUptoCardSaid : Prop := Claim7.holds Tryz.pinned (.plain (OpenSpec.upto validBytesSpec)) validBytesUptoCard

/-- THE SECOND FORM's CARD OF 'slotcodelaw17.ValidCode'. -/
def validCodeUptoCard : Claim7 := { stood := { row := validCodeUptoRow, standIns := [], harness := (true, "a0fc58a5203a16e288cc2be7bf54ab12de23e3f81823125fd42458e08f63e28d"), looks := false }, kinds := [], alts := [], laidByText := true, laidKinds := [.data, .data], laidTests := true, laidLooks := .later }
def ValidCodeUptoCardSaid : Prop := Claim7.holds Tryz.pinned (.plain (OpenSpec.upto validCodeSpec)) validCodeUptoCard

/-- THE SECOND FORM's CARD OF 'slotcodelaw17.ValidTargets'. -/
def validTargetsUptoCard : Claim7 := { stood := { row := validTargetsUptoRow, standIns := [], harness := (true, "a0fc58a5203a16e288cc2be7bf54ab12de23e3f81823125fd42458e08f63e28d"), looks := false }, kinds := [], alts := [], laidByText := true, laidKinds := [.data, .data], laidTests := true, laidLooks := .later }
def ValidTargetsUptoCardSaid : Prop := Claim7.holds Tryz.pinned (.plain (OpenSpec.upto validTargetsSpec)) validTargetsUptoCard

/-- THE SECOND FORM's CARD OF 'slotcodelaw17.ValidPrograms'. -/
def validProgramsUptoCard : Claim7 := { stood := { row := validProgramsUptoRow, standIns := [], harness := (true, "a0fc58a5203a16e288cc2be7bf54ab12de23e3f81823125fd42458e08f63e28d"), looks := false }, kinds := [], alts := [], laidByText := true, laidKinds := [.data, .data], laidTests := true, laidLooks := .later }
def ValidProgramsUptoCardSaid : Prop := Claim7.holds Tryz.pinned (.plain (OpenSpec.upto validProgramsSpec)) validProgramsUptoCard

/-- THE SECOND FORM's CARD OF 'slotcodelaw17.ValidSlots'. -/
def validSlotsUptoCard : Claim7 := { stood := { row := validSlotsUptoRow, standIns := [], harness := (true, "a0fc58a5203a16e288cc2be7bf54ab12de23e3f81823125fd42458e08f63e28d"), looks := false }, kinds := [], alts := [], laidByText := true, laidKinds := [.data, .data], laidTests := true, laidLooks := .later }
def ValidSlotsUptoCardSaid : Prop := Claim7.holds Tryz.pinned (.plain (OpenSpec.upto validSlotsSpec)) validSlotsUptoCard
end Rows
end Go.Proofs.YtihiggnglmhggaaGreatDoor
