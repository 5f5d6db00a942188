/-
  DERIVED. GIVEN WITH THE SEED: THE CARDS: each row of YtgmlpahnjgfamaaDoorRows.lean that lists a variable, with what it lists TIED to the program's text (the seventh form; the later family's looks); each row that meets fmt, with fmt's text TOLD by the authors' own Lean function (tested against real Go, not proved from fmt's source: count such statements apart). THE CARD IS WHAT COUNTS. Prove the row's statement (the work); the ties are given (YtgmlpahnjgfamaaDoorTie.lean); close each card by the builder's one call (the guide's Derived/Test/ToyasCard.lean, 'card_holds'). Laid BY PROGRAM, IN A SANDBOX (cutbox-door.mjs). By AI agents, Wed Nov 11 2026. No macro, syntax, notation, axiom, sorry.
-/
import Derived.Test.YtgmlpahnjgfamaaDoorRows
import GoSem.ClaimSeven
namespace Go.Proofs.YtgmlpahnjgfamaaDoor
namespace Rows

/-- THE TIED CARD OF 'slotcodelaw04.InsnUses'. -/
def insnUsesCard : Claim7 := { stood := { row := insnUsesRow, standIns := [], harness := (true, "b08d110b0b5bc7c2f0445ceb3778c24914d474e45514bf8d7beb638b62b76804"), looks := false }, kinds := [], alts := [], laidByText := true, laidKinds := [.data], laidTests := true, laidLooks := .later }
def InsnUsesCardSaid : Prop := Claim7.holds Tryd.pinned (.plain (OpenSpec.ofChange insnUsesSpec)) insnUsesCard

/-- THE TIED CARD OF 'slotcodelaw04.InsnChecks'. -/
def insnChecksCard : Claim7 := { stood := { row := insnChecksRow, standIns := [], harness := (true, "b08d110b0b5bc7c2f0445ceb3778c24914d474e45514bf8d7beb638b62b76804"), looks := false }, kinds := [], alts := [], laidByText := true, laidKinds := [.data], laidTests := true, laidLooks := .later }
def InsnChecksCardSaid : Prop := Claim7.holds Tryd.pinned (.plain (OpenSpec.ofChange insnChecksSpec)) insnChecksCard

/-- THE TIED CARD OF 'slotcodelaw04.InsnSlots'. -/
def insnSlotsCard : Claim7 := { stood := { row := insnSlotsRow, standIns := [], harness := (true, "b08d110b0b5bc7c2f0445ceb3778c24914d474e45514bf8d7beb638b62b76804"), looks := false }, kinds := [], alts := [], laidByText := true, laidKinds := [.data], laidTests := true, laidLooks := .later }
def InsnSlotsCardSaid : Prop := Claim7.holds Tryd.pinned (.plain (OpenSpec.ofChange insnSlotsSpec)) insnSlotsCard

/-- THE TIED CARD OF 'slotcodelaw04.InsnEnds'. -/
def insnEndsCard : Claim7 := { stood := { row := insnEndsRow, standIns := [], harness := (true, "b08d110b0b5bc7c2f0445ceb3778c24914d474e45514bf8d7beb638b62b76804"), looks := false }, kinds := [], alts := [], laidByText := true, laidKinds := [.data], laidTests := true, laidLooks := .later }
def InsnEndsCardSaid : Prop := Claim7.holds Tryd.pinned (.plain (OpenSpec.ofChange insnEndsSpec)) insnEndsCard

/-- THE TIED CARD OF 'slotcodelaw04.InsnZero'. -/
def insnZeroCard : Claim7 := { stood := { row := insnZeroRow, standIns := [], harness := (true, "b08d110b0b5bc7c2f0445ceb3778c24914d474e45514bf8d7beb638b62b76804"), looks := false }, kinds := [], alts := [], laidByText := true, laidKinds := [.data], laidTests := true, laidLooks := .later }
def InsnZeroCardSaid : Prop := Claim7.holds Tryd.pinned (.plain (OpenSpec.ofChange insnZeroSpec)) insnZeroCard

/-- THE TIED CARD OF 'slotcodelaw04.InsnWrites'. -/
def insnWritesCard : Claim7 := { stood := { row := insnWritesRow, standIns := [], harness := (true, "b08d110b0b5bc7c2f0445ceb3778c24914d474e45514bf8d7beb638b62b76804"), looks := false }, kinds := [], alts := [], laidByText := true, laidKinds := [.data], laidTests := true, laidLooks := .later }
def InsnWritesCardSaid : Prop := Claim7.holds Tryd.pinned (.plain (OpenSpec.ofChange insnWritesSpec)) insnWritesCard

/-- THE SECOND FORM's CARD OF 'slotcodelaw04.InsnUses'. -/
def insnUsesUptoCard : Claim7 := { stood := { row := insnUsesUptoRow, standIns := [], harness := (true, "b08d110b0b5bc7c2f0445ceb3778c24914d474e45514bf8d7beb638b62b76804"), looks := false }, kinds := [], alts := [], laidByText := true, laidKinds := [.data], laidTests := true, laidLooks := .later }
def InsnUsesUptoCardSaid : Prop := Claim7.holds Tryd.pinned (.plain (OpenSpec.upto insnUsesSpec)) insnUsesUptoCard

/-- THE SECOND FORM's CARD OF 'slotcodelaw04.InsnChecks'. -/
def insnChecksUptoCard : Claim7 := { stood := { row := insnChecksUptoRow, standIns := [], harness := (true, "b08d110b0b5bc7c2f0445ceb3778c24914d474e45514bf8d7beb638b62b76804"), looks := false }, kinds := [], alts := [], laidByText := true, laidKinds := [.data], laidTests := true, laidLooks := .later }
def InsnChecksUptoCardSaid : Prop := Claim7.holds Tryd.pinned (.plain (OpenSpec.upto insnChecksSpec)) insnChecksUptoCard

/-- THE SECOND FORM's CARD OF 'slotcodelaw04.InsnSlots'. -/
def insnSlotsUptoCard : Claim7 := { stood := { row := insnSlotsUptoRow, standIns := [], harness := (true, "b08d110b0b5bc7c2f0445ceb3778c24914d474e45514bf8d7beb638b62b76804"), looks := false }, kinds := [], alts := [], laidByText := true, laidKinds := [.data], laidTests := true, laidLooks := .later }
def InsnSlotsUptoCardSaid : Prop := Claim7.holds Tryd.pinned (.plain (OpenSpec.upto insnSlotsSpec)) insnSlotsUptoCard

/-- THE SECOND FORM's CARD OF 'slotcodelaw04.InsnEnds'. -/
def insnEndsUptoCard : Claim7 := { stood := { row := insnEndsUptoRow, standIns := [], harness := (true, "b08d110b0b5bc7c2f0445ceb3778c24914d474e45514bf8d7beb638b62b76804"), looks := false }, kinds := [], alts := [], laidByText := true, laidKinds := [.data], laidTests := true, laidLooks := .later }
def InsnEndsUptoCardSaid : Prop := Claim7.holds Tryd.pinned (.plain (OpenSpec.upto insnEndsSpec)) insnEndsUptoCard

/-- THE SECOND FORM's CARD OF 'slotcodelaw04.InsnZero'. -/
def insnZeroUptoCard : Claim7 := { stood := { row := insnZeroUptoRow, standIns := [], harness := (true, "b08d110b0b5bc7c2f0445ceb3778c24914d474e45514bf8d7beb638b62b76804"), looks := false }, kinds := [], alts := [], laidByText := true, laidKinds := [.data], laidTests := true, laidLooks := .later }
def InsnZeroUptoCardSaid : Prop := Claim7.holds Tryd.pinned (.plain (OpenSpec.upto insnZeroSpec)) insnZeroUptoCard

/-- THE SECOND FORM's CARD OF 'slotcodelaw04.InsnWrites'. -/
def insnWritesUptoCard : Claim7 := { stood := { row := insnWritesUptoRow, standIns := [], harness := (true, "b08d110b0b5bc7c2f0445ceb3778c24914d474e45514bf8d7beb638b62b76804"), looks := false }, kinds := [], alts := [], laidByText := true, laidKinds := [.data], laidTests := true, laidLooks := .later }
def InsnWritesUptoCardSaid : Prop := Claim7.holds Tryd.pinned (.plain (OpenSpec.upto insnWritesSpec)) insnWritesUptoCard
end Rows
end Go.Proofs.YtgmlpahnjgfamaaDoor
