/-
  DERIVED. GIVEN WITH THE SEED: THE CARDS: each row of YtgljoilddjmohaaGreatDoorRows.lean that lists a variable, with what it lists TIED to the program's text (the seventh form; the later family's looks); each row that meets fmt, with fmt's text TOLD by the authors' own Lean function (tested against real Go, not proved from fmt's source: count such statements apart). THE CARD IS WHAT COUNTS. Prove the row's statement (the work); the ties are given (YtgljoilddjmohaaGreatDoorTie.lean); close each card by the builder's one call (the guide's Derived/Test/ToyasCard.lean, 'card_holds'). Laid BY PROGRAM, IN A SANDBOX (cutbox-door.mjs). By AI agents, Wed Nov 11 2026. No macro, syntax, notation, axiom, sorry.
-/
import Derived.Test.YtgljoilddjmohaaGreatDoorRows
import GoSem.ClaimSeven
namespace Go.Proofs.YtgljoilddjmohaaGreatDoor
namespace Rows

/-- THE TIED CARD OF 'slotcodelaw13.AsmResolves'. -/
def asmResolvesCard : Claim7 := { stood := { row := asmResolvesRow, standIns := [], harness := (true, "72a05a26c9a718e84abf88ea120e425311ddcec2ef3eece1065559a5aba4dce9"), looks := true }, kinds := [], alts := [], laidByText := true, laidKinds := [.data, .data], laidTests := true, laidLooks := .later }
def AsmResolvesCardSaid : Prop := Claim7.holds Tryz.pinned (.plain (OpenSpec.ofChange asmResolvesSpec)) asmResolvesCard

/-- THE TIED CARD OF 'slotcodelaw13.AsmAssembles'. -/
def asmAssemblesCard : Claim7 := { stood := { row := asmAssemblesRow, standIns := [], harness := (true, "72a05a26c9a718e84abf88ea120e425311ddcec2ef3eece1065559a5aba4dce9"), looks := true }, kinds := [], alts := [], laidByText := true, laidKinds := [.data, .data], laidTests := true, laidLooks := .later }
def AsmAssemblesCardSaid : Prop := Claim7.holds Tryz.pinned (.plain (OpenSpec.ofChange asmAssemblesSpec)) asmAssemblesCard

/-- THE TIED CARD OF 'slotcodelaw13.AsmPrints'. -/
def asmPrintsCard : Claim7 := { stood := { row := asmPrintsRow, standIns := [], harness := (true, "72a05a26c9a718e84abf88ea120e425311ddcec2ef3eece1065559a5aba4dce9"), looks := true }, kinds := [], alts := [], laidByText := true, laidKinds := [.data, .data, .data, .data, .data, .data, .pinned], laidTests := true, laidLooks := .later }
def AsmPrintsCardSaid : Prop := Claim7.holds Tryz.pinned (.plain (OpenSpec.ofChange asmPrintsSpec)) asmPrintsCard

/-- THE TIED CARD OF 'slotcodelaw13.AsmJumps'. -/
def asmJumpsCard : Claim7 := { stood := { row := asmJumpsRow, standIns := [], harness := (true, "72a05a26c9a718e84abf88ea120e425311ddcec2ef3eece1065559a5aba4dce9"), looks := true }, kinds := [], alts := [], laidByText := true, laidKinds := [.data, .data], laidTests := true, laidLooks := .later }
def AsmJumpsCardSaid : Prop := Claim7.holds Tryz.pinned (.plain (OpenSpec.ofChange asmJumpsSpec)) asmJumpsCard

/-- THE TIED CARD OF 'slotcodelaw13.AsmSame'. -/
def asmSameCard : Claim7 := { stood := { row := asmSameRow, standIns := [], harness := (true, "72a05a26c9a718e84abf88ea120e425311ddcec2ef3eece1065559a5aba4dce9"), looks := true }, kinds := [], alts := [], laidByText := true, laidKinds := [.data, .data], laidTests := true, laidLooks := .later }
def AsmSameCardSaid : Prop := Claim7.holds Tryz.pinned (.plain (OpenSpec.ofChange asmSameSpec)) asmSameCard

/-- THE SECOND FORM's CARD OF 'slotcodelaw13.AsmResolves'. -/
def asmResolvesUptoCard : Claim7 := { stood := { row := asmResolvesUptoRow, standIns := [], harness := (true, "72a05a26c9a718e84abf88ea120e425311ddcec2ef3eece1065559a5aba4dce9"), looks := true }, kinds := [], alts := [], laidByText := true, laidKinds := [.data, .data], laidTests := true, laidLooks := .later }
def AsmResolvesUptoCardSaid : Prop := Claim7.holds Tryz.pinned (.plain (OpenSpec.upto asmResolvesSpec)) asmResolvesUptoCard

/-- THE SECOND FORM's CARD OF 'slotcodelaw13.AsmAssembles'. -/
def asmAssemblesUptoCard : Claim7 := { stood := { row := asmAssemblesUptoRow, standIns := [], harness := (true, "72a05a26c9a718e84abf88ea120e425311ddcec2ef3eece1065559a5aba4dce9"), looks := true }, kinds := [], alts := [], laidByText := true, laidKinds := [.data, .data], laidTests := true, laidLooks := .later }
def AsmAssemblesUptoCardSaid : Prop := Claim7.holds Tryz.pinned (.plain (OpenSpec.upto asmAssemblesSpec)) asmAssemblesUptoCard

/-- THE SECOND FORM's CARD OF 'slotcodelaw13.AsmPrints'. -/
def asmPrintsUptoCard : Claim7 := { stood := { row := asmPrintsUptoRow, standIns := [], harness := (true, "72a05a26c9a718e84abf88ea120e425311ddcec2ef3eece1065559a5aba4dce9"), looks := true }, kinds := [], alts := [], laidByText := true, laidKinds := [.data, .data, .data, .data, .data, .data, .pinned], laidTests := true, laidLooks := .later }
def AsmPrintsUptoCardSaid : Prop := Claim7.holds Tryz.pinned (.plain (OpenSpec.upto asmPrintsSpec)) asmPrintsUptoCard

/-- THE SECOND FORM's CARD OF 'slotcodelaw13.AsmJumps'. -/
def asmJumpsUptoCard : Claim7 := { stood := { row := asmJumpsUptoRow, standIns := [], harness := (true, "72a05a26c9a718e84abf88ea120e425311ddcec2ef3eece1065559a5aba4dce9"), looks := true }, kinds := [], alts := [], laidByText := true, laidKinds := [.data, .data], laidTests := true, laidLooks := .later }
def AsmJumpsUptoCardSaid : Prop := Claim7.holds Tryz.pinned (.plain (OpenSpec.upto asmJumpsSpec)) asmJumpsUptoCard

/-- THE SECOND FORM's CARD OF 'slotcodelaw13.AsmSame'. -/
def asmSameUptoCard : Claim7 := { stood := { row := asmSameUptoRow, standIns := [], harness := (true, "72a05a26c9a718e84abf88ea120e425311ddcec2ef3eece1065559a5aba4dce9"), looks := true }, kinds := [], alts := [], laidByText := true, laidKinds := [.data, .data], laidTests := true, laidLooks := .later }
def AsmSameUptoCardSaid : Prop := Claim7.holds Tryz.pinned (.plain (OpenSpec.upto asmSameSpec)) asmSameUptoCard
end Rows
end Go.Proofs.YtgljoilddjmohaaGreatDoor
