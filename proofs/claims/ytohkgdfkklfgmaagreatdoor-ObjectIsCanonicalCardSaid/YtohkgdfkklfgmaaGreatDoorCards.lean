/-
  DERIVED. GIVEN WITH THE SEED: THE CARDS: each row of YtohkgdfkklfgmaaGreatDoorRows.lean that lists a variable, with what it lists TIED to the program's text (the seventh form; the later family's looks); each row that meets fmt, with fmt's text TOLD by the authors' own Lean function (tested against real Go, not proved from fmt's source: count such statements apart). THE CARD IS WHAT COUNTS. Prove the row's statement (the work); the ties are given (YtohkgdfkklfgmaaGreatDoorTie.lean); close each card by the builder's one call (the guide's Derived/Test/ToyasCard.lean, 'card_holds'). Laid BY PROGRAM, IN A SANDBOX (cutbox-door.mjs). By AI agents, Wed Nov 11 2026. No macro, syntax, notation, axiom, sorry.
-/
import Derived.Test.YtohkgdfkklfgmaaGreatDoorRows
import GoSem.ClaimSeven
namespace Go.Proofs.YtohkgdfkklfgmaaGreatDoor
namespace Rows

/-- THE TIED CARD OF 'slotcodelaw16.ObjectChecks'. -/
def objectChecksCard : Claim7 := { stood := { row := objectChecksRow, standIns := [], harness := (true, "42d7973af44d1df20a3a4a26caffc128f91ffd9c27999185967f060ce604dfc8"), looks := false }, kinds := [], alts := [], laidByText := true, laidKinds := [.data, .data], laidTests := true, laidLooks := .later }
def ObjectChecksCardSaid : Prop := Claim7.holds Tryz.pinned (.plain (OpenSpec.ofChange objectChecksSpec)) objectChecksCard

/-- THE TIED CARD OF 'slotcodelaw16.ObjectPacks'. -/
def objectPacksCard : Claim7 := { stood := { row := objectPacksRow, standIns := [], harness := (true, "42d7973af44d1df20a3a4a26caffc128f91ffd9c27999185967f060ce604dfc8"), looks := false }, kinds := [], alts := [], laidByText := true, laidKinds := [.data, .data], laidTests := true, laidLooks := .later }
def ObjectPacksCardSaid : Prop := Claim7.holds Tryz.pinned (.plain (OpenSpec.ofChange objectPacksSpec)) objectPacksCard

/-- THE TIED CARD OF 'slotcodelaw16.ObjectParses'. -/
def objectParsesCard : Claim7 := { stood := { row := objectParsesRow, standIns := [], harness := (true, "42d7973af44d1df20a3a4a26caffc128f91ffd9c27999185967f060ce604dfc8"), looks := false }, kinds := [], alts := [], laidByText := true, laidKinds := [.data, .data], laidTests := true, laidLooks := .later }
def ObjectParsesCardSaid : Prop := Claim7.holds Tryz.pinned (.plain (OpenSpec.ofChange objectParsesSpec)) objectParsesCard

/-- THE TIED CARD OF 'slotcodelaw16.ObjectIsCanonical'. -/
def objectIsCanonicalCard : Claim7 := { stood := { row := objectIsCanonicalRow, standIns := [], harness := (true, "42d7973af44d1df20a3a4a26caffc128f91ffd9c27999185967f060ce604dfc8"), looks := false }, kinds := [], alts := [], laidByText := true, laidKinds := [.data, .data], laidTests := true, laidLooks := .later }
def ObjectIsCanonicalCardSaid : Prop := Claim7.holds Tryz.pinned (.plain (OpenSpec.ofChange objectIsCanonicalSpec)) objectIsCanonicalCard

/-- THE TIED CARD OF 'slotcodelaw16.ObjectPrograms'. -/
def objectProgramsCard : Claim7 := { stood := { row := objectProgramsRow, standIns := [], harness := (true, "42d7973af44d1df20a3a4a26caffc128f91ffd9c27999185967f060ce604dfc8"), looks := false }, kinds := [], alts := [], laidByText := true, laidKinds := [.data, .data], laidTests := true, laidLooks := .later }
def ObjectProgramsCardSaid : Prop := Claim7.holds Tryz.pinned (.plain (OpenSpec.ofChange objectProgramsSpec)) objectProgramsCard

/-- THE SECOND FORM's CARD OF 'slotcodelaw16.ObjectChecks'. -/
def objectChecksUptoCard : Claim7 := { stood := { row := objectChecksUptoRow, standIns := [], harness := (true, "42d7973af44d1df20a3a4a26caffc128f91ffd9c27999185967f060ce604dfc8"), looks := false }, kinds := [], alts := [], laidByText := true, laidKinds := [.data, .data], laidTests := true, laidLooks := .later }
def ObjectChecksUptoCardSaid : Prop := Claim7.holds Tryz.pinned (.plain (OpenSpec.upto objectChecksSpec)) objectChecksUptoCard

/-- THE SECOND FORM's CARD OF 'slotcodelaw16.ObjectPacks'. -/
def objectPacksUptoCard : Claim7 := { stood := { row := objectPacksUptoRow, standIns := [], harness := (true, "42d7973af44d1df20a3a4a26caffc128f91ffd9c27999185967f060ce604dfc8"), looks := false }, kinds := [], alts := [], laidByText := true, laidKinds := [.data, .data], laidTests := true, laidLooks := .later }
def ObjectPacksUptoCardSaid : Prop := Claim7.holds Tryz.pinned (.plain (OpenSpec.upto objectPacksSpec)) objectPacksUptoCard

/-- THE SECOND FORM's CARD OF 'slotcodelaw16.ObjectParses'. -/
def objectParsesUptoCard : Claim7 := { stood := { row := objectParsesUptoRow, standIns := [], harness := (true, "42d7973af44d1df20a3a4a26caffc128f91ffd9c27999185967f060ce604dfc8"), looks := false }, kinds := [], alts := [], laidByText := true, laidKinds := [.data, .data], laidTests := true, laidLooks := .later }
def ObjectParsesUptoCardSaid : Prop := Claim7.holds Tryz.pinned (.plain (OpenSpec.upto objectParsesSpec)) objectParsesUptoCard

/-- THE SECOND FORM's CARD OF 'slotcodelaw16.ObjectIsCanonical'. -/
def objectIsCanonicalUptoCard : Claim7 := { stood := { row := objectIsCanonicalUptoRow, standIns := [], harness := (true, "42d7973af44d1df20a3a4a26caffc128f91ffd9c27999185967f060ce604dfc8"), looks := false }, kinds := [], alts := [], laidByText := true, laidKinds := [.data, .data], laidTests := true, laidLooks := .later }
def ObjectIsCanonicalUptoCardSaid : Prop := Claim7.holds Tryz.pinned (.plain (OpenSpec.upto objectIsCanonicalSpec)) objectIsCanonicalUptoCard

/-- THE SECOND FORM's CARD OF 'slotcodelaw16.ObjectPrograms'. -/
def objectProgramsUptoCard : Claim7 := { stood := { row := objectProgramsUptoRow, standIns := [], harness := (true, "42d7973af44d1df20a3a4a26caffc128f91ffd9c27999185967f060ce604dfc8"), looks := false }, kinds := [], alts := [], laidByText := true, laidKinds := [.data, .data], laidTests := true, laidLooks := .later }
def ObjectProgramsUptoCardSaid : Prop := Claim7.holds Tryz.pinned (.plain (OpenSpec.upto objectProgramsSpec)) objectProgramsUptoCard
end Rows
end Go.Proofs.YtohkgdfkklfgmaaGreatDoor
