/-
  DERIVED. GIVEN WITH THE SEED: THE CARDS: each row of YtdgnjhhieemcaaaGreatDoorRows.lean that lists a variable, with what it lists TIED to the program's text (the seventh form; the later family's looks); each row that meets fmt, with fmt's text TOLD by the authors' own Lean function (tested against real Go, not proved from fmt's source: count such statements apart). THE CARD IS WHAT COUNTS. Prove the row's statement (the work); the ties are given (YtdgnjhhieemcaaaGreatDoorTie.lean); close each card by the builder's one call (the guide's Derived/Test/ToyasCard.lean, 'card_holds'). Laid BY PROGRAM, IN A SANDBOX (cutbox-door.mjs). By AI agents, Wed Nov 11 2026. No macro, syntax, notation, axiom, sorry.
-/
import Derived.Test.YtdgnjhhieemcaaaGreatDoorRows
import GoSem.ClaimSeven
namespace Go.Proofs.YtdgnjhhieemcaaaGreatDoor
namespace Rows

/-- THE TIED CARD OF 'slotcodelaw18.LoadLoads'. -/
def loadLoadsCard : Claim7 := { stood := { row := loadLoadsRow, standIns := [], harness := (true, "1948ad5c3172c6415f3f835ee057812db8b40dbfff205f0df3140f5eaf1b8acf"), looks := true }, kinds := [], alts := [], laidByText := true, laidKinds := [.data, .data], laidTests := true, laidLooks := .later }
def LoadLoadsCardSaid : Prop := Claim7.holds Tryz.pinned (.plain (OpenSpec.ofChange loadLoadsSpec)) loadLoadsCard

/-- THE TIED CARD OF 'slotcodelaw18.LoadBytes'. -/
def loadBytesCard : Claim7 := { stood := { row := loadBytesRow, standIns := [], harness := (true, "1948ad5c3172c6415f3f835ee057812db8b40dbfff205f0df3140f5eaf1b8acf"), looks := true }, kinds := [], alts := [], laidByText := true, laidKinds := [.data, .data], laidTests := true, laidLooks := .later }
def LoadBytesCardSaid : Prop := Claim7.holds Tryz.pinned (.plain (OpenSpec.ofChange loadBytesSpec)) loadBytesCard

/-- THE TIED CARD OF 'slotcodelaw18.LoadStores'. -/
def loadStoresCard : Claim7 := { stood := { row := loadStoresRow, standIns := [], harness := (true, "1948ad5c3172c6415f3f835ee057812db8b40dbfff205f0df3140f5eaf1b8acf"), looks := true }, kinds := [], alts := [], laidByText := true, laidKinds := [.data, .data], laidTests := true, laidLooks := .later }
def LoadStoresCardSaid : Prop := Claim7.holds Tryz.pinned (.plain (OpenSpec.ofChange loadStoresSpec)) loadStoresCard

/-- THE TIED CARD OF 'slotcodelaw18.LoadInverts'. -/
def loadInvertsCard : Claim7 := { stood := { row := loadInvertsRow, standIns := [], harness := (true, "1948ad5c3172c6415f3f835ee057812db8b40dbfff205f0df3140f5eaf1b8acf"), looks := true }, kinds := [], alts := [], laidByText := true, laidKinds := [.data, .data], laidTests := true, laidLooks := .later }
def LoadInvertsCardSaid : Prop := Claim7.holds Tryz.pinned (.plain (OpenSpec.ofChange loadInvertsSpec)) loadInvertsCard

/-- THE TIED CARD OF 'slotcodelaw18.LoadSame'. -/
def loadSameCard : Claim7 := { stood := { row := loadSameRow, standIns := [], harness := (true, "1948ad5c3172c6415f3f835ee057812db8b40dbfff205f0df3140f5eaf1b8acf"), looks := true }, kinds := [], alts := [], laidByText := true, laidKinds := [.data, .data], laidTests := true, laidLooks := .later }
def LoadSameCardSaid : Prop := Claim7.holds Tryz.pinned (.plain (OpenSpec.ofChange loadSameSpec)) loadSameCard

/-- THE TIED CARD OF 'slotcodelaw18.LoadPrograms'. -/
def loadProgramsCard : Claim7 := { stood := { row := loadProgramsRow, standIns := [], harness := (true, "1948ad5c3172c6415f3f835ee057812db8b40dbfff205f0df3140f5eaf1b8acf"), looks := true }, kinds := [], alts := [], laidByText := true, laidKinds := [.data, .data], laidTests := true, laidLooks := .later }
def LoadProgramsCardSaid : Prop := Claim7.holds Tryz.pinned (.plain (OpenSpec.ofChange loadProgramsSpec)) loadProgramsCard

/-- THE SECOND FORM's CARD OF 'slotcodelaw18.LoadLoads'. -/
def loadLoadsUptoCard : Claim7 := { stood := { row := loadLoadsUptoRow, standIns := [], harness := (true, "1948ad5c3172c6415f3f835ee057812db8b40dbfff205f0df3140f5eaf1b8acf"), looks := true }, kinds := [], alts := [], laidByText := true, laidKinds := [.data, .data], laidTests := true, laidLooks := .later }
def LoadLoadsUptoCardSaid : Prop := Claim7.holds Tryz.pinned (.plain (OpenSpec.upto loadLoadsSpec)) loadLoadsUptoCard

/-- THE SECOND FORM's CARD OF 'slotcodelaw18.LoadBytes'. -/
def loadBytesUptoCard : Claim7 := { stood := { row := loadBytesUptoRow, standIns := [], harness := (true, "1948ad5c3172c6415f3f835ee057812db8b40dbfff205f0df3140f5eaf1b8acf"), looks := true }, kinds := [], alts := [], laidByText := true, laidKinds := [.data, .data], laidTests := true, laidLooks := .later }
def LoadBytesUptoCardSaid : Prop := Claim7.holds Tryz.pinned (.plain (OpenSpec.upto loadBytesSpec)) loadBytesUptoCard

/-- THE SECOND FORM's CARD OF 'slotcodelaw18.LoadStores'. -/
def loadStoresUptoCard : Claim7 := { stood := { row := loadStoresUptoRow, standIns := [], harness := (true, "1948ad5c3172c6415f3f835ee057812db8b40dbfff205f0df3140f5eaf1b8acf"), looks := true }, kinds := [], alts := [], laidByText := true, laidKinds := [.data, .data], laidTests := true, laidLooks := .later }
def LoadStoresUptoCardSaid : Prop := Claim7.holds Tryz.pinned (.plain (OpenSpec.upto loadStoresSpec)) loadStoresUptoCard

/-- THE SECOND FORM's CARD OF 'slotcodelaw18.LoadInverts'. -/
def loadInvertsUptoCard : Claim7 := { stood := { row := loadInvertsUptoRow, standIns := [], harness := (true, "1948ad5c3172c6415f3f835ee057812db8b40dbfff205f0df3140f5eaf1b8acf"), looks := true }, kinds := [], alts := [], laidByText := true, laidKinds := [.data, .data], laidTests := true, laidLooks := .later }
def LoadInvertsUptoCardSaid : Prop := Claim7.holds Tryz.pinned (.plain (OpenSpec.upto loadInvertsSpec)) loadInvertsUptoCard

/-- THE SECOND FORM's CARD OF 'slotcodelaw18.LoadSame'. -/
def loadSameUptoCard : Claim7 := { stood := { row := loadSameUptoRow, standIns := [], harness := (true, "1948ad5c3172c6415f3f835ee057812db8b40dbfff205f0df3140f5eaf1b8acf"), looks := true }, kinds := [], alts := [], laidByText := true, laidKinds := [.data, .data], laidTests := true, laidLooks := .later }
def LoadSameUptoCardSaid : Prop := Claim7.holds Tryz.pinned (.plain (OpenSpec.upto loadSameSpec)) loadSameUptoCard

/-- THE SECOND FORM's CARD OF 'slotcodelaw18.LoadPrograms'. -/
def loadProgramsUptoCard : Claim7 := { stood := { row := loadProgramsUptoRow, standIns := [], harness := (true, "1948ad5c3172c6415f3f835ee057812db8b40dbfff205f0df3140f5eaf1b8acf"), looks := true }, kinds := [], alts := [], laidByText := true, laidKinds := [.data, .data], laidTests := true, laidLooks := .later }
def LoadProgramsUptoCardSaid : Prop := Claim7.holds Tryz.pinned (.plain (OpenSpec.upto loadProgramsSpec)) loadProgramsUptoCard
end Rows
end Go.Proofs.YtdgnjhhieemcaaaGreatDoor
