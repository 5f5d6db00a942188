/-
  NARROWER THAN 'FOR EVERY INPUT', by the rows' own cells (each row's printed sentence says how): LoadLoads: laid · LoadBytes: laid · LoadStores: laid · LoadInverts: laid · LoadSame: laid · LoadPrograms: laid.
  DERIVED. THE GIVEN ROWS OF THIS SEAT. 6 by the template 'for every input the law returns true; each argument reads behind the call as it read before'; 0 by the template 'total and deterministic' (their statements: YtdgnjhhieemcaaaGreatDoorTotals.lean).
  GIVEN WITH THE SEED: the statements are not yours to turn. If you find one false, say at which input.
  Laid BY PROGRAM, IN A SANDBOX (cutbox-rows.mjs): the forced cells as the released guide's own fill.sh prints them over the translation ff1fe7b42c1b72b2… (all of the seat's roots in one cut). By AI agents, Wed Nov 11 2026. No macro, syntax, notation, axiom, sorry.
-/
import Derived.Test.YtdgnjhhieemcaaaGreatDoorChecked
import GoSem.Claim
import GoSem.ClaimJoined
import GoSem.ClaimMapViews
import Derived.JoinedTies
import Derived.KernelRfl
namespace Go.Proofs.YtdgnjhhieemcaaaGreatDoor
/- THE CELL 'sum', in the pinned program and in every row, IS THE sha256 OF THE DUMP (.gsa) THAT YtdgnjhhieemcaaaGreatDoorProg.lean LOADS. Nothing in Lean hashes anything: it is a label: what it is worth is what the hold of that sum in a sandbox is worth. -/
noncomputable def Tryz.pinned : Pinned := { name := "ytdgnjhhieemcaaagreatdoor", sum := "ff1fe7b42c1b72b268c9bf53f4569e08f1dfb7482b508d9db162255b1767fced", checked := Tryz.checked }
namespace Rows
def none {H : Type} : Left H := { results := [], args := [] }

/- WHAT THE LISTED PACKAGE-LEVEL VARIABLES READ AS WHEN THE CALL BEGINS. Each datum BY PROGRAM (the guide's laid-datum.mjs) off the statement by which the dump's own 'gosem.cut.vars' lays the variable. In a bare row this is a premise. The card (YtdgnjhhieemcaaaGreatDoorCards.lean) ties it to the program's text. -/
def laid_slotcode_ident_registers {H : Type} : DataW H := .agg [.lit (.string [114, 48]), .lit (.string [114, 49]), .lit (.string [114, 50]), .lit (.string [114, 51]), .lit (.string [114, 52]), .lit (.string [114, 53]), .lit (.string [114, 54]), .lit (.string [114, 55]), .lit (.string [114, 56]), .lit (.string [114, 57]), .lit (.string [114, 49, 48])]
def laid_slotcode_num_widths {H : Type} : DataW H := .agg [.lit (.int .i64 8), .lit (.int .i64 16), .lit (.int .i64 32), .lit (.int .i64 64)]

/-- 'slotcodelaw18.LoadLoads': WHATEVER THE INPUT: true; the input reads as it did. -/
def loadLoadsSpec : ChangeSpec := { name := "loadLoads", fn := fun _ => fun
  | [d] => { results := [.lit (.bool true)], args := [d] }
  | _ => none }
def loadLoadsRow : OpenClaim := { program := "ytdgnjhhieemcaaagreatdoor", sum := "ff1fe7b42c1b72b268c9bf53f4569e08f1dfb7482b508d9db162255b1767fced", func := "slotcode/slotcodelaw18.LoadLoads", spec := "loadLoads", inPlace := ["internal/bytealg.IndexByteString", "internal/bytealg.IndexString", "math/bits.Add64", "internal/bytealg.IndexByte", "internal/bytealg.Index"], unfollowed := true, recurses := true, named := ["internal/bytealg.MaxLen", "slotcode/ident.registers", "slotcode/num.widths"], apart := false, laid := [("slotcode/ident.registers", laid_slotcode_ident_registers), ("slotcode/num.widths", laid_slotcode_num_widths)] }
def LoadLoadsSaid : Prop := loadLoadsRow.holds Tryz.pinned (OpenSpec.ofChange loadLoadsSpec)

/-- ITS FALSE NEIGHBOUR: 'it returns false'. Refute it at one input. -/
def loadLoadsWrong : ChangeSpec := { name := "loadLoads", fn := fun _ => fun
  | [d] => { results := [.lit (.bool false)], args := [d] }
  | _ => none }
def LoadLoadsWrongFalsely : Prop := loadLoadsRow.holds Tryz.pinned (OpenSpec.ofChange loadLoadsWrong)

/-- 'slotcodelaw18.LoadBytes': WHATEVER THE INPUT: true; the input reads as it did. -/
def loadBytesSpec : ChangeSpec := { name := "loadBytes", fn := fun _ => fun
  | [d] => { results := [.lit (.bool true)], args := [d] }
  | _ => none }
def loadBytesRow : OpenClaim := { program := "ytdgnjhhieemcaaagreatdoor", sum := "ff1fe7b42c1b72b268c9bf53f4569e08f1dfb7482b508d9db162255b1767fced", func := "slotcode/slotcodelaw18.LoadBytes", spec := "loadBytes", inPlace := ["internal/bytealg.IndexByteString", "internal/bytealg.IndexString", "math/bits.Add64", "internal/bytealg.IndexByte", "internal/bytealg.Index"], unfollowed := true, recurses := true, named := ["internal/bytealg.MaxLen", "slotcode/ident.registers", "slotcode/num.widths"], apart := false, laid := [("slotcode/ident.registers", laid_slotcode_ident_registers), ("slotcode/num.widths", laid_slotcode_num_widths)] }
def LoadBytesSaid : Prop := loadBytesRow.holds Tryz.pinned (OpenSpec.ofChange loadBytesSpec)

/-- ITS FALSE NEIGHBOUR: 'it returns false'. Refute it at one input. -/
def loadBytesWrong : ChangeSpec := { name := "loadBytes", fn := fun _ => fun
  | [d] => { results := [.lit (.bool false)], args := [d] }
  | _ => none }
def LoadBytesWrongFalsely : Prop := loadBytesRow.holds Tryz.pinned (OpenSpec.ofChange loadBytesWrong)

/-- 'slotcodelaw18.LoadStores': WHATEVER THE INPUT: true; the input reads as it did. -/
def loadStoresSpec : ChangeSpec := { name := "loadStores", fn := fun _ => fun
  | [d1, d2] => { results := [.lit (.bool true)], args := [d1, d2] }
  | _ => none }
def loadStoresRow : OpenClaim := { program := "ytdgnjhhieemcaaagreatdoor", sum := "ff1fe7b42c1b72b268c9bf53f4569e08f1dfb7482b508d9db162255b1767fced", func := "slotcode/slotcodelaw18.LoadStores", spec := "loadStores", inPlace := ["internal/bytealg.IndexByteString", "internal/bytealg.IndexString", "math/bits.Add64", "internal/bytealg.IndexByte", "internal/bytealg.Index"], unfollowed := true, recurses := true, named := ["internal/bytealg.MaxLen", "slotcode/ident.registers", "slotcode/num.widths"], apart := false, laid := [("slotcode/ident.registers", laid_slotcode_ident_registers), ("slotcode/num.widths", laid_slotcode_num_widths)] }
def LoadStoresSaid : Prop := loadStoresRow.holds Tryz.pinned (OpenSpec.ofChange loadStoresSpec)

/-- ITS FALSE NEIGHBOUR: 'it returns false'. Refute it at one input. -/
def loadStoresWrong : ChangeSpec := { name := "loadStores", fn := fun _ => fun
  | [d1, d2] => { results := [.lit (.bool false)], args := [d1, d2] }
  | _ => none }
def LoadStoresWrongFalsely : Prop := loadStoresRow.holds Tryz.pinned (OpenSpec.ofChange loadStoresWrong)

/-- 'slotcodelaw18.LoadInverts': WHATEVER THE INPUT: true; the input reads as it did. -/
def loadInvertsSpec : ChangeSpec := { name := "loadInverts", fn := fun _ => fun
  | [d] => { results := [.lit (.bool true)], args := [d] }
  | _ => none }
def loadInvertsRow : OpenClaim := { program := "ytdgnjhhieemcaaagreatdoor", sum := "ff1fe7b42c1b72b268c9bf53f4569e08f1dfb7482b508d9db162255b1767fced", func := "slotcode/slotcodelaw18.LoadInverts", spec := "loadInverts", inPlace := ["internal/bytealg.IndexByteString", "internal/bytealg.IndexString", "math/bits.Add64", "internal/bytealg.IndexByte", "internal/bytealg.Index"], unfollowed := true, recurses := true, named := ["internal/bytealg.MaxLen", "slotcode/ident.registers", "slotcode/num.widths"], apart := false, laid := [("slotcode/ident.registers", laid_slotcode_ident_registers), ("slotcode/num.widths", laid_slotcode_num_widths)] }
def LoadInvertsSaid : Prop := loadInvertsRow.holds Tryz.pinned (OpenSpec.ofChange loadInvertsSpec)

/-- ITS FALSE NEIGHBOUR: 'it returns false'. Refute it at one input. -/
def loadInvertsWrong : ChangeSpec := { name := "loadInverts", fn := fun _ => fun
  | [d] => { results := [.lit (.bool false)], args := [d] }
  | _ => none }
def LoadInvertsWrongFalsely : Prop := loadInvertsRow.holds Tryz.pinned (OpenSpec.ofChange loadInvertsWrong)

/-- 'slotcodelaw18.LoadSame': WHATEVER THE INPUT: true; the input reads as it did. -/
def loadSameSpec : ChangeSpec := { name := "loadSame", fn := fun _ => fun
  | [d1, d2, d3] => { results := [.lit (.bool true)], args := [d1, d2, d3] }
  | _ => none }
def loadSameRow : OpenClaim := { program := "ytdgnjhhieemcaaagreatdoor", sum := "ff1fe7b42c1b72b268c9bf53f4569e08f1dfb7482b508d9db162255b1767fced", func := "slotcode/slotcodelaw18.LoadSame", spec := "loadSame", inPlace := ["internal/bytealg.IndexByteString", "internal/bytealg.IndexString", "math/bits.Add64", "internal/bytealg.IndexByte", "internal/bytealg.Index"], unfollowed := true, recurses := true, named := ["internal/bytealg.MaxLen", "slotcode/ident.registers", "slotcode/num.widths"], apart := false, laid := [("slotcode/ident.registers", laid_slotcode_ident_registers), ("slotcode/num.widths", laid_slotcode_num_widths)] }
def LoadSameSaid : Prop := loadSameRow.holds Tryz.pinned (OpenSpec.ofChange loadSameSpec)

/-- ITS FALSE NEIGHBOUR: 'it returns false'. Refute it at one input. -/
def loadSameWrong : ChangeSpec := { name := "loadSame", fn := fun _ => fun
  | [d1, d2, d3] => { results := [.lit (.bool false)], args := [d1, d2, d3] }
  | _ => none }
def LoadSameWrongFalsely : Prop := loadSameRow.holds Tryz.pinned (OpenSpec.ofChange loadSameWrong)

/-- 'slotcodelaw18.LoadPrograms': WHATEVER THE INPUT: true; the input reads as it did. -/
def loadProgramsSpec : ChangeSpec := { name := "loadPrograms", fn := fun _ => fun
  | [d] => { results := [.lit (.bool true)], args := [d] }
  | _ => none }
def loadProgramsRow : OpenClaim := { program := "ytdgnjhhieemcaaagreatdoor", sum := "ff1fe7b42c1b72b268c9bf53f4569e08f1dfb7482b508d9db162255b1767fced", func := "slotcode/slotcodelaw18.LoadPrograms", spec := "loadPrograms", inPlace := ["internal/bytealg.IndexByteString", "internal/bytealg.IndexString", "math/bits.Add64", "internal/bytealg.IndexByte", "internal/bytealg.Index"], unfollowed := true, recurses := true, named := ["internal/bytealg.MaxLen", "slotcode/ident.registers", "slotcode/num.widths"], apart := false, laid := [("slotcode/ident.registers", laid_slotcode_ident_registers), ("slotcode/num.widths", laid_slotcode_num_widths)] }
def LoadProgramsSaid : Prop := loadProgramsRow.holds Tryz.pinned (OpenSpec.ofChange loadProgramsSpec)

/-- ITS FALSE NEIGHBOUR: 'it returns false'. Refute it at one input. -/
def loadProgramsWrong : ChangeSpec := { name := "loadPrograms", fn := fun _ => fun
  | [d] => { results := [.lit (.bool false)], args := [d] }
  | _ => none }
def LoadProgramsWrongFalsely : Prop := loadProgramsRow.holds Tryz.pinned (OpenSpec.ofChange loadProgramsWrong)

/- THE SECOND FORM. 'bulk': how many values and letters a reading holds, each counted each time it is reached (what is shared counts as often as it is met; a slice's spare places count too). A statement '..UptoSaid' is the law's where the arguments, and the package variables that the reading takes, are together of bulk at most 1048576: NARROWER than '..Said'. Prove '..Said' where nothing that the law and all that it calls make is longer than what came in: it says more and counts as full. Else prove '..UptoSaid'. A law counts once. -/
mutual
def uptoBulk {H : Type} : DataW H → Nat
  | .lit (.string bytes) => bytes.length + 1
  | .lit _ => 1
  | .nil => 1
  | .ptr d => uptoBulk d + 1
  | .slice elems spare => uptoBulkAll elems + uptoBulkAll spare + 1
  | .agg parts => uptoBulkAll parts + 1
  | .iface _ d => uptoBulk d + 1
  | .map entries => uptoBulkEntries entries + 1
  | .held _ => 1
def uptoBulkAll {H : Type} : List (DataW H) → Nat
  | [] => 0
  | d :: r => uptoBulk d + uptoBulkAll r
def uptoBulkEntries {H : Type} : List (Lit × DataW H) → Nat
  | [] => 0
  | x :: r => uptoBulkEntry x + uptoBulkEntries r
def uptoBulkEntry {H : Type} : Lit × DataW H → Nat
  | (.string bytes, d) => bytes.length + uptoBulk d + 1
  | (_, d) => uptoBulk d + 1
 end
def uptoSmall : (H : Type) → List (DataW H) → Bool := fun _ ds => decide (uptoBulkAll ds ≤ 1048576)
def OpenSpec.upto (s : _root_.Go.ChangeSpec) : _root_.Go.OpenSpec := { _root_.Go.OpenSpec.ofChange s with cond := some uptoSmall }

/-- 'slotcodelaw18.LoadLoads', WHERE WHAT IT READS IS OF BULK AT MOST 1048576: true; the input reads as it did. -/
def loadLoadsUptoRow : OpenClaim := { program := "ytdgnjhhieemcaaagreatdoor", sum := "ff1fe7b42c1b72b268c9bf53f4569e08f1dfb7482b508d9db162255b1767fced", func := "slotcode/slotcodelaw18.LoadLoads", spec := "loadLoads", inPlace := ["internal/bytealg.IndexByteString", "internal/bytealg.IndexString", "math/bits.Add64", "internal/bytealg.IndexByte", "internal/bytealg.Index"], unfollowed := true, recurses := true, named := ["internal/bytealg.MaxLen", "slotcode/ident.registers", "slotcode/num.widths"], apart := false, laid := [("slotcode/ident.registers", laid_slotcode_ident_registers), ("slotcode/num.widths", laid_slotcode_num_widths)], narrowed := true }
def LoadLoadsUptoSaid : Prop := loadLoadsUptoRow.holds Tryz.pinned (OpenSpec.upto loadLoadsSpec)

/-- 'slotcodelaw18.LoadBytes', WHERE WHAT IT READS IS OF BULK AT MOST 1048576: true; the input reads as it did. -/
def loadBytesUptoRow : OpenClaim := { program := "ytdgnjhhieemcaaagreatdoor", sum := "ff1fe7b42c1b72b268c9bf53f4569e08f1dfb7482b508d9db162255b1767fced", func := "slotcode/slotcodelaw18.LoadBytes", spec := "loadBytes", inPlace := ["internal/bytealg.IndexByteString", "internal/bytealg.IndexString", "math/bits.Add64", "internal/bytealg.IndexByte", "internal/bytealg.Index"], unfollowed := true, recurses := true, named := ["internal/bytealg.MaxLen", "slotcode/ident.registers", "slotcode/num.widths"], apart := false, laid := [("slotcode/ident.registers", laid_slotcode_ident_registers), ("slotcode/num.widths", laid_slotcode_num_widths)], narrowed := true }
def LoadBytesUptoSaid : Prop := loadBytesUptoRow.holds Tryz.pinned (OpenSpec.upto loadBytesSpec)

/-- 'slotcodelaw18.LoadStores', WHERE WHAT IT READS IS OF BULK AT MOST 1048576: true; the input reads as it did. -/
def loadStoresUptoRow : OpenClaim := { program := "ytdgnjhhieemcaaagreatdoor", sum := "ff1fe7b42c1b72b268c9bf53f4569e08f1dfb7482b508d9db162255b1767fced", func := "slotcode/slotcodelaw18.LoadStores", spec := "loadStores", inPlace := ["internal/bytealg.IndexByteString", "internal/bytealg.IndexString", "math/bits.Add64", "internal/bytealg.IndexByte", "internal/bytealg.Index"], unfollowed := true, recurses := true, named := ["internal/bytealg.MaxLen", "slotcode/ident.registers", "slotcode/num.widths"], apart := false, laid := [("slotcode/ident.registers", laid_slotcode_ident_registers), ("slotcode/num.widths", laid_slotcode_num_widths)], narrowed := true }
def LoadStoresUptoSaid : Prop := loadStoresUptoRow.holds Tryz.pinned (OpenSpec.upto loadStoresSpec)

/-- 'slotcodelaw18.LoadInverts', WHERE WHAT IT READS IS OF BULK AT MOST 1048576: true; the input reads as it did. -/
def loadInvertsUptoRow : OpenClaim := { program := "ytdgnjhhieemcaaagreatdoor", sum := "ff1fe7b42c1b72b268c9bf53f4569e08f1dfb7482b508d9db162255b1767fced", func := "slotcode/slotcodelaw18.LoadInverts", spec := "loadInverts", inPlace := ["internal/bytealg.IndexByteString", "internal/bytealg.IndexString", "math/bits.Add64", "internal/bytealg.IndexByte", "internal/bytealg.Index"], unfollowed := true, recurses := true, named := ["internal/bytealg.MaxLen", "slotcode/ident.registers", "slotcode/num.widths"], apart := false, laid := [("slotcode/ident.registers", laid_slotcode_ident_registers), ("slotcode/num.widths", laid_slotcode_num_widths)], narrowed := true }
def LoadInvertsUptoSaid : Prop := loadInvertsUptoRow.holds Tryz.pinned (OpenSpec.upto loadInvertsSpec)

/-- 'slotcodelaw18.LoadSame', WHERE WHAT IT READS IS OF BULK AT MOST 1048576: true; the input reads as it did. -/
def loadSameUptoRow : OpenClaim := { program := "ytdgnjhhieemcaaagreatdoor", sum := "ff1fe7b42c1b72b268c9bf53f4569e08f1dfb7482b508d9db162255b1767fced", func := "slotcode/slotcodelaw18.LoadSame", spec := "loadSame", inPlace := ["internal/bytealg.IndexByteString", "internal/bytealg.IndexString", "math/bits.Add64", "internal/bytealg.IndexByte", "internal/bytealg.Index"], unfollowed := true, recurses := true, named := ["internal/bytealg.MaxLen", "slotcode/ident.registers", "slotcode/num.widths"], apart := false, laid := [("slotcode/ident.registers", laid_slotcode_ident_registers), ("slotcode/num.widths", laid_slotcode_num_widths)], narrowed := true }
def LoadSameUptoSaid : Prop := loadSameUptoRow.holds Tryz.pinned (OpenSpec.upto loadSameSpec)

/-- 'slotcodelaw18.LoadPrograms', WHERE WHAT IT READS IS OF BULK AT MOST 1048576: true; the input reads as it did. -/
def loadProgramsUptoRow : OpenClaim := { program := "ytdgnjhhieemcaaagreatdoor", sum := "ff1fe7b42c1b72b268c9bf53f4569e08f1dfb7482b508d9db162255b1767fced", func := "slotcode/slotcodelaw18.LoadPrograms", spec := "loadPrograms", inPlace := ["internal/bytealg.IndexByteString", "internal/bytealg.IndexString", "math/bits.Add64", "internal/bytealg.IndexByte", "internal/bytealg.Index"], unfollowed := true, recurses := true, named := ["internal/bytealg.MaxLen", "slotcode/ident.registers", "slotcode/num.widths"], apart := false, laid := [("slotcode/ident.registers", laid_slotcode_ident_registers), ("slotcode/num.widths", laid_slotcode_num_widths)], narrowed := true }
def LoadProgramsUptoSaid : Prop := loadProgramsUptoRow.holds Tryz.pinned (OpenSpec.upto loadProgramsSpec)

end Rows
end Go.Proofs.YtdgnjhhieemcaaaGreatDoor
