/-
  NARROWER THAN 'FOR EVERY INPUT', by the rows' own cells (each row's printed sentence says how): ObjectChecks: laid · ObjectPacks: laid · ObjectParses: laid · ObjectIsCanonical: laid · ObjectPrograms: laid.
  DERIVED. THE GIVEN ROWS OF THIS SEAT. 5 by the template 'for every input the law returns true; each argument reads behind the call as it read before'; 0 by the template 'total and deterministic' (their statements: YtohkgdfkklfgmaaGreatDoorTotals.lean).
  GIVEN WITH THE SEED: the statements are not yours to turn. If you find one false, say at which input.
  Laid BY PROGRAM, IN A SANDBOX (cutbox-rows.mjs): the forced cells as the released guide's own fill.sh prints them over the translation f28e9758ec41eedd… (all of the seat's roots in one cut). By AI agents, Wed Nov 11 2026. No macro, syntax, notation, axiom, sorry.
-/
import Derived.Test.YtohkgdfkklfgmaaGreatDoorChecked
import GoSem.Claim
import GoSem.ClaimJoined
import GoSem.ClaimMapViews
import Derived.JoinedTies
import Derived.KernelRfl
namespace Go.Proofs.YtohkgdfkklfgmaaGreatDoor
/- THE CELL 'sum', in the pinned program and in every row, IS THE sha256 OF THE DUMP (.gsa) THAT YtohkgdfkklfgmaaGreatDoorProg.lean LOADS. Nothing in Lean hashes anything: it is a label: what it is worth is what the hold of that sum in a sandbox is worth. -/
noncomputable def Tryz.pinned : Pinned := { name := "ytohkgdfkklfgmaagreatdoor", sum := "f28e9758ec41eedd962ad6bb8721f209aae1f9dae46eb17a122b493a09a7252c", checked := Tryz.checked }
namespace Rows
def none {H : Type} : Left H := { results := [], args := [] }

/- WHAT THE LISTED PACKAGE-LEVEL VARIABLES READ AS WHEN THE CALL BEGINS. Each datum BY PROGRAM (the guide's laid-datum.mjs) off the statement by which the dump's own 'gosem.cut.vars' lays the variable. In a bare row this is a premise. The card (YtohkgdfkklfgmaaGreatDoorCards.lean) ties it to the program's text. -/
def laid_slotcode_ident_registers {H : Type} : DataW H := .agg [.lit (.string [114, 48]), .lit (.string [114, 49]), .lit (.string [114, 50]), .lit (.string [114, 51]), .lit (.string [114, 52]), .lit (.string [114, 53]), .lit (.string [114, 54]), .lit (.string [114, 55]), .lit (.string [114, 56]), .lit (.string [114, 57]), .lit (.string [114, 49, 48])]
def laid_slotcode_num_widths {H : Type} : DataW H := .agg [.lit (.int .i64 8), .lit (.int .i64 16), .lit (.int .i64 32), .lit (.int .i64 64)]

/-- 'slotcodelaw16.ObjectChecks': WHATEVER THE INPUT: true; the input reads as it did. -/
def objectChecksSpec : ChangeSpec := { name := "objectChecks", fn := fun _ => fun
  | [d] => { results := [.lit (.bool true)], args := [d] }
  | _ => none }
def objectChecksRow : OpenClaim := { program := "ytohkgdfkklfgmaagreatdoor", sum := "f28e9758ec41eedd962ad6bb8721f209aae1f9dae46eb17a122b493a09a7252c", func := "slotcode/slotcodelaw16.ObjectChecks", spec := "objectChecks", inPlace := ["internal/bytealg.IndexByteString", "internal/bytealg.IndexString", "internal/bytealg.IndexByte", "internal/bytealg.Index"], unfollowed := true, recurses := true, named := ["slotcode/ident.registers", "slotcode/num.widths", "internal/bytealg.MaxLen"], apart := false, laid := [("slotcode/ident.registers", laid_slotcode_ident_registers), ("slotcode/num.widths", laid_slotcode_num_widths)] }
def ObjectChecksSaid : Prop := objectChecksRow.holds Tryz.pinned (OpenSpec.ofChange objectChecksSpec)

/-- ITS FALSE NEIGHBOUR: 'it returns false'. Refute it at one input. -/
def objectChecksWrong : ChangeSpec := { name := "objectChecks", fn := fun _ => fun
  | [d] => { results := [.lit (.bool false)], args := [d] }
  | _ => none }
def ObjectChecksWrongFalsely : Prop := objectChecksRow.holds Tryz.pinned (OpenSpec.ofChange objectChecksWrong)

/-- 'slotcodelaw16.ObjectPacks': WHATEVER THE INPUT: true; the input reads as it did. -/
def objectPacksSpec : ChangeSpec := { name := "objectPacks", fn := fun _ => fun
  | [d] => { results := [.lit (.bool true)], args := [d] }
  | _ => none }
def objectPacksRow : OpenClaim := { program := "ytohkgdfkklfgmaagreatdoor", sum := "f28e9758ec41eedd962ad6bb8721f209aae1f9dae46eb17a122b493a09a7252c", func := "slotcode/slotcodelaw16.ObjectPacks", spec := "objectPacks", inPlace := ["internal/bytealg.IndexByteString", "internal/bytealg.IndexString", "internal/bytealg.IndexByte", "internal/bytealg.Index"], unfollowed := true, recurses := true, named := ["slotcode/ident.registers", "slotcode/num.widths", "internal/bytealg.MaxLen"], apart := false, laid := [("slotcode/ident.registers", laid_slotcode_ident_registers), ("slotcode/num.widths", laid_slotcode_num_widths)] }
def ObjectPacksSaid : Prop := objectPacksRow.holds Tryz.pinned (OpenSpec.ofChange objectPacksSpec)

/-- ITS FALSE NEIGHBOUR: 'it returns false'. Refute it at one input. -/
def objectPacksWrong : ChangeSpec := { name := "objectPacks", fn := fun _ => fun
  | [d] => { results := [.lit (.bool false)], args := [d] }
  | _ => none }
def ObjectPacksWrongFalsely : Prop := objectPacksRow.holds Tryz.pinned (OpenSpec.ofChange objectPacksWrong)

/-- 'slotcodelaw16.ObjectParses': WHATEVER THE INPUT: true; the input reads as it did. -/
def objectParsesSpec : ChangeSpec := { name := "objectParses", fn := fun _ => fun
  | [d] => { results := [.lit (.bool true)], args := [d] }
  | _ => none }
def objectParsesRow : OpenClaim := { program := "ytohkgdfkklfgmaagreatdoor", sum := "f28e9758ec41eedd962ad6bb8721f209aae1f9dae46eb17a122b493a09a7252c", func := "slotcode/slotcodelaw16.ObjectParses", spec := "objectParses", inPlace := ["internal/bytealg.IndexByteString", "internal/bytealg.IndexString", "internal/bytealg.IndexByte", "internal/bytealg.Index"], unfollowed := true, recurses := true, named := ["slotcode/ident.registers", "slotcode/num.widths", "internal/bytealg.MaxLen"], apart := false, laid := [("slotcode/ident.registers", laid_slotcode_ident_registers), ("slotcode/num.widths", laid_slotcode_num_widths)] }
def ObjectParsesSaid : Prop := objectParsesRow.holds Tryz.pinned (OpenSpec.ofChange objectParsesSpec)

/-- ITS FALSE NEIGHBOUR: 'it returns false'. Refute it at one input. -/
def objectParsesWrong : ChangeSpec := { name := "objectParses", fn := fun _ => fun
  | [d] => { results := [.lit (.bool false)], args := [d] }
  | _ => none }
def ObjectParsesWrongFalsely : Prop := objectParsesRow.holds Tryz.pinned (OpenSpec.ofChange objectParsesWrong)

/-- 'slotcodelaw16.ObjectIsCanonical': WHATEVER THE INPUT: true; the input reads as it did. -/
def objectIsCanonicalSpec : ChangeSpec := { name := "objectIsCanonical", fn := fun _ => fun
  | [d] => { results := [.lit (.bool true)], args := [d] }
  | _ => none }
def objectIsCanonicalRow : OpenClaim := { program := "ytohkgdfkklfgmaagreatdoor", sum := "f28e9758ec41eedd962ad6bb8721f209aae1f9dae46eb17a122b493a09a7252c", func := "slotcode/slotcodelaw16.ObjectIsCanonical", spec := "objectIsCanonical", inPlace := ["internal/bytealg.IndexByteString", "internal/bytealg.IndexString", "internal/bytealg.IndexByte", "internal/bytealg.Index"], unfollowed := true, recurses := true, named := ["slotcode/ident.registers", "slotcode/num.widths", "internal/bytealg.MaxLen"], apart := false, laid := [("slotcode/ident.registers", laid_slotcode_ident_registers), ("slotcode/num.widths", laid_slotcode_num_widths)] }
def ObjectIsCanonicalSaid : Prop := objectIsCanonicalRow.holds Tryz.pinned (OpenSpec.ofChange objectIsCanonicalSpec)

/-- ITS FALSE NEIGHBOUR: 'it returns false'. Refute it at one input. -/
def objectIsCanonicalWrong : ChangeSpec := { name := "objectIsCanonical", fn := fun _ => fun
  | [d] => { results := [.lit (.bool false)], args := [d] }
  | _ => none }
def ObjectIsCanonicalWrongFalsely : Prop := objectIsCanonicalRow.holds Tryz.pinned (OpenSpec.ofChange objectIsCanonicalWrong)

/-- 'slotcodelaw16.ObjectPrograms': WHATEVER THE INPUT: true; the input reads as it did. -/
def objectProgramsSpec : ChangeSpec := { name := "objectPrograms", fn := fun _ => fun
  | [d] => { results := [.lit (.bool true)], args := [d] }
  | _ => none }
def objectProgramsRow : OpenClaim := { program := "ytohkgdfkklfgmaagreatdoor", sum := "f28e9758ec41eedd962ad6bb8721f209aae1f9dae46eb17a122b493a09a7252c", func := "slotcode/slotcodelaw16.ObjectPrograms", spec := "objectPrograms", inPlace := ["internal/bytealg.IndexByteString", "internal/bytealg.IndexString", "internal/bytealg.IndexByte", "internal/bytealg.Index"], unfollowed := true, recurses := true, named := ["slotcode/ident.registers", "slotcode/num.widths", "internal/bytealg.MaxLen"], apart := false, laid := [("slotcode/ident.registers", laid_slotcode_ident_registers), ("slotcode/num.widths", laid_slotcode_num_widths)] }
def ObjectProgramsSaid : Prop := objectProgramsRow.holds Tryz.pinned (OpenSpec.ofChange objectProgramsSpec)

/-- ITS FALSE NEIGHBOUR: 'it returns false'. Refute it at one input. -/
def objectProgramsWrong : ChangeSpec := { name := "objectPrograms", fn := fun _ => fun
  | [d] => { results := [.lit (.bool false)], args := [d] }
  | _ => none }
def ObjectProgramsWrongFalsely : Prop := objectProgramsRow.holds Tryz.pinned (OpenSpec.ofChange objectProgramsWrong)

/- THE SECOND FORM. 'bulk': how many values and letters a reading holds, each counted each time it is reached (what is shared counts as often as it is met; a slice's spare places count too). A statement '..UptoSaid' is the law's where the arguments, and the package variables that the reading takes, are together of bulk at most 1048576: NARROWER than '..Said'. Prove '..Said' where nothing that the law and all that it calls make is longer than what came in: it says more and counts as full. Else prove '..UptoSaid'. A law counts once. -/
mutual
def uptoBulk {H : Type} : DataW H → Nat
  | .lit (.string bytes) => bytes.length + 1
  | .lit _ => 1
  | .nil => 1
  | .ptr d => uptoBulk d + 1
  | .slice elems spare => uptoBulkAll elems + uptoBulkAll spare + 1
  | .agg parts => uptoBulkAll parts + 1
  | .iface _ d => uptoBulk d + 1
  | .map entries => uptoBulkEntries entries + 1
  | .held _ => 1
def uptoBulkAll {H : Type} : List (DataW H) → Nat
  | [] => 0
  | d :: r => uptoBulk d + uptoBulkAll r
def uptoBulkEntries {H : Type} : List (Lit × DataW H) → Nat
  | [] => 0
  | x :: r => uptoBulkEntry x + uptoBulkEntries r
def uptoBulkEntry {H : Type} : Lit × DataW H → Nat
  | (.string bytes, d) => bytes.length + uptoBulk d + 1
  | (_, d) => uptoBulk d + 1
 end
def uptoSmall : (H : Type) → List (DataW H) → Bool := fun _ ds => decide (uptoBulkAll ds ≤ 1048576)
def OpenSpec.upto (s : _root_.Go.ChangeSpec) : _root_.Go.OpenSpec := { _root_.Go.OpenSpec.ofChange s with cond := some uptoSmall }

/-- 'slotcodelaw16.ObjectChecks', WHERE WHAT IT READS IS OF BULK AT MOST 1048576: true; the input reads as it did. -/
def objectChecksUptoRow : OpenClaim := { program := "ytohkgdfkklfgmaagreatdoor", sum := "f28e9758ec41eedd962ad6bb8721f209aae1f9dae46eb17a122b493a09a7252c", func := "slotcode/slotcodelaw16.ObjectChecks", spec := "objectChecks", inPlace := ["internal/bytealg.IndexByteString", "internal/bytealg.IndexString", "internal/bytealg.IndexByte", "internal/bytealg.Index"], unfollowed := true, recurses := true, named := ["slotcode/ident.registers", "slotcode/num.widths", "internal/bytealg.MaxLen"], apart := false, laid := [("slotcode/ident.registers", laid_slotcode_ident_registers), ("slotcode/num.widths", laid_slotcode_num_widths)], narrowed := true }
def ObjectChecksUptoSaid : Prop := objectChecksUptoRow.holds Tryz.pinned (OpenSpec.upto objectChecksSpec)

/-- 'slotcodelaw16.ObjectPacks', WHERE WHAT IT READS IS OF BULK AT MOST 1048576: true; the input reads as it did. -/
def objectPacksUptoRow : OpenClaim := { program := "ytohkgdfkklfgmaagreatdoor", sum := "f28e9758ec41eedd962ad6bb8721f209aae1f9dae46eb17a122b493a09a7252c", func := "slotcode/slotcodelaw16.ObjectPacks", spec := "objectPacks", inPlace := ["internal/bytealg.IndexByteString", "internal/bytealg.IndexString", "internal/bytealg.IndexByte", "internal/bytealg.Index"], unfollowed := true, recurses := true, named := ["slotcode/ident.registers", "slotcode/num.widths", "internal/bytealg.MaxLen"], apart := false, laid := [("slotcode/ident.registers", laid_slotcode_ident_registers), ("slotcode/num.widths", laid_slotcode_num_widths)], narrowed := true }
def ObjectPacksUptoSaid : Prop := objectPacksUptoRow.holds Tryz.pinned (OpenSpec.upto objectPacksSpec)

/-- 'slotcodelaw16.ObjectParses', WHERE WHAT IT READS IS OF BULK AT MOST 1048576: true; the input reads as it did. -/
def objectParsesUptoRow : OpenClaim := { program := "ytohkgdfkklfgmaagreatdoor", sum := "f28e9758ec41eedd962ad6bb8721f209aae1f9dae46eb17a122b493a09a7252c", func := "slotcode/slotcodelaw16.ObjectParses", spec := "objectParses", inPlace := ["internal/bytealg.IndexByteString", "internal/bytealg.IndexString", "internal/bytealg.IndexByte", "internal/bytealg.Index"], unfollowed := true, recurses := true, named := ["slotcode/ident.registers", "slotcode/num.widths", "internal/bytealg.MaxLen"], apart := false, laid := [("slotcode/ident.registers", laid_slotcode_ident_registers), ("slotcode/num.widths", laid_slotcode_num_widths)], narrowed := true }
def ObjectParsesUptoSaid : Prop := objectParsesUptoRow.holds Tryz.pinned (OpenSpec.upto objectParsesSpec)

/-- 'slotcodelaw16.ObjectIsCanonical', WHERE WHAT IT READS IS OF BULK AT MOST 1048576: true; the input reads as it did. -/
def objectIsCanonicalUptoRow : OpenClaim := { program := "ytohkgdfkklfgmaagreatdoor", sum := "f28e9758ec41eedd962ad6bb8721f209aae1f9dae46eb17a122b493a09a7252c", func := "slotcode/slotcodelaw16.ObjectIsCanonical", spec := "objectIsCanonical", inPlace := ["internal/bytealg.IndexByteString", "internal/bytealg.IndexString", "internal/bytealg.IndexByte", "internal/bytealg.Index"], unfollowed := true, recurses := true, named := ["slotcode/ident.registers", "slotcode/num.widths", "internal/bytealg.MaxLen"], apart := false, laid := [("slotcode/ident.registers", laid_slotcode_ident_registers), ("slotcode/num.widths", laid_slotcode_num_widths)], narrowed := true }
def ObjectIsCanonicalUptoSaid : Prop := objectIsCanonicalUptoRow.holds Tryz.pinned (OpenSpec.upto objectIsCanonicalSpec)

/-- 'slotcodelaw16.ObjectPrograms', WHERE WHAT IT READS IS OF BULK AT MOST 1048576: true; the input reads as it did. -/
def objectProgramsUptoRow : OpenClaim := { program := "ytohkgdfkklfgmaagreatdoor", sum := "f28e9758ec41eedd962ad6bb8721f209aae1f9dae46eb17a122b493a09a7252c", func := "slotcode/slotcodelaw16.ObjectPrograms", spec := "objectPrograms", inPlace := ["internal/bytealg.IndexByteString", "internal/bytealg.IndexString", "internal/bytealg.IndexByte", "internal/bytealg.Index"], unfollowed := true, recurses := true, named := ["slotcode/ident.registers", "slotcode/num.widths", "internal/bytealg.MaxLen"], apart := false, laid := [("slotcode/ident.registers", laid_slotcode_ident_registers), ("slotcode/num.widths", laid_slotcode_num_widths)], narrowed := true }
def ObjectProgramsUptoSaid : Prop := objectProgramsUptoRow.holds Tryz.pinned (OpenSpec.upto objectProgramsSpec)

end Rows
end Go.Proofs.YtohkgdfkklfgmaaGreatDoor
