/-
  NARROWER THAN 'FOR EVERY INPUT', by the rows' own cells (each row's printed sentence says how): ValidChecks: laid · ValidBytes: laid · ValidCode: laid · ValidTargets: laid · ValidPrograms: laid · ValidSlots: laid.
  DERIVED. THE GIVEN ROWS OF THIS SEAT. 6 by the template 'for every input the law returns true; each argument reads behind the call as it read before'; 0 by the template 'total and deterministic' (their statements: YtihiggnglmhggaaGreatDoorTotals.lean).
  GIVEN WITH THE SEED: the statements are not yours to turn. If you find one false, say at which input.
  Laid BY PROGRAM, IN A SANDBOX (cutbox-rows.mjs): the forced cells as the released guide's own fill.sh prints them over the translation 219c6c114a867e66… (all of the seat's roots in one cut). By AI agents, Wed Nov 11 2026. No macro, syntax, notation, axiom, sorry.
-/
import Derived.Test.YtihiggnglmhggaaGreatDoorChecked
import GoSem.Claim
import GoSem.ClaimJoined
import GoSem.ClaimMapViews
import Derived.JoinedTies
import Derived.KernelRfl
namespace Go.Proofs.YtihiggnglmhggaaGreatDoor
/- THE CELL 'sum', in the pinned program and in every row, IS THE sha256 OF THE DUMP (.gsa) THAT YtihiggnglmhggaaGreatDoorProg.lean LOADS. Nothing in Lean hashes anything: it is a label: what it is worth is what the hold of that sum in a sandbox is worth. -/
noncomputable def Tryz.pinned : Pinned := { name := "ytihiggnglmhggaagreatdoor", sum := "219c6c114a867e6614e4a5f01ad8fb9eeae4daefeca2dbd8ef5b2dda6c7abc6b", checked := Tryz.checked }
namespace Rows
def none {H : Type} : Left H := { results := [], args := [] }

/- WHAT THE LISTED PACKAGE-LEVEL VARIABLES READ AS WHEN THE CALL BEGINS. Each datum BY PROGRAM (the guide's laid-datum.mjs) off the statement by which the dump's own 'gosem.cut.vars' lays the variable. In a bare row this is a premise. The card (YtihiggnglmhggaaGreatDoorCards.lean) ties it to the program's text. -/
def laid_slotcode_ident_registers {H : Type} : DataW H := .agg [.lit (.string [114, 48]), .lit (.string [114, 49]), .lit (.string [114, 50]), .lit (.string [114, 51]), .lit (.string [114, 52]), .lit (.string [114, 53]), .lit (.string [114, 54]), .lit (.string [114, 55]), .lit (.string [114, 56]), .lit (.string [114, 57]), .lit (.string [114, 49, 48])]
def laid_slotcode_num_widths {H : Type} : DataW H := .agg [.lit (.int .i64 8), .lit (.int .i64 16), .lit (.int .i64 32), .lit (.int .i64 64)]

/-- 'slotcodelaw17.ValidChecks': WHATEVER THE INPUT: true; the input reads as it did. -/
def validChecksSpec : ChangeSpec := { name := "validChecks", fn := fun _ => fun
  | [d] => { results := [.lit (.bool true)], args := [d] }
  | _ => none }
def validChecksRow : OpenClaim := { program := "ytihiggnglmhggaagreatdoor", sum := "219c6c114a867e6614e4a5f01ad8fb9eeae4daefeca2dbd8ef5b2dda6c7abc6b", func := "slotcode/slotcodelaw17.ValidChecks", spec := "validChecks", inPlace := ["internal/bytealg.IndexByte", "internal/bytealg.Index", "internal/bytealg.IndexByteString", "internal/bytealg.IndexString"], unfollowed := true, recurses := true, named := ["slotcode/ident.registers", "slotcode/num.widths", "internal/bytealg.MaxLen"], apart := false, laid := [("slotcode/ident.registers", laid_slotcode_ident_registers), ("slotcode/num.widths", laid_slotcode_num_widths)] }
def ValidChecksSaid : Prop := validChecksRow.holds Tryz.pinned (OpenSpec.ofChange validChecksSpec)

/-- ITS FALSE NEIGHBOUR: 'it returns false'. Refute it at one input. -/
def validChecksWrong : ChangeSpec := { name := "validChecks", fn := fun _ => fun
  | [d] => { results := [.lit (.bool false)], args := [d] }
  | _ => none }
def ValidChecksWrongFalsely : Prop := validChecksRow.holds Tryz.pinned (OpenSpec.ofChange validChecksWrong)

/-- 'slotcodelaw17.ValidBytes': WHATEVER THE INPUT: true; the input reads as it did. -/
def validBytesSpec : ChangeSpec := { name := "validBytes", fn := fun _ => fun
  | [d] => { results := [.lit (.bool true)], args := [d] }
  | _ => none }
def validBytesRow : OpenClaim := { program := "ytihiggnglmhggaagreatdoor", sum := "219c6c114a867e6614e4a5f01ad8fb9eeae4daefeca2dbd8ef5b2dda6c7abc6b", func := "slotcode/slotcodelaw17.ValidBytes", spec := "validBytes", inPlace := ["internal/bytealg.IndexByte", "internal/bytealg.Index", "internal/bytealg.IndexByteString", "internal/bytealg.IndexString"], unfollowed := true, recurses := true, named := ["slotcode/ident.registers", "slotcode/num.widths", "internal/bytealg.MaxLen"], apart := false, laid := [("slotcode/ident.registers", laid_slotcode_ident_registers), ("slotcode/num.widths", laid_slotcode_num_widths)] }
def ValidBytesSaid : Prop := validBytesRow.holds Tryz.pinned (OpenSpec.ofChange validBytesSpec)

/-- ITS FALSE NEIGHBOUR: 'it returns false'. Refute it at one input. -/
def validBytesWrong : ChangeSpec := { name := "validBytes", fn := fun _ => fun
  | [d] => { results := [.lit (.bool false)], args := [d] }
  | _ => none }
def ValidBytesWrongFalsely : Prop := validBytesRow.holds Tryz.pinned (OpenSpec.ofChange validBytesWrong)

/-- 'slotcodelaw17.ValidCode': WHATEVER THE INPUT: true; the input reads as it did. -/
def validCodeSpec : ChangeSpec := { name := "validCode", fn := fun _ => fun
  | [d] => { results := [.lit (.bool true)], args := [d] }
  | _ => none }
def validCodeRow : OpenClaim := { program := "ytihiggnglmhggaagreatdoor", sum := "219c6c114a867e6614e4a5f01ad8fb9eeae4daefeca2dbd8ef5b2dda6c7abc6b", func := "slotcode/slotcodelaw17.ValidCode", spec := "validCode", inPlace := ["internal/bytealg.IndexByte", "internal/bytealg.Index", "internal/bytealg.IndexByteString", "internal/bytealg.IndexString"], unfollowed := true, recurses := true, named := ["slotcode/ident.registers", "slotcode/num.widths", "internal/bytealg.MaxLen"], apart := false, laid := [("slotcode/ident.registers", laid_slotcode_ident_registers), ("slotcode/num.widths", laid_slotcode_num_widths)] }
def ValidCodeSaid : Prop := validCodeRow.holds Tryz.pinned (OpenSpec.ofChange validCodeSpec)

/-- ITS FALSE NEIGHBOUR: 'it returns false'. Refute it at one input. -/
def validCodeWrong : ChangeSpec := { name := "validCode", fn := fun _ => fun
  | [d] => { results := [.lit (.bool false)], args := [d] }
  | _ => none }
def ValidCodeWrongFalsely : Prop := validCodeRow.holds Tryz.pinned (OpenSpec.ofChange validCodeWrong)

/-- 'slotcodelaw17.ValidTargets': WHATEVER THE INPUT: true; the input reads as it did. -/
def validTargetsSpec : ChangeSpec := { name := "validTargets", fn := fun _ => fun
  | [d] => { results := [.lit (.bool true)], args := [d] }
  | _ => none }
def validTargetsRow : OpenClaim := { program := "ytihiggnglmhggaagreatdoor", sum := "219c6c114a867e6614e4a5f01ad8fb9eeae4daefeca2dbd8ef5b2dda6c7abc6b", func := "slotcode/slotcodelaw17.ValidTargets", spec := "validTargets", inPlace := ["internal/bytealg.IndexByte", "internal/bytealg.Index", "internal/bytealg.IndexByteString", "internal/bytealg.IndexString"], unfollowed := true, recurses := true, named := ["slotcode/ident.registers", "slotcode/num.widths", "internal/bytealg.MaxLen"], apart := false, laid := [("slotcode/ident.registers", laid_slotcode_ident_registers), ("slotcode/num.widths", laid_slotcode_num_widths)] }
def ValidTargetsSaid : Prop := validTargetsRow.holds Tryz.pinned (OpenSpec.ofChange validTargetsSpec)

/-- ITS FALSE NEIGHBOUR: 'it returns false'. Refute it at one input. -/
def validTargetsWrong : ChangeSpec := { name := "validTargets", fn := fun _ => fun
  | [d] => { results := [.lit (.bool false)], args := [d] }
  | _ => none }
def ValidTargetsWrongFalsely : Prop := validTargetsRow.holds Tryz.pinned (OpenSpec.ofChange validTargetsWrong)

/-- 'slotcodelaw17.ValidPrograms': WHATEVER THE INPUT: true; the input reads as it did. -/
def validProgramsSpec : ChangeSpec := { name := "validPrograms", fn := fun _ => fun
  | [d] => { results := [.lit (.bool true)], args := [d] }
  | _ => none }
def validProgramsRow : OpenClaim := { program := "ytihiggnglmhggaagreatdoor", sum := "219c6c114a867e6614e4a5f01ad8fb9eeae4daefeca2dbd8ef5b2dda6c7abc6b", func := "slotcode/slotcodelaw17.ValidPrograms", spec := "validPrograms", inPlace := ["internal/bytealg.IndexByte", "internal/bytealg.Index", "internal/bytealg.IndexByteString", "internal/bytealg.IndexString"], unfollowed := true, recurses := true, named := ["slotcode/ident.registers", "slotcode/num.widths", "internal/bytealg.MaxLen"], apart := false, laid := [("slotcode/ident.registers", laid_slotcode_ident_registers), ("slotcode/num.widths", laid_slotcode_num_widths)] }
def ValidProgramsSaid : Prop := validProgramsRow.holds Tryz.pinned (OpenSpec.ofChange validProgramsSpec)

/-- ITS FALSE NEIGHBOUR: 'it returns false'. Refute it at one input. -/
def validProgramsWrong : ChangeSpec := { name := "validPrograms", fn := fun _ => fun
  | [d] => { results := [.lit (.bool false)], args := [d] }
  | _ => none }
def ValidProgramsWrongFalsely : Prop := validProgramsRow.holds Tryz.pinned (OpenSpec.ofChange validProgramsWrong)

/-- 'slotcodelaw17.ValidSlots': WHATEVER THE INPUT: true; the input reads as it did. -/
def validSlotsSpec : ChangeSpec := { name := "validSlots", fn := fun _ => fun
  | [d] => { results := [.lit (.bool true)], args := [d] }
  | _ => none }
def validSlotsRow : OpenClaim := { program := "ytihiggnglmhggaagreatdoor", sum := "219c6c114a867e6614e4a5f01ad8fb9eeae4daefeca2dbd8ef5b2dda6c7abc6b", func := "slotcode/slotcodelaw17.ValidSlots", spec := "validSlots", inPlace := ["internal/bytealg.IndexByte", "internal/bytealg.Index", "internal/bytealg.IndexByteString", "internal/bytealg.IndexString"], unfollowed := true, recurses := true, named := ["slotcode/ident.registers", "slotcode/num.widths", "internal/bytealg.MaxLen"], apart := false, laid := [("slotcode/ident.registers", laid_slotcode_ident_registers), ("slotcode/num.widths", laid_slotcode_num_widths)] }
def ValidSlotsSaid : Prop := validSlotsRow.holds Tryz.pinned (OpenSpec.ofChange validSlotsSpec)

/-- ITS FALSE NEIGHBOUR: 'it returns false'. Refute it at one input. -/
def validSlotsWrong : ChangeSpec := { name := "validSlots", fn := fun _ => fun
  | [d] => { results := [.lit (.bool false)], args := [d] }
  | _ => none }
def ValidSlotsWrongFalsely : Prop := validSlotsRow.holds Tryz.pinned (OpenSpec.ofChange validSlotsWrong)

/- THE SECOND FORM. 'bulk': how many values and letters a reading holds, each counted each time it is reached (what is shared counts as often as it is met; a slice's spare places count too). A statement '..UptoSaid' is the law's where the arguments, and the package variables that the reading takes, are together of bulk at most 1048576: NARROWER than '..Said'. Prove '..Said' where nothing that the law and all that it calls make is longer than what came in: it says more and counts as full. Else prove '..UptoSaid'. A law counts once. -/
mutual
def uptoBulk {H : Type} : DataW H → Nat
  | .lit (.string bytes) => bytes.length + 1
  | .lit _ => 1
  | .nil => 1
  | .ptr d => uptoBulk d + 1
  | .slice elems spare => uptoBulkAll elems + uptoBulkAll spare + 1
  | .agg parts => uptoBulkAll parts + 1
  | .iface _ d => uptoBulk d + 1
  | .map entries => uptoBulkEntries entries + 1
  | .held _ => 1
def uptoBulkAll {H : Type} : List (DataW H) → Nat
  | [] => 0
  | d :: r => uptoBulk d + uptoBulkAll r
def uptoBulkEntries {H : Type} : List (Lit × DataW H) → Nat
  | [] => 0
  | x :: r => uptoBulkEntry x + uptoBulkEntries r
def uptoBulkEntry {H : Type} : Lit × DataW H → Nat
  | (.string bytes, d) => bytes.length + uptoBulk d + 1
  | (_, d) => uptoBulk d + 1
 end
def uptoSmall : (H : Type) → List (DataW H) → Bool := fun _ ds => decide (uptoBulkAll ds ≤ 1048576)
def OpenSpec.upto (s : _root_.Go.ChangeSpec) : _root_.Go.OpenSpec := { _root_.Go.OpenSpec.ofChange s with cond := some uptoSmall }

/-- 'slotcodelaw17.ValidChecks', WHERE WHAT IT READS IS OF BULK AT MOST 1048576: true; the input reads as it did. -/
def validChecksUptoRow : OpenClaim := { program := "ytihiggnglmhggaagreatdoor", sum := "219c6c114a867e6614e4a5f01ad8fb9eeae4daefeca2dbd8ef5b2dda6c7abc6b", func := "slotcode/slotcodelaw17.ValidChecks", spec := "validChecks", inPlace := ["internal/bytealg.IndexByte", "internal/bytealg.Index", "internal/bytealg.IndexByteString", "internal/bytealg.IndexString"], unfollowed := true, recurses := true, named := ["slotcode/ident.registers", "slotcode/num.widths", "internal/bytealg.MaxLen"], apart := false, laid := [("slotcode/ident.registers", laid_slotcode_ident_registers), ("slotcode/num.widths", laid_slotcode_num_widths)], narrowed := true }
def ValidChecksUptoSaid : Prop := validChecksUptoRow.holds Tryz.pinned (OpenSpec.upto validChecksSpec)

/-- 'slotcodelaw17.ValidBytes', WHERE WHAT IT READS IS OF BULK AT MOST 1048576: true; the input reads as it did. -/
def validBytesUptoRow : OpenClaim := { program := "ytihiggnglmhggaagreatdoor", sum := "219c6c114a867e6614e4a5f01ad8fb9eeae4daefeca2dbd8ef5b2dda6c7abc6b", func := "slotcode/slotcodelaw17.ValidBytes", spec := "validBytes", inPlace := ["internal/bytealg.IndexByte", "internal/bytealg.Index", "internal/bytealg.IndexByteString", "internal/bytealg.IndexString"], unfollowed := true, recurses := true, named := ["slotcode/ident.registers", "slotcode/num.widths", "internal/bytealg.MaxLen"], apart := false, laid := [("slotcode/ident.registers", laid_slotcode_ident_registers), ("slotcode/num.widths", laid_slotcode_num_widths)], narrowed := true }
def ValidBytesUptoSaid : Prop := validBytesUptoRow.holds Tryz.pinned (OpenSpec.upto validBytesSpec)

/-- 'slotcodelaw17.ValidCode', WHERE WHAT IT READS IS OF BULK AT MOST 1048576: true; the input reads as it did. -/
def validCodeUptoRow : OpenClaim := { program := "ytihiggnglmhggaagreatdoor", sum := "219c6c114a867e6614e4a5f01ad8fb9eeae4daefeca2dbd8ef5b2dda6c7abc6b", func := "slotcode/slotcodelaw17.ValidCode", spec := "validCode", inPlace := ["internal/bytealg.IndexByte", "internal/bytealg.Index", "internal/bytealg.IndexByteString", "internal/bytealg.IndexString"], unfollowed := true, recurses := true, named := ["slotcode/ident.registers", "slotcode/num.widths", "internal/bytealg.MaxLen"], apart := false, laid := [("slotcode/ident.registers", laid_slotcode_ident_registers), ("slotcode/num.widths", laid_slotcode_num_widths)], narrowed := true }
def ValidCodeUptoSaid : Prop := validCodeUptoRow.holds Tryz.pinned (OpenSpec.upto validCodeSpec)

/-- 'slotcodelaw17.ValidTargets', WHERE WHAT IT READS IS OF BULK AT MOST 1048576: true; the input reads as it did. -/
def validTargetsUptoRow : OpenClaim := { program := "ytihiggnglmhggaagreatdoor", sum := "219c6c114a867e6614e4a5f01ad8fb9eeae4daefeca2dbd8ef5b2dda6c7abc6b", func := "slotcode/slotcodelaw17.ValidTargets", spec := "validTargets", inPlace := ["internal/bytealg.IndexByte", "internal/bytealg.Index", "internal/bytealg.IndexByteString", "internal/bytealg.IndexString"], unfollowed := true, recurses := true, named := ["slotcode/ident.registers", "slotcode/num.widths", "internal/bytealg.MaxLen"], apart := false, laid := [("slotcode/ident.registers", laid_slotcode_ident_registers), ("slotcode/num.widths", laid_slotcode_num_widths)], narrowed := true }
def ValidTargetsUptoSaid : Prop := validTargetsUptoRow.holds Tryz.pinned (OpenSpec.upto validTargetsSpec)

/-- 'slotcodelaw17.ValidPrograms', WHERE WHAT IT READS IS OF BULK AT MOST 1048576: true; the input reads as it did. -/
def validProgramsUptoRow : OpenClaim := { program := "ytihiggnglmhggaagreatdoor", sum := "219c6c114a867e6614e4a5f01ad8fb9eeae4daefeca2dbd8ef5b2dda6c7abc6b", func := "slotcode/slotcodelaw17.ValidPrograms", spec := "validPrograms", inPlace := ["internal/bytealg.IndexByte", "internal/bytealg.Index", "internal/bytealg.IndexByteString", "internal/bytealg.IndexString"], unfollowed := true, recurses := true, named := ["slotcode/ident.registers", "slotcode/num.widths", "internal/bytealg.MaxLen"], apart := false, laid := [("slotcode/ident.registers", laid_slotcode_ident_registers), ("slotcode/num.widths", laid_slotcode_num_widths)], narrowed := true }
def ValidProgramsUptoSaid : Prop := validProgramsUptoRow.holds Tryz.pinned (OpenSpec.upto validProgramsSpec)

/-- 'slotcodelaw17.ValidSlots', WHERE WHAT IT READS IS OF BULK AT MOST 1048576: true; the input reads as it did. -/
def validSlotsUptoRow : OpenClaim := { program := "ytihiggnglmhggaagreatdoor", sum := "219c6c114a867e6614e4a5f01ad8fb9eeae4daefeca2dbd8ef5b2dda6c7abc6b", func := "slotcode/slotcodelaw17.ValidSlots", spec := "validSlots", inPlace := ["internal/bytealg.IndexByte", "internal/bytealg.Index", "internal/bytealg.IndexByteString", "internal/bytealg.IndexString"], unfollowed := true, recurses := true, named := ["slotcode/ident.registers", "slotcode/num.widths", "internal/bytealg.MaxLen"], apart := false, laid := [("slotcode/ident.registers", laid_slotcode_ident_registers), ("slotcode/num.widths", laid_slotcode_num_widths)], narrowed := true }
def ValidSlotsUptoSaid : Prop := validSlotsUptoRow.holds Tryz.pinned (OpenSpec.upto validSlotsSpec)

end Rows
end Go.Proofs.YtihiggnglmhggaaGreatDoor
