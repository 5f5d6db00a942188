/-
  NARROWER THAN 'FOR EVERY INPUT', by the rows' own cells (each row's printed sentence says how): ProgChecks: laid · ProgSame: laid · ProgClones: laid · ProgLabels: laid · ProgIsCorrect: laid.
  DERIVED. THE GIVEN ROWS OF THIS SEAT. 5 by the template 'for every input the law returns true; each argument reads behind the call as it read before'; 0 by the template 'total and deterministic' (their statements: YtakblmonbeflmaaGreatDoorTotals.lean).
  GIVEN WITH THE SEED: the statements are not yours to turn. If you find one false, say at which input.
  Laid BY PROGRAM, IN A SANDBOX (cutbox-rows.mjs): the forced cells as the released guide's own fill.sh prints them over the translation a836de994b44e003… (all of the seat's roots in one cut). By AI agents, Wed Nov 11 2026. No macro, syntax, notation, axiom, sorry.
-/
import Derived.Test.YtakblmonbeflmaaGreatDoorChecked
import GoSem.Claim
import GoSem.ClaimJoined
import GoSem.ClaimMapViews
import Derived.JoinedTies
import Derived.KernelRfl
namespace Go.Proofs.YtakblmonbeflmaaGreatDoor
/- THE CELL 'sum', in the pinned program and in every row, IS THE sha256 OF THE DUMP (.gsa) THAT YtakblmonbeflmaaGreatDoorProg.lean LOADS. Nothing in Lean hashes anything: it is a label: what it is worth is what the hold of that sum in a sandbox is worth. -/
noncomputable def Tryz.pinned : Pinned := { name := "ytakblmonbeflmaagreatdoor", sum := "a836de994b44e003e60113f58fd4f35bca6d0fdff6a883342c5a86b24d2b17ef", checked := Tryz.checked }
namespace Rows
def none {H : Type} : Left H := { results := [], args := [] }

/- WHAT THE LISTED PACKAGE-LEVEL VARIABLES READ AS WHEN THE CALL BEGINS. Each datum BY PROGRAM (the guide's laid-datum.mjs) off the statement by which the dump's own 'gosem.cut.vars' lays the variable. In a bare row this is a premise. The card (YtakblmonbeflmaaGreatDoorCards.lean) ties it to the program's text. -/
def laid_slotcode_ident_registers {H : Type} : DataW H := .agg [.lit (.string [114, 48]), .lit (.string [114, 49]), .lit (.string [114, 50]), .lit (.string [114, 51]), .lit (.string [114, 52]), .lit (.string [114, 53]), .lit (.string [114, 54]), .lit (.string [114, 55]), .lit (.string [114, 56]), .lit (.string [114, 57]), .lit (.string [114, 49, 48])]
def laid_slotcode_num_widths {H : Type} : DataW H := .agg [.lit (.int .i64 8), .lit (.int .i64 16), .lit (.int .i64 32), .lit (.int .i64 64)]

/-- 'slotcodelaw10.ProgChecks': WHATEVER THE INPUT: true; the input reads as it did. -/
def progChecksSpec : ChangeSpec := { name := "progChecks", fn := fun _ => fun
  | [d] => { results := [.lit (.bool true)], args := [d] }
  | _ => none }
def progChecksRow : OpenClaim := { program := "ytakblmonbeflmaagreatdoor", sum := "a836de994b44e003e60113f58fd4f35bca6d0fdff6a883342c5a86b24d2b17ef", func := "slotcode/slotcodelaw10.ProgChecks", spec := "progChecks", inPlace := ["internal/bytealg.IndexByteString", "internal/bytealg.IndexString", "math/bits.Add64"], unfollowed := true, recurses := true, named := ["internal/bytealg.MaxLen", "slotcode/ident.registers", "slotcode/num.widths"], apart := false, laid := [("slotcode/ident.registers", laid_slotcode_ident_registers), ("slotcode/num.widths", laid_slotcode_num_widths)] }
def ProgChecksSaid : Prop := progChecksRow.holds Tryz.pinned (OpenSpec.ofChange progChecksSpec)

/-- ITS FALSE NEIGHBOUR: 'it returns false'. Refute it at one input. -/
def progChecksWrong : ChangeSpec := { name := "progChecks", fn := fun _ => fun
  | [d] => { results := [.lit (.bool false)], args := [d] }
  | _ => none }
def ProgChecksWrongFalsely : Prop := progChecksRow.holds Tryz.pinned (OpenSpec.ofChange progChecksWrong)

/-- 'slotcodelaw10.ProgSame': WHATEVER THE INPUT: true; the input reads as it did. -/
def progSameSpec : ChangeSpec := { name := "progSame", fn := fun _ => fun
  | [d1, d2] => { results := [.lit (.bool true)], args := [d1, d2] }
  | _ => none }
def progSameRow : OpenClaim := { program := "ytakblmonbeflmaagreatdoor", sum := "a836de994b44e003e60113f58fd4f35bca6d0fdff6a883342c5a86b24d2b17ef", func := "slotcode/slotcodelaw10.ProgSame", spec := "progSame", inPlace := ["internal/bytealg.IndexByteString", "internal/bytealg.IndexString", "math/bits.Add64"], unfollowed := true, recurses := true, named := ["internal/bytealg.MaxLen", "slotcode/ident.registers", "slotcode/num.widths"], apart := false, laid := [("slotcode/ident.registers", laid_slotcode_ident_registers), ("slotcode/num.widths", laid_slotcode_num_widths)] }
def ProgSameSaid : Prop := progSameRow.holds Tryz.pinned (OpenSpec.ofChange progSameSpec)

/-- ITS FALSE NEIGHBOUR: 'it returns false'. Refute it at one input. -/
def progSameWrong : ChangeSpec := { name := "progSame", fn := fun _ => fun
  | [d1, d2] => { results := [.lit (.bool false)], args := [d1, d2] }
  | _ => none }
def ProgSameWrongFalsely : Prop := progSameRow.holds Tryz.pinned (OpenSpec.ofChange progSameWrong)

/-- 'slotcodelaw10.ProgClones': WHATEVER THE INPUT: true; the input reads as it did. -/
def progClonesSpec : ChangeSpec := { name := "progClones", fn := fun _ => fun
  | [d] => { results := [.lit (.bool true)], args := [d] }
  | _ => none }
def progClonesRow : OpenClaim := { program := "ytakblmonbeflmaagreatdoor", sum := "a836de994b44e003e60113f58fd4f35bca6d0fdff6a883342c5a86b24d2b17ef", func := "slotcode/slotcodelaw10.ProgClones", spec := "progClones", inPlace := ["internal/bytealg.IndexByteString", "internal/bytealg.IndexString", "math/bits.Add64"], unfollowed := true, recurses := true, named := ["internal/bytealg.MaxLen", "slotcode/ident.registers", "slotcode/num.widths"], apart := false, laid := [("slotcode/ident.registers", laid_slotcode_ident_registers), ("slotcode/num.widths", laid_slotcode_num_widths)] }
def ProgClonesSaid : Prop := progClonesRow.holds Tryz.pinned (OpenSpec.ofChange progClonesSpec)

/-- ITS FALSE NEIGHBOUR: 'it returns false'. Refute it at one input. -/
def progClonesWrong : ChangeSpec := { name := "progClones", fn := fun _ => fun
  | [d] => { results := [.lit (.bool false)], args := [d] }
  | _ => none }
def ProgClonesWrongFalsely : Prop := progClonesRow.holds Tryz.pinned (OpenSpec.ofChange progClonesWrong)

/-- 'slotcodelaw10.ProgLabels': WHATEVER THE INPUT: true; the input reads as it did. -/
def progLabelsSpec : ChangeSpec := { name := "progLabels", fn := fun _ => fun
  | [d1, d2] => { results := [.lit (.bool true)], args := [d1, d2] }
  | _ => none }
def progLabelsRow : OpenClaim := { program := "ytakblmonbeflmaagreatdoor", sum := "a836de994b44e003e60113f58fd4f35bca6d0fdff6a883342c5a86b24d2b17ef", func := "slotcode/slotcodelaw10.ProgLabels", spec := "progLabels", inPlace := ["internal/bytealg.IndexByteString", "internal/bytealg.IndexString", "math/bits.Add64"], unfollowed := true, recurses := true, named := ["internal/bytealg.MaxLen", "slotcode/ident.registers", "slotcode/num.widths"], apart := false, laid := [("slotcode/ident.registers", laid_slotcode_ident_registers), ("slotcode/num.widths", laid_slotcode_num_widths)] }
def ProgLabelsSaid : Prop := progLabelsRow.holds Tryz.pinned (OpenSpec.ofChange progLabelsSpec)

/-- ITS FALSE NEIGHBOUR: 'it returns false'. Refute it at one input. -/
def progLabelsWrong : ChangeSpec := { name := "progLabels", fn := fun _ => fun
  | [d1, d2] => { results := [.lit (.bool false)], args := [d1, d2] }
  | _ => none }
def ProgLabelsWrongFalsely : Prop := progLabelsRow.holds Tryz.pinned (OpenSpec.ofChange progLabelsWrong)

/-- 'slotcodelaw10.ProgIsCorrect': WHATEVER THE INPUT: true; the input reads as it did. -/
def progIsCorrectSpec : ChangeSpec := { name := "progIsCorrect", fn := fun _ => fun
  | [d] => { results := [.lit (.bool true)], args := [d] }
  | _ => none }
def progIsCorrectRow : OpenClaim := { program := "ytakblmonbeflmaagreatdoor", sum := "a836de994b44e003e60113f58fd4f35bca6d0fdff6a883342c5a86b24d2b17ef", func := "slotcode/slotcodelaw10.ProgIsCorrect", spec := "progIsCorrect", inPlace := ["internal/bytealg.CountString", "internal/bytealg.IndexByteString", "internal/bytealg.IndexString", "math/bits.Add64"], unfollowed := true, recurses := true, named := ["internal/bytealg.MaxLen", "slotcode/ident.registers", "slotcode/num.widths"], apart := false, laid := [("slotcode/ident.registers", laid_slotcode_ident_registers), ("slotcode/num.widths", laid_slotcode_num_widths)] }
def ProgIsCorrectSaid : Prop := progIsCorrectRow.holds Tryz.pinned (OpenSpec.ofChange progIsCorrectSpec)

/-- ITS FALSE NEIGHBOUR: 'it returns false'. Refute it at one input. -/
def progIsCorrectWrong : ChangeSpec := { name := "progIsCorrect", fn := fun _ => fun
  | [d] => { results := [.lit (.bool false)], args := [d] }
  | _ => none }
def ProgIsCorrectWrongFalsely : Prop := progIsCorrectRow.holds Tryz.pinned (OpenSpec.ofChange progIsCorrectWrong)

/- THE SECOND FORM. 'bulk': how many values and letters a reading holds, each counted each time it is reached (what is shared counts as often as it is met; a slice's spare places count too). A statement '..UptoSaid' is the law's where the arguments, and the package variables that the reading takes, are together of bulk at most 1048576: NARROWER than '..Said'. Prove '..Said' where nothing that the law and all that it calls make is longer than what came in: it says more and counts as full. Else prove '..UptoSaid'. A law counts once. -/
mutual
def uptoBulk {H : Type} : DataW H → Nat
  | .lit (.string bytes) => bytes.length + 1
  | .lit _ => 1
  | .nil => 1
  | .ptr d => uptoBulk d + 1
  | .slice elems spare => uptoBulkAll elems + uptoBulkAll spare + 1
  | .agg parts => uptoBulkAll parts + 1
  | .iface _ d => uptoBulk d + 1
  | .map entries => uptoBulkEntries entries + 1
  | .held _ => 1
def uptoBulkAll {H : Type} : List (DataW H) → Nat
  | [] => 0
  | d :: r => uptoBulk d + uptoBulkAll r
def uptoBulkEntries {H : Type} : List (Lit × DataW H) → Nat
  | [] => 0
  | x :: r => uptoBulkEntry x + uptoBulkEntries r
def uptoBulkEntry {H : Type} : Lit × DataW H → Nat
  | (.string bytes, d) => bytes.length + uptoBulk d + 1
  | (_, d) => uptoBulk d + 1
 end
def uptoSmall : (H : Type) → List (DataW H) → Bool := fun _ ds => decide (uptoBulkAll ds ≤ 1048576)
def OpenSpec.upto (s : _root_.Go.ChangeSpec) : _root_.Go.OpenSpec := { _root_.Go.OpenSpec.ofChange s with cond := some uptoSmall }

/-- 'slotcodelaw10.ProgChecks', WHERE WHAT IT READS IS OF BULK AT MOST 1048576: true; the input reads as it did. -/
def progChecksUptoRow : OpenClaim := { program := "ytakblmonbeflmaagreatdoor", sum := "a836de994b44e003e60113f58fd4f35bca6d0fdff6a883342c5a86b24d2b17ef", func := "slotcode/slotcodelaw10.ProgChecks", spec := "progChecks", inPlace := ["internal/bytealg.IndexByteString", "internal/bytealg.IndexString", "math/bits.Add64"], unfollowed := true, recurses := true, named := ["internal/bytealg.MaxLen", "slotcode/ident.registers", "slotcode/num.widths"], apart := false, laid := [("slotcode/ident.registers", laid_slotcode_ident_registers), ("slotcode/num.widths", laid_slotcode_num_widths)], narrowed := true }
def ProgChecksUptoSaid : Prop := progChecksUptoRow.holds Tryz.pinned (OpenSpec.upto progChecksSpec)

/-- 'slotcodelaw10.ProgSame', WHERE WHAT IT READS IS OF BULK AT MOST 1048576: true; the input reads as it did. -/
def progSameUptoRow : OpenClaim := { program := "ytakblmonbeflmaagreatdoor", sum := "a836de994b44e003e60113f58fd4f35bca6d0fdff6a883342c5a86b24d2b17ef", func := "slotcode/slotcodelaw10.ProgSame", spec := "progSame", inPlace := ["internal/bytealg.IndexByteString", "internal/bytealg.IndexString", "math/bits.Add64"], unfollowed := true, recurses := true, named := ["internal/bytealg.MaxLen", "slotcode/ident.registers", "slotcode/num.widths"], apart := false, laid := [("slotcode/ident.registers", laid_slotcode_ident_registers), ("slotcode/num.widths", laid_slotcode_num_widths)], narrowed := true }
def ProgSameUptoSaid : Prop := progSameUptoRow.holds Tryz.pinned (OpenSpec.upto progSameSpec)

/-- 'slotcodelaw10.ProgClones', WHERE WHAT IT READS IS OF BULK AT MOST 1048576: true; the input reads as it did. -/
def progClonesUptoRow : OpenClaim := { program := "ytakblmonbeflmaagreatdoor", sum := "a836de994b44e003e60113f58fd4f35bca6d0fdff6a883342c5a86b24d2b17ef", func := "slotcode/slotcodelaw10.ProgClones", spec := "progClones", inPlace := ["internal/bytealg.IndexByteString", "internal/bytealg.IndexString", "math/bits.Add64"], unfollowed := true, recurses := true, named := ["internal/bytealg.MaxLen", "slotcode/ident.registers", "slotcode/num.widths"], apart := false, laid := [("slotcode/ident.registers", laid_slotcode_ident_registers), ("slotcode/num.widths", laid_slotcode_num_widths)], narrowed := true }
def ProgClonesUptoSaid : Prop := progClonesUptoRow.holds Tryz.pinned (OpenSpec.upto progClonesSpec)

/-- 'slotcodelaw10.ProgLabels', WHERE WHAT IT READS IS OF BULK AT MOST 1048576: true; the input reads as it did. -/
def progLabelsUptoRow : OpenClaim := { program := "ytakblmonbeflmaagreatdoor", sum := "a836de994b44e003e60113f58fd4f35bca6d0fdff6a883342c5a86b24d2b17ef", func := "slotcode/slotcodelaw10.ProgLabels", spec := "progLabels", inPlace := ["internal/bytealg.IndexByteString", "internal/bytealg.IndexString", "math/bits.Add64"], unfollowed := true, recurses := true, named := ["internal/bytealg.MaxLen", "slotcode/ident.registers", "slotcode/num.widths"], apart := false, laid := [("slotcode/ident.registers", laid_slotcode_ident_registers), ("slotcode/num.widths", laid_slotcode_num_widths)], narrowed := true }
def ProgLabelsUptoSaid : Prop := progLabelsUptoRow.holds Tryz.pinned (OpenSpec.upto progLabelsSpec)

/-- 'slotcodelaw10.ProgIsCorrect', WHERE WHAT IT READS IS OF BULK AT MOST 1048576: true; the input reads as it did. -/
def progIsCorrectUptoRow : OpenClaim := { program := "ytakblmonbeflmaagreatdoor", sum := "a836de994b44e003e60113f58fd4f35bca6d0fdff6a883342c5a86b24d2b17ef", func := "slotcode/slotcodelaw10.ProgIsCorrect", spec := "progIsCorrect", inPlace := ["internal/bytealg.CountString", "internal/bytealg.IndexByteString", "internal/bytealg.IndexString", "math/bits.Add64"], unfollowed := true, recurses := true, named := ["internal/bytealg.MaxLen", "slotcode/ident.registers", "slotcode/num.widths"], apart := false, laid := [("slotcode/ident.registers", laid_slotcode_ident_registers), ("slotcode/num.widths", laid_slotcode_num_widths)], narrowed := true }
def ProgIsCorrectUptoSaid : Prop := progIsCorrectUptoRow.holds Tryz.pinned (OpenSpec.upto progIsCorrectSpec)

end Rows
end Go.Proofs.YtakblmonbeflmaaGreatDoor
