/-
  NARROWER THAN 'FOR EVERY INPUT', by the rows' own cells (each row's printed sentence says how): AluDoes: laid · AluOperands: laid · AluSwaps: laid · AluDivides: laid · AluLow: laid · AluInverse: laid.
  DERIVED. THE GIVEN ROWS OF THIS SEAT. 6 by the template 'for every input the law returns true; each argument reads behind the call as it read before'; 0 by the template 'total and deterministic' (their statements: YtkhnomicnblgfaaDoorTotals.lean).
  GIVEN WITH THE SEED: the statements are not yours to turn. If you find one false, say at which input.
  Laid BY PROGRAM, IN A SANDBOX (cutbox-rows.mjs): the forced cells as the released guide's own fill.sh prints them over the translation 328ed1fa29c20a1a… (all of the seat's roots in one cut). By AI agents, Wed Nov 11 2026. No macro, syntax, notation, axiom, sorry.
-/
import Derived.Test.YtkhnomicnblgfaaDoorChecked
import GoSem.Claim
import GoSem.ClaimJoined
import GoSem.ClaimMapViews
import Derived.JoinedTies
import Derived.KernelRfl
namespace Go.Proofs.YtkhnomicnblgfaaDoor
/- THE CELL 'sum', in the pinned program and in every row, IS THE sha256 OF THE DUMP (.gsa) THAT YtkhnomicnblgfaaDoorProg.lean LOADS. Nothing in Lean hashes anything: it is a label: what it is worth is what the hold of that sum in a sandbox is worth. -/
noncomputable def Tryd.pinned : Pinned := { name := "ytkhnomicnblgfaadoor", sum := "328ed1fa29c20a1adf04a25130dff9d8f18480e1ea767cbf78c3a0ff6e7e9881", checked := Tryd.checked }
namespace Rows
def none {H : Type} : Left H := { results := [], args := [] }

/- WHAT THE LISTED PACKAGE-LEVEL VARIABLES READ AS WHEN THE CALL BEGINS. Each datum BY PROGRAM (the guide's laid-datum.mjs) off the statement by which the dump's own 'gosem.cut.vars' lays the variable. In a bare row this is a premise. The card (YtkhnomicnblgfaaDoorCards.lean) ties it to the program's text. -/
def laid_slotcode_num_widths {H : Type} : DataW H := .agg [.lit (.int .i64 8), .lit (.int .i64 16), .lit (.int .i64 32), .lit (.int .i64 64)]

/-- 'slotcodelaw06.AluDoes': WHATEVER THE INPUT: true; the input reads as it did. -/
def aluDoesSpec : ChangeSpec := { name := "aluDoes", fn := fun _ => fun
  | [d] => { results := [.lit (.bool true)], args := [d] }
  | _ => none }
def aluDoesRow : OpenClaim := { program := "ytkhnomicnblgfaadoor", sum := "328ed1fa29c20a1adf04a25130dff9d8f18480e1ea767cbf78c3a0ff6e7e9881", func := "slotcode/slotcodelaw06.AluDoes", spec := "aluDoes", unfollowed := true, recurses := true, named := ["slotcode/num.widths"], apart := false, laid := [("slotcode/num.widths", laid_slotcode_num_widths)] }
def AluDoesSaid : Prop := aluDoesRow.holds Tryd.pinned (OpenSpec.ofChange aluDoesSpec)

/-- ITS FALSE NEIGHBOUR: 'it returns false'. Refute it at one input. -/
def aluDoesWrong : ChangeSpec := { name := "aluDoes", fn := fun _ => fun
  | [d] => { results := [.lit (.bool false)], args := [d] }
  | _ => none }
def AluDoesWrongFalsely : Prop := aluDoesRow.holds Tryd.pinned (OpenSpec.ofChange aluDoesWrong)

/-- 'slotcodelaw06.AluOperands': WHATEVER THE INPUT: true; the input reads as it did. -/
def aluOperandsSpec : ChangeSpec := { name := "aluOperands", fn := fun _ => fun
  | [d1, d2] => { results := [.lit (.bool true)], args := [d1, d2] }
  | _ => none }
def aluOperandsRow : OpenClaim := { program := "ytkhnomicnblgfaadoor", sum := "328ed1fa29c20a1adf04a25130dff9d8f18480e1ea767cbf78c3a0ff6e7e9881", func := "slotcode/slotcodelaw06.AluOperands", spec := "aluOperands", unfollowed := true, recurses := true, named := ["slotcode/num.widths"], apart := false, laid := [("slotcode/num.widths", laid_slotcode_num_widths)] }
def AluOperandsSaid : Prop := aluOperandsRow.holds Tryd.pinned (OpenSpec.ofChange aluOperandsSpec)

/-- ITS FALSE NEIGHBOUR: 'it returns false'. Refute it at one input. -/
def aluOperandsWrong : ChangeSpec := { name := "aluOperands", fn := fun _ => fun
  | [d1, d2] => { results := [.lit (.bool false)], args := [d1, d2] }
  | _ => none }
def AluOperandsWrongFalsely : Prop := aluOperandsRow.holds Tryd.pinned (OpenSpec.ofChange aluOperandsWrong)

/-- 'slotcodelaw06.AluSwaps': WHATEVER THE INPUT: true; the input reads as it did. -/
def aluSwapsSpec : ChangeSpec := { name := "aluSwaps", fn := fun _ => fun
  | [d1, d2] => { results := [.lit (.bool true)], args := [d1, d2] }
  | _ => none }
def aluSwapsRow : OpenClaim := { program := "ytkhnomicnblgfaadoor", sum := "328ed1fa29c20a1adf04a25130dff9d8f18480e1ea767cbf78c3a0ff6e7e9881", func := "slotcode/slotcodelaw06.AluSwaps", spec := "aluSwaps", unfollowed := true, recurses := true, named := ["slotcode/num.widths"], apart := false, laid := [("slotcode/num.widths", laid_slotcode_num_widths)] }
def AluSwapsSaid : Prop := aluSwapsRow.holds Tryd.pinned (OpenSpec.ofChange aluSwapsSpec)

/-- ITS FALSE NEIGHBOUR: 'it returns false'. Refute it at one input. -/
def aluSwapsWrong : ChangeSpec := { name := "aluSwaps", fn := fun _ => fun
  | [d1, d2] => { results := [.lit (.bool false)], args := [d1, d2] }
  | _ => none }
def AluSwapsWrongFalsely : Prop := aluSwapsRow.holds Tryd.pinned (OpenSpec.ofChange aluSwapsWrong)

/-- 'slotcodelaw06.AluDivides': WHATEVER THE INPUT: true; the input reads as it did. -/
def aluDividesSpec : ChangeSpec := { name := "aluDivides", fn := fun _ => fun
  | [d1, d2] => { results := [.lit (.bool true)], args := [d1, d2] }
  | _ => none }
def aluDividesRow : OpenClaim := { program := "ytkhnomicnblgfaadoor", sum := "328ed1fa29c20a1adf04a25130dff9d8f18480e1ea767cbf78c3a0ff6e7e9881", func := "slotcode/slotcodelaw06.AluDivides", spec := "aluDivides", unfollowed := true, recurses := true, named := ["slotcode/num.widths"], apart := false, laid := [("slotcode/num.widths", laid_slotcode_num_widths)] }
def AluDividesSaid : Prop := aluDividesRow.holds Tryd.pinned (OpenSpec.ofChange aluDividesSpec)

/-- ITS FALSE NEIGHBOUR: 'it returns false'. Refute it at one input. -/
def aluDividesWrong : ChangeSpec := { name := "aluDivides", fn := fun _ => fun
  | [d1, d2] => { results := [.lit (.bool false)], args := [d1, d2] }
  | _ => none }
def AluDividesWrongFalsely : Prop := aluDividesRow.holds Tryd.pinned (OpenSpec.ofChange aluDividesWrong)

/-- 'slotcodelaw06.AluLow': WHATEVER THE INPUT: true; the input reads as it did. -/
def aluLowSpec : ChangeSpec := { name := "aluLow", fn := fun _ => fun
  | [d1, d2, d3] => { results := [.lit (.bool true)], args := [d1, d2, d3] }
  | _ => none }
def aluLowRow : OpenClaim := { program := "ytkhnomicnblgfaadoor", sum := "328ed1fa29c20a1adf04a25130dff9d8f18480e1ea767cbf78c3a0ff6e7e9881", func := "slotcode/slotcodelaw06.AluLow", spec := "aluLow", unfollowed := true, recurses := true, named := ["slotcode/num.widths"], apart := false, laid := [("slotcode/num.widths", laid_slotcode_num_widths)] }
def AluLowSaid : Prop := aluLowRow.holds Tryd.pinned (OpenSpec.ofChange aluLowSpec)

/-- ITS FALSE NEIGHBOUR: 'it returns false'. Refute it at one input. -/
def aluLowWrong : ChangeSpec := { name := "aluLow", fn := fun _ => fun
  | [d1, d2, d3] => { results := [.lit (.bool false)], args := [d1, d2, d3] }
  | _ => none }
def AluLowWrongFalsely : Prop := aluLowRow.holds Tryd.pinned (OpenSpec.ofChange aluLowWrong)

/-- 'slotcodelaw06.AluInverse': WHATEVER THE INPUT: true; the input reads as it did. -/
def aluInverseSpec : ChangeSpec := { name := "aluInverse", fn := fun _ => fun
  | [d1, d2] => { results := [.lit (.bool true)], args := [d1, d2] }
  | _ => none }
def aluInverseRow : OpenClaim := { program := "ytkhnomicnblgfaadoor", sum := "328ed1fa29c20a1adf04a25130dff9d8f18480e1ea767cbf78c3a0ff6e7e9881", func := "slotcode/slotcodelaw06.AluInverse", spec := "aluInverse", unfollowed := true, recurses := true, named := ["slotcode/num.widths"], apart := false, laid := [("slotcode/num.widths", laid_slotcode_num_widths)] }
def AluInverseSaid : Prop := aluInverseRow.holds Tryd.pinned (OpenSpec.ofChange aluInverseSpec)

/-- ITS FALSE NEIGHBOUR: 'it returns false'. Refute it at one input. -/
def aluInverseWrong : ChangeSpec := { name := "aluInverse", fn := fun _ => fun
  | [d1, d2] => { results := [.lit (.bool false)], args := [d1, d2] }
  | _ => none }
def AluInverseWrongFalsely : Prop := aluInverseRow.holds Tryd.pinned (OpenSpec.ofChange aluInverseWrong)

/- THE SECOND FORM. 'bulk': how many values and letters a reading holds, each counted each time it is reached (what is shared counts as often as it is met; a slice's spare places count too). A statement '..UptoSaid' is the law's where the arguments, and the package variables that the reading takes, are together of bulk at most 1048576: NARROWER than '..Said'. Prove '..Said' where nothing that the law and all that it calls make is longer than what came in: it says more and counts as full. Else prove '..UptoSaid'. A law counts once. -/
mutual
def uptoBulk {H : Type} : DataW H → Nat
  | .lit (.string bytes) => bytes.length + 1
  | .lit _ => 1
  | .nil => 1
  | .ptr d => uptoBulk d + 1
  | .slice elems spare => uptoBulkAll elems + uptoBulkAll spare + 1
  | .agg parts => uptoBulkAll parts + 1
  | .iface _ d => uptoBulk d + 1
  | .map entries => uptoBulkEntries entries + 1
  | .held _ => 1
def uptoBulkAll {H : Type} : List (DataW H) → Nat
  | [] => 0
  | d :: r => uptoBulk d + uptoBulkAll r
def uptoBulkEntries {H : Type} : List (Lit × DataW H) → Nat
  | [] => 0
  | x :: r => uptoBulkEntry x + uptoBulkEntries r
def uptoBulkEntry {H : Type} : Lit × DataW H → Nat
  | (.string bytes, d) => bytes.length + uptoBulk d + 1
  | (_, d) => uptoBulk d + 1
 end
def uptoSmall : (H : Type) → List (DataW H) → Bool := fun _ ds => decide (uptoBulkAll ds ≤ 1048576)
def OpenSpec.upto (s : _root_.Go.ChangeSpec) : _root_.Go.OpenSpec := { _root_.Go.OpenSpec.ofChange s with cond := some uptoSmall }

/-- 'slotcodelaw06.AluDoes', WHERE WHAT IT READS IS OF BULK AT MOST 1048576: true; the input reads as it did. -/
def aluDoesUptoRow : OpenClaim := { program := "ytkhnomicnblgfaadoor", sum := "328ed1fa29c20a1adf04a25130dff9d8f18480e1ea767cbf78c3a0ff6e7e9881", func := "slotcode/slotcodelaw06.AluDoes", spec := "aluDoes", unfollowed := true, recurses := true, named := ["slotcode/num.widths"], apart := false, laid := [("slotcode/num.widths", laid_slotcode_num_widths)], narrowed := true }
def AluDoesUptoSaid : Prop := aluDoesUptoRow.holds Tryd.pinned (OpenSpec.upto aluDoesSpec)

/-- 'slotcodelaw06.AluOperands', WHERE WHAT IT READS IS OF BULK AT MOST 1048576: true; the input reads as it did. -/
def aluOperandsUptoRow : OpenClaim := { program := "ytkhnomicnblgfaadoor", sum := "328ed1fa29c20a1adf04a25130dff9d8f18480e1ea767cbf78c3a0ff6e7e9881", func := "slotcode/slotcodelaw06.AluOperands", spec := "aluOperands", unfollowed := true, recurses := true, named := ["slotcode/num.widths"], apart := false, laid := [("slotcode/num.widths", laid_slotcode_num_widths)], narrowed := true }
def AluOperandsUptoSaid : Prop := aluOperandsUptoRow.holds Tryd.pinned (OpenSpec.upto aluOperandsSpec)

/-- 'slotcodelaw06.AluSwaps', WHERE WHAT IT READS IS OF BULK AT MOST 1048576: true; the input reads as it did. -/
def aluSwapsUptoRow : OpenClaim := { program := "ytkhnomicnblgfaadoor", sum := "328ed1fa29c20a1adf04a25130dff9d8f18480e1ea767cbf78c3a0ff6e7e9881", func := "slotcode/slotcodelaw06.AluSwaps", spec := "aluSwaps", unfollowed := true, recurses := true, named := ["slotcode/num.widths"], apart := false, laid := [("slotcode/num.widths", laid_slotcode_num_widths)], narrowed := true }
def AluSwapsUptoSaid : Prop := aluSwapsUptoRow.holds Tryd.pinned (OpenSpec.upto aluSwapsSpec)

/-- 'slotcodelaw06.AluDivides', WHERE WHAT IT READS IS OF BULK AT MOST 1048576: true; the input reads as it did. -/
def aluDividesUptoRow : OpenClaim := { program := "ytkhnomicnblgfaadoor", sum := "328ed1fa29c20a1adf04a25130dff9d8f18480e1ea767cbf78c3a0ff6e7e9881", func := "slotcode/slotcodelaw06.AluDivides", spec := "aluDivides", unfollowed := true, recurses := true, named := ["slotcode/num.widths"], apart := false, laid := [("slotcode/num.widths", laid_slotcode_num_widths)], narrowed := true }
def AluDividesUptoSaid : Prop := aluDividesUptoRow.holds Tryd.pinned (OpenSpec.upto aluDividesSpec)

/-- 'slotcodelaw06.AluLow', WHERE WHAT IT READS IS OF BULK AT MOST 1048576: true; the input reads as it did. -/
def aluLowUptoRow : OpenClaim := { program := "ytkhnomicnblgfaadoor", sum := "328ed1fa29c20a1adf04a25130dff9d8f18480e1ea767cbf78c3a0ff6e7e9881", func := "slotcode/slotcodelaw06.AluLow", spec := "aluLow", unfollowed := true, recurses := true, named := ["slotcode/num.widths"], apart := false, laid := [("slotcode/num.widths", laid_slotcode_num_widths)], narrowed := true }
def AluLowUptoSaid : Prop := aluLowUptoRow.holds Tryd.pinned (OpenSpec.upto aluLowSpec)

/-- 'slotcodelaw06.AluInverse', WHERE WHAT IT READS IS OF BULK AT MOST 1048576: true; the input reads as it did. -/
def aluInverseUptoRow : OpenClaim := { program := "ytkhnomicnblgfaadoor", sum := "328ed1fa29c20a1adf04a25130dff9d8f18480e1ea767cbf78c3a0ff6e7e9881", func := "slotcode/slotcodelaw06.AluInverse", spec := "aluInverse", unfollowed := true, recurses := true, named := ["slotcode/num.widths"], apart := false, laid := [("slotcode/num.widths", laid_slotcode_num_widths)], narrowed := true }
def AluInverseUptoSaid : Prop := aluInverseUptoRow.holds Tryd.pinned (OpenSpec.upto aluInverseSpec)

end Rows
end Go.Proofs.YtkhnomicnblgfaaDoor
