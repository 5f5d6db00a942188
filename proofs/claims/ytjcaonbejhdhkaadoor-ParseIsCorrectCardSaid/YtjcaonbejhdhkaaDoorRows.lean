/-
  NARROWER THAN 'FOR EVERY INPUT', by the rows' own cells (each row's printed sentence says how): ParseLines: laid · ParseStatements: laid · ParseAsserts: laid · ParseIsCorrect: laid · ParseIgnores: laid · ParseLabels: laid.
  DERIVED. THE GIVEN ROWS OF THIS SEAT. 6 by the template 'for every input the law returns true; each argument reads behind the call as it read before'; 0 by the template 'total and deterministic' (their statements: YtjcaonbejhdhkaaDoorTotals.lean).
  GIVEN WITH THE SEED: the statements are not yours to turn. If you find one false, say at which input.
  Laid BY PROGRAM, IN A SANDBOX (cutbox-rows.mjs): the forced cells as the released guide's own fill.sh prints them over the translation 770fbe95ab254713… (all of the seat's roots in one cut). By AI agents, Wed Nov 11 2026. No macro, syntax, notation, axiom, sorry.
-/
import Derived.Test.YtjcaonbejhdhkaaDoorChecked
import GoSem.Claim
import GoSem.ClaimJoined
import GoSem.ClaimMapViews
import Derived.JoinedTies
import Derived.KernelRfl
namespace Go.Proofs.YtjcaonbejhdhkaaDoor
/- THE CELL 'sum', in the pinned program and in every row, IS THE sha256 OF THE DUMP (.gsa) THAT YtjcaonbejhdhkaaDoorProg.lean LOADS. Nothing in Lean hashes anything: it is a label: what it is worth is what the hold of that sum in a sandbox is worth. -/
noncomputable def Tryd.pinned : Pinned := { name := "ytjcaonbejhdhkaadoor", sum := "770fbe95ab25471357ec3df454538a78ee1618e10405a51215f4e8c3f7c57ae5", checked := Tryd.checked }
namespace Rows
def none {H : Type} : Left H := { results := [], args := [] }

/- WHAT THE LISTED PACKAGE-LEVEL VARIABLES READ AS WHEN THE CALL BEGINS. Each datum BY PROGRAM (the guide's laid-datum.mjs) off the statement by which the dump's own 'gosem.cut.vars' lays the variable. In a bare row this is a premise. The card (YtjcaonbejhdhkaaDoorCards.lean) ties it to the program's text. -/
def laid_slotcode_ident_registers {H : Type} : DataW H := .agg [.lit (.string [114, 48]), .lit (.string [114, 49]), .lit (.string [114, 50]), .lit (.string [114, 51]), .lit (.string [114, 52]), .lit (.string [114, 53]), .lit (.string [114, 54]), .lit (.string [114, 55]), .lit (.string [114, 56]), .lit (.string [114, 57]), .lit (.string [114, 49, 48])]
def laid_slotcode_num_widths {H : Type} : DataW H := .agg [.lit (.int .i64 8), .lit (.int .i64 16), .lit (.int .i64 32), .lit (.int .i64 64)]

/-- 'slotcodelaw09.ParseLines': WHATEVER THE INPUT: true; the input reads as it did. -/
def parseLinesSpec : ChangeSpec := { name := "parseLines", fn := fun _ => fun
  | [d] => { results := [.lit (.bool true)], args := [d] }
  | _ => none }
def parseLinesRow : OpenClaim := { program := "ytjcaonbejhdhkaadoor", sum := "770fbe95ab25471357ec3df454538a78ee1618e10405a51215f4e8c3f7c57ae5", func := "slotcode/slotcodelaw09.ParseLines", spec := "parseLines", inPlace := ["math/bits.Add64"], unfollowed := true, recurses := true, named := ["slotcode/ident.registers", "slotcode/num.widths"], apart := false, laid := [("slotcode/ident.registers", laid_slotcode_ident_registers), ("slotcode/num.widths", laid_slotcode_num_widths)] }
def ParseLinesSaid : Prop := parseLinesRow.holds Tryd.pinned (OpenSpec.ofChange parseLinesSpec)

/-- ITS FALSE NEIGHBOUR: 'it returns false'. Refute it at one input. -/
def parseLinesWrong : ChangeSpec := { name := "parseLines", fn := fun _ => fun
  | [d] => { results := [.lit (.bool false)], args := [d] }
  | _ => none }
def ParseLinesWrongFalsely : Prop := parseLinesRow.holds Tryd.pinned (OpenSpec.ofChange parseLinesWrong)

/-- 'slotcodelaw09.ParseStatements': WHATEVER THE INPUT: true; the input reads as it did. -/
def parseStatementsSpec : ChangeSpec := { name := "parseStatements", fn := fun _ => fun
  | [d] => { results := [.lit (.bool true)], args := [d] }
  | _ => none }
def parseStatementsRow : OpenClaim := { program := "ytjcaonbejhdhkaadoor", sum := "770fbe95ab25471357ec3df454538a78ee1618e10405a51215f4e8c3f7c57ae5", func := "slotcode/slotcodelaw09.ParseStatements", spec := "parseStatements", inPlace := ["math/bits.Add64"], unfollowed := true, recurses := true, named := ["slotcode/ident.registers", "slotcode/num.widths"], apart := false, laid := [("slotcode/ident.registers", laid_slotcode_ident_registers), ("slotcode/num.widths", laid_slotcode_num_widths)] }
def ParseStatementsSaid : Prop := parseStatementsRow.holds Tryd.pinned (OpenSpec.ofChange parseStatementsSpec)

/-- ITS FALSE NEIGHBOUR: 'it returns false'. Refute it at one input. -/
def parseStatementsWrong : ChangeSpec := { name := "parseStatements", fn := fun _ => fun
  | [d] => { results := [.lit (.bool false)], args := [d] }
  | _ => none }
def ParseStatementsWrongFalsely : Prop := parseStatementsRow.holds Tryd.pinned (OpenSpec.ofChange parseStatementsWrong)

/-- 'slotcodelaw09.ParseAsserts': WHATEVER THE INPUT: true; the input reads as it did. -/
def parseAssertsSpec : ChangeSpec := { name := "parseAsserts", fn := fun _ => fun
  | [d] => { results := [.lit (.bool true)], args := [d] }
  | _ => none }
def parseAssertsRow : OpenClaim := { program := "ytjcaonbejhdhkaadoor", sum := "770fbe95ab25471357ec3df454538a78ee1618e10405a51215f4e8c3f7c57ae5", func := "slotcode/slotcodelaw09.ParseAsserts", spec := "parseAsserts", inPlace := ["math/bits.Add64"], unfollowed := true, recurses := true, named := ["slotcode/ident.registers", "slotcode/num.widths"], apart := false, laid := [("slotcode/ident.registers", laid_slotcode_ident_registers), ("slotcode/num.widths", laid_slotcode_num_widths)] }
def ParseAssertsSaid : Prop := parseAssertsRow.holds Tryd.pinned (OpenSpec.ofChange parseAssertsSpec)

/-- ITS FALSE NEIGHBOUR: 'it returns false'. Refute it at one input. -/
def parseAssertsWrong : ChangeSpec := { name := "parseAsserts", fn := fun _ => fun
  | [d] => { results := [.lit (.bool false)], args := [d] }
  | _ => none }
def ParseAssertsWrongFalsely : Prop := parseAssertsRow.holds Tryd.pinned (OpenSpec.ofChange parseAssertsWrong)

/-- 'slotcodelaw09.ParseIsCorrect': WHATEVER THE INPUT: true; the input reads as it did. -/
def parseIsCorrectSpec : ChangeSpec := { name := "parseIsCorrect", fn := fun _ => fun
  | [d] => { results := [.lit (.bool true)], args := [d] }
  | _ => none }
def parseIsCorrectRow : OpenClaim := { program := "ytjcaonbejhdhkaadoor", sum := "770fbe95ab25471357ec3df454538a78ee1618e10405a51215f4e8c3f7c57ae5", func := "slotcode/slotcodelaw09.ParseIsCorrect", spec := "parseIsCorrect", inPlace := ["math/bits.Add64"], unfollowed := true, recurses := true, named := ["slotcode/ident.registers", "slotcode/num.widths"], apart := false, laid := [("slotcode/ident.registers", laid_slotcode_ident_registers), ("slotcode/num.widths", laid_slotcode_num_widths)] }
def ParseIsCorrectSaid : Prop := parseIsCorrectRow.holds Tryd.pinned (OpenSpec.ofChange parseIsCorrectSpec)

/-- ITS FALSE NEIGHBOUR: 'it returns false'. Refute it at one input. -/
def parseIsCorrectWrong : ChangeSpec := { name := "parseIsCorrect", fn := fun _ => fun
  | [d] => { results := [.lit (.bool false)], args := [d] }
  | _ => none }
def ParseIsCorrectWrongFalsely : Prop := parseIsCorrectRow.holds Tryd.pinned (OpenSpec.ofChange parseIsCorrectWrong)

/-- 'slotcodelaw09.ParseIgnores': WHATEVER THE INPUT: true; the input reads as it did. -/
def parseIgnoresSpec : ChangeSpec := { name := "parseIgnores", fn := fun _ => fun
  | [d1, d2] => { results := [.lit (.bool true)], args := [d1, d2] }
  | _ => none }
def parseIgnoresRow : OpenClaim := { program := "ytjcaonbejhdhkaadoor", sum := "770fbe95ab25471357ec3df454538a78ee1618e10405a51215f4e8c3f7c57ae5", func := "slotcode/slotcodelaw09.ParseIgnores", spec := "parseIgnores", inPlace := ["math/bits.Add64"], unfollowed := true, recurses := true, named := ["slotcode/ident.registers", "slotcode/num.widths"], apart := false, laid := [("slotcode/ident.registers", laid_slotcode_ident_registers), ("slotcode/num.widths", laid_slotcode_num_widths)] }
def ParseIgnoresSaid : Prop := parseIgnoresRow.holds Tryd.pinned (OpenSpec.ofChange parseIgnoresSpec)

/-- ITS FALSE NEIGHBOUR: 'it returns false'. Refute it at one input. -/
def parseIgnoresWrong : ChangeSpec := { name := "parseIgnores", fn := fun _ => fun
  | [d1, d2] => { results := [.lit (.bool false)], args := [d1, d2] }
  | _ => none }
def ParseIgnoresWrongFalsely : Prop := parseIgnoresRow.holds Tryd.pinned (OpenSpec.ofChange parseIgnoresWrong)

/-- 'slotcodelaw09.ParseLabels': WHATEVER THE INPUT: true; the input reads as it did. -/
def parseLabelsSpec : ChangeSpec := { name := "parseLabels", fn := fun _ => fun
  | [d1, d2] => { results := [.lit (.bool true)], args := [d1, d2] }
  | _ => none }
def parseLabelsRow : OpenClaim := { program := "ytjcaonbejhdhkaadoor", sum := "770fbe95ab25471357ec3df454538a78ee1618e10405a51215f4e8c3f7c57ae5", func := "slotcode/slotcodelaw09.ParseLabels", spec := "parseLabels", inPlace := ["math/bits.Add64"], unfollowed := true, recurses := true, named := ["slotcode/ident.registers", "slotcode/num.widths"], apart := false, laid := [("slotcode/ident.registers", laid_slotcode_ident_registers), ("slotcode/num.widths", laid_slotcode_num_widths)] }
def ParseLabelsSaid : Prop := parseLabelsRow.holds Tryd.pinned (OpenSpec.ofChange parseLabelsSpec)

/-- ITS FALSE NEIGHBOUR: 'it returns false'. Refute it at one input. -/
def parseLabelsWrong : ChangeSpec := { name := "parseLabels", fn := fun _ => fun
  | [d1, d2] => { results := [.lit (.bool false)], args := [d1, d2] }
  | _ => none }
def ParseLabelsWrongFalsely : Prop := parseLabelsRow.holds Tryd.pinned (OpenSpec.ofChange parseLabelsWrong)

/- THE SECOND FORM. 'bulk': how many values and letters a reading holds, each counted each time it is reached (what is shared counts as often as it is met; a slice's spare places count too). A statement '..UptoSaid' is the law's where the arguments, and the package variables that the reading takes, are together of bulk at most 1048576: NARROWER than '..Said'. Prove '..Said' where nothing that the law and all that it calls make is longer than what came in: it says more and counts as full. Else prove '..UptoSaid'. A law counts once. -/
mutual
def uptoBulk {H : Type} : DataW H → Nat
  | .lit (.string bytes) => bytes.length + 1
  | .lit _ => 1
  | .nil => 1
  | .ptr d => uptoBulk d + 1
  | .slice elems spare => uptoBulkAll elems + uptoBulkAll spare + 1
  | .agg parts => uptoBulkAll parts + 1
  | .iface _ d => uptoBulk d + 1
  | .map entries => uptoBulkEntries entries + 1
  | .held _ => 1
def uptoBulkAll {H : Type} : List (DataW H) → Nat
  | [] => 0
  | d :: r => uptoBulk d + uptoBulkAll r
def uptoBulkEntries {H : Type} : List (Lit × DataW H) → Nat
  | [] => 0
  | x :: r => uptoBulkEntry x + uptoBulkEntries r
def uptoBulkEntry {H : Type} : Lit × DataW H → Nat
  | (.string bytes, d) => bytes.length + uptoBulk d + 1
  | (_, d) => uptoBulk d + 1
 end
def uptoSmall : (H : Type) → List (DataW H) → Bool := fun _ ds => decide (uptoBulkAll ds ≤ 1048576)
def OpenSpec.upto (s : _root_.Go.ChangeSpec) : _root_.Go.OpenSpec := { _root_.Go.OpenSpec.ofChange s with cond := some uptoSmall }

/-- 'slotcodelaw09.ParseLines', WHERE WHAT IT READS IS OF BULK AT MOST 1048576: true; the input reads as it did. -/
def parseLinesUptoRow : OpenClaim := { program := "ytjcaonbejhdhkaadoor", sum := "770fbe95ab25471357ec3df454538a78ee1618e10405a51215f4e8c3f7c57ae5", func := "slotcode/slotcodelaw09.ParseLines", spec := "parseLines", inPlace := ["math/bits.Add64"], unfollowed := true, recurses := true, named := ["slotcode/ident.registers", "slotcode/num.widths"], apart := false, laid := [("slotcode/ident.registers", laid_slotcode_ident_registers), ("slotcode/num.widths", laid_slotcode_num_widths)], narrowed := true }
def ParseLinesUptoSaid : Prop := parseLinesUptoRow.holds Tryd.pinned (OpenSpec.upto parseLinesSpec)

/-- 'slotcodelaw09.ParseStatements', WHERE WHAT IT READS IS OF BULK AT MOST 1048576: true; the input reads as it did. -/
def parseStatementsUptoRow : OpenClaim := { program := "ytjcaonbejhdhkaadoor", sum := "770fbe95ab25471357ec3df454538a78ee1618e10405a51215f4e8c3f7c57ae5", func := "slotcode/slotcodelaw09.ParseStatements", spec := "parseStatements", inPlace := ["math/bits.Add64"], unfollowed := true, recurses := true, named := ["slotcode/ident.registers", "slotcode/num.widths"], apart := false, laid := [("slotcode/ident.registers", laid_slotcode_ident_registers), ("slotcode/num.widths", laid_slotcode_num_widths)], narrowed := true }
def ParseStatementsUptoSaid : Prop := parseStatementsUptoRow.holds Tryd.pinned (OpenSpec.upto parseStatementsSpec)

/-- 'slotcodelaw09.ParseAsserts', WHERE WHAT IT READS IS OF BULK AT MOST 1048576: true; the input reads as it did. -/
def parseAssertsUptoRow : OpenClaim := { program := "ytjcaonbejhdhkaadoor", sum := "770fbe95ab25471357ec3df454538a78ee1618e10405a51215f4e8c3f7c57ae5", func := "slotcode/slotcodelaw09.ParseAsserts", spec := "parseAsserts", inPlace := ["math/bits.Add64"], unfollowed := true, recurses := true, named := ["slotcode/ident.registers", "slotcode/num.widths"], apart := false, laid := [("slotcode/ident.registers", laid_slotcode_ident_registers), ("slotcode/num.widths", laid_slotcode_num_widths)], narrowed := true }
def ParseAssertsUptoSaid : Prop := parseAssertsUptoRow.holds Tryd.pinned (OpenSpec.upto parseAssertsSpec)

/-- 'slotcodelaw09.ParseIsCorrect', WHERE WHAT IT READS IS OF BULK AT MOST 1048576: true; the input reads as it did. -/
def parseIsCorrectUptoRow : OpenClaim := { program := "ytjcaonbejhdhkaadoor", sum := "770fbe95ab25471357ec3df454538a78ee1618e10405a51215f4e8c3f7c57ae5", func := "slotcode/slotcodelaw09.ParseIsCorrect", spec := "parseIsCorrect", inPlace := ["math/bits.Add64"], unfollowed := true, recurses := true, named := ["slotcode/ident.registers", "slotcode/num.widths"], apart := false, laid := [("slotcode/ident.registers", laid_slotcode_ident_registers), ("slotcode/num.widths", laid_slotcode_num_widths)], narrowed := true }
def ParseIsCorrectUptoSaid : Prop := parseIsCorrectUptoRow.holds Tryd.pinned (OpenSpec.upto parseIsCorrectSpec)

/-- 'slotcodelaw09.ParseIgnores', WHERE WHAT IT READS IS OF BULK AT MOST 1048576: true; the input reads as it did. -/
def parseIgnoresUptoRow : OpenClaim := { program := "ytjcaonbejhdhkaadoor", sum := "770fbe95ab25471357ec3df454538a78ee1618e10405a51215f4e8c3f7c57ae5", func := "slotcode/slotcodelaw09.ParseIgnores", spec := "parseIgnores", inPlace := ["math/bits.Add64"], unfollowed := true, recurses := true, named := ["slotcode/ident.registers", "slotcode/num.widths"], apart := false, laid := [("slotcode/ident.registers", laid_slotcode_ident_registers), ("slotcode/num.widths", laid_slotcode_num_widths)], narrowed := true }
def ParseIgnoresUptoSaid : Prop := parseIgnoresUptoRow.holds Tryd.pinned (OpenSpec.upto parseIgnoresSpec)

/-- 'slotcodelaw09.ParseLabels', WHERE WHAT IT READS IS OF BULK AT MOST 1048576: true; the input reads as it did. -/
def parseLabelsUptoRow : OpenClaim := { program := "ytjcaonbejhdhkaadoor", sum := "770fbe95ab25471357ec3df454538a78ee1618e10405a51215f4e8c3f7c57ae5", func := "slotcode/slotcodelaw09.ParseLabels", spec := "parseLabels", inPlace := ["math/bits.Add64"], unfollowed := true, recurses := true, named := ["slotcode/ident.registers", "slotcode/num.widths"], apart := false, laid := [("slotcode/ident.registers", laid_slotcode_ident_registers), ("slotcode/num.widths", laid_slotcode_num_widths)], narrowed := true }
def ParseLabelsUptoSaid : Prop := parseLabelsUptoRow.holds Tryd.pinned (OpenSpec.upto parseLabelsSpec)

end Rows
end Go.Proofs.YtjcaonbejhdhkaaDoor
