/-
  NARROWER THAN 'FOR EVERY INPUT', by the rows' own cells (each row's printed sentence says how): SlotEncodes: laid · SlotDecodes: laid · SlotInverts: laid · SlotIsCanonical: laid · SlotAll: laid · SlotJoins: laid.
  DERIVED. THE GIVEN ROWS OF THIS SEAT. 6 by the template 'for every input the law returns true; each argument reads behind the call as it read before'; 0 by the template 'total and deterministic' (their statements: YthebdblncafijaaDoorTotals.lean).
  GIVEN WITH THE SEED: the statements are not yours to turn. If you find one false, say at which input.
  Laid BY PROGRAM, IN A SANDBOX (cutbox-rows.mjs): the forced cells as the released guide's own fill.sh prints them over the translation a77bf54583071168… (all of the seat's roots in one cut). By AI agents, Wed Nov 11 2026. No macro, syntax, notation, axiom, sorry.
-/
import Derived.Test.YthebdblncafijaaDoorChecked
import GoSem.Claim
import GoSem.ClaimJoined
import GoSem.ClaimMapViews
import Derived.JoinedTies
import Derived.KernelRfl
namespace Go.Proofs.YthebdblncafijaaDoor
/- THE CELL 'sum', in the pinned program and in every row, IS THE sha256 OF THE DUMP (.gsa) THAT YthebdblncafijaaDoorProg.lean LOADS. Nothing in Lean hashes anything: it is a label: what it is worth is what the hold of that sum in a sandbox is worth. -/
noncomputable def Tryd.pinned : Pinned := { name := "ythebdblncafijaadoor", sum := "a77bf54583071168babd84eff4910a8902b8a67fa55dd069a57292a33086a706", checked := Tryd.checked }
namespace Rows
def none {H : Type} : Left H := { results := [], args := [] }

/- WHAT THE LISTED PACKAGE-LEVEL VARIABLES READ AS WHEN THE CALL BEGINS. Each datum BY PROGRAM (the guide's laid-datum.mjs) off the statement by which the dump's own 'gosem.cut.vars' lays the variable. In a bare row this is a premise. The card (YthebdblncafijaaDoorCards.lean) ties it to the program's text. -/
def laid_slotcode_num_widths {H : Type} : DataW H := .agg [.lit (.int .i64 8), .lit (.int .i64 16), .lit (.int .i64 32), .lit (.int .i64 64)]

/-- 'slotcodelaw05.SlotEncodes': WHATEVER THE INPUT: true; the input reads as it did. -/
def slotEncodesSpec : ChangeSpec := { name := "slotEncodes", fn := fun _ => fun
  | [d] => { results := [.lit (.bool true)], args := [d] }
  | _ => none }
def slotEncodesRow : OpenClaim := { program := "ythebdblncafijaadoor", sum := "a77bf54583071168babd84eff4910a8902b8a67fa55dd069a57292a33086a706", func := "slotcode/slotcodelaw05.SlotEncodes", spec := "slotEncodes", unfollowed := true, recurses := true, named := ["slotcode/num.widths"], apart := false, laid := [("slotcode/num.widths", laid_slotcode_num_widths)] }
def SlotEncodesSaid : Prop := slotEncodesRow.holds Tryd.pinned (OpenSpec.ofChange slotEncodesSpec)

/-- ITS FALSE NEIGHBOUR: 'it returns false'. Refute it at one input. -/
def slotEncodesWrong : ChangeSpec := { name := "slotEncodes", fn := fun _ => fun
  | [d] => { results := [.lit (.bool false)], args := [d] }
  | _ => none }
def SlotEncodesWrongFalsely : Prop := slotEncodesRow.holds Tryd.pinned (OpenSpec.ofChange slotEncodesWrong)

/-- 'slotcodelaw05.SlotDecodes': WHATEVER THE INPUT: true; the input reads as it did. -/
def slotDecodesSpec : ChangeSpec := { name := "slotDecodes", fn := fun _ => fun
  | [d] => { results := [.lit (.bool true)], args := [d] }
  | _ => none }
def slotDecodesRow : OpenClaim := { program := "ythebdblncafijaadoor", sum := "a77bf54583071168babd84eff4910a8902b8a67fa55dd069a57292a33086a706", func := "slotcode/slotcodelaw05.SlotDecodes", spec := "slotDecodes", unfollowed := true, recurses := true, named := ["slotcode/num.widths"], apart := false, laid := [("slotcode/num.widths", laid_slotcode_num_widths)] }
def SlotDecodesSaid : Prop := slotDecodesRow.holds Tryd.pinned (OpenSpec.ofChange slotDecodesSpec)

/-- ITS FALSE NEIGHBOUR: 'it returns false'. Refute it at one input. -/
def slotDecodesWrong : ChangeSpec := { name := "slotDecodes", fn := fun _ => fun
  | [d] => { results := [.lit (.bool false)], args := [d] }
  | _ => none }
def SlotDecodesWrongFalsely : Prop := slotDecodesRow.holds Tryd.pinned (OpenSpec.ofChange slotDecodesWrong)

/-- 'slotcodelaw05.SlotInverts': WHATEVER THE INPUT: true; the input reads as it did. -/
def slotInvertsSpec : ChangeSpec := { name := "slotInverts", fn := fun _ => fun
  | [d1, d2] => { results := [.lit (.bool true)], args := [d1, d2] }
  | _ => none }
def slotInvertsRow : OpenClaim := { program := "ythebdblncafijaadoor", sum := "a77bf54583071168babd84eff4910a8902b8a67fa55dd069a57292a33086a706", func := "slotcode/slotcodelaw05.SlotInverts", spec := "slotInverts", unfollowed := true, recurses := true, named := ["slotcode/num.widths"], apart := false, laid := [("slotcode/num.widths", laid_slotcode_num_widths)] }
def SlotInvertsSaid : Prop := slotInvertsRow.holds Tryd.pinned (OpenSpec.ofChange slotInvertsSpec)

/-- ITS FALSE NEIGHBOUR: 'it returns false'. Refute it at one input. -/
def slotInvertsWrong : ChangeSpec := { name := "slotInverts", fn := fun _ => fun
  | [d1, d2] => { results := [.lit (.bool false)], args := [d1, d2] }
  | _ => none }
def SlotInvertsWrongFalsely : Prop := slotInvertsRow.holds Tryd.pinned (OpenSpec.ofChange slotInvertsWrong)

/-- 'slotcodelaw05.SlotIsCanonical': WHATEVER THE INPUT: true; the input reads as it did. -/
def slotIsCanonicalSpec : ChangeSpec := { name := "slotIsCanonical", fn := fun _ => fun
  | [d] => { results := [.lit (.bool true)], args := [d] }
  | _ => none }
def slotIsCanonicalRow : OpenClaim := { program := "ythebdblncafijaadoor", sum := "a77bf54583071168babd84eff4910a8902b8a67fa55dd069a57292a33086a706", func := "slotcode/slotcodelaw05.SlotIsCanonical", spec := "slotIsCanonical", unfollowed := true, recurses := true, named := ["slotcode/num.widths"], apart := false, laid := [("slotcode/num.widths", laid_slotcode_num_widths)] }
def SlotIsCanonicalSaid : Prop := slotIsCanonicalRow.holds Tryd.pinned (OpenSpec.ofChange slotIsCanonicalSpec)

/-- ITS FALSE NEIGHBOUR: 'it returns false'. Refute it at one input. -/
def slotIsCanonicalWrong : ChangeSpec := { name := "slotIsCanonical", fn := fun _ => fun
  | [d] => { results := [.lit (.bool false)], args := [d] }
  | _ => none }
def SlotIsCanonicalWrongFalsely : Prop := slotIsCanonicalRow.holds Tryd.pinned (OpenSpec.ofChange slotIsCanonicalWrong)

/-- 'slotcodelaw05.SlotAll': WHATEVER THE INPUT: true; the input reads as it did. -/
def slotAllSpec : ChangeSpec := { name := "slotAll", fn := fun _ => fun
  | [d] => { results := [.lit (.bool true)], args := [d] }
  | _ => none }
def slotAllRow : OpenClaim := { program := "ythebdblncafijaadoor", sum := "a77bf54583071168babd84eff4910a8902b8a67fa55dd069a57292a33086a706", func := "slotcode/slotcodelaw05.SlotAll", spec := "slotAll", unfollowed := true, recurses := true, named := ["slotcode/num.widths"], apart := false, laid := [("slotcode/num.widths", laid_slotcode_num_widths)] }
def SlotAllSaid : Prop := slotAllRow.holds Tryd.pinned (OpenSpec.ofChange slotAllSpec)

/-- ITS FALSE NEIGHBOUR: 'it returns false'. Refute it at one input. -/
def slotAllWrong : ChangeSpec := { name := "slotAll", fn := fun _ => fun
  | [d] => { results := [.lit (.bool false)], args := [d] }
  | _ => none }
def SlotAllWrongFalsely : Prop := slotAllRow.holds Tryd.pinned (OpenSpec.ofChange slotAllWrong)

/-- 'slotcodelaw05.SlotJoins': WHATEVER THE INPUT: true; the input reads as it did. -/
def slotJoinsSpec : ChangeSpec := { name := "slotJoins", fn := fun _ => fun
  | [d] => { results := [.lit (.bool true)], args := [d] }
  | _ => none }
def slotJoinsRow : OpenClaim := { program := "ythebdblncafijaadoor", sum := "a77bf54583071168babd84eff4910a8902b8a67fa55dd069a57292a33086a706", func := "slotcode/slotcodelaw05.SlotJoins", spec := "slotJoins", unfollowed := true, recurses := true, named := ["slotcode/num.widths"], apart := false, laid := [("slotcode/num.widths", laid_slotcode_num_widths)] }
def SlotJoinsSaid : Prop := slotJoinsRow.holds Tryd.pinned (OpenSpec.ofChange slotJoinsSpec)

/-- ITS FALSE NEIGHBOUR: 'it returns false'. Refute it at one input. -/
def slotJoinsWrong : ChangeSpec := { name := "slotJoins", fn := fun _ => fun
  | [d] => { results := [.lit (.bool false)], args := [d] }
  | _ => none }
def SlotJoinsWrongFalsely : Prop := slotJoinsRow.holds Tryd.pinned (OpenSpec.ofChange slotJoinsWrong)

/- THE SECOND FORM. 'bulk': how many values and letters a reading holds, each counted each time it is reached (what is shared counts as often as it is met; a slice's spare places count too). A statement '..UptoSaid' is the law's where the arguments, and the package variables that the reading takes, are together of bulk at most 1048576: NARROWER than '..Said'. Prove '..Said' where nothing that the law and all that it calls make is longer than what came in: it says more and counts as full. Else prove '..UptoSaid'. A law counts once. -/
mutual
def uptoBulk {H : Type} : DataW H → Nat
  | .lit (.string bytes) => bytes.length + 1
  | .lit _ => 1
  | .nil => 1
  | .ptr d => uptoBulk d + 1
  | .slice elems spare => uptoBulkAll elems + uptoBulkAll spare + 1
  | .agg parts => uptoBulkAll parts + 1
  | .iface _ d => uptoBulk d + 1
  | .map entries => uptoBulkEntries entries + 1
  | .held _ => 1
def uptoBulkAll {H : Type} : List (DataW H) → Nat
  | [] => 0
  | d :: r => uptoBulk d + uptoBulkAll r
def uptoBulkEntries {H : Type} : List (Lit × DataW H) → Nat
  | [] => 0
  | x :: r => uptoBulkEntry x + uptoBulkEntries r
def uptoBulkEntry {H : Type} : Lit × DataW H → Nat
  | (.string bytes, d) => bytes.length + uptoBulk d + 1
  | (_, d) => uptoBulk d + 1
 end
def uptoSmall : (H : Type) → List (DataW H) → Bool := fun _ ds => decide (uptoBulkAll ds ≤ 1048576)
def OpenSpec.upto (s : _root_.Go.ChangeSpec) : _root_.Go.OpenSpec := { _root_.Go.OpenSpec.ofChange s with cond := some uptoSmall }

/-- 'slotcodelaw05.SlotEncodes', WHERE WHAT IT READS IS OF BULK AT MOST 1048576: true; the input reads as it did. -/
def slotEncodesUptoRow : OpenClaim := { program := "ythebdblncafijaadoor", sum := "a77bf54583071168babd84eff4910a8902b8a67fa55dd069a57292a33086a706", func := "slotcode/slotcodelaw05.SlotEncodes", spec := "slotEncodes", unfollowed := true, recurses := true, named := ["slotcode/num.widths"], apart := false, laid := [("slotcode/num.widths", laid_slotcode_num_widths)], narrowed := true }
def SlotEncodesUptoSaid : Prop := slotEncodesUptoRow.holds Tryd.pinned (OpenSpec.upto slotEncodesSpec)

/-- 'slotcodelaw05.SlotDecodes', WHERE WHAT IT READS IS OF BULK AT MOST 1048576: true; the input reads as it did. -/
def slotDecodesUptoRow : OpenClaim := { program := "ythebdblncafijaadoor", sum := "a77bf54583071168babd84eff4910a8902b8a67fa55dd069a57292a33086a706", func := "slotcode/slotcodelaw05.SlotDecodes", spec := "slotDecodes", unfollowed := true, recurses := true, named := ["slotcode/num.widths"], apart := false, laid := [("slotcode/num.widths", laid_slotcode_num_widths)], narrowed := true }
def SlotDecodesUptoSaid : Prop := slotDecodesUptoRow.holds Tryd.pinned (OpenSpec.upto slotDecodesSpec)

/-- 'slotcodelaw05.SlotInverts', WHERE WHAT IT READS IS OF BULK AT MOST 1048576: true; the input reads as it did. -/
def slotInvertsUptoRow : OpenClaim := { program := "ythebdblncafijaadoor", sum := "a77bf54583071168babd84eff4910a8902b8a67fa55dd069a57292a33086a706", func := "slotcode/slotcodelaw05.SlotInverts", spec := "slotInverts", unfollowed := true, recurses := true, named := ["slotcode/num.widths"], apart := false, laid := [("slotcode/num.widths", laid_slotcode_num_widths)], narrowed := true }
def SlotInvertsUptoSaid : Prop := slotInvertsUptoRow.holds Tryd.pinned (OpenSpec.upto slotInvertsSpec)

/-- 'slotcodelaw05.SlotIsCanonical', WHERE WHAT IT READS IS OF BULK AT MOST 1048576: true; the input reads as it did. -/
def slotIsCanonicalUptoRow : OpenClaim := { program := "ythebdblncafijaadoor", sum := "a77bf54583071168babd84eff4910a8902b8a67fa55dd069a57292a33086a706", func := "slotcode/slotcodelaw05.SlotIsCanonical", spec := "slotIsCanonical", unfollowed := true, recurses := true, named := ["slotcode/num.widths"], apart := false, laid := [("slotcode/num.widths", laid_slotcode_num_widths)], narrowed := true }
def SlotIsCanonicalUptoSaid : Prop := slotIsCanonicalUptoRow.holds Tryd.pinned (OpenSpec.upto slotIsCanonicalSpec)

/-- 'slotcodelaw05.SlotAll', WHERE WHAT IT READS IS OF BULK AT MOST 1048576: true; the input reads as it did. -/
def slotAllUptoRow : OpenClaim := { program := "ythebdblncafijaadoor", sum := "a77bf54583071168babd84eff4910a8902b8a67fa55dd069a57292a33086a706", func := "slotcode/slotcodelaw05.SlotAll", spec := "slotAll", unfollowed := true, recurses := true, named := ["slotcode/num.widths"], apart := false, laid := [("slotcode/num.widths", laid_slotcode_num_widths)], narrowed := true }
def SlotAllUptoSaid : Prop := slotAllUptoRow.holds Tryd.pinned (OpenSpec.upto slotAllSpec)

/-- 'slotcodelaw05.SlotJoins', WHERE WHAT IT READS IS OF BULK AT MOST 1048576: true; the input reads as it did. -/
def slotJoinsUptoRow : OpenClaim := { program := "ythebdblncafijaadoor", sum := "a77bf54583071168babd84eff4910a8902b8a67fa55dd069a57292a33086a706", func := "slotcode/slotcodelaw05.SlotJoins", spec := "slotJoins", unfollowed := true, recurses := true, named := ["slotcode/num.widths"], apart := false, laid := [("slotcode/num.widths", laid_slotcode_num_widths)], narrowed := true }
def SlotJoinsUptoSaid : Prop := slotJoinsUptoRow.holds Tryd.pinned (OpenSpec.upto slotJoinsSpec)

end Rows
end Go.Proofs.YthebdblncafijaaDoor
