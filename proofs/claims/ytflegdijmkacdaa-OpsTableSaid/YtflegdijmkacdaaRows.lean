/-
  No cell of these rows narrows 'for every input' (looked for: loops, veiled, ifaces, maps, wideKeys, modest, calm, conditions, laid).
  DERIVED. THE GIVEN ROWS OF THIS SEAT. 6 by the template 'for every input the law returns true; each argument reads behind the call as it read before'; 0 by the template 'total and deterministic' (their statements: YtflegdijmkacdaaTotals.lean).
  GIVEN WITH THE SEED: the statements are not yours to turn. If you find one false, say at which input.
  Laid BY PROGRAM, IN A SANDBOX (cutbox-rows.mjs): the forced cells as the released guide's own fill.sh prints them over the translation 2f030ed00bf40827… (all of the seat's roots in one cut). By AI agents, Wed Nov 11 2026. No macro, syntax, notation, axiom, sorry.
-/
import Derived.Test.YtflegdijmkacdaaChecked
import GoSem.Claim
import GoSem.ClaimJoined
import GoSem.ClaimMapViews
import Derived.JoinedTies
import Derived.KernelRfl
namespace Go.Proofs.Ytflegdijmkacdaa
/- THE CELL 'sum', in the pinned program and in every row, IS THE sha256 OF THE DUMP (.gsa) THAT YtflegdijmkacdaaProg.lean LOADS. Nothing in Lean hashes anything: it is a label: what it is worth is what the hold of that sum in a sandbox is worth. -/
noncomputable def Try.pinned : Pinned := { name := "ytflegdijmkacdaa", sum := "2f030ed00bf408273459694d4125f859ff824bfccba9362155764f0b5c47e337", checked := Try.checked }
namespace Rows
def none {H : Type} : Left H := { results := [], args := [] }

/-- 'slotcodelaw03.OpsTable': WHATEVER THE INPUT: true; the input reads as it did. -/
def opsTableSpec : ChangeSpec := { name := "opsTable", fn := fun _ => fun
  | [d] => { results := [.lit (.bool true)], args := [d] }
  | _ => none }
def opsTableRow : OpenClaim := { program := "ytflegdijmkacdaa", sum := "2f030ed00bf408273459694d4125f859ff824bfccba9362155764f0b5c47e337", func := "slotcode/slotcodelaw03.OpsTable", spec := "opsTable", apart := false }
def OpsTableSaid : Prop := opsTableRow.holds Try.pinned (OpenSpec.ofChange opsTableSpec)

/-- ITS FALSE NEIGHBOUR: 'it returns false'. Refute it at one input. -/
def opsTableWrong : ChangeSpec := { name := "opsTable", fn := fun _ => fun
  | [d] => { results := [.lit (.bool false)], args := [d] }
  | _ => none }
def OpsTableWrongFalsely : Prop := opsTableRow.holds Try.pinned (OpenSpec.ofChange opsTableWrong)

/-- 'slotcodelaw03.OpsFinds': WHATEVER THE INPUT: true; the input reads as it did. -/
def opsFindsSpec : ChangeSpec := { name := "opsFinds", fn := fun _ => fun
  | [d] => { results := [.lit (.bool true)], args := [d] }
  | _ => none }
def opsFindsRow : OpenClaim := { program := "ytflegdijmkacdaa", sum := "2f030ed00bf408273459694d4125f859ff824bfccba9362155764f0b5c47e337", func := "slotcode/slotcodelaw03.OpsFinds", spec := "opsFinds", apart := false }
def OpsFindsSaid : Prop := opsFindsRow.holds Try.pinned (OpenSpec.ofChange opsFindsSpec)

/-- ITS FALSE NEIGHBOUR: 'it returns false'. Refute it at one input. -/
def opsFindsWrong : ChangeSpec := { name := "opsFinds", fn := fun _ => fun
  | [d] => { results := [.lit (.bool false)], args := [d] }
  | _ => none }
def OpsFindsWrongFalsely : Prop := opsFindsRow.holds Try.pinned (OpenSpec.ofChange opsFindsWrong)

/-- 'slotcodelaw03.OpsCodes': WHATEVER THE INPUT: true; the input reads as it did. -/
def opsCodesSpec : ChangeSpec := { name := "opsCodes", fn := fun _ => fun
  | [d] => { results := [.lit (.bool true)], args := [d] }
  | _ => none }
def opsCodesRow : OpenClaim := { program := "ytflegdijmkacdaa", sum := "2f030ed00bf408273459694d4125f859ff824bfccba9362155764f0b5c47e337", func := "slotcode/slotcodelaw03.OpsCodes", spec := "opsCodes", apart := false }
def OpsCodesSaid : Prop := opsCodesRow.holds Try.pinned (OpenSpec.ofChange opsCodesSpec)

/-- ITS FALSE NEIGHBOUR: 'it returns false'. Refute it at one input. -/
def opsCodesWrong : ChangeSpec := { name := "opsCodes", fn := fun _ => fun
  | [d] => { results := [.lit (.bool false)], args := [d] }
  | _ => none }
def OpsCodesWrongFalsely : Prop := opsCodesRow.holds Try.pinned (OpenSpec.ofChange opsCodesWrong)

/-- 'slotcodelaw03.OpsFixed': WHATEVER THE INPUT: true; the input reads as it did. -/
def opsFixedSpec : ChangeSpec := { name := "opsFixed", fn := fun _ => fun
  | [d] => { results := [.lit (.bool true)], args := [d] }
  | _ => none }
def opsFixedRow : OpenClaim := { program := "ytflegdijmkacdaa", sum := "2f030ed00bf408273459694d4125f859ff824bfccba9362155764f0b5c47e337", func := "slotcode/slotcodelaw03.OpsFixed", spec := "opsFixed", apart := false }
def OpsFixedSaid : Prop := opsFixedRow.holds Try.pinned (OpenSpec.ofChange opsFixedSpec)

/-- ITS FALSE NEIGHBOUR: 'it returns false'. Refute it at one input. -/
def opsFixedWrong : ChangeSpec := { name := "opsFixed", fn := fun _ => fun
  | [d] => { results := [.lit (.bool false)], args := [d] }
  | _ => none }
def OpsFixedWrongFalsely : Prop := opsFixedRow.holds Try.pinned (OpenSpec.ofChange opsFixedWrong)

/-- 'slotcodelaw03.OpsIdentifies': WHATEVER THE INPUT: true; the input reads as it did. -/
def opsIdentifiesSpec : ChangeSpec := { name := "opsIdentifies", fn := fun _ => fun
  | [d1, d2, d3] => { results := [.lit (.bool true)], args := [d1, d2, d3] }
  | _ => none }
def opsIdentifiesRow : OpenClaim := { program := "ytflegdijmkacdaa", sum := "2f030ed00bf408273459694d4125f859ff824bfccba9362155764f0b5c47e337", func := "slotcode/slotcodelaw03.OpsIdentifies", spec := "opsIdentifies", apart := false }
def OpsIdentifiesSaid : Prop := opsIdentifiesRow.holds Try.pinned (OpenSpec.ofChange opsIdentifiesSpec)

/-- ITS FALSE NEIGHBOUR: 'it returns false'. Refute it at one input. -/
def opsIdentifiesWrong : ChangeSpec := { name := "opsIdentifies", fn := fun _ => fun
  | [d1, d2, d3] => { results := [.lit (.bool false)], args := [d1, d2, d3] }
  | _ => none }
def OpsIdentifiesWrongFalsely : Prop := opsIdentifiesRow.holds Try.pinned (OpenSpec.ofChange opsIdentifiesWrong)

/-- 'slotcodelaw03.OpsInverts': WHATEVER THE INPUT: true; the input reads as it did. -/
def opsInvertsSpec : ChangeSpec := { name := "opsInverts", fn := fun _ => fun
  | [d1, d2, d3] => { results := [.lit (.bool true)], args := [d1, d2, d3] }
  | _ => none }
def opsInvertsRow : OpenClaim := { program := "ytflegdijmkacdaa", sum := "2f030ed00bf408273459694d4125f859ff824bfccba9362155764f0b5c47e337", func := "slotcode/slotcodelaw03.OpsInverts", spec := "opsInverts", apart := false }
def OpsInvertsSaid : Prop := opsInvertsRow.holds Try.pinned (OpenSpec.ofChange opsInvertsSpec)

/-- ITS FALSE NEIGHBOUR: 'it returns false'. Refute it at one input. -/
def opsInvertsWrong : ChangeSpec := { name := "opsInverts", fn := fun _ => fun
  | [d1, d2, d3] => { results := [.lit (.bool false)], args := [d1, d2, d3] }
  | _ => none }
def OpsInvertsWrongFalsely : Prop := opsInvertsRow.holds Try.pinned (OpenSpec.ofChange opsInvertsWrong)

/- THE SECOND FORM. 'bulk': how many values and letters a reading holds, each counted each time it is reached (what is shared counts as often as it is met; a slice's spare places count too). A statement '..UptoSaid' is the law's where the arguments, and the package variables that the reading takes, are together of bulk at most 1048576: NARROWER than '..Said'. Prove '..Said' where nothing that the law and all that it calls make is longer than what came in: it says more and counts as full. Else prove '..UptoSaid'. A law counts once. -/
mutual
def uptoBulk {H : Type} : DataW H → Nat
  | .lit (.string bytes) => bytes.length + 1
  | .lit _ => 1
  | .nil => 1
  | .ptr d => uptoBulk d + 1
  | .slice elems spare => uptoBulkAll elems + uptoBulkAll spare + 1
  | .agg parts => uptoBulkAll parts + 1
  | .iface _ d => uptoBulk d + 1
  | .map entries => uptoBulkEntries entries + 1
  | .held _ => 1
def uptoBulkAll {H : Type} : List (DataW H) → Nat
  | [] => 0
  | d :: r => uptoBulk d + uptoBulkAll r
def uptoBulkEntries {H : Type} : List (Lit × DataW H) → Nat
  | [] => 0
  | x :: r => uptoBulkEntry x + uptoBulkEntries r
def uptoBulkEntry {H : Type} : Lit × DataW H → Nat
  | (.string bytes, d) => bytes.length + uptoBulk d + 1
  | (_, d) => uptoBulk d + 1
 end
def uptoSmall : (H : Type) → List (DataW H) → Bool := fun _ ds => decide (uptoBulkAll ds ≤ 1048576)
def OpenSpec.upto (s : _root_.Go.ChangeSpec) : _root_.Go.OpenSpec := { _root_.Go.OpenSpec.ofChange s with cond := some uptoSmall }

/-- 'slotcodelaw03.OpsTable', WHERE WHAT IT READS IS OF BULK AT MOST 1048576: true; the input reads as it did. -/
def opsTableUptoRow : OpenClaim := { program := "ytflegdijmkacdaa", sum := "2f030ed00bf408273459694d4125f859ff824bfccba9362155764f0b5c47e337", func := "slotcode/slotcodelaw03.OpsTable", spec := "opsTable", apart := false, narrowed := true }
def OpsTableUptoSaid : Prop := opsTableUptoRow.holds Try.pinned (OpenSpec.upto opsTableSpec)

/-- 'slotcodelaw03.OpsFinds', WHERE WHAT IT READS IS OF BULK AT MOST 1048576: true; the input reads as it did. -/
def opsFindsUptoRow : OpenClaim := { program := "ytflegdijmkacdaa", sum := "2f030ed00bf408273459694d4125f859ff824bfccba9362155764f0b5c47e337", func := "slotcode/slotcodelaw03.OpsFinds", spec := "opsFinds", apart := false, narrowed := true }
def OpsFindsUptoSaid : Prop := opsFindsUptoRow.holds Try.pinned (OpenSpec.upto opsFindsSpec)

/-- 'slotcodelaw03.OpsCodes', WHERE WHAT IT READS IS OF BULK AT MOST 1048576: true; the input reads as it did. -/
def opsCodesUptoRow : OpenClaim := { program := "ytflegdijmkacdaa", sum := "2f030ed00bf408273459694d4125f859ff824bfccba9362155764f0b5c47e337", func := "slotcode/slotcodelaw03.OpsCodes", spec := "opsCodes", apart := false, narrowed := true }
def OpsCodesUptoSaid : Prop := opsCodesUptoRow.holds Try.pinned (OpenSpec.upto opsCodesSpec)

/-- 'slotcodelaw03.OpsFixed', WHERE WHAT IT READS IS OF BULK AT MOST 1048576: true; the input reads as it did. -/
def opsFixedUptoRow : OpenClaim := { program := "ytflegdijmkacdaa", sum := "2f030ed00bf408273459694d4125f859ff824bfccba9362155764f0b5c47e337", func := "slotcode/slotcodelaw03.OpsFixed", spec := "opsFixed", apart := false, narrowed := true }
def OpsFixedUptoSaid : Prop := opsFixedUptoRow.holds Try.pinned (OpenSpec.upto opsFixedSpec)

/-- 'slotcodelaw03.OpsIdentifies', WHERE WHAT IT READS IS OF BULK AT MOST 1048576: true; the input reads as it did. -/
def opsIdentifiesUptoRow : OpenClaim := { program := "ytflegdijmkacdaa", sum := "2f030ed00bf408273459694d4125f859ff824bfccba9362155764f0b5c47e337", func := "slotcode/slotcodelaw03.OpsIdentifies", spec := "opsIdentifies", apart := false, narrowed := true }
def OpsIdentifiesUptoSaid : Prop := opsIdentifiesUptoRow.holds Try.pinned (OpenSpec.upto opsIdentifiesSpec)

/-- 'slotcodelaw03.OpsInverts', WHERE WHAT IT READS IS OF BULK AT MOST 1048576: true; the input reads as it did. -/
def opsInvertsUptoRow : OpenClaim := { program := "ytflegdijmkacdaa", sum := "2f030ed00bf408273459694d4125f859ff824bfccba9362155764f0b5c47e337", func := "slotcode/slotcodelaw03.OpsInverts", spec := "opsInverts", apart := false, narrowed := true }
def OpsInvertsUptoSaid : Prop := opsInvertsUptoRow.holds Try.pinned (OpenSpec.upto opsInvertsSpec)

end Rows
end Go.Proofs.Ytflegdijmkacdaa
