/-
  No cell of these rows narrows 'for every input' (looked for: loops, veiled, ifaces, maps, wideKeys, modest, calm, conditions, laid).
  DERIVED. THE GIVEN ROWS OF THIS SEAT. 6 by the template 'for every input the law returns true; each argument reads behind the call as it read before'; 0 by the template 'total and deterministic' (their statements: YtiklgnokojkoeaaTotals.lean).
  GIVEN WITH THE SEED: the statements are not yours to turn. If you find one false, say at which input.
  Laid BY PROGRAM, IN A SANDBOX (cutbox-rows.mjs): the forced cells as the released guide's own fill.sh prints them over the translation 9cce9b2247cab1bd… (all of the seat's roots in one cut). By AI agents, Wed Nov 11 2026. No macro, syntax, notation, axiom, sorry.
-/
import Derived.Test.YtiklgnokojkoeaaChecked
import GoSem.Claim
import GoSem.ClaimJoined
import GoSem.ClaimMapViews
import Derived.JoinedTies
import Derived.KernelRfl
namespace Go.Proofs.Ytiklgnokojkoeaa
/- THE CELL 'sum', in the pinned program and in every row, IS THE sha256 OF THE DUMP (.gsa) THAT YtiklgnokojkoeaaProg.lean LOADS. Nothing in Lean hashes anything: it is a label: what it is worth is what the hold of that sum in a sandbox is worth. -/
noncomputable def Try.pinned : Pinned := { name := "ytiklgnokojkoeaa", sum := "9cce9b2247cab1bd74b17b53fc7f3cf61353f43e786da99e4813189c1225e6dc", checked := Try.checked }
namespace Rows
def none {H : Type} : Left H := { results := [], args := [] }

/-- 'slotcodelaw07.CondHolds': WHATEVER THE INPUT: true; the input reads as it did. -/
def condHoldsSpec : ChangeSpec := { name := "condHolds", fn := fun _ => fun
  | [d] => { results := [.lit (.bool true)], args := [d] }
  | _ => none }
def condHoldsRow : OpenClaim := { program := "ytiklgnokojkoeaa", sum := "9cce9b2247cab1bd74b17b53fc7f3cf61353f43e786da99e4813189c1225e6dc", func := "slotcode/slotcodelaw07.CondHolds", spec := "condHolds", apart := false }
def CondHoldsSaid : Prop := condHoldsRow.holds Try.pinned (OpenSpec.ofChange condHoldsSpec)

/-- ITS FALSE NEIGHBOUR: 'it returns false'. Refute it at one input. -/
def condHoldsWrong : ChangeSpec := { name := "condHolds", fn := fun _ => fun
  | [d] => { results := [.lit (.bool false)], args := [d] }
  | _ => none }
def CondHoldsWrongFalsely : Prop := condHoldsRow.holds Try.pinned (OpenSpec.ofChange condHoldsWrong)

/-- 'slotcodelaw07.CondPairs': WHATEVER THE INPUT: true; the input reads as it did. -/
def condPairsSpec : ChangeSpec := { name := "condPairs", fn := fun _ => fun
  | [d] => { results := [.lit (.bool true)], args := [d] }
  | _ => none }
def condPairsRow : OpenClaim := { program := "ytiklgnokojkoeaa", sum := "9cce9b2247cab1bd74b17b53fc7f3cf61353f43e786da99e4813189c1225e6dc", func := "slotcode/slotcodelaw07.CondPairs", spec := "condPairs", apart := false }
def CondPairsSaid : Prop := condPairsRow.holds Try.pinned (OpenSpec.ofChange condPairsSpec)

/-- ITS FALSE NEIGHBOUR: 'it returns false'. Refute it at one input. -/
def condPairsWrong : ChangeSpec := { name := "condPairs", fn := fun _ => fun
  | [d] => { results := [.lit (.bool false)], args := [d] }
  | _ => none }
def CondPairsWrongFalsely : Prop := condPairsRow.holds Try.pinned (OpenSpec.ofChange condPairsWrong)

/-- 'slotcodelaw07.CondOpposite': WHATEVER THE INPUT: true; the input reads as it did. -/
def condOppositeSpec : ChangeSpec := { name := "condOpposite", fn := fun _ => fun
  | [d] => { results := [.lit (.bool true)], args := [d] }
  | _ => none }
def condOppositeRow : OpenClaim := { program := "ytiklgnokojkoeaa", sum := "9cce9b2247cab1bd74b17b53fc7f3cf61353f43e786da99e4813189c1225e6dc", func := "slotcode/slotcodelaw07.CondOpposite", spec := "condOpposite", apart := false }
def CondOppositeSaid : Prop := condOppositeRow.holds Try.pinned (OpenSpec.ofChange condOppositeSpec)

/-- ITS FALSE NEIGHBOUR: 'it returns false'. Refute it at one input. -/
def condOppositeWrong : ChangeSpec := { name := "condOpposite", fn := fun _ => fun
  | [d] => { results := [.lit (.bool false)], args := [d] }
  | _ => none }
def CondOppositeWrongFalsely : Prop := condOppositeRow.holds Try.pinned (OpenSpec.ofChange condOppositeWrong)

/-- 'slotcodelaw07.CondMirror': WHATEVER THE INPUT: true; the input reads as it did. -/
def condMirrorSpec : ChangeSpec := { name := "condMirror", fn := fun _ => fun
  | [d] => { results := [.lit (.bool true)], args := [d] }
  | _ => none }
def condMirrorRow : OpenClaim := { program := "ytiklgnokojkoeaa", sum := "9cce9b2247cab1bd74b17b53fc7f3cf61353f43e786da99e4813189c1225e6dc", func := "slotcode/slotcodelaw07.CondMirror", spec := "condMirror", apart := false }
def CondMirrorSaid : Prop := condMirrorRow.holds Try.pinned (OpenSpec.ofChange condMirrorSpec)

/-- ITS FALSE NEIGHBOUR: 'it returns false'. Refute it at one input. -/
def condMirrorWrong : ChangeSpec := { name := "condMirror", fn := fun _ => fun
  | [d] => { results := [.lit (.bool false)], args := [d] }
  | _ => none }
def CondMirrorWrongFalsely : Prop := condMirrorRow.holds Try.pinned (OpenSpec.ofChange condMirrorWrong)

/-- 'slotcodelaw07.CondOrder': WHATEVER THE INPUT: true; the input reads as it did. -/
def condOrderSpec : ChangeSpec := { name := "condOrder", fn := fun _ => fun
  | [d1, d2, d3] => { results := [.lit (.bool true)], args := [d1, d2, d3] }
  | _ => none }
def condOrderRow : OpenClaim := { program := "ytiklgnokojkoeaa", sum := "9cce9b2247cab1bd74b17b53fc7f3cf61353f43e786da99e4813189c1225e6dc", func := "slotcode/slotcodelaw07.CondOrder", spec := "condOrder", apart := false }
def CondOrderSaid : Prop := condOrderRow.holds Try.pinned (OpenSpec.ofChange condOrderSpec)

/-- ITS FALSE NEIGHBOUR: 'it returns false'. Refute it at one input. -/
def condOrderWrong : ChangeSpec := { name := "condOrder", fn := fun _ => fun
  | [d1, d2, d3] => { results := [.lit (.bool false)], args := [d1, d2, d3] }
  | _ => none }
def CondOrderWrongFalsely : Prop := condOrderRow.holds Try.pinned (OpenSpec.ofChange condOrderWrong)

/-- 'slotcodelaw07.CondLow': WHATEVER THE INPUT: true; the input reads as it did. -/
def condLowSpec : ChangeSpec := { name := "condLow", fn := fun _ => fun
  | [d1, d2, d3] => { results := [.lit (.bool true)], args := [d1, d2, d3] }
  | _ => none }
def condLowRow : OpenClaim := { program := "ytiklgnokojkoeaa", sum := "9cce9b2247cab1bd74b17b53fc7f3cf61353f43e786da99e4813189c1225e6dc", func := "slotcode/slotcodelaw07.CondLow", spec := "condLow", apart := false }
def CondLowSaid : Prop := condLowRow.holds Try.pinned (OpenSpec.ofChange condLowSpec)

/-- ITS FALSE NEIGHBOUR: 'it returns false'. Refute it at one input. -/
def condLowWrong : ChangeSpec := { name := "condLow", fn := fun _ => fun
  | [d1, d2, d3] => { results := [.lit (.bool false)], args := [d1, d2, d3] }
  | _ => none }
def CondLowWrongFalsely : Prop := condLowRow.holds Try.pinned (OpenSpec.ofChange condLowWrong)

/- THE SECOND FORM. 'bulk': how many values and letters a reading holds, each counted each time it is reached (what is shared counts as often as it is met; a slice's spare places count too). A statement '..UptoSaid' is the law's where the arguments, and the package variables that the reading takes, are together of bulk at most 1048576: NARROWER than '..Said'. Prove '..Said' where nothing that the law and all that it calls make is longer than what came in: it says more and counts as full. Else prove '..UptoSaid'. A law counts once. -/
mutual
def uptoBulk {H : Type} : DataW H → Nat
  | .lit (.string bytes) => bytes.length + 1
  | .lit _ => 1
  | .nil => 1
  | .ptr d => uptoBulk d + 1
  | .slice elems spare => uptoBulkAll elems + uptoBulkAll spare + 1
  | .agg parts => uptoBulkAll parts + 1
  | .iface _ d => uptoBulk d + 1
  | .map entries => uptoBulkEntries entries + 1
  | .held _ => 1
def uptoBulkAll {H : Type} : List (DataW H) → Nat
  | [] => 0
  | d :: r => uptoBulk d + uptoBulkAll r
def uptoBulkEntries {H : Type} : List (Lit × DataW H) → Nat
  | [] => 0
  | x :: r => uptoBulkEntry x + uptoBulkEntries r
def uptoBulkEntry {H : Type} : Lit × DataW H → Nat
  | (.string bytes, d) => bytes.length + uptoBulk d + 1
  | (_, d) => uptoBulk d + 1
 end
def uptoSmall : (H : Type) → List (DataW H) → Bool := fun _ ds => decide (uptoBulkAll ds ≤ 1048576)
def OpenSpec.upto (s : _root_.Go.ChangeSpec) : _root_.Go.OpenSpec := { _root_.Go.OpenSpec.ofChange s with cond := some uptoSmall }

/-- 'slotcodelaw07.CondHolds', WHERE WHAT IT READS IS OF BULK AT MOST 1048576: true; the input reads as it did. -/
def condHoldsUptoRow : OpenClaim := { program := "ytiklgnokojkoeaa", sum := "9cce9b2247cab1bd74b17b53fc7f3cf61353f43e786da99e4813189c1225e6dc", func := "slotcode/slotcodelaw07.CondHolds", spec := "condHolds", apart := false, narrowed := true }
def CondHoldsUptoSaid : Prop := condHoldsUptoRow.holds Try.pinned (OpenSpec.upto condHoldsSpec)

/-- 'slotcodelaw07.CondPairs', WHERE WHAT IT READS IS OF BULK AT MOST 1048576: true; the input reads as it did. -/
def condPairsUptoRow : OpenClaim := { program := "ytiklgnokojkoeaa", sum := "9cce9b2247cab1bd74b17b53fc7f3cf61353f43e786da99e4813189c1225e6dc", func := "slotcode/slotcodelaw07.CondPairs", spec := "condPairs", apart := false, narrowed := true }
def CondPairsUptoSaid : Prop := condPairsUptoRow.holds Try.pinned (OpenSpec.upto condPairsSpec)

/-- 'slotcodelaw07.CondOpposite', WHERE WHAT IT READS IS OF BULK AT MOST 1048576: true; the input reads as it did. -/
def condOppositeUptoRow : OpenClaim := { program := "ytiklgnokojkoeaa", sum := "9cce9b2247cab1bd74b17b53fc7f3cf61353f43e786da99e4813189c1225e6dc", func := "slotcode/slotcodelaw07.CondOpposite", spec := "condOpposite", apart := false, narrowed := true }
def CondOppositeUptoSaid : Prop := condOppositeUptoRow.holds Try.pinned (OpenSpec.upto condOppositeSpec)

/-- 'slotcodelaw07.CondMirror', WHERE WHAT IT READS IS OF BULK AT MOST 1048576: true; the input reads as it did. -/
def condMirrorUptoRow : OpenClaim := { program := "ytiklgnokojkoeaa", sum := "9cce9b2247cab1bd74b17b53fc7f3cf61353f43e786da99e4813189c1225e6dc", func := "slotcode/slotcodelaw07.CondMirror", spec := "condMirror", apart := false, narrowed := true }
def CondMirrorUptoSaid : Prop := condMirrorUptoRow.holds Try.pinned (OpenSpec.upto condMirrorSpec)

/-- 'slotcodelaw07.CondOrder', WHERE WHAT IT READS IS OF BULK AT MOST 1048576: true; the input reads as it did. -/
def condOrderUptoRow : OpenClaim := { program := "ytiklgnokojkoeaa", sum := "9cce9b2247cab1bd74b17b53fc7f3cf61353f43e786da99e4813189c1225e6dc", func := "slotcode/slotcodelaw07.CondOrder", spec := "condOrder", apart := false, narrowed := true }
def CondOrderUptoSaid : Prop := condOrderUptoRow.holds Try.pinned (OpenSpec.upto condOrderSpec)

/-- 'slotcodelaw07.CondLow', WHERE WHAT IT READS IS OF BULK AT MOST 1048576: true; the input reads as it did. -/
def condLowUptoRow : OpenClaim := { program := "ytiklgnokojkoeaa", sum := "9cce9b2247cab1bd74b17b53fc7f3cf61353f43e786da99e4813189c1225e6dc", func := "slotcode/slotcodelaw07.CondLow", spec := "condLow", apart := false, narrowed := true }
def CondLowUptoSaid : Prop := condLowUptoRow.holds Try.pinned (OpenSpec.upto condLowSpec)

end Rows
end Go.Proofs.Ytiklgnokojkoeaa
