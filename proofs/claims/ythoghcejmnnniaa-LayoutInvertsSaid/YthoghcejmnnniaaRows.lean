/-
  No cell of these rows narrows 'for every input' (looked for: loops, veiled, ifaces, maps, wideKeys, modest, calm, conditions, laid).
  DERIVED. THE GIVEN ROWS OF THIS SEAT. 6 by the template 'for every input the law returns true; each argument reads behind the call as it read before'; 0 by the template 'total and deterministic' (their statements: YthoghcejmnnniaaTotals.lean).
  GIVEN WITH THE SEED: the statements are not yours to turn. If you find one false, say at which input.
  Laid BY PROGRAM, IN A SANDBOX (cutbox-rows.mjs): the forced cells as the released guide's own fill.sh prints them over the translation 1f2bc6ec25167264… (all of the seat's roots in one cut). By AI agents, Wed Nov 11 2026. No macro, syntax, notation, axiom, sorry.
-/
import Derived.Test.YthoghcejmnnniaaChecked
import GoSem.Claim
import GoSem.ClaimJoined
import GoSem.ClaimMapViews
import Derived.JoinedTies
import Derived.KernelRfl
namespace Go.Proofs.Ythoghcejmnnniaa
/- THE CELL 'sum', in the pinned program and in every row, IS THE sha256 OF THE DUMP (.gsa) THAT YthoghcejmnnniaaProg.lean LOADS. Nothing in Lean hashes anything: it is a label: what it is worth is what the hold of that sum in a sandbox is worth. -/
noncomputable def Try.pinned : Pinned := { name := "ythoghcejmnnniaa", sum := "1f2bc6ec251672645c7847b6ef793fd0adafeb66c8e0f795dcbf05a4dd3a5d14", checked := Try.checked }
namespace Rows
def none {H : Type} : Left H := { results := [], args := [] }

/-- 'slotcodelaw12.LayoutStarts': WHATEVER THE INPUT: true; the input reads as it did. -/
def layoutStartsSpec : ChangeSpec := { name := "layoutStarts", fn := fun _ => fun
  | [d] => { results := [.lit (.bool true)], args := [d] }
  | _ => none }
def layoutStartsRow : OpenClaim := { program := "ythoghcejmnnniaa", sum := "1f2bc6ec251672645c7847b6ef793fd0adafeb66c8e0f795dcbf05a4dd3a5d14", func := "slotcode/slotcodelaw12.LayoutStarts", spec := "layoutStarts", unfollowed := true, recurses := true, apart := false }
def LayoutStartsSaid : Prop := layoutStartsRow.holds Try.pinned (OpenSpec.ofChange layoutStartsSpec)

/-- ITS FALSE NEIGHBOUR: 'it returns false'. Refute it at one input. -/
def layoutStartsWrong : ChangeSpec := { name := "layoutStarts", fn := fun _ => fun
  | [d] => { results := [.lit (.bool false)], args := [d] }
  | _ => none }
def LayoutStartsWrongFalsely : Prop := layoutStartsRow.holds Try.pinned (OpenSpec.ofChange layoutStartsWrong)

/-- 'slotcodelaw12.LayoutAt': WHATEVER THE INPUT: true; the input reads as it did. -/
def layoutAtSpec : ChangeSpec := { name := "layoutAt", fn := fun _ => fun
  | [d1, d2] => { results := [.lit (.bool true)], args := [d1, d2] }
  | _ => none }
def layoutAtRow : OpenClaim := { program := "ythoghcejmnnniaa", sum := "1f2bc6ec251672645c7847b6ef793fd0adafeb66c8e0f795dcbf05a4dd3a5d14", func := "slotcode/slotcodelaw12.LayoutAt", spec := "layoutAt", unfollowed := true, recurses := true, apart := false }
def LayoutAtSaid : Prop := layoutAtRow.holds Try.pinned (OpenSpec.ofChange layoutAtSpec)

/-- ITS FALSE NEIGHBOUR: 'it returns false'. Refute it at one input. -/
def layoutAtWrong : ChangeSpec := { name := "layoutAt", fn := fun _ => fun
  | [d1, d2] => { results := [.lit (.bool false)], args := [d1, d2] }
  | _ => none }
def LayoutAtWrongFalsely : Prop := layoutAtRow.holds Try.pinned (OpenSpec.ofChange layoutAtWrong)

/-- 'slotcodelaw12.LayoutDistances': WHATEVER THE INPUT: true; the input reads as it did. -/
def layoutDistancesSpec : ChangeSpec := { name := "layoutDistances", fn := fun _ => fun
  | [d1, d2, d3] => { results := [.lit (.bool true)], args := [d1, d2, d3] }
  | _ => none }
def layoutDistancesRow : OpenClaim := { program := "ythoghcejmnnniaa", sum := "1f2bc6ec251672645c7847b6ef793fd0adafeb66c8e0f795dcbf05a4dd3a5d14", func := "slotcode/slotcodelaw12.LayoutDistances", spec := "layoutDistances", unfollowed := true, recurses := true, apart := false }
def LayoutDistancesSaid : Prop := layoutDistancesRow.holds Try.pinned (OpenSpec.ofChange layoutDistancesSpec)

/-- ITS FALSE NEIGHBOUR: 'it returns false'. Refute it at one input. -/
def layoutDistancesWrong : ChangeSpec := { name := "layoutDistances", fn := fun _ => fun
  | [d1, d2, d3] => { results := [.lit (.bool false)], args := [d1, d2, d3] }
  | _ => none }
def LayoutDistancesWrongFalsely : Prop := layoutDistancesRow.holds Try.pinned (OpenSpec.ofChange layoutDistancesWrong)

/-- 'slotcodelaw12.LayoutTargets': WHATEVER THE INPUT: true; the input reads as it did. -/
def layoutTargetsSpec : ChangeSpec := { name := "layoutTargets", fn := fun _ => fun
  | [d1, d2, d3] => { results := [.lit (.bool true)], args := [d1, d2, d3] }
  | _ => none }
def layoutTargetsRow : OpenClaim := { program := "ythoghcejmnnniaa", sum := "1f2bc6ec251672645c7847b6ef793fd0adafeb66c8e0f795dcbf05a4dd3a5d14", func := "slotcode/slotcodelaw12.LayoutTargets", spec := "layoutTargets", unfollowed := true, recurses := true, apart := false }
def LayoutTargetsSaid : Prop := layoutTargetsRow.holds Try.pinned (OpenSpec.ofChange layoutTargetsSpec)

/-- ITS FALSE NEIGHBOUR: 'it returns false'. Refute it at one input. -/
def layoutTargetsWrong : ChangeSpec := { name := "layoutTargets", fn := fun _ => fun
  | [d1, d2, d3] => { results := [.lit (.bool false)], args := [d1, d2, d3] }
  | _ => none }
def LayoutTargetsWrongFalsely : Prop := layoutTargetsRow.holds Try.pinned (OpenSpec.ofChange layoutTargetsWrong)

/-- 'slotcodelaw12.LayoutInverts': WHATEVER THE INPUT: true; the input reads as it did. -/
def layoutInvertsSpec : ChangeSpec := { name := "layoutInverts", fn := fun _ => fun
  | [d1, d2, d3] => { results := [.lit (.bool true)], args := [d1, d2, d3] }
  | _ => none }
def layoutInvertsRow : OpenClaim := { program := "ythoghcejmnnniaa", sum := "1f2bc6ec251672645c7847b6ef793fd0adafeb66c8e0f795dcbf05a4dd3a5d14", func := "slotcode/slotcodelaw12.LayoutInverts", spec := "layoutInverts", unfollowed := true, recurses := true, apart := false }
def LayoutInvertsSaid : Prop := layoutInvertsRow.holds Try.pinned (OpenSpec.ofChange layoutInvertsSpec)

/-- ITS FALSE NEIGHBOUR: 'it returns false'. Refute it at one input. -/
def layoutInvertsWrong : ChangeSpec := { name := "layoutInverts", fn := fun _ => fun
  | [d1, d2, d3] => { results := [.lit (.bool false)], args := [d1, d2, d3] }
  | _ => none }
def LayoutInvertsWrongFalsely : Prop := layoutInvertsRow.holds Try.pinned (OpenSpec.ofChange layoutInvertsWrong)

/-- 'slotcodelaw12.LayoutPrograms': WHATEVER THE INPUT: true; the input reads as it did. -/
def layoutProgramsSpec : ChangeSpec := { name := "layoutPrograms", fn := fun _ => fun
  | [d] => { results := [.lit (.bool true)], args := [d] }
  | _ => none }
def layoutProgramsRow : OpenClaim := { program := "ythoghcejmnnniaa", sum := "1f2bc6ec251672645c7847b6ef793fd0adafeb66c8e0f795dcbf05a4dd3a5d14", func := "slotcode/slotcodelaw12.LayoutPrograms", spec := "layoutPrograms", unfollowed := true, recurses := true, apart := false }
def LayoutProgramsSaid : Prop := layoutProgramsRow.holds Try.pinned (OpenSpec.ofChange layoutProgramsSpec)

/-- ITS FALSE NEIGHBOUR: 'it returns false'. Refute it at one input. -/
def layoutProgramsWrong : ChangeSpec := { name := "layoutPrograms", fn := fun _ => fun
  | [d] => { results := [.lit (.bool false)], args := [d] }
  | _ => none }
def LayoutProgramsWrongFalsely : Prop := layoutProgramsRow.holds Try.pinned (OpenSpec.ofChange layoutProgramsWrong)

/- THE SECOND FORM. 'bulk': how many values and letters a reading holds, each counted each time it is reached (what is shared counts as often as it is met; a slice's spare places count too). A statement '..UptoSaid' is the law's where the arguments, and the package variables that the reading takes, are together of bulk at most 1048576: NARROWER than '..Said'. Prove '..Said' where nothing that the law and all that it calls make is longer than what came in: it says more and counts as full. Else prove '..UptoSaid'. A law counts once. -/
mutual
def uptoBulk {H : Type} : DataW H → Nat
  | .lit (.string bytes) => bytes.length + 1
  | .lit _ => 1
  | .nil => 1
  | .ptr d => uptoBulk d + 1
  | .slice elems spare => uptoBulkAll elems + uptoBulkAll spare + 1
  | .agg parts => uptoBulkAll parts + 1
  | .iface _ d => uptoBulk d + 1
  | .map entries => uptoBulkEntries entries + 1
  | .held _ => 1
def uptoBulkAll {H : Type} : List (DataW H) → Nat
  | [] => 0
  | d :: r => uptoBulk d + uptoBulkAll r
def uptoBulkEntries {H : Type} : List (Lit × DataW H) → Nat
  | [] => 0
  | x :: r => uptoBulkEntry x + uptoBulkEntries r
def uptoBulkEntry {H : Type} : Lit × DataW H → Nat
  | (.string bytes, d) => bytes.length + uptoBulk d + 1
  | (_, d) => uptoBulk d + 1
 end
def uptoSmall : (H : Type) → List (DataW H) → Bool := fun _ ds => decide (uptoBulkAll ds ≤ 1048576)
def OpenSpec.upto (s : _root_.Go.ChangeSpec) : _root_.Go.OpenSpec := { _root_.Go.OpenSpec.ofChange s with cond := some uptoSmall }

/-- 'slotcodelaw12.LayoutStarts', WHERE WHAT IT READS IS OF BULK AT MOST 1048576: true; the input reads as it did. -/
def layoutStartsUptoRow : OpenClaim := { program := "ythoghcejmnnniaa", sum := "1f2bc6ec251672645c7847b6ef793fd0adafeb66c8e0f795dcbf05a4dd3a5d14", func := "slotcode/slotcodelaw12.LayoutStarts", spec := "layoutStarts", unfollowed := true, recurses := true, apart := false, narrowed := true }
def LayoutStartsUptoSaid : Prop := layoutStartsUptoRow.holds Try.pinned (OpenSpec.upto layoutStartsSpec)

/-- 'slotcodelaw12.LayoutAt', WHERE WHAT IT READS IS OF BULK AT MOST 1048576: true; the input reads as it did. -/
def layoutAtUptoRow : OpenClaim := { program := "ythoghcejmnnniaa", sum := "1f2bc6ec251672645c7847b6ef793fd0adafeb66c8e0f795dcbf05a4dd3a5d14", func := "slotcode/slotcodelaw12.LayoutAt", spec := "layoutAt", unfollowed := true, recurses := true, apart := false, narrowed := true }
def LayoutAtUptoSaid : Prop := layoutAtUptoRow.holds Try.pinned (OpenSpec.upto layoutAtSpec)

/-- 'slotcodelaw12.LayoutDistances', WHERE WHAT IT READS IS OF BULK AT MOST 1048576: true; the input reads as it did. -/
def layoutDistancesUptoRow : OpenClaim := { program := "ythoghcejmnnniaa", sum := "1f2bc6ec251672645c7847b6ef793fd0adafeb66c8e0f795dcbf05a4dd3a5d14", func := "slotcode/slotcodelaw12.LayoutDistances", spec := "layoutDistances", unfollowed := true, recurses := true, apart := false, narrowed := true }
def LayoutDistancesUptoSaid : Prop := layoutDistancesUptoRow.holds Try.pinned (OpenSpec.upto layoutDistancesSpec)

/-- 'slotcodelaw12.LayoutTargets', WHERE WHAT IT READS IS OF BULK AT MOST 1048576: true; the input reads as it did. -/
def layoutTargetsUptoRow : OpenClaim := { program := "ythoghcejmnnniaa", sum := "1f2bc6ec251672645c7847b6ef793fd0adafeb66c8e0f795dcbf05a4dd3a5d14", func := "slotcode/slotcodelaw12.LayoutTargets", spec := "layoutTargets", unfollowed := true, recurses := true, apart := false, narrowed := true }
def LayoutTargetsUptoSaid : Prop := layoutTargetsUptoRow.holds Try.pinned (OpenSpec.upto layoutTargetsSpec)

/-- 'slotcodelaw12.LayoutInverts', WHERE WHAT IT READS IS OF BULK AT MOST 1048576: true; the input reads as it did. -/
def layoutInvertsUptoRow : OpenClaim := { program := "ythoghcejmnnniaa", sum := "1f2bc6ec251672645c7847b6ef793fd0adafeb66c8e0f795dcbf05a4dd3a5d14", func := "slotcode/slotcodelaw12.LayoutInverts", spec := "layoutInverts", unfollowed := true, recurses := true, apart := false, narrowed := true }
def LayoutInvertsUptoSaid : Prop := layoutInvertsUptoRow.holds Try.pinned (OpenSpec.upto layoutInvertsSpec)

/-- 'slotcodelaw12.LayoutPrograms', WHERE WHAT IT READS IS OF BULK AT MOST 1048576: true; the input reads as it did. -/
def layoutProgramsUptoRow : OpenClaim := { program := "ythoghcejmnnniaa", sum := "1f2bc6ec251672645c7847b6ef793fd0adafeb66c8e0f795dcbf05a4dd3a5d14", func := "slotcode/slotcodelaw12.LayoutPrograms", spec := "layoutPrograms", unfollowed := true, recurses := true, apart := false, narrowed := true }
def LayoutProgramsUptoSaid : Prop := layoutProgramsUptoRow.holds Try.pinned (OpenSpec.upto layoutProgramsSpec)

end Rows
end Go.Proofs.Ythoghcejmnnniaa
