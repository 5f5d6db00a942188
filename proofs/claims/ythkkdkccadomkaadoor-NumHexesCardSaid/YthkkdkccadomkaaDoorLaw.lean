/- What each law of layer 1 needs at its row: the listed variables give the tables that the walks read; a law that returns true and turns nothing keeps its row. No condition of its own. -/
import Derived.Test.YthkkdkccadomkaaDoorAlive
import Derived.Test.YthkkdkccadomkaaDoorRparse
import Derived.Test.YthkkdkccadomkaaDoorRows
import Derived.ProofKit
import Derived.LaidMore
import Derived.OpenShut
import Derived.Stop.Joined
import Derived.Stop.LaidErr
namespace Go.Proofs.YthkkdkccadomkaaDoor
open Go.ChangeShapes Go.WideShapes Go.ChangeAt Go.RowKit

theorem own : ownKnob Tryd.prog.godebug = none := by kernel_rfl

/-- What the rows list of the package-level variables. -/
abbrev laid4 : List (String × DataW Unit) := [("math/bits.deBruijn32tab", Rows.laid_math_bits_deBruijn32tab), ("math/bits.deBruijn64tab", Rows.laid_math_bits_deBruijn64tab), ("internal/strconv.uint64pow10", Rows.laid_internal_strconv_uint64pow10), ("slotcode/num.widths", Rows.laid_slotcode_num_widths)]

theorem gWid : Tryd.prog.globalNamed "slotcode/num.widths" = some 0 := by kernel_rfl
theorem tPow : (Tryd.prog.globals[1]?).map (·.type) = some 75 := by kernel_rfl
theorem tWid : (Tryd.prog.globals[0]?).map (·.type) = some 61 := by kernel_rfl

/-- What the row's condition on its variables gives the walks. -/
theorem tabs_of {W : World} (h : laidMetH Tryd.prog laid4 W) : Tabs W := by
  rw [MakeChecks.laidMetH_plain _ _ _ (by kernel_rfl)] at h
  have h2 := h.tail.tail
  have hp : Lib.TabIs Tryd.prog W "internal/strconv.uint64pow10" .u64 Lib.pow10Tab :=
    Lib.tabIs_of_head (rest := [("slotcode/num.widths", Rows.laid_slotcode_num_widths)]) gPow tPow Tryd.underlying75 Tryd.underlying40 (by kernel_rfl) (by kernel_rfl) h2
  have hw : Lib.TabIs Tryd.prog W "slotcode/num.widths" .i64 [8, 16, 32, 64] :=
    Lib.tabIs_of_head (rest := []) gWid tWid Tryd.underlying61 Tryd.underlying3 (by kernel_rfl) (by kernel_rfl) h2.tail
  refine ⟨?_, hp, ?_⟩
  · unfold Lib.TabIs World.var? at hw
    rw [gWid] at hw
    simp only [Option.bind_some] at hw
    split at hw
    · rename_i cs t fr he
      refine ⟨t, fr, ?_⟩
      rw [he]
      simp only [Option.some.injEq] at hw
      rw [hw]; rfl
    · cases hw
  · have := hp.cell gPow 0 (by decide)
    exact World.block_lt_of_cell? W _ this

/-- The door's own heap meets the condition. -/
theorem door_met (os : Os) (args : Array Value) : laidMetH Tryd.prog laid4 ((World.doorLaid Tryd.prog 4000 os).forCall (fun _ _ => 0) ⟨#[], args, []⟩).memory :=
  laidMetH_of_parts3 (fuel := 8) (laidMet_of_run' 8 (by kernel_rfl) (by kernel_rfl)) (by kernel_rfl) (by kernel_rfl)

/-- The last step of a law's row: it returned true, and all that was there is as it was. -/
theorem law_post {H : Type} {enc : TypeId × Value → H} {P : Program} {f : Func} {s : ChangeSpec} {W W' : World} {args : Array Value} {ds : List (DataW H)} {before : List MemPlace}
    (hW : DataW.Whole enc P f.params.toList s.vars false W args.toList ds [] before) (hv : s.vars = []) (ht : f.resultTypes = #[4]) (hu : P.underlying 4 = some .bool)
    (hfn : s.fn H (ds ++ []) = { results := [.lit (.bool true)], args := ds })
    (hargs : ∀ sp : Nat → Bool, (∀ p ∈ before, sp p.block = true) → DataW.TrodAll enc P W' 0 sp true f.params.toList args.toList ds before)
    (hb : Below W.heap.size W W') : s.post enc P f false true false false W args (.bool true) W' := by
  have hold : ∀ p ∈ before, (fun b => decide (b < W.heap.size)) p.block = true := fun p hp => by simpa using hW.lt p hp
  refine ⟨ds, [], before, [], before, [], hW, ?_, ?_, ?_, World.keptBut_mono (fun p hp => ⟨hp, ?_⟩) (hb.frame (· ∈ before)), fun h => by cases h⟩
  · rw [hfn, ht]
    exact trodAll_cons_mk (shut_bool hu _) trodAll_mk0
  · rw [hfn]; exact hargs _ hold
  · rw [hfn, hv]; exact rfl
  · exact Or.inr (Or.inl hp)

end Go.Proofs.YthkkdkccadomkaaDoor
