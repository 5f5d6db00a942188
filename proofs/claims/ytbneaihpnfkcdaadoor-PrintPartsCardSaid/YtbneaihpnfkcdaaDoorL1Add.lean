/- What the code's numerals come to: the closure that puts a digit behind a number, the reading of digits, Parse. No condition but that the table of widths reads as the program's text lays it and that a text is within the reach of the form. -/
import Derived.Test.YtbneaihpnfkcdaaDoorShelf
import Derived.Test.YtbneaihpnfkcdaaDoorL1Base
import Derived.OneCell
import Derived.Lib.OthersKept
namespace Go.Proofs.YtbneaihpnfkcdaaDoor.L1
open Go.RowKit

theorem add_arith (v base d hi lo sm cy : Nat) (o : Bool) (e1 : hi = v * base / 18446744073709551616) (e2 : lo = v * base % 18446744073709551616)
    (e3 : sm = (lo + d) % 18446744073709551616) (e4 : cy = (lo + d) / 18446744073709551616) :
    sm = (v * base + d) % 18446744073709551616 ∧ (o || !(hi == 0) || !(cy == 0)) = (o || decide (18446744073709551616 ≤ v * base + d)) := by
  generalize v * base = P at *
  refine ⟨by omega, ?_⟩
  rw [Bool.or_assoc]
  congr 1
  by_cases h : 18446744073709551616 ≤ P + d
  · simp only [h, decide_true]
    by_cases h1 : hi = 0
    · have : cy ≠ 0 := by omega
      simp [this]
    · simp [h1]
  · have h1 : hi = 0 := by omega
    have h2 : cy = 0 := by omega
    simp [h, h1, h2]

end Go.Proofs.YtbneaihpnfkcdaaDoor.L1
