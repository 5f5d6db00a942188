/- The reference's Form and Bits, number by number. No condition. -/
import Derived.Test.YtbneaihpnfkcdaaDoorL3Ref
namespace Go.Proofs.YtbneaihpnfkcdaaDoor.L3
open Go.RowKit

theorem bits_split {k : Nat} (h : k < 86) : ((0 ≤ k ∧ k ≤ 13) ∨ (14 ≤ k ∧ k ≤ 27) ∨ (30 ≤ k ∧ k ≤ 32) ∨ (45 ≤ k ∧ k ≤ 55) ∨ (56 ≤ k ∧ k ≤ 66) ∨ (84 ≤ k ∧ k ≤ 85)) ∨ k = 28 ∨ k = 29 ∨ k = 33 ∨ k = 34 ∨ k = 44 ∨ k = 67 ∨ k = 68 ∨ k = 35 ∨ k = 36 ∨ k = 37 ∨ k = 38 ∨ k = 39 ∨ k = 40 ∨ k = 41 ∨ k = 42 ∨ k = 43 ∨ k = 69 ∨ k = 70 ∨ k = 71 ∨ k = 72 ∨ k = 73 ∨ k = 74 ∨ k = 75 ∨ k = 76 ∨ k = 77 ∨ k = 78 ∨ k = 79 ∨ k = 80 ∨ k = 81 ∨ k = 82 ∨ k = 83 := by omega
theorem bits_vals : ∀ k, k < 86 → ((0 ≤ k ∧ k ≤ 13) ∨ (30 ≤ k ∧ k ≤ 32) ∨ (45 ≤ k ∧ k ≤ 55) ∨ (84 ≤ k ∧ k ≤ 85) → bt k = 64) ∧ ((14 ≤ k ∧ k ≤ 27) ∨ (56 ≤ k ∧ k ≤ 66) → bt k = 32) := by decide +kernel

end Go.Proofs.YtbneaihpnfkcdaaDoor.L3
