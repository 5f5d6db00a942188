/- Contracts of the functions of layer 1 that leave memory alone, and of those of the reference: what each returns. No condition but that the numbers are of their kinds and that the table of widths reads as the program's text lays it. -/
import Derived.Test.YtiklgnokojkoeaaProg
import Derived.WalkKit
import Derived.Handy
import Derived.Laws.Rows
import Derived.Laws.Externs
import Derived.Lib.LaidTab
import Derived.Lib.Hide
import Derived.LoopN
import Derived.Outline
import Derived.Deep.QuietTactic
import Derived.BigQuiet
import Derived.WalkSmall
namespace Go.Proofs.Ytiklgnokojkoeaa.L1
open Go.RowKit

def isW (b : Int) : Bool := b == 8 || b == 16 || b == 32 || b == 64

theorem ret_int {k : IntKind} {a b : Int} (h : a = b) : Ending.returned (.int k a) = .returned (.int k b) := by rw [h]
theorem ret_bool {a b : Bool} (h : a = b) : Ending.returned (.bool a) = .returned (.bool b) := by rw [h]

theorem isW_cases {b : Int} (h : isW b = true) : b = 8 ∨ b = 16 ∨ b = 32 ∨ b = 64 := by
  simp only [isW, Bool.or_eq_true, beq_iff_eq] at h
  omega

/-- The greatest absolute value. -/
def gr (neg : Bool) (b : Int) : Int := if neg then 2 ^ (b - 1).toNat else 2 ^ b.toNat - 1

/-- The number of b bits that the last b bits of x are. -/
def sx (b x : Int) : Int :=
  if b = 8 then (x + 128) % 256 - 128 else if b = 16 then (x + 32768) % 65536 - 32768 else if b = 32 then (x + 2147483648) % 4294967296 - 2147483648 else (x + 9223372036854775808) % 18446744073709551616 - 9223372036854775808

theorem sx_mod (b x : Int) : sx b (x % 18446744073709551616) = sx b x := by
  unfold sx
  repeat' split
  all_goals omega

theorem power_any (n : Nat) (w : World) (hn : n ≤ 63) :
    Calls Try.prog 35 #[.int .i64 n] w fun e w' => e = .returned (.int .u64 ((2 : Int) ^ n)) ∧ w = w' := by
  go_enter Try.func35, Try.ntmps35
  go_wp2
  go_loop [3, 4] (fun x i => ∃ k : Nat, k ≤ n ∧ i = .int .i64 k ∧ x = .int .u64 ((2 : Int) ^ k)) (fun _ i => n - (intOf i).toNat)
  case atStart => exact ⟨0, Nat.zero_le _, rfl, rfl⟩
  case round =>
    obtain ⟨k, hk, rfl, rfl⟩ := hrel
    by_cases hlt : k < n
    · have HS := Lib.hid (Int.pow_succ 2 k)
      have h1 : (2 : Int) ^ k ≤ 4611686018427387904 := by
        have : 2 ^ k ≤ 2 ^ 62 := Nat.pow_le_pow_right (by decide) (by omega)
        have h2 : ((2 ^ k : Nat) : Int) ≤ ((2 ^ 62 : Nat) : Int) := by exact_mod_cast this
        simpa using h2
      have h0 : 0 ≤ (2 : Int) ^ k := Int.pow_nonneg (by decide)
      go_wp2
      go_round
      case rel => exact ⟨k + 1, by omega, by go_num, by rw [HS.out]; try go_num⟩
      case measure => simp [intOf]; omega
    · have : k = n := by omega
      subst this
      go_wp2
      go_ret
      exact ⟨rfl, rfl⟩

theorem power_at (b : Int) (n : Nat) (p : Int) (w : World) (hb : b = n) (hn : n ≤ 63) (hp : p = (2 : Int) ^ n) :
    Calls Try.prog 35 #[.int .i64 b] w fun e w' => e = .returned (.int .u64 p) ∧ w = w' := by
  subst hb; subst hp; exact power_any n w hn

/-- The value of a digit, or a number that no base reaches. -/
def dg (r : Int) : Int := if 48 ≤ r ∧ r ≤ 57 then r - 48 else if 97 ≤ r ∧ r ≤ 102 then r - 87 else if 65 ≤ r ∧ r ≤ 70 then r - 55 else 18446744073709551615

/-- The reference's: the value of a digit of the base, or -1. -/
def rdg (c base : Int) : Int := if dg c < base then dg c else -1

end Go.Proofs.Ytiklgnokojkoeaa.L1
