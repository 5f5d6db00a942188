/- Contracts of the functions of layer 1 that leave memory alone, and of those of the reference: what each returns. No condition but that the numbers are of their kinds and that the table of widths reads as the program's text lays it. -/
import Derived.Test.YtbneaihpnfkcdaaDoorProg
import Derived.Lib.Strings
import Derived.WalkKit
import Derived.Handy
import Derived.Laws.Rows
import Derived.Laws.Externs
import Derived.Lib.LaidTab
import Derived.Lib.Hide
import Derived.LoopN
import Derived.Outline
import Derived.Deep.QuietTactic
import Derived.BigQuiet
import Derived.WalkSmall
namespace Go.Proofs.YtbneaihpnfkcdaaDoor.L1
open Go.RowKit

/-- Block 0 is the table of widths. -/
def Wid (w : World) : Prop := ∃ t fr, w.heap[1]? = some (.cells #[.int .i64 8, .int .i64 16, .int .i64 32, .int .i64 64] t fr)

def isW (b : Int) : Bool := b == 8 || b == 16 || b == 32 || b == 64

set_option maxHeartbeats 400000 in
theorem isWidth_yes (b : Int) (w : World) (hw : Wid w) (h : b = 8 ∨ b = 16 ∨ b = 32 ∨ b = 64) :
    Calls Tryd.prog 21 #[.int .i64 b] w fun e w' => e = .returned (.bool true) ∧ w = w' := by
  obtain ⟨t, fr, hg⟩ := hw
  have i0 : ∀ w, (Instr.index 71 (.agg #[.int .i64 8, .int .i64 16, .int .i64 32, .int .i64 64]) (.int .i64 0)).run Tryd.prog w = .ok (.int .i64 8) w := fun _ => by kernel_rfl
  have i1 : ∀ w, (Instr.index 71 (.agg #[.int .i64 8, .int .i64 16, .int .i64 32, .int .i64 64]) (.int .i64 1)).run Tryd.prog w = .ok (.int .i64 16) w := fun _ => by kernel_rfl
  have i2 : ∀ w, (Instr.index 71 (.agg #[.int .i64 8, .int .i64 16, .int .i64 32, .int .i64 64]) (.int .i64 2)).run Tryd.prog w = .ok (.int .i64 32) w := fun _ => by kernel_rfl
  have i3 : ∀ w, (Instr.index 71 (.agg #[.int .i64 8, .int .i64 16, .int .i64 32, .int .i64 64]) (.int .i64 3)).run Tryd.prog w = .ok (.int .i64 64) w := fun _ => by kernel_rfl
  rcases h with rfl | rfl | rfl | rfl
  all_goals
    go_enter Tryd.func21, Tryd.ntmps21
    go_wp2_with (refine wpList_load_row rfl 71 _ rfl 1 rfl t _ fr _ hg Tryd.underlying71 rfl (by kernel_rfl) ?_)
    refine wp_loop_rounds 5 ?_
    repeat (rw [rounds_succ]; go_wp2)
    go_ret
    exact ⟨rfl, rfl⟩

theorem ret_int {k : IntKind} {a b : Int} (h : a = b) : Ending.returned (.int k a) = .returned (.int k b) := by rw [h]
theorem ret_bool {a b : Bool} (h : a = b) : Ending.returned (.bool a) = .returned (.bool b) := by rw [h]

set_option maxHeartbeats 400000 in
theorem isWidth_no (b : Int) (w : World) (hw : Wid w) (h : isW b = false) :
    Calls Tryd.prog 21 #[.int .i64 b] w fun e w' => e = .returned (.bool false) ∧ w = w' := by
  obtain ⟨t, fr, hg⟩ := hw
  simp only [isW, Bool.or_eq_false_iff] at h
  obtain ⟨⟨⟨h1, h2⟩, h3⟩, h4⟩ := h
  have i0 : ∀ w, (Instr.index 71 (.agg #[.int .i64 8, .int .i64 16, .int .i64 32, .int .i64 64]) (.int .i64 0)).run Tryd.prog w = .ok (.int .i64 8) w := fun _ => by kernel_rfl
  have i1 : ∀ w, (Instr.index 71 (.agg #[.int .i64 8, .int .i64 16, .int .i64 32, .int .i64 64]) (.int .i64 1)).run Tryd.prog w = .ok (.int .i64 16) w := fun _ => by kernel_rfl
  have i2 : ∀ w, (Instr.index 71 (.agg #[.int .i64 8, .int .i64 16, .int .i64 32, .int .i64 64]) (.int .i64 2)).run Tryd.prog w = .ok (.int .i64 32) w := fun _ => by kernel_rfl
  have i3 : ∀ w, (Instr.index 71 (.agg #[.int .i64 8, .int .i64 16, .int .i64 32, .int .i64 64]) (.int .i64 3)).run Tryd.prog w = .ok (.int .i64 64) w := fun _ => by kernel_rfl
  have g1 : ((8 : Int) == b) = false := by rw [BEq.comm]; exact h1
  have g2 : ((16 : Int) == b) = false := by rw [BEq.comm]; exact h2
  have g3 : ((32 : Int) == b) = false := by rw [BEq.comm]; exact h3
  have g4 : ((64 : Int) == b) = false := by rw [BEq.comm]; exact h4
  clear h1 h2 h3 h4
  go_enter Tryd.func21, Tryd.ntmps21
  go_wp2_with (refine wpList_load_row rfl 71 _ rfl 1 rfl t _ fr _ hg Tryd.underlying71 rfl (by kernel_rfl) ?_)
  refine wp_loop_rounds 5 ?_
  repeat (rw [rounds_succ]; go_wp2)
  go_ret
  exact ⟨rfl, rfl⟩

theorem isW_cases {b : Int} (h : isW b = true) : b = 8 ∨ b = 16 ∨ b = 32 ∨ b = 64 := by
  simp only [isW, Bool.or_eq_true, beq_iff_eq] at h
  omega

/-- The greatest absolute value. -/
def gr (neg : Bool) (b : Int) : Int := if neg then 2 ^ (b - 1).toNat else 2 ^ b.toNat - 1

/-- The number of b bits that the last b bits of x are. -/
def sx (b x : Int) : Int :=
  if b = 8 then (x + 128) % 256 - 128 else if b = 16 then (x + 32768) % 65536 - 32768 else if b = 32 then (x + 2147483648) % 4294967296 - 2147483648 else (x + 9223372036854775808) % 18446744073709551616 - 9223372036854775808

theorem extend_yes (x b : Int) (w : World) (h0 : 0 ≤ x) (h1 : x < 18446744073709551616) (hw : Wid w) (h : b = 8 ∨ b = 16 ∨ b = 32 ∨ b = 64) :
    Calls Tryd.prog 22 #[.int .u64 x, .int .i64 b] w fun e w' => e = .returned (.int .i64 (sx b x)) ∧ w = w' := by
  rcases h with rfl | rfl | rfl | rfl
  all_goals
    go_enter Tryd.func22, Tryd.ntmps22
    go_wp2_with (go_at_call 21; refine (isWidth_yes _ _ hw (by decide)).mono ?_; rintro e w' ⟨rfl, rfl⟩)
    go_ret
    refine ⟨ret_int ?_, rfl⟩
    simp only [sx, wrap64, IntKind.wrap_u64]
    first | omega | (simp; omega) | (simp; done)

theorem extend_no (x b : Int) (w : World) (hw : Wid w) (h : isW b = false) :
    Calls Tryd.prog 22 #[.int .u64 x, .int .i64 b] w fun e w' => e = .returned (.int .i64 0) ∧ w = w' := by
  have H := Lib.hid h
  clear h
  go_enter Tryd.func22, Tryd.ntmps22
  go_wp2_with (go_at_call 21; refine (isWidth_no _ _ hw H.out).mono ?_; rintro e w' ⟨rfl, rfl⟩)
  go_ret
  exact ⟨rfl, rfl⟩

theorem sx_mod (b x : Int) : sx b (x % 18446744073709551616) = sx b x := by
  unfold sx
  repeat' split
  all_goals omega

theorem fits_yes (x b : Int) (w : World) (hw : Wid w) (h : b = 8 ∨ b = 16 ∨ b = 32 ∨ b = 64) :
    Calls Tryd.prog 14 #[.int .i64 x, .int .i64 b] w fun e w' => e = .returned (.bool (sx b x == x)) ∧ w = w' := by
  have h0 : 0 ≤ IntKind.u64.wrap x := by rw [IntKind.wrap_u64]; omega
  have h1 : IntKind.u64.wrap x < 18446744073709551616 := by rw [IntKind.wrap_u64]; omega
  go_enter Tryd.func14, Tryd.ntmps14
  go_wp2_with (first | (go_at_call 21; refine (isWidth_yes _ _ hw h).mono ?_; rintro e w' ⟨rfl, rfl⟩) | (go_at_call 22; refine (extend_yes _ _ _ h0 h1 hw h).mono ?_; rintro e w' ⟨rfl, rfl⟩))
  go_ret
  refine ⟨ret_bool ?_, rfl⟩
  show (sx b (IntKind.u64.wrap x) == x) = _
  rw [IntKind.wrap_u64, sx_mod]

theorem fits_no (x b : Int) (w : World) (hw : Wid w) (h : isW b = false) :
    Calls Tryd.prog 14 #[.int .i64 x, .int .i64 b] w fun e w' => e = .returned (.bool false) ∧ w = w' := by
  have H := Lib.hid h
  clear h
  go_enter Tryd.func14, Tryd.ntmps14
  go_wp2_with (first | (go_at_call 21; refine (isWidth_no _ _ hw H.out).mono ?_; rintro e w' ⟨rfl, rfl⟩))
  go_ret
  exact ⟨rfl, rfl⟩

/-- The value of a digit, or a number that no base reaches. -/
def dg (r : Int) : Int := if 48 ≤ r ∧ r ≤ 57 then r - 48 else if 97 ≤ r ∧ r ≤ 102 then r - 87 else if 65 ≤ r ∧ r ≤ 70 then r - 55 else 18446744073709551615

/-- The reference's: the value of a digit of the base, or -1. -/
def rdg (c base : Int) : Int := if dg c < base then dg c else -1

end Go.Proofs.YtbneaihpnfkcdaaDoor.L1
