/- Contracts of the functions of layer 1 that leave memory alone, and of those of the reference: what each returns. No condition but that the numbers are of their kinds and that the table of widths reads as the program's text lays it. -/
/- What the code's numerals come to: the closure that puts a digit behind a number, the reading of digits, Parse. No condition but that the table of widths reads as the program's text lays it and that a text is within the reach of the form. -/
/- What the code's reading of digits comes to (num.unsigned): the number and whether it is too great, or none. No condition. -/
/- What Parse returns (num.Parse), for every text and number of bits, where the table of widths reads as the program's text lays it; it turns nothing that was there. -/
/- What the reference's Read returns, for every text: the sign, the number, whether it is too great, whether the text is a numeral; it leaves memory alone. -/
/- What the reference's Parse returns, for every text and number of bits: the same as num.Parse; it leaves memory alone. -/
import Derived.Test.YtakblmonbeflmaaGreatDoorProg
import Derived.Lib.Strings
import Derived.WalkKit
import Derived.Handy
import Derived.Laws.Rows
import Derived.Laws.Externs
import Derived.Lib.LaidTab
import Derived.Lib.Hide
import Derived.LoopN
import Derived.Outline
import Derived.Deep.QuietTactic
import Derived.BigQuiet
import Derived.WalkSmall
import Derived.Test.YtakblmonbeflmaaGreatDoorShelf
import Derived.OneCell
import Derived.Lib.OthersKept
import Derived.Deep.DeepCutAuto

section
namespace Go.Proofs.YtakblmonbeflmaaGreatDoor.L1
open Go.RowKit

/-- Block 0 is the table of widths. -/
def Wid (w : World) : Prop := ∃ t fr, w.heap[2]? = some (.cells #[.int .i64 8, .int .i64 16, .int .i64 32, .int .i64 64] t fr)

def isW (b : Int) : Bool := b == 8 || b == 16 || b == 32 || b == 64

set_option maxHeartbeats 400000 in
theorem isWidth_yes (b : Int) (w : World) (hw : Wid w) (h : b = 8 ∨ b = 16 ∨ b = 32 ∨ b = 64) :
    Calls Tryz.prog 140 #[.int .i64 b] w fun e w' => e = .returned (.bool true) ∧ w = w' := by
  obtain ⟨t, fr, hg⟩ := hw
  have i0 : ∀ w, (Instr.index 189 (.agg #[.int .i64 8, .int .i64 16, .int .i64 32, .int .i64 64]) (.int .i64 0)).run Tryz.prog w = .ok (.int .i64 8) w := fun _ => by kernel_rfl
  have i1 : ∀ w, (Instr.index 189 (.agg #[.int .i64 8, .int .i64 16, .int .i64 32, .int .i64 64]) (.int .i64 1)).run Tryz.prog w = .ok (.int .i64 16) w := fun _ => by kernel_rfl
  have i2 : ∀ w, (Instr.index 189 (.agg #[.int .i64 8, .int .i64 16, .int .i64 32, .int .i64 64]) (.int .i64 2)).run Tryz.prog w = .ok (.int .i64 32) w := fun _ => by kernel_rfl
  have i3 : ∀ w, (Instr.index 189 (.agg #[.int .i64 8, .int .i64 16, .int .i64 32, .int .i64 64]) (.int .i64 3)).run Tryz.prog w = .ok (.int .i64 64) w := fun _ => by kernel_rfl
  rcases h with rfl | rfl | rfl | rfl
  all_goals
    go_enter Tryz.func140, Tryz.ntmps140
    go_wp2_with (refine wpList_load_row rfl 189 _ rfl 2 rfl t _ fr _ hg Tryz.underlying189 rfl (by kernel_rfl) ?_)
    refine wp_loop_rounds 5 ?_
    repeat (rw [rounds_succ]; go_wp2)
    go_ret
    exact ⟨rfl, rfl⟩

theorem ret_int {k : IntKind} {a b : Int} (h : a = b) : Ending.returned (.int k a) = .returned (.int k b) := by rw [h]
theorem ret_bool {a b : Bool} (h : a = b) : Ending.returned (.bool a) = .returned (.bool b) := by rw [h]

set_option maxHeartbeats 400000 in
theorem isWidth_no (b : Int) (w : World) (hw : Wid w) (h : isW b = false) :
    Calls Tryz.prog 140 #[.int .i64 b] w fun e w' => e = .returned (.bool false) ∧ w = w' := by
  obtain ⟨t, fr, hg⟩ := hw
  simp only [isW, Bool.or_eq_false_iff] at h
  obtain ⟨⟨⟨h1, h2⟩, h3⟩, h4⟩ := h
  have i0 : ∀ w, (Instr.index 189 (.agg #[.int .i64 8, .int .i64 16, .int .i64 32, .int .i64 64]) (.int .i64 0)).run Tryz.prog w = .ok (.int .i64 8) w := fun _ => by kernel_rfl
  have i1 : ∀ w, (Instr.index 189 (.agg #[.int .i64 8, .int .i64 16, .int .i64 32, .int .i64 64]) (.int .i64 1)).run Tryz.prog w = .ok (.int .i64 16) w := fun _ => by kernel_rfl
  have i2 : ∀ w, (Instr.index 189 (.agg #[.int .i64 8, .int .i64 16, .int .i64 32, .int .i64 64]) (.int .i64 2)).run Tryz.prog w = .ok (.int .i64 32) w := fun _ => by kernel_rfl
  have i3 : ∀ w, (Instr.index 189 (.agg #[.int .i64 8, .int .i64 16, .int .i64 32, .int .i64 64]) (.int .i64 3)).run Tryz.prog w = .ok (.int .i64 64) w := fun _ => by kernel_rfl
  have g1 : ((8 : Int) == b) = false := by rw [BEq.comm]; exact h1
  have g2 : ((16 : Int) == b) = false := by rw [BEq.comm]; exact h2
  have g3 : ((32 : Int) == b) = false := by rw [BEq.comm]; exact h3
  have g4 : ((64 : Int) == b) = false := by rw [BEq.comm]; exact h4
  clear h1 h2 h3 h4
  go_enter Tryz.func140, Tryz.ntmps140
  go_wp2_with (refine wpList_load_row rfl 189 _ rfl 2 rfl t _ fr _ hg Tryz.underlying189 rfl (by kernel_rfl) ?_)
  refine wp_loop_rounds 5 ?_
  repeat (rw [rounds_succ]; go_wp2)
  go_ret
  exact ⟨rfl, rfl⟩

theorem isW_cases {b : Int} (h : isW b = true) : b = 8 ∨ b = 16 ∨ b = 32 ∨ b = 64 := by
  simp only [isW, Bool.or_eq_true, beq_iff_eq] at h
  omega

theorem width_any (b : Int) (w : World) :
    Calls Tryz.prog 98 #[.int .i64 b] w fun e w' => e = .returned (.bool (isW b)) ∧ w = w' := by
  go_enter Tryz.func98, Tryz.ntmps98
  go_wp2
  all_goals
    go_ret
    exact ⟨ret_bool (by simp [isW, *]), rfl⟩
theorem width_is (b : Int) (w : World) (c : Bool) (h : isW b = c) :
    Calls Tryz.prog 98 #[.int .i64 b] w fun e w' => e = .returned (.bool c) ∧ w = w' := by
  rw [← h]; exact width_any b w

/-- The greatest absolute value. -/
def gr (neg : Bool) (b : Int) : Int := if neg then 2 ^ (b - 1).toNat else 2 ^ b.toNat - 1

theorem greatest_any (neg : Bool) (b : Int) (w : World) (h : b = 8 ∨ b = 16 ∨ b = 32 ∨ b = 64) :
    Calls Tryz.prog 141 #[.bool neg, .int .i64 b] w fun e w' => e = .returned (.int .u64 (gr neg b)) ∧ w = w' := by
  rcases h with rfl | rfl | rfl | rfl <;> cases neg
  all_goals
    go_enter Tryz.func141, Tryz.ntmps141
    go_wp2
    go_ret
    exact ⟨rfl, rfl⟩

/-- The number of b bits that the last b bits of x are. -/
def sx (b x : Int) : Int :=
  if b = 8 then (x + 128) % 256 - 128 else if b = 16 then (x + 32768) % 65536 - 32768 else if b = 32 then (x + 2147483648) % 4294967296 - 2147483648 else (x + 9223372036854775808) % 18446744073709551616 - 9223372036854775808

theorem extend_yes (x b : Int) (w : World) (h0 : 0 ≤ x) (h1 : x < 18446744073709551616) (hw : Wid w) (h : b = 8 ∨ b = 16 ∨ b = 32 ∨ b = 64) :
    Calls Tryz.prog 142 #[.int .u64 x, .int .i64 b] w fun e w' => e = .returned (.int .i64 (sx b x)) ∧ w = w' := by
  rcases h with rfl | rfl | rfl | rfl
  all_goals
    go_enter Tryz.func142, Tryz.ntmps142
    go_wp2_with (go_at_call 140; refine (isWidth_yes _ _ hw (by decide)).mono ?_; rintro e w' ⟨rfl, rfl⟩)
    go_ret
    refine ⟨ret_int ?_, rfl⟩
    simp only [sx, wrap64, IntKind.wrap_u64]
    first | omega | (simp; omega) | (simp; done)

theorem extend_no (x b : Int) (w : World) (hw : Wid w) (h : isW b = false) :
    Calls Tryz.prog 142 #[.int .u64 x, .int .i64 b] w fun e w' => e = .returned (.int .i64 0) ∧ w = w' := by
  have H := Lib.hid h
  clear h
  go_enter Tryz.func142, Tryz.ntmps142
  go_wp2_with (go_at_call 140; refine (isWidth_no _ _ hw H.out).mono ?_; rintro e w' ⟨rfl, rfl⟩)
  go_ret
  exact ⟨rfl, rfl⟩

theorem sx_mod (b x : Int) : sx b (x % 18446744073709551616) = sx b x := by
  unfold sx
  repeat' split
  all_goals omega

theorem fits_yes (x b : Int) (w : World) (hw : Wid w) (h : b = 8 ∨ b = 16 ∨ b = 32 ∨ b = 64) :
    Calls Tryz.prog 135 #[.int .i64 x, .int .i64 b] w fun e w' => e = .returned (.bool (sx b x == x)) ∧ w = w' := by
  have h0 : 0 ≤ IntKind.u64.wrap x := by rw [IntKind.wrap_u64]; omega
  have h1 : IntKind.u64.wrap x < 18446744073709551616 := by rw [IntKind.wrap_u64]; omega
  go_enter Tryz.func135, Tryz.ntmps135
  go_wp2_with (first | (go_at_call 140; refine (isWidth_yes _ _ hw h).mono ?_; rintro e w' ⟨rfl, rfl⟩) | (go_at_call 142; refine (extend_yes _ _ _ h0 h1 hw h).mono ?_; rintro e w' ⟨rfl, rfl⟩))
  go_ret
  refine ⟨ret_bool ?_, rfl⟩
  show (sx b (IntKind.u64.wrap x) == x) = _
  rw [IntKind.wrap_u64, sx_mod]

theorem fits_no (x b : Int) (w : World) (hw : Wid w) (h : isW b = false) :
    Calls Tryz.prog 135 #[.int .i64 x, .int .i64 b] w fun e w' => e = .returned (.bool false) ∧ w = w' := by
  have H := Lib.hid h
  clear h
  go_enter Tryz.func135, Tryz.ntmps135
  go_wp2_with (first | (go_at_call 140; refine (isWidth_no _ _ hw H.out).mono ?_; rintro e w' ⟨rfl, rfl⟩))
  go_ret
  exact ⟨rfl, rfl⟩

theorem power_any (n : Nat) (w : World) (hn : n ≤ 63) :
    Calls Tryz.prog 99 #[.int .i64 n] w fun e w' => e = .returned (.int .u64 ((2 : Int) ^ n)) ∧ w = w' := by
  go_enter Tryz.func99, Tryz.ntmps99
  go_wp2
  go_loop [3, 4] (fun x i => ∃ k : Nat, k ≤ n ∧ i = .int .i64 k ∧ x = .int .u64 ((2 : Int) ^ k)) (fun _ i => n - (intOf i).toNat)
  case atStart => exact ⟨0, Nat.zero_le _, rfl, rfl⟩
  case round =>
    obtain ⟨k, hk, rfl, rfl⟩ := hrel
    by_cases hlt : k < n
    · have HS := Lib.hid (Int.pow_succ 2 k)
      have h1 : (2 : Int) ^ k ≤ 4611686018427387904 := by
        have : 2 ^ k ≤ 2 ^ 62 := Nat.pow_le_pow_right (by decide) (by omega)
        have h2 : ((2 ^ k : Nat) : Int) ≤ ((2 ^ 62 : Nat) : Int) := by exact_mod_cast this
        simpa using h2
      have h0 : 0 ≤ (2 : Int) ^ k := Int.pow_nonneg (by decide)
      go_wp2
      go_round
      case rel => exact ⟨k + 1, by omega, by go_num, by rw [HS.out]; try go_num⟩
      case measure => simp [intOf]; omega
    · have : k = n := by omega
      subst this
      go_wp2
      go_ret
      exact ⟨rfl, rfl⟩

theorem power_at (b : Int) (n : Nat) (p : Int) (w : World) (hb : b = n) (hn : n ≤ 63) (hp : p = (2 : Int) ^ n) :
    Calls Tryz.prog 99 #[.int .i64 b] w fun e w' => e = .returned (.int .u64 p) ∧ w = w' := by
  subst hb; subst hp; exact power_any n w hn

set_option maxHeartbeats 1000000 in
theorem rextend_8 (x : Int) (w : World) (h0 : 0 ≤ x) (h1 : x < 18446744073709551616) :
    Calls Tryz.prog 83 #[.int .u64 x, .int .i64 8] w fun e w' => e = .returned (.int .i64 (sx 8 x)) ∧ w = w' := by
  go_enter Tryz.func83, Tryz.ntmps83
  go_wp2_with (first | (go_at_call 98; refine (width_is _ _ true (by decide)).mono ?_; rintro e w' ⟨rfl, rfl⟩) | ((with_reducible go_at_call 99); ((with_reducible refine (power_at 8 8 256 _ rfl (by decide) rfl).mono ?_); rintro e w' ⟨rfl, rfl⟩)) | (go_at_call 99; ((with_reducible refine (power_at 7 7 128 _ rfl (by decide) rfl).mono ?_); rintro e w' ⟨rfl, rfl⟩)))
  all_goals
    go_ret
    refine ⟨ret_int ?_, rfl⟩
    simp only [sx]
    first | omega | (simp; omega)

set_option maxHeartbeats 1000000 in
theorem rextend_16 (x : Int) (w : World) (h0 : 0 ≤ x) (h1 : x < 18446744073709551616) :
    Calls Tryz.prog 83 #[.int .u64 x, .int .i64 16] w fun e w' => e = .returned (.int .i64 (sx 16 x)) ∧ w = w' := by
  go_enter Tryz.func83, Tryz.ntmps83
  go_wp2_with (first | (go_at_call 98; refine (width_is _ _ true (by decide)).mono ?_; rintro e w' ⟨rfl, rfl⟩) | ((with_reducible go_at_call 99); ((with_reducible refine (power_at 16 16 65536 _ rfl (by decide) rfl).mono ?_); rintro e w' ⟨rfl, rfl⟩)) | (go_at_call 99; ((with_reducible refine (power_at 15 15 32768 _ rfl (by decide) rfl).mono ?_); rintro e w' ⟨rfl, rfl⟩)))
  all_goals
    go_ret
    refine ⟨ret_int ?_, rfl⟩
    simp only [sx]
    first | omega | (simp; omega)

set_option maxHeartbeats 1000000 in
theorem rextend_32 (x : Int) (w : World) (h0 : 0 ≤ x) (h1 : x < 18446744073709551616) :
    Calls Tryz.prog 83 #[.int .u64 x, .int .i64 32] w fun e w' => e = .returned (.int .i64 (sx 32 x)) ∧ w = w' := by
  go_enter Tryz.func83, Tryz.ntmps83
  go_wp2_with (first | (go_at_call 98; refine (width_is _ _ true (by decide)).mono ?_; rintro e w' ⟨rfl, rfl⟩) | ((with_reducible go_at_call 99); ((with_reducible refine (power_at 32 32 4294967296 _ rfl (by decide) rfl).mono ?_); rintro e w' ⟨rfl, rfl⟩)) | (go_at_call 99; ((with_reducible refine (power_at 31 31 2147483648 _ rfl (by decide) rfl).mono ?_); rintro e w' ⟨rfl, rfl⟩)))
  all_goals
    go_ret
    refine ⟨ret_int ?_, rfl⟩
    simp only [sx]
    first | omega | (simp; omega)

theorem rextend_64 (x : Int) (w : World) :
    Calls Tryz.prog 83 #[.int .u64 x, .int .i64 64] w fun e w' => e = .returned (.int .i64 (sx 64 x)) ∧ w = w' := by
  go_enter Tryz.func83, Tryz.ntmps83
  go_wp2_with (go_at_call 98; refine (width_is _ _ true (by decide)).mono ?_; rintro e w' ⟨rfl, rfl⟩)
  go_ret
  refine ⟨ret_int ?_, rfl⟩
  simp only [sx, wrap64]
  first | omega | (simp; omega)

theorem rextend_yes (x b : Int) (w : World) (h0 : 0 ≤ x) (h1 : x < 18446744073709551616) (h : b = 8 ∨ b = 16 ∨ b = 32 ∨ b = 64) :
    Calls Tryz.prog 83 #[.int .u64 x, .int .i64 b] w fun e w' => e = .returned (.int .i64 (sx b x)) ∧ w = w' := by
  rcases h with rfl | rfl | rfl | rfl
  · exact rextend_8 x w h0 h1
  · exact rextend_16 x w h0 h1
  · exact rextend_32 x w h0 h1
  · exact rextend_64 x w

theorem rextend_no (x b : Int) (w : World) (h : isW b = false) :
    Calls Tryz.prog 83 #[.int .u64 x, .int .i64 b] w fun e w' => e = .returned (.int .i64 0) ∧ w = w' := by
  have H := Lib.hid h
  clear h
  go_enter Tryz.func83, Tryz.ntmps83
  go_wp2_with (go_at_call 98; refine (width_is _ _ false H.out).mono ?_; rintro e w' ⟨rfl, rfl⟩)
  go_ret
  exact ⟨rfl, rfl⟩

/-- The value of a digit, or a number that no base reaches. -/
def dg (r : Int) : Int := if 48 ≤ r ∧ r ≤ 57 then r - 48 else if 97 ≤ r ∧ r ≤ 102 then r - 87 else if 65 ≤ r ∧ r ≤ 70 then r - 55 else 18446744073709551615

theorem digit_any (r : Int) (w : World) (h0 : 0 ≤ r) (h1 : r ≤ 2147483647) :
    Calls Tryz.prog 161 #[.int .i32 r] w fun e w' => e = .returned (.int .u64 (dg r)) ∧ w = w' := by
  rcases (show r < 48 ∨ (48 ≤ r ∧ r ≤ 57) ∨ (57 < r ∧ r < 65) ∨ (65 ≤ r ∧ r ≤ 70) ∨ (70 < r ∧ r < 97) ∨ (97 ≤ r ∧ r ≤ 102) ∨ 102 < r by omega) with h | ⟨h, h'⟩ | ⟨h, h'⟩ | ⟨h, h'⟩ | ⟨h, h'⟩ | ⟨h, h'⟩ | h
  all_goals
    go_enter Tryz.func161, Tryz.ntmps161
    go_wp2
    go_ret
    refine ⟨ret_int ?_, rfl⟩
    unfold dg
    repeat' split
    all_goals first | omega | (simp; omega)

/-- The reference's: the value of a digit of the base, or -1. -/
def rdg (c base : Int) : Int := if dg c < base then dg c else -1

end Go.Proofs.YtakblmonbeflmaaGreatDoor.L1
end

section
namespace Go.Proofs.YtakblmonbeflmaaGreatDoor.L1
open Go.RowKit

theorem digit_at (r : Int) (d : Nat) (w : World) (h0 : 0 ≤ r) (h1 : r ≤ 2147483647) (hd : dg r = d) :
    Calls Tryz.prog 161 #[.int .i32 r] w fun e w' => e = .returned (.int .u64 (d : Int)) ∧ w = w' := by
  rw [← hd]; exact digit_any r w h0 h1

theorem add64_at (x y : Nat) (w : World) : (callFunc 163 #[.int .u64 (x : Int), .int .u64 (y : Int), .int .u64 0]).run Tryz.prog w =
      .ok (.value (.tuple #[.int .u64 (((x + y) % 18446744073709551616 : Nat) : Int), .int .u64 (((x + y) / 18446744073709551616 : Nat) : Int)])) w := by
  rw [run_callFunc_extern Tryz.func163 (by kernel_rfl) (by kernel_rfl) (by kernel_rfl) (e := add64Entry) (by kernel_rfl), run_add64 (x : Int) y 0 (by omega) (by omega) (by omega) (by omega)]
  simp only [Result.andThen]
  congr 5 <;> omega

set_option maxHeartbeats 1000000 in
theorem add_no (v base d : Nat) (o : Bool) (r : Int) (k : Nat) (w : World) (h0 : 0 ≤ r) (h1 : r ≤ 2147483647) (hd : dg r = d)
    (hc : w.heap[k]? = some (.cells #[.int .u64 (base : Int)] 123 (0, 0))) (hdb : base ≤ d) :
    Calls Tryz.prog 160 #[.agg #[.int .u64 (v : Int), .bool o], .int .i32 r, .pointer (some ⟨k, 0, none⟩)] w fun e w' =>
      e = .returned (.tuple #[.agg #[.int .u64 0, .bool false], .bool false]) ∧ Below w.heap.size w w' := by
  have cK := cell_of_one hc
  have fK := free_of_one hc
  have lK := lt_of_block hc
  have HD := Lib.hid hd
  clear hd hc
  have hdb' : decide ((base : Int) ≤ (d : Int)) = true := by simpa using hdb
  go_enter Tryz.func160, Tryz.ntmps160
  go_wp2_with (go_at_call 161; refine (digit_at _ d _ h0 h1 HD.out).mono ?_; rintro e w' ⟨rfl, rfl⟩)
  refine bodyPost_ret (v := .tuple #[.agg #[.int .u64 0, .bool false], .bool false]) (by simp [results, Tryz.results160, go_sem]) rfl ⟨rfl, ?_⟩
  exact ((Below.refl _ _).alloc (Nat.le_refl _) _).alloc (by simp) _

theorem mul_at (x y hi lo : Nat) (w : World) (hx : x < 18446744073709551616) (hy : y < 18446744073709551616) (e1 : hi = x * y / 18446744073709551616) (e2 : lo = x * y % 18446744073709551616) :
    Calls Tryz.prog 162 #[.int .u64 (x : Int), .int .u64 (y : Int)] w fun e w' => e = .returned (.tuple #[.int .u64 (hi : Int), .int .u64 (lo : Int)]) ∧ w = w' := by
  subst e1; subst e2
  exact (Tryz.bits_Mul64 x y hx hy w).mono fun _ _ h => ⟨h.1, h.2.symm⟩

theorem add_arith (v base d hi lo sm cy : Nat) (o : Bool) (e1 : hi = v * base / 18446744073709551616) (e2 : lo = v * base % 18446744073709551616)
    (e3 : sm = (lo + d) % 18446744073709551616) (e4 : cy = (lo + d) / 18446744073709551616) :
    sm = (v * base + d) % 18446744073709551616 ∧ (o || !(hi == 0) || !(cy == 0)) = (o || decide (18446744073709551616 ≤ v * base + d)) := by
  generalize v * base = P at *
  refine ⟨by omega, ?_⟩
  rw [Bool.or_assoc]
  congr 1
  by_cases h : 18446744073709551616 ≤ P + d
  · simp only [h, decide_true]
    by_cases h1 : hi = 0
    · have : cy ≠ 0 := by omega
      simp [this]
    · simp [h1]
  · have h1 : hi = 0 := by omega
    have h2 : cy = 0 := by omega
    simp [h, h1, h2]

set_option maxHeartbeats 1000000 in
theorem add_yes (v base d : Nat) (o : Bool) (r : Int) (k : Nat) (w : World) (hv : v < 18446744073709551616) (hb0 : base < 100) (h0 : 0 ≤ r) (h1 : r ≤ 2147483647) (hd : dg r = d)
    (hc : w.heap[k]? = some (.cells #[.int .u64 (base : Int)] 123 (0, 0))) (hdb : d < base) :
    Calls Tryz.prog 160 #[.agg #[.int .u64 (v : Int), .bool o], .int .i32 r, .pointer (some ⟨k, 0, none⟩)] w fun e w' =>
      e = .returned (.tuple #[.agg #[.int .u64 (((v * base + d) % 18446744073709551616 : Nat) : Int), .bool (o || decide (18446744073709551616 ≤ v * base + d))], .bool true]) ∧ Below w.heap.size w w' := by
  have cK := cell_of_one hc
  have fK := free_of_one hc
  have lK := lt_of_block hc
  have HD := Lib.hid hd
  clear hd hc
  obtain ⟨hi, e1⟩ : ∃ hi, hi = v * base / 18446744073709551616 := ⟨_, rfl⟩
  obtain ⟨lo, e2⟩ : ∃ lo, lo = v * base % 18446744073709551616 := ⟨_, rfl⟩
  obtain ⟨sm, e3⟩ : ∃ sm, sm = (lo + d) % 18446744073709551616 := ⟨_, rfl⟩
  obtain ⟨cy, e4⟩ : ∃ cy, cy = (lo + d) / 18446744073709551616 := ⟨_, rfl⟩
  have HA := Lib.hid (add_arith v base d hi lo sm cy o e1 e2 e3 e4)
  have E1 := Lib.hid e1
  have E2 := Lib.hid e2
  have hadd : ∀ w, (callFunc 163 #[.int .u64 (lo : Int), .int .u64 (d : Int), .int .u64 0]).run Tryz.prog w = .ok (.value (.tuple #[.int .u64 (sm : Int), .int .u64 (cy : Int)])) w := by
    intro w; rw [e3, e4]; exact add64_at lo d w
  clear e1 e2 e3 e4
  have hdb' : decide ((base : Int) ≤ (d : Int)) = false := by simpa using hdb
  have hdb2 : decide (base ≤ d) = false := by simpa using hdb
  have hval : ∀ X : Bool, (o || !(hi == 0) || !(cy == 0)) = X → Ending.returned (.tuple #[.agg #[.int .u64 (sm : Int), .bool X], .bool true]) = Ending.returned (.tuple #[.agg #[.int .u64 (((v * base + d) % 18446744073709551616 : Nat) : Int), .bool (o || decide (18446744073709551616 ≤ v * base + d))], .bool true]) := by
    intro X hX; rw [← HA.out.2, ← HA.out.1, hX]
  have HV := Lib.hid hval
  clear hval
  rcases (show (∃ X, X = true ∧ (o || !(hi == 0) || !(cy == 0)) = X ∧ o = true) ∨ (o = false ∧ hi ≠ 0) ∨ (o = false ∧ hi = 0) by cases o <;> simp; omega) with ⟨X, rfl, hX, rfl⟩ | ⟨rfl, hh⟩ | ⟨rfl, rfl⟩
  · clear hX
    go_enter Tryz.func160, Tryz.ntmps160
    go_wp2_with (first | (go_at_call 161; refine (digit_at _ d _ h0 h1 HD.out).mono ?_; rintro e w' ⟨rfl, rfl⟩) | (go_at_call 162; refine (mul_at v base hi lo _ hv (by omega) E1.out E2.out).mono ?_; rintro e w' ⟨rfl, rfl⟩))
    refine bodyPost_ret (v := .tuple #[.agg #[.int .u64 (sm : Int), .bool true], .bool true]) (by simp [results, Tryz.results160, go_sem]) rfl ⟨HV.out true (by simp), ?_⟩
    exact ((Below.refl _ _).alloc (Nat.le_refl _) _).alloc (by simp) _
  · have h2 : ((hi : Int) == 0) = false := by simpa using hh
    have h3 : ((hi : Int) != 0) = true := by simpa using hh
    have HH := Lib.hid hh
    clear hh
    go_enter Tryz.func160, Tryz.ntmps160
    go_wp2_with (first | (go_at_call 161; refine (digit_at _ d _ h0 h1 HD.out).mono ?_; rintro e w' ⟨rfl, rfl⟩) | (go_at_call 162; refine (mul_at v base hi lo _ hv (by omega) E1.out E2.out).mono ?_; rintro e w' ⟨rfl, rfl⟩))
    refine bodyPost_ret (v := .tuple #[.agg #[.int .u64 (sm : Int), .bool true], .bool true]) (by simp [results, Tryz.results160, go_sem]) rfl ⟨HV.out true (by simp [HH.out]), ?_⟩
    exact ((Below.refl _ _).alloc (Nat.le_refl _) _).alloc (by simp) _
  · go_enter Tryz.func160, Tryz.ntmps160
    go_wp2_with (first | (go_at_call 161; refine (digit_at _ d _ h0 h1 HD.out).mono ?_; rintro e w' ⟨rfl, rfl⟩) | (go_at_call 162; refine (mul_at v base 0 lo _ hv (by omega) E1.out E2.out).mono ?_; rintro e w' ⟨rfl, rfl⟩))
    refine bodyPost_ret (v := .tuple #[.agg #[.int .u64 (sm : Int), .bool ((cy : Int) != 0)], .bool true]) (by simp [results, Tryz.results160, go_sem]) rfl ⟨HV.out _ ?_, ?_⟩
    · by_cases hc : cy = 0
      · subst hc; rfl
      · have hc' : ((cy : Int) != 0) = true := by simpa using hc
        rw [hc']
        simp [hc]
    · exact ((Below.refl _ _).alloc (Nat.le_refl _) _).alloc (by simp) _

end Go.Proofs.YtakblmonbeflmaaGreatDoor.L1
end

section
namespace Go.Proofs.YtakblmonbeflmaaGreatDoor.L1
open Go.RowKit

/-- The value of a digit, as a natural number. -/
def dgn (c : UInt8) : Nat := (dg c.toNat).toNat

/-- The number that digits make behind a number, and whether one on the way needed more than 64 bits; none where one is no digit of the base. -/
def rd (base : Nat) : List UInt8 → Nat → Bool → Option (Nat × Bool)
  | [], v, o => some (v, o)
  | c :: r, v, o => if dgn c < base then rd base r ((v * base + dgn c) % 18446744073709551616) (o || decide (18446744073709551616 ≤ v * base + dgn c)) else none

theorem cut_at (s p t : ByteArray) (c : Bool) (w : World) (ht : (⟨(Lib.trimPrefix s.data.toList p.data.toList).toArray⟩ : ByteArray) = t) (hc : Lib.hasPrefix s.data.toList p.data.toList = c) :
    Calls Tryz.prog 138 #[.string s, .string p] w fun e w' => e = .returned (.tuple #[.string t, .bool c]) ∧ w = w' := by
  subst ht; subst hc
  exact (Tryz.strings_CutPrefix s p w).mono fun _ _ h => ⟨h.1, h.2.symm⟩

theorem adder_any (base : Nat) (w : World) :
    Calls Tryz.prog 154 #[.int .u64 (base : Int)] w fun e w' => e = .returned (.func (.func 160) #[] #[.pointer (some ⟨w.heap.size, 0, none⟩)]) ∧ w' = w.alloc (.cells #[.int .u64 (base : Int)] 123) := by
  have hmf : ∀ (fn : Fn) (first cap : Array Value) (w : World), (Instr.makeFunc fn first cap).run Tryz.prog w = .ok (.func fn first cap) w := fun _ _ _ _ => rfl
  go_enter Tryz.func154, Tryz.ntmps154
  go_wp2
  go_ret
  exact ⟨rfl, rfl⟩

theorem cell_of_two {w : World} {b : Nat} {u v : Value} {t : TypeId} (h : w.heap[b]? = some (.cells #[u, v] t (0, 0))) : w.cell? ⟨b, 0, none⟩ = some u ∧ w.cell? ⟨b, 1, none⟩ = some v ∧ w.frozen? ⟨b, 0, none⟩ = false ∧ w.frozen? ⟨b, 1, none⟩ = false := by
  simp [World.cell?, World.frozen?, h]

theorem set_two0 {w : World} {b : Nat} {u v x : Value} {t : TypeId} (h : w.heap[b]? = some (.cells #[u, v] t (0, 0))) : (w.setCell ⟨b, 0, none⟩ x).heap[b]? = some (.cells #[x, v] t (0, 0)) := by
  have hlt := lt_of_block h
  have h' : w.heap[b] = .cells #[u, v] t (0, 0) := by simpa [Array.getElem?_eq_getElem hlt] using h
  show (w.heap.modify b _)[b]? = _
  rw [Array.getElem?_eq_getElem (by simpa using hlt), Array.getElem_modify_self, h']
  rfl
theorem set_two1 {w : World} {b : Nat} {u v x : Value} {t : TypeId} (h : w.heap[b]? = some (.cells #[u, v] t (0, 0))) : (w.setCell ⟨b, 1, none⟩ x).heap[b]? = some (.cells #[u, x] t (0, 0)) := by
  have hlt := lt_of_block h
  have h' : w.heap[b] = .cells #[u, v] t (0, 0) := by simpa [Array.getElem?_eq_getElem hlt] using h
  show (w.heap.modify b _)[b]? = _
  rw [Array.getElem?_eq_getElem (by simpa using hlt), Array.getElem_modify_self, h']
  rfl

/-- What 'unsigned' returns for what its digits come to. -/
def unsV (r : Option (Nat × Bool)) : Value := match r with
  | some (v, o) => .tuple #[.agg #[.int .u64 (v : Int), .bool o], .bool true]
  | none => .tuple #[.agg #[.int .u64 0, .bool false], .bool false]

def unsR (e : Bool) (r : Option (Nat × Bool)) : Value := unsV (if e then none else r)

/-- A loop's head: the iterator, the number so far, the base, the result's cell; what is still to be read makes of the number what all makes of nothing. -/
structure Head (B kb base : Nat) (t : ByteArray) (w wr : World) (pos v : Nat) (o : Bool) : Prop where
  hp : pos ≤ t.size
  hv : v < 18446744073709551616
  it : wr.heap[kb + 2]? = some (.stringIter t pos)
  m : wr.heap[kb + 1]? = some (.cells #[.int .u64 (v : Int), .bool o] 182 (0, 0))
  b : wr.heap[kb]? = some (.cells #[.int .u64 (base : Int)] 123 (0, 0))
  r : wr.heap[B]? = some (.cells #[.int .u64 0, .bool false] 182 (0, 0))
  bel : Below B w wr
  rest : rd base (t.data.toList.drop pos) v o = rd base t.data.toList 0 false

theorem heap5 (w : World) (a b c d e : Obj) : (((((w.alloc a).alloc b).alloc c).alloc d).alloc e).heap[w.heap.size]? = some a ∧ (((((w.alloc a).alloc b).alloc c).alloc d).alloc e).heap[w.heap.size + 1]? = some b ∧
    (((((w.alloc a).alloc b).alloc c).alloc d).alloc e).heap[w.heap.size + 2]? = some c ∧ (((((w.alloc a).alloc b).alloc c).alloc d).alloc e).heap[w.heap.size + 3]? = some d ∧ (((((w.alloc a).alloc b).alloc c).alloc d).alloc e).heap[w.heap.size + 4]? = some e := by
  simp only [World.alloc, Array.getElem?_push, Array.size_push]
  refine ⟨?_, ?_, ?_, ?_, ?_⟩ <;> (repeat rw [if_neg (by omega)]) <;> simp

theorem dg_high {r : Int} (h : 128 ≤ r) : dg r = 18446744073709551615 := by
  unfold dg
  rw [if_neg (by omega), if_neg (by omega), if_neg (by omega)]

theorem dg_nonneg (r : Int) : 0 ≤ dg r := by unfold dg; repeat' split <;> omega

theorem dgn_eq (c : UInt8) : dg c.toNat = (dgn c : Int) := by
  unfold dgn; have := dg_nonneg c.toNat; omega

/-- A rune of a text and the byte that it begins with are the same digit, or none. -/
theorem dg_decode (t : ByteArray) (pos : Nat) (h : pos < t.size) : dg (Utf8.decode t pos).1 = (dgn t[pos] : Int) := by
  by_cases ha : (t[pos]'h).toNat < 128
  · rw [decode_ascii t pos h ha, dgn_eq]
  · have := decode_high t pos h (by omega)
    rw [dg_high (by omega), ← dgn_eq, dg_high (by omega)]

theorem decode_one (t : ByteArray) (pos base : Nat) (h : pos < t.size) (hb : base ≤ 16) (hd : dgn t[pos] < base) : (Utf8.decode t pos).2 = 1 := by
  by_cases ha : (t[pos]'h).toNat < 128
  · rw [decode_ascii t pos h ha]
  · have h1 := dgn_eq t[pos]
    rw [dg_high (by omega)] at h1
    omega

theorem drop_at (t : ByteArray) (pos : Nat) (h : pos < t.size) : t.data.toList.drop pos = t[pos] :: t.data.toList.drop (pos + 1) := by
  rw [List.drop_eq_getElem_cons (by simpa using h)]; rfl

set_option maxHeartbeats 1000000 in
set_option maxRecDepth 100000 in
theorem uns_hex (s t : ByteArray) (w : World) (ht : (⟨(Lib.trimPrefix s.data.toList [48, 120]).toArray⟩ : ByteArray) = t) (hp : Lib.hasPrefix s.data.toList [48, 120] = true) (e : Bool) (he : t.data.toList.isEmpty = e) :
    Calls Tryz.prog 139 #[.string s] w fun e' w' => e' = .returned (unsR e (rd 16 t.data.toList 0 false)) ∧ Below w.heap.size w w' := by
  have HT := Lib.hid ht
  have HP := Lib.hid hp
  have hte : t.toList.isEmpty = e := by rw [Lib.toList_data]; exact he
  have HN := Lib.hid he
  clear ht hp he
  go_enter Tryz.func139, Tryz.ntmps139
  go_wp2_with (first | (go_at_call 154; refine (adder_any 10 _).mono ?_; rintro e w' ⟨rfl, rfl⟩) | (go_at_call 138; refine (cut_at _ _ t true _ HT.out HP.out).mono ?_; rintro e w' ⟨rfl, rfl⟩) | (go_at_call 154; refine (adder_any 16 _).mono ?_; rintro e w' ⟨rfl, rfl⟩))
  clear hte
  go_loopw [8] (fun ok wr => ∃ (pos v : Nat) (o : Bool), ok = .bool (!e) ∧ Head w.heap.size (w.heap.size + 2) 16 t w wr pos v o) (fun _ wr => t.size - wr.iterPos (w.heap.size + 4))
  case atStart =>
    refine ⟨0, 0, false, rfl, ⟨Nat.zero_le _, by decide, ?_, ?_, ?_, ?_, ?_, rfl⟩⟩
    · exact (heap5 _ _ _ _ _ _).2.2.2.2
    · exact (heap5 _ _ _ _ _ _).2.2.2.1
    · exact (heap5 _ _ _ _ _ _).2.2.1
    · exact (heap5 _ _ _ _ _ _).1
    · exact ((((((Below.refl _ _).alloc (Nat.le_refl _) _).alloc (by simp) _).alloc (by simp; omega) _).alloc (by simp; omega) _).alloc (by simp; omega) _)
  case round =>
    obtain ⟨pos, v, o, rfl, hH⟩ := hrel
    have hbase := hH.bel.size
    by_cases hlt : pos < t.size
    · have HF : Hid (e = false) := by
        have h1 := HN.out
        cases e
        · exact Lib.hid rfl
        · have h2 : t.data.toList.length = 0 := by rw [List.isEmpty_iff.1 h1]; rfl
          have h3 : t.data.size = 0 := by rw [← Array.length_toList]; exact h2
          have h4 : t.size = t.data.size := rfl
          omega
      obtain ⟨W1, hW1⟩ : ∃ W1, W1 = wr.iterAt (w.heap.size + 4) t (pos + (Utf8.decode t pos).2) := ⟨_, rfl⟩
      have hnx : ∀ ty, (Instr.next (.pointer (some ⟨w.heap.size + 4, 0, none⟩)) true ty).run Tryz.prog wr = .ok (.tuple #[.bool true, .int .i64 pos, .int .i32 (Utf8.decode t pos).1]) W1 := fun ty => hW1 ▸ Lib.run_next_any_at wr _ t pos ty hH.it hlt
      have hm1 : W1.heap[w.heap.size + 3]? = some (.cells #[.int .u64 (v : Int), .bool o] 182 (0, 0)) := by rw [hW1, Lib.iterAt_other _ _ _ _ _ (by omega)]; exact hH.m
      have hb1 : W1.heap[w.heap.size + 2]? = some (.cells #[.int .u64 (16 : Nat)] 123 (0, 0)) := by rw [hW1, Lib.iterAt_other _ _ _ _ _ (by omega)]; exact hH.b
      have hr1 : W1.heap[w.heap.size]? = some (.cells #[.int .u64 0, .bool false] 182 (0, 0)) := by rw [hW1, Lib.iterAt_other _ _ _ _ _ (by omega)]; exact hH.r
      have hi1 : W1.heap[w.heap.size + 4]? = some (.stringIter t (pos + (Utf8.decode t pos).2)) := by rw [hW1]; exact Lib.iterAt_heap _ _ _ _ _ hH.it
      have hbel1 : Below w.heap.size w W1 := by rw [hW1]; exact Lib.below_iterAt hH.bel (by omega) _ _
      have hle := decode_le t pos
      obtain ⟨c1, c2, f1, f2⟩ := cell_of_two hm1
      obtain ⟨c3, c4, f3, f4⟩ := cell_of_two hr1
      have HM := Lib.hid hm1
      have HB := Lib.hid hb1
      have HR := Lib.hid hr1
      have HI := Lib.hid hi1
      clear hW1 hm1 hb1 hr1 hi1
      have HD := Lib.hid (dg_decode t pos hlt)
      have HE := Lib.hid (drop_at t pos hlt)
      have hl3 : w.heap.size + 4 < W1.heap.size := lt_of_block HI.out
      by_cases hd : dgn t[pos] < 16
      · have hsz := hbel1.size
        go_wp2_with (go_at_call 160; refine (add_yes v 16 (dgn t[pos]) o _ _ _ hH.hv (by decide) (by omega) (by omega) HD.out HB.out hd).mono ?_; rintro e w2 ⟨rfl, hb2⟩; obtain ⟨d1, d2, g1, g2⟩ := cell_of_two ((hb2.block _ (by omega)).trans HM.out))
        have hdr := decode_one t pos 16 hlt (by decide) hd
        have hi2 := (hb2.block _ (by omega)).trans HI.out
        have hm2 := (hb2.block _ (by omega)).trans HM.out
        have hbb2 := (hb2.block _ (by omega)).trans HB.out
        have hr2 := (hb2.block _ (by omega)).trans HR.out
        rw [hdr] at hi2
        go_roundw
        case rel =>
          refine ⟨pos + 1, (v * 16 + dgn t[pos]) % 18446744073709551616, o || decide (18446744073709551616 ≤ v * 16 + dgn t[pos]), by rw [HF.out]; rfl, ⟨by omega, Nat.mod_lt _ (by decide), ?_, ?_, ?_, ?_, ?_, ?_⟩⟩
          · rw [Below.heap_setCell _ _ _ _ (by simp), Below.heap_setCell _ _ _ _ (by simp)]; exact hi2
          · have := set_two1 (x := .bool (o || decide (18446744073709551616 ≤ v * 16 + dgn t[pos]))) (set_two0 (x := .int .u64 (((v * 16 + dgn t[pos]) % 18446744073709551616 : Nat) : Int)) hm2)
            rw [show (((v * 16 + dgn t[pos]) % 18446744073709551616 : Nat) : Int) = ((v : Int) * 16 + (dgn t[pos] : Int)) % 18446744073709551616 by omega] at this
            exact this
          · rw [Below.heap_setCell _ _ _ _ (by simp), Below.heap_setCell _ _ _ _ (by simp)]; exact hbb2
          · rw [Below.heap_setCell _ _ _ _ (by simp; omega), Below.heap_setCell _ _ _ _ (by simp; omega)]; exact hr2
          · exact ((hbel1.trans (hb2.mono hbel1.size)).setCell (by simp; omega) _).setCell (by simp; omega) _
          · have hrest := hH.rest
            rw [HE.out] at hrest
            simp only [rd, if_pos hd] at hrest
            exact hrest
        case measure =>
          rw [iterPos_of hH.it, iterPos_of (s := t) (p := pos + 1) (by rw [Below.heap_setCell _ _ _ _ (by simp), Below.heap_setCell _ _ _ _ (by simp)]; exact hi2)]
          omega
      · go_wp2_with (go_at_call 160; refine (add_no v 16 (dgn t[pos]) o _ _ _ (by omega) (by omega) HD.out HB.out (by omega)).mono ?_; rintro e w2 ⟨rfl, hb2⟩; obtain ⟨d1, d2, g1, g2⟩ := cell_of_two ((hb2.block _ (by omega)).trans HM.out); obtain ⟨d3, d4, g3, g4⟩ := cell_of_two ((hb2.block _ (by omega)).trans HR.out))
        have hrest := hH.rest
        rw [HE.out] at hrest
        simp only [rd, if_neg hd] at hrest
        refine bodyPost_ret (v := .tuple #[.agg #[.int .u64 0, .bool false], .bool false]) ?_ rfl ⟨by rw [← hrest, HF.out]; rfl, ?_⟩
        · simp [results, Tryz.results139, go_sem, *]
        · exact ((((hbel1.trans (hb2.mono hbel1.size)).setCell (by simp; omega) _).setCell (by simp; omega) _).setCell (by simp) _).setCell (by simp) _
    · have hnx : ∀ ty, (Instr.next (.pointer (some ⟨w.heap.size + 4, 0, none⟩)) true ty).run Tryz.prog wr = .ok (.tuple #[.bool false]) wr := fun ty => Lib.run_next_end_at wr _ t pos ty hH.it hlt
      have hpe : pos = t.size := by have := hH.hp; omega
      have hrest := hH.rest
      rw [List.drop_eq_nil_of_le (by simp; omega)] at hrest
      simp only [rd] at hrest
      have HRE := Lib.hid hrest
      obtain ⟨d1, d2, g1, g2⟩ := cell_of_two hH.m
      obtain ⟨d3, d4, g3, g4⟩ := cell_of_two hH.r
      have hb2 := hH.bel
      clear hrest hH hpe
      go_wp2
      refine bodyPost_ret (v := .tuple #[.agg #[.int .u64 v, .bool o], .bool (!e)]) ?_ rfl ⟨?_, ?_⟩
      · simp [results, Tryz.results139, go_sem, *]
      · have h1 := HRE.out
        have h2 := HN.out
        cases e
        · rw [← h1]; rfl
        · simp only [List.isEmpty_iff] at h2
          rw [h2] at h1
          simp only [rd, Option.some.injEq, Prod.mk.injEq] at h1
          obtain ⟨rfl, rfl⟩ := h1
          rfl
      · exact ((hb2.setCell (by simp) _).setCell (by simp) _)

theorem heap4 (w : World) (a b c d : Obj) : ((((w.alloc a).alloc b).alloc c).alloc d).heap[w.heap.size]? = some a ∧ ((((w.alloc a).alloc b).alloc c).alloc d).heap[w.heap.size + 1]? = some b ∧
    ((((w.alloc a).alloc b).alloc c).alloc d).heap[w.heap.size + 2]? = some c ∧ ((((w.alloc a).alloc b).alloc c).alloc d).heap[w.heap.size + 3]? = some d := by
  simp only [World.alloc, Array.getElem?_push, Array.size_push]
  refine ⟨?_, ?_, ?_, ?_⟩ <;> (repeat rw [if_neg (by omega)]) <;> simp

set_option maxHeartbeats 1000000 in
set_option maxRecDepth 100000 in
theorem uns_dec (t u : ByteArray) (w : World) (ht : (⟨(Lib.trimPrefix t.data.toList [48, 120]).toArray⟩ : ByteArray) = u) (hp : Lib.hasPrefix t.data.toList [48, 120] = false) (e : Bool) (he : t.data.toList.isEmpty = e) :
    Calls Tryz.prog 139 #[.string t] w fun e' w' => e' = .returned (unsR e (rd 10 t.data.toList 0 false)) ∧ Below w.heap.size w w' := by
  have HT := Lib.hid ht
  have HP := Lib.hid hp
  have hte : t.toList.isEmpty = e := by rw [Lib.toList_data]; exact he
  have HN := Lib.hid he
  clear ht hp he
  go_enter Tryz.func139, Tryz.ntmps139
  go_wp2_with (first | (go_at_call 154; refine (adder_any 10 _).mono ?_; rintro e w' ⟨rfl, rfl⟩) | (go_at_call 138; refine (cut_at _ _ u false _ HT.out HP.out).mono ?_; rintro e w' ⟨rfl, rfl⟩))
  clear hte
  go_loopw [8] (fun ok wr => ∃ (pos v : Nat) (o : Bool), ok = .bool (!e) ∧ Head w.heap.size (w.heap.size + 1) 10 t w wr pos v o) (fun _ wr => t.size - wr.iterPos (w.heap.size + 3))
  case atStart =>
    refine ⟨0, 0, false, rfl, ⟨Nat.zero_le _, by decide, ?_, ?_, ?_, ?_, ?_, rfl⟩⟩
    · exact (heap4 _ _ _ _ _).2.2.2
    · exact (heap4 _ _ _ _ _).2.2.1
    · exact (heap4 _ _ _ _ _).2.1
    · exact (heap4 _ _ _ _ _).1
    · exact (((((Below.refl _ _).alloc (Nat.le_refl _) _).alloc (by simp) _).alloc (by simp; omega) _).alloc (by simp; omega) _)
  case round =>
    obtain ⟨pos, v, o, rfl, hH⟩ := hrel
    have hbase := hH.bel.size
    by_cases hlt : pos < t.size
    · have HF : Hid (e = false) := by
        have h1 := HN.out
        cases e
        · exact Lib.hid rfl
        · have h2 : t.data.toList.length = 0 := by rw [List.isEmpty_iff.1 h1]; rfl
          have h3 : t.data.size = 0 := by rw [← Array.length_toList]; exact h2
          have h4 : t.size = t.data.size := rfl
          omega
      obtain ⟨W1, hW1⟩ : ∃ W1, W1 = wr.iterAt (w.heap.size + 3) t (pos + (Utf8.decode t pos).2) := ⟨_, rfl⟩
      have hnx : ∀ ty, (Instr.next (.pointer (some ⟨w.heap.size + 3, 0, none⟩)) true ty).run Tryz.prog wr = .ok (.tuple #[.bool true, .int .i64 pos, .int .i32 (Utf8.decode t pos).1]) W1 := fun ty => hW1 ▸ Lib.run_next_any_at wr _ t pos ty hH.it hlt
      have hm1 : W1.heap[w.heap.size + 2]? = some (.cells #[.int .u64 (v : Int), .bool o] 182 (0, 0)) := by rw [hW1, Lib.iterAt_other _ _ _ _ _ (by omega)]; exact hH.m
      have hb1 : W1.heap[w.heap.size + 1]? = some (.cells #[.int .u64 (10 : Nat)] 123 (0, 0)) := by rw [hW1, Lib.iterAt_other _ _ _ _ _ (by omega)]; exact hH.b
      have hr1 : W1.heap[w.heap.size]? = some (.cells #[.int .u64 0, .bool false] 182 (0, 0)) := by rw [hW1, Lib.iterAt_other _ _ _ _ _ (by omega)]; exact hH.r
      have hi1 : W1.heap[w.heap.size + 3]? = some (.stringIter t (pos + (Utf8.decode t pos).2)) := by rw [hW1]; exact Lib.iterAt_heap _ _ _ _ _ hH.it
      have hbel1 : Below w.heap.size w W1 := by rw [hW1]; exact Lib.below_iterAt hH.bel (by omega) _ _
      have hle := decode_le t pos
      obtain ⟨c1, c2, f1, f2⟩ := cell_of_two hm1
      obtain ⟨c3, c4, f3, f4⟩ := cell_of_two hr1
      have HM := Lib.hid hm1
      have HB := Lib.hid hb1
      have HR := Lib.hid hr1
      have HI := Lib.hid hi1
      clear hW1 hm1 hb1 hr1 hi1
      have HD := Lib.hid (dg_decode t pos hlt)
      have HE := Lib.hid (drop_at t pos hlt)
      have hl3 : w.heap.size + 3 < W1.heap.size := lt_of_block HI.out
      by_cases hd : dgn t[pos] < 10
      · have hsz := hbel1.size
        go_wp2_with (go_at_call 160; refine (add_yes v 10 (dgn t[pos]) o _ _ _ hH.hv (by decide) (by omega) (by omega) HD.out HB.out hd).mono ?_; rintro e w2 ⟨rfl, hb2⟩; obtain ⟨d1, d2, g1, g2⟩ := cell_of_two ((hb2.block _ (by omega)).trans HM.out))
        have hdr := decode_one t pos 10 hlt (by decide) hd
        have hi2 := (hb2.block _ (by omega)).trans HI.out
        have hm2 := (hb2.block _ (by omega)).trans HM.out
        have hbb2 := (hb2.block _ (by omega)).trans HB.out
        have hr2 := (hb2.block _ (by omega)).trans HR.out
        rw [hdr] at hi2
        go_roundw
        case rel =>
          refine ⟨pos + 1, (v * 10 + dgn t[pos]) % 18446744073709551616, o || decide (18446744073709551616 ≤ v * 10 + dgn t[pos]), by rw [HF.out]; rfl, ⟨by omega, Nat.mod_lt _ (by decide), ?_, ?_, ?_, ?_, ?_, ?_⟩⟩
          · rw [Below.heap_setCell _ _ _ _ (by simp), Below.heap_setCell _ _ _ _ (by simp)]; exact hi2
          · have := set_two1 (x := .bool (o || decide (18446744073709551616 ≤ v * 10 + dgn t[pos]))) (set_two0 (x := .int .u64 (((v * 10 + dgn t[pos]) % 18446744073709551616 : Nat) : Int)) hm2)
            rw [show (((v * 10 + dgn t[pos]) % 18446744073709551616 : Nat) : Int) = ((v : Int) * 10 + (dgn t[pos] : Int)) % 18446744073709551616 by omega] at this
            exact this
          · rw [Below.heap_setCell _ _ _ _ (by simp), Below.heap_setCell _ _ _ _ (by simp)]; exact hbb2
          · rw [Below.heap_setCell _ _ _ _ (by simp; omega), Below.heap_setCell _ _ _ _ (by simp; omega)]; exact hr2
          · exact ((hbel1.trans (hb2.mono hbel1.size)).setCell (by simp; omega) _).setCell (by simp; omega) _
          · have hrest := hH.rest
            rw [HE.out] at hrest
            simp only [rd, if_pos hd] at hrest
            exact hrest
        case measure =>
          rw [iterPos_of hH.it, iterPos_of (s := t) (p := pos + 1) (by rw [Below.heap_setCell _ _ _ _ (by simp), Below.heap_setCell _ _ _ _ (by simp)]; exact hi2)]
          omega
      · go_wp2_with (go_at_call 160; refine (add_no v 10 (dgn t[pos]) o _ _ _ (by omega) (by omega) HD.out HB.out (by omega)).mono ?_; rintro e w2 ⟨rfl, hb2⟩; obtain ⟨d1, d2, g1, g2⟩ := cell_of_two ((hb2.block _ (by omega)).trans HM.out); obtain ⟨d3, d4, g3, g4⟩ := cell_of_two ((hb2.block _ (by omega)).trans HR.out))
        have hrest := hH.rest
        rw [HE.out] at hrest
        simp only [rd, if_neg hd] at hrest
        refine bodyPost_ret (v := .tuple #[.agg #[.int .u64 0, .bool false], .bool false]) ?_ rfl ⟨by rw [← hrest, HF.out]; rfl, ?_⟩
        · simp [results, Tryz.results139, go_sem, *]
        · exact ((((hbel1.trans (hb2.mono hbel1.size)).setCell (by simp; omega) _).setCell (by simp; omega) _).setCell (by simp) _).setCell (by simp) _
    · have hnx : ∀ ty, (Instr.next (.pointer (some ⟨w.heap.size + 3, 0, none⟩)) true ty).run Tryz.prog wr = .ok (.tuple #[.bool false]) wr := fun ty => Lib.run_next_end_at wr _ t pos ty hH.it hlt
      have hpe : pos = t.size := by have := hH.hp; omega
      have hrest := hH.rest
      rw [List.drop_eq_nil_of_le (by simp; omega)] at hrest
      simp only [rd] at hrest
      have HRE := Lib.hid hrest
      obtain ⟨d1, d2, g1, g2⟩ := cell_of_two hH.m
      obtain ⟨d3, d4, g3, g4⟩ := cell_of_two hH.r
      have hb2 := hH.bel
      clear hrest hH hpe
      go_wp2
      refine bodyPost_ret (v := .tuple #[.agg #[.int .u64 v, .bool o], .bool (!e)]) ?_ rfl ⟨?_, ?_⟩
      · simp [results, Tryz.results139, go_sem, *]
      · have h1 := HRE.out
        have h2 := HN.out
        cases e
        · rw [← h1]; rfl
        · simp only [List.isEmpty_iff] at h2
          rw [h2] at h1
          simp only [rd, Option.some.injEq, Prod.mk.injEq] at h1
          obtain ⟨rfl, rfl⟩ := h1
          rfl
      · exact ((hb2.setCell (by simp) _).setCell (by simp) _)

/-- What the digits of a numeral without its sign come to: none where it is no numeral. -/
def us (l : List UInt8) : Option (Nat × Bool) :=
  if Lib.hasPrefix l [48, 120] then (if (l.drop 2).isEmpty then none else rd 16 (l.drop 2) 0 false) else if l.isEmpty then none else rd 10 l 0 false

theorem unsigned_any (s : ByteArray) (w : World) :
    Calls Tryz.prog 139 #[.string s] w fun e w' => e = .returned (unsV (us s.data.toList)) ∧ Below w.heap.size w w' := by
  cases hp : Lib.hasPrefix s.data.toList [48, 120]
  · have := uns_dec s _ w rfl hp _ rfl
    simpa [us, hp, unsR] using this
  · have ht : Lib.trimPrefix s.data.toList [48, 120] = s.data.toList.drop 2 := by simp [Lib.trimPrefix, hp]
    have := uns_hex s ⟨(s.data.toList.drop 2).toArray⟩ w (by rw [ht]) hp _ rfl
    simpa [us, hp, unsR] using this
end Go.Proofs.YtakblmonbeflmaaGreatDoor.L1
end

section
namespace Go.Proofs.YtakblmonbeflmaaGreatDoor.L1
open Go.RowKit

theorem Wid.lt {w : World} (h : Wid w) : 2 < w.heap.size := by
  obtain ⟨t, fr, h⟩ := h; exact lt_of_block h
theorem Wid.below {B : Nat} {w w' : World} (h : Wid w) (hb : Below B w w') (hB : 2 < B) : Wid w' := by
  obtain ⟨t, fr, h⟩ := h; exact ⟨t, fr, (hb.block 2 hB).trans h⟩
theorem Wid.alloc {w : World} (h : Wid w) (o : Obj) : Wid (w.alloc o) := h.below ((Below.refl _ _).alloc (Nat.le_refl _) o) h.lt
theorem Wid.drewN {w : World} (h : Wid w) (n : Nat) : Wid (w.drewN n) := h

theorem Calls.turn {P : Program} {f : FuncId} {args : Array Value} {w : World} {v : Value} (h : Calls P f args w fun e w' => e = .returned v ∧ w = w') : Calls P f args w fun e w' => e = .returned v ∧ w' = w :=
  h.mono fun _ _ h => ⟨h.1, h.2.symm⟩

/-- What Parse returns: the value and the error's number. -/
def ps (l : List UInt8) (b : Int) : Int × Int :=
  match us (Lib.trimPrefix l [45]) with
  | none => (0, 3)
  | some (v, o) => if isW b && (!o && decide ((v : Int) ≤ gr (Lib.hasPrefix l [45]) b)) then (sx b (if Lib.hasPrefix l [45] then -(v : Int) else v), 0) else (0, 4)

theorem ret_two {k k' : IntKind} {a b c : Int} (h : a = b) : Ending.returned (.tuple #[.int k a, .int k' c]) = .returned (.tuple #[.int k b, .int k' c]) := by rw [h]

set_option maxHeartbeats 1000000 in
set_option maxRecDepth 100000 in
theorem parse_none (s : ByteArray) (b : Int) (w : World) (hu : us (Lib.trimPrefix s.data.toList [45]) = none) :
    Calls Tryz.prog 122 #[.string s, .int .i64 b] w fun e w' => e = .returned (.tuple #[.int .i64 0, .int .i64 3]) ∧ Below w.heap.size w w' := by
  obtain ⟨t, ht⟩ : ∃ t : ByteArray, (⟨(Lib.trimPrefix s.data.toList [45]).toArray⟩ : ByteArray) = t := ⟨_, rfl⟩
  obtain ⟨c, hc⟩ : ∃ c : Bool, Lib.hasPrefix s.data.toList [45] = c := ⟨_, rfl⟩
  have hu' : us t.data.toList = none := by rw [← ht]; exact hu
  have HT := Lib.hid ht
  have HC := Lib.hid hc
  have HU := Lib.hid hu'
  clear ht hc hu hu'
  go_enter Tryz.func122, Tryz.ntmps122
  go_wp2_with (first | (go_at_call 138; refine (cut_at _ _ t c _ HT.out HC.out).mono ?_; rintro e w' ⟨rfl, rfl⟩) | (go_at_call 139; refine (unsigned_any _ _).mono ?_; rw [HU.out]; rintro e w1 ⟨rfl, hb1⟩; unfold unsV))
  go_ret2
  refine ⟨rfl, ?_⟩
  exact hb1.alloc hb1.size _

set_option maxHeartbeats 1000000 in
set_option maxRecDepth 100000 in
theorem parse_nw (s : ByteArray) (b : Int) (w : World) (hw : Wid w) (v : Nat) (o : Bool) (hu : us (Lib.trimPrefix s.data.toList [45]) = some (v, o)) (hb : isW b = false) :
    Calls Tryz.prog 122 #[.string s, .int .i64 b] w fun e w' => e = .returned (.tuple #[.int .i64 0, .int .i64 4]) ∧ Below w.heap.size w w' := by
  obtain ⟨t, ht⟩ : ∃ t : ByteArray, (⟨(Lib.trimPrefix s.data.toList [45]).toArray⟩ : ByteArray) = t := ⟨_, rfl⟩
  obtain ⟨c, hc⟩ : ∃ c : Bool, Lib.hasPrefix s.data.toList [45] = c := ⟨_, rfl⟩
  have hu' : us t.data.toList = some (v, o) := by rw [← ht]; exact hu
  have HT := Lib.hid ht
  have HC := Lib.hid hc
  have HU := Lib.hid hu'
  have HB := Lib.hid hb
  clear ht hc hu hu' hb
  go_enter Tryz.func122, Tryz.ntmps122
  go_wp2_with (first | (go_at_call 138; refine (cut_at _ _ t c _ HT.out HC.out).mono ?_; rintro e w' ⟨rfl, rfl⟩) | (go_at_call 139; refine (unsigned_any _ _).mono ?_; rw [HU.out]; rintro e w1 ⟨rfl, hb1⟩; unfold unsV))
  have hw1 : Wid w1 := hw.below hb1 hw.lt
  go_quiet ((go_at_call 140; exact Calls.quiet_of_same (Calls.turn (isWidth_no _ _ (by exact hw1.alloc _) HB.out))))
  go_wp2
  go_ret2
  refine ⟨rfl, ?_⟩
  exact below_drewN (hb1.alloc hb1.size _) _

set_option maxHeartbeats 1000000 in
set_option maxRecDepth 100000 in
theorem parse_over (s : ByteArray) (b : Int) (w : World) (hw : Wid w) (v : Nat) (hu : us (Lib.trimPrefix s.data.toList [45]) = some (v, true)) (hb : b = 8 ∨ b = 16 ∨ b = 32 ∨ b = 64) :
    Calls Tryz.prog 122 #[.string s, .int .i64 b] w fun e w' => e = .returned (.tuple #[.int .i64 0, .int .i64 4]) ∧ Below w.heap.size w w' := by
  obtain ⟨t, ht⟩ : ∃ t : ByteArray, (⟨(Lib.trimPrefix s.data.toList [45]).toArray⟩ : ByteArray) = t := ⟨_, rfl⟩
  obtain ⟨c, hc⟩ : ∃ c : Bool, Lib.hasPrefix s.data.toList [45] = c := ⟨_, rfl⟩
  have hu' : us t.data.toList = some (v, true) := by rw [← ht]; exact hu
  have HT := Lib.hid ht
  have HC := Lib.hid hc
  have HU := Lib.hid hu'
  have HB := Lib.hid hb
  clear ht hc hu hu' hb
  go_enter Tryz.func122, Tryz.ntmps122
  go_wp2_with (first | (go_at_call 138; refine (cut_at _ _ t c _ HT.out HC.out).mono ?_; rintro e w' ⟨rfl, rfl⟩) | (go_at_call 139; refine (unsigned_any _ _).mono ?_; rw [HU.out]; rintro e w1 ⟨rfl, hb1⟩; unfold unsV))
  have hw1 : Wid w1 := hw.below hb1 hw.lt
  go_quiet ((go_at_call 140; exact Calls.quiet_of_same (Calls.turn (isWidth_yes _ _ (by exact hw1.alloc _) HB.out))))
  go_wp2
  go_ret2
  refine ⟨rfl, ?_⟩
  exact below_drewN (hb1.alloc hb1.size _) _

set_option maxHeartbeats 1000000 in
set_option maxRecDepth 100000 in
theorem parse_big (s : ByteArray) (b : Int) (w : World) (hw : Wid w) (v : Nat) (hu : us (Lib.trimPrefix s.data.toList [45]) = some (v, false)) (hb : b = 8 ∨ b = 16 ∨ b = 32 ∨ b = 64) (hg : gr (Lib.hasPrefix s.data.toList [45]) b < v) :
    Calls Tryz.prog 122 #[.string s, .int .i64 b] w fun e w' => e = .returned (.tuple #[.int .i64 0, .int .i64 4]) ∧ Below w.heap.size w w' := by
  obtain ⟨t, ht⟩ : ∃ t : ByteArray, (⟨(Lib.trimPrefix s.data.toList [45]).toArray⟩ : ByteArray) = t := ⟨_, rfl⟩
  obtain ⟨c, hc⟩ : ∃ c : Bool, Lib.hasPrefix s.data.toList [45] = c := ⟨_, rfl⟩
  have hu' : us t.data.toList = some (v, false) := by rw [← ht]; exact hu
  rw [hc] at hg
  have hg' : decide (gr c b < (v : Int)) = true := by simpa using hg
  clear hg
  have HT := Lib.hid ht
  have HC := Lib.hid hc
  have HU := Lib.hid hu'
  have HB := Lib.hid hb
  clear ht hc hu hu' hb
  go_enter Tryz.func122, Tryz.ntmps122
  go_wp2_with (first | (go_at_call 138; refine (cut_at _ _ t c _ HT.out HC.out).mono ?_; rintro e w' ⟨rfl, rfl⟩) | (go_at_call 139; refine (unsigned_any _ _).mono ?_; rw [HU.out]; rintro e w1 ⟨rfl, hb1⟩; unfold unsV))
  have hw1 : Wid w1 := hw.below hb1 hw.lt
  go_quiet (first | (go_at_call 140; exact Calls.quiet_of_same (Calls.turn (isWidth_yes _ _ (by exact hw1.alloc _) HB.out))) | (go_at_call 141; exact Calls.quiet_of_same (Calls.turn (greatest_any _ _ _ HB.out))))
  go_wp2
  go_ret2
  refine ⟨rfl, ?_⟩
  exact below_drewN (hb1.alloc hb1.size _) _

theorem rd_lt (base : Nat) : ∀ (l : List UInt8) (v : Nat) (o : Bool) (v' : Nat) (o' : Bool), v < 18446744073709551616 → rd base l v o = some (v', o') → v' < 18446744073709551616
  | [], v, o, v', o', h, e => by
    simp only [rd, Option.some.injEq, Prod.mk.injEq] at e
    omega
  | c :: r, v, o, v', o', h, e => by
    simp only [rd] at e
    split at e
    · exact rd_lt base r _ _ _ _ (Nat.mod_lt _ (by decide)) e
    · cases e

theorem us_lt (l : List UInt8) {v : Nat} {o : Bool} (h : us l = some (v, o)) : v < 18446744073709551616 := by
  unfold us at h
  split at h
  · split at h
    · cases h
    · exact rd_lt _ _ _ _ _ _ (by decide) h
  · split at h
    · cases h
    · exact rd_lt _ _ _ _ _ _ (by decide) h

set_option maxHeartbeats 1000000 in
set_option maxRecDepth 100000 in
theorem parse_ok (s : ByteArray) (b : Int) (w : World) (hw : Wid w) (v : Nat) (hu : us (Lib.trimPrefix s.data.toList [45]) = some (v, false)) (hb : b = 8 ∨ b = 16 ∨ b = 32 ∨ b = 64) (hg : (v : Int) ≤ gr (Lib.hasPrefix s.data.toList [45]) b) :
    Calls Tryz.prog 122 #[.string s, .int .i64 b] w fun e w' => e = .returned (.tuple #[.int .i64 (sx b (if Lib.hasPrefix s.data.toList [45] then -(v : Int) else v)), .int .i64 0]) ∧ Below w.heap.size w w' := by
  obtain ⟨t, ht⟩ : ∃ t : ByteArray, (⟨(Lib.trimPrefix s.data.toList [45]).toArray⟩ : ByteArray) = t := ⟨_, rfl⟩
  obtain ⟨c, hc⟩ : ∃ c : Bool, Lib.hasPrefix s.data.toList [45] = c := ⟨_, rfl⟩
  have hu' : us t.data.toList = some (v, false) := by rw [← ht]; exact hu
  rw [hc] at hg
  have hg' : decide (gr c b < (v : Int)) = false := by simpa using hg
  clear hg
  have HT := Lib.hid ht
  have HC := Lib.hid hc
  have HU := Lib.hid hu'
  have HB := Lib.hid hb
  rw [hc]
  have hv : v < 18446744073709551616 := us_lt _ hu'
  have hx0 : 0 ≤ IntKind.u64.wrap (-(v : Int)) := by rw [IntKind.wrap_u64]; omega
  have hx1 : IntKind.u64.wrap (-(v : Int)) < 18446744073709551616 := by rw [IntKind.wrap_u64]; omega
  clear ht hc hu hu' hb
  cases c
  all_goals
    go_enter Tryz.func122, Tryz.ntmps122
    go_wp2_with (first | (go_at_call 138; refine (cut_at _ _ t _ _ HT.out HC.out).mono ?_; rintro e w' ⟨rfl, rfl⟩) | (go_at_call 139; refine (unsigned_any _ _).mono ?_; rw [HU.out]; rintro e w1 ⟨rfl, hb1⟩; unfold unsV))
    have hw1 : Wid w1 := hw.below hb1 hw.lt
    go_quiet (first | (go_at_call 140; exact Calls.quiet_of_same (Calls.turn (isWidth_yes _ _ (by exact hw1.alloc _) HB.out))) | (go_at_call 141; exact Calls.quiet_of_same (Calls.turn (greatest_any _ _ _ HB.out))))
    go_wp2_with (go_at_call 142; refine (extend_yes _ _ _ (by omega) (by omega) (by exact hw1.alloc _) HB.out).mono ?_; rintro e w' ⟨rfl, rfl⟩)
    go_ret2
    refine ⟨?_, ?_⟩
    · exact ret_two (by first | rfl | (show sx b (IntKind.u64.wrap (-(v : Int))) = sx b (-(v : Int)); rw [IntKind.wrap_u64, sx_mod]))
    · exact below_drewN (hb1.alloc hb1.size _) _

theorem isW_of {b : Int} (h : b = 8 ∨ b = 16 ∨ b = 32 ∨ b = 64) : isW b = true := by
  rcases h with rfl | rfl | rfl | rfl <;> rfl

theorem parse_any (s : ByteArray) (b : Int) (w : World) (hw : Wid w) :
    Calls Tryz.prog 122 #[.string s, .int .i64 b] w fun e w' => e = .returned (.tuple #[.int .i64 (ps s.data.toList b).1, .int .i64 (ps s.data.toList b).2]) ∧ Below w.heap.size w w' := by
  unfold ps
  cases hu : us (Lib.trimPrefix s.data.toList [45]) with
  | none => exact parse_none s b w hu
  | some r =>
    obtain ⟨v, o⟩ := r
    cases hb : isW b with
    | false => exact parse_nw s b w hw v o hu hb
    | true =>
      cases o with
      | true => exact parse_over s b w hw v hu (isW_cases hb)
      | false =>
        by_cases hg : (v : Int) ≤ gr (Lib.hasPrefix s.data.toList [45]) b
        · have := parse_ok s b w hw v hu (isW_cases hb) hg
          simpa [hg] using this
        · have := parse_big s b w hw v hu (isW_cases hb) (by omega)
          simpa [hg] using this
end Go.Proofs.YtakblmonbeflmaaGreatDoor.L1
end

section
namespace Go.Proofs.YtakblmonbeflmaaGreatDoor.L1
open Go.RowKit

/-- What the reference's Read returns. -/
def rdV (neg : Bool) (r : Option (Nat × Bool)) : Value := match r with
  | some (v, o) => .tuple #[.bool neg, .int .u64 (v : Int), .bool o, .bool true]
  | none => .tuple #[.bool false, .int .u64 0, .bool false, .bool false]

theorem ba_ext {s t : ByteArray} (h : s.data.toList = t.data.toList) : s = t := by
  cases s; cases t; congr; exact Array.toList_inj.1 h

theorem cons_of (s : ByteArray) (h : 0 < s.size) : s.data.toList = s[0] :: s.data.toList.drop 1 := by
  have := drop_at s 0 h; simpa using this

theorem nil_of (s : ByteArray) (h : ¬ 0 < s.size) : s.data.toList = [] := by
  have h3 : s.data.size = 0 := by have : s.size = s.data.size := rfl; omega
  have : s.data.toList.length = 0 := by rw [Array.length_toList]; exact h3
  exact List.eq_nil_of_length_eq_zero this

theorem u8_beq (a b : UInt8) : ((a.toNat : Int) == (b.toNat : Int)) = (a == b) := by
  rw [Bool.eq_iff_iff, beq_iff_eq, beq_iff_eq]
  constructor
  · intro h; exact UInt8.toNat_inj.1 (by omega)
  · intro h; rw [h]

theorem at0 (s : ByteArray) (c : UInt8) (h : 0 < s.size) : ((s[0].toNat : Int) == (c.toNat : Int)) = Lib.hasPrefix s.data.toList [c] := by
  rw [u8_beq, cons_of s h, Lib.hasPrefix, BEq.comm]
  simp [List.isPrefixOf]

theorem at01 (s : ByteArray) (c d : UInt8) (h : 1 < s.size) : (((s[0].toNat : Int) == (c.toNat : Int)) && ((s[1].toNat : Int) == (d.toNat : Int))) = Lib.hasPrefix s.data.toList [c, d] := by
  rw [u8_beq, u8_beq, cons_of s (by omega), drop_at s 1 h, Lib.hasPrefix, BEq.comm, BEq.comm (a := s[1])]
  simp [List.isPrefixOf]

theorem not01 (s : ByteArray) (c d : UInt8) (h : ¬ 1 < s.size) : Lib.hasPrefix s.data.toList [c, d] = false := by
  by_cases h0 : 0 < s.size
  · have : s.data.toList.length = 1 := by rw [Array.length_toList]; show s.size = 1; omega
    match hl : s.data.toList, this with
    | [x], _ => simp [Lib.hasPrefix, List.isPrefixOf]
  · rw [nil_of s h0]; rfl

theorem slice_eq (s : ByteArray) (k : Nat) : s.extract k s.size = ⟨(s.data.toList.drop k).toArray⟩ := by
  rw [Lib.extract_eq, List.take_of_length_le (by rw [List.length_drop, Array.length_toList]; exact Nat.le_refl _)]

theorem us_eq (t u : ByteArray) (x : Bool) (hx : Lib.hasPrefix t.data.toList [48, 120] = x) (hu : u = ⟨(Lib.trimPrefix t.data.toList [48, 120]).toArray⟩) (base : Nat) (hb : base = if x then 16 else 10) (hne : 0 < u.size) :
    us t.data.toList = rd base u.data.toList 0 false := by
  have hn : u.data.toList ≠ [] := by rw [cons_of u hne]; simp
  subst hu hb
  cases x
  · simp only [Lib.trimPrefix, hx] at hn ⊢
    have h : t.data.toList.isEmpty = false := by cases h : t.data.toList with
      | nil => exact absurd h hn
      | cons a l => rfl
    simp [us, hx, h]
  · simp only [Lib.trimPrefix, hx] at hn ⊢
    have h : (t.data.toList.drop 2).isEmpty = false := by cases h : t.data.toList.drop 2 with
      | nil => exact absurd h hn
      | cons a l => rfl
    simp only [us, hx, h]
    rfl

theorem us_nil (t u : ByteArray) (x : Bool) (hx : Lib.hasPrefix t.data.toList [48, 120] = x) (hu : u = ⟨(Lib.trimPrefix t.data.toList [48, 120]).toArray⟩) (hne : ¬ 0 < u.size) :
    us t.data.toList = none := by
  have hn := nil_of u hne
  subst hu
  cases x
  · simp only [Lib.trimPrefix, hx] at hn
    have h : t.data.toList.isEmpty = true := by rw [show t.data.toList = [] from hn]; rfl
    simp only [us, hx, h]
    rfl
  · simp only [Lib.trimPrefix, hx] at hn
    have h : (t.data.toList.drop 2).isEmpty = true := by rw [show t.data.toList.drop 2 = [] from hn]; rfl
    simp only [us, hx, h]
    rfl

theorem trim_le (l p : List UInt8) : (Lib.trimPrefix l p).length ≤ l.length := by
  unfold Lib.trimPrefix
  split
  · rw [List.length_drop]; omega
  · exact Nat.le_refl _

theorem trim_size (s t : ByteArray) (p : List UInt8) (h : t = ⟨(Lib.trimPrefix s.data.toList p).toArray⟩) : t.size ≤ s.size := by
  have h1 : t.size = (Lib.trimPrefix s.data.toList p).length := by rw [h]; show (List.toArray _).size = _; simp
  have h2 : s.size = s.data.toList.length := by rw [Array.length_toList]; rfl
  rw [h1, h2]; exact trim_le _ _

theorem rdg_of (c : UInt8) (base : Nat) : rdg c.toNat base = if dgn c < base then (dgn c : Int) else -1 := by
  unfold rdg
  rw [dgn_eq]
  by_cases h : dgn c < base
  · rw [if_pos h, if_pos (by omega)]
  · rw [if_neg h, if_neg (by omega)]

end Go.Proofs.YtakblmonbeflmaaGreatDoor.L1
end

section
namespace Go.Proofs.YtakblmonbeflmaaGreatDoor.L1
open Go.RowKit

end Go.Proofs.YtakblmonbeflmaaGreatDoor.L1
end
