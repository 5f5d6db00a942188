/- What the program's comparisons and its Holds return: a comparison by the number of the jump, 'cnd' for numbers of 32 or 64 bits, and 'hoV' for an instruction. No condition but the numbers' bounds. -/
import Derived.Test.YtiklgnokojkoeaaCnd
import Derived.Test.YtiklgnokojkoeaaL6Opd
namespace Go.Proofs.Ytiklgnokojkoeaa
open Go.RowKit L3
open L6 (an an_b and64 and32 opd cells6 row_up operand_any)

/-- A comparison, by the place of the jump. -/
def cmpI : Nat → Int → Int → Bool
  | 0, a, b => a == b
  | 1, a, b | 5, a, b => decide (b < a)
  | 2, a, b | 6, a, b => decide (b ≤ a)
  | 4, a, b => a != b
  | 7, a, b | 9, a, b => decide (a < b)
  | 8, a, b | 10, a, b => decide (a ≤ b)
  | _, _, _ => false
set_option maxHeartbeats 4000000 in
set_option maxRecDepth 100000 in
theorem cmp30_5 (a b : Int) (w : World) : Calls Try.prog 30 #[.int .i64 50, .int .i32 a, .int .i32 b] w fun e w' => e = .returned (.bool (cmpI 5 a b)) ∧ w = w' := by
  go_enter Try.func30, Try.ntmps30
  go_wp2
  go_ret
  exact ⟨rfl, rfl⟩
set_option maxHeartbeats 4000000 in
set_option maxRecDepth 100000 in
theorem cmp30_6 (a b : Int) (w : World) : Calls Try.prog 30 #[.int .i64 51, .int .i32 a, .int .i32 b] w fun e w' => e = .returned (.bool (cmpI 6 a b)) ∧ w = w' := by
  go_enter Try.func30, Try.ntmps30
  go_wp2
  go_ret
  exact ⟨rfl, rfl⟩
set_option maxHeartbeats 4000000 in
set_option maxRecDepth 100000 in
theorem cmp30_9 (a b : Int) (w : World) : Calls Try.prog 30 #[.int .i64 54, .int .i32 a, .int .i32 b] w fun e w' => e = .returned (.bool (cmpI 9 a b)) ∧ w = w' := by
  go_enter Try.func30, Try.ntmps30
  go_wp2
  go_ret
  exact ⟨rfl, rfl⟩
set_option maxHeartbeats 4000000 in
set_option maxRecDepth 100000 in
theorem cmp30_10 (a b : Int) (w : World) : Calls Try.prog 30 #[.int .i64 55, .int .i32 a, .int .i32 b] w fun e w' => e = .returned (.bool (cmpI 10 a b)) ∧ w = w' := by
  go_enter Try.func30, Try.ntmps30
  go_wp2
  go_ret
  exact ⟨rfl, rfl⟩
set_option maxHeartbeats 4000000 in
set_option maxRecDepth 100000 in
theorem cmp31_0 (a b : Int) (w : World) : Calls Try.prog 31 #[.int .i64 45, .int .u32 a, .int .u32 b] w fun e w' => e = .returned (.bool (cmpI 0 a b)) ∧ w = w' := by
  go_enter Try.func31, Try.ntmps31
  go_wp2
  go_ret
  exact ⟨rfl, rfl⟩
set_option maxHeartbeats 4000000 in
set_option maxRecDepth 100000 in
theorem cmp31_1 (a b : Int) (w : World) : Calls Try.prog 31 #[.int .i64 46, .int .u32 a, .int .u32 b] w fun e w' => e = .returned (.bool (cmpI 1 a b)) ∧ w = w' := by
  go_enter Try.func31, Try.ntmps31
  go_wp2
  go_ret
  exact ⟨rfl, rfl⟩
set_option maxHeartbeats 4000000 in
set_option maxRecDepth 100000 in
theorem cmp31_2 (a b : Int) (w : World) : Calls Try.prog 31 #[.int .i64 47, .int .u32 a, .int .u32 b] w fun e w' => e = .returned (.bool (cmpI 2 a b)) ∧ w = w' := by
  go_enter Try.func31, Try.ntmps31
  go_wp2
  go_ret
  exact ⟨rfl, rfl⟩
set_option maxHeartbeats 4000000 in
set_option maxRecDepth 100000 in
theorem cmp31_4 (a b : Int) (w : World) : Calls Try.prog 31 #[.int .i64 49, .int .u32 a, .int .u32 b] w fun e w' => e = .returned (.bool (cmpI 4 a b)) ∧ w = w' := by
  go_enter Try.func31, Try.ntmps31
  go_wp2
  go_ret
  exact ⟨rfl, rfl⟩
set_option maxHeartbeats 4000000 in
set_option maxRecDepth 100000 in
theorem cmp31_7 (a b : Int) (w : World) : Calls Try.prog 31 #[.int .i64 52, .int .u32 a, .int .u32 b] w fun e w' => e = .returned (.bool (cmpI 7 a b)) ∧ w = w' := by
  go_enter Try.func31, Try.ntmps31
  go_wp2
  go_ret
  exact ⟨rfl, rfl⟩
set_option maxHeartbeats 4000000 in
set_option maxRecDepth 100000 in
theorem cmp31_8 (a b : Int) (w : World) : Calls Try.prog 31 #[.int .i64 53, .int .u32 a, .int .u32 b] w fun e w' => e = .returned (.bool (cmpI 8 a b)) ∧ w = w' := by
  go_enter Try.func31, Try.ntmps31
  go_wp2
  go_ret
  exact ⟨rfl, rfl⟩
set_option maxHeartbeats 4000000 in
set_option maxRecDepth 100000 in
theorem cmp32_5 (a b : Int) (w : World) : Calls Try.prog 32 #[.int .i64 50, .int .i64 a, .int .i64 b] w fun e w' => e = .returned (.bool (cmpI 5 a b)) ∧ w = w' := by
  go_enter Try.func32, Try.ntmps32
  go_wp2
  go_ret
  exact ⟨rfl, rfl⟩
set_option maxHeartbeats 4000000 in
set_option maxRecDepth 100000 in
theorem cmp32_6 (a b : Int) (w : World) : Calls Try.prog 32 #[.int .i64 51, .int .i64 a, .int .i64 b] w fun e w' => e = .returned (.bool (cmpI 6 a b)) ∧ w = w' := by
  go_enter Try.func32, Try.ntmps32
  go_wp2
  go_ret
  exact ⟨rfl, rfl⟩
set_option maxHeartbeats 4000000 in
set_option maxRecDepth 100000 in
theorem cmp32_9 (a b : Int) (w : World) : Calls Try.prog 32 #[.int .i64 54, .int .i64 a, .int .i64 b] w fun e w' => e = .returned (.bool (cmpI 9 a b)) ∧ w = w' := by
  go_enter Try.func32, Try.ntmps32
  go_wp2
  go_ret
  exact ⟨rfl, rfl⟩
set_option maxHeartbeats 4000000 in
set_option maxRecDepth 100000 in
theorem cmp32_10 (a b : Int) (w : World) : Calls Try.prog 32 #[.int .i64 55, .int .i64 a, .int .i64 b] w fun e w' => e = .returned (.bool (cmpI 10 a b)) ∧ w = w' := by
  go_enter Try.func32, Try.ntmps32
  go_wp2
  go_ret
  exact ⟨rfl, rfl⟩
set_option maxHeartbeats 4000000 in
set_option maxRecDepth 100000 in
theorem cmp33_0 (a b : Int) (w : World) : Calls Try.prog 33 #[.int .i64 45, .int .u64 a, .int .u64 b] w fun e w' => e = .returned (.bool (cmpI 0 a b)) ∧ w = w' := by
  go_enter Try.func33, Try.ntmps33
  go_wp2
  go_ret
  exact ⟨rfl, rfl⟩
set_option maxHeartbeats 4000000 in
set_option maxRecDepth 100000 in
theorem cmp33_1 (a b : Int) (w : World) : Calls Try.prog 33 #[.int .i64 46, .int .u64 a, .int .u64 b] w fun e w' => e = .returned (.bool (cmpI 1 a b)) ∧ w = w' := by
  go_enter Try.func33, Try.ntmps33
  go_wp2
  go_ret
  exact ⟨rfl, rfl⟩
set_option maxHeartbeats 4000000 in
set_option maxRecDepth 100000 in
theorem cmp33_2 (a b : Int) (w : World) : Calls Try.prog 33 #[.int .i64 47, .int .u64 a, .int .u64 b] w fun e w' => e = .returned (.bool (cmpI 2 a b)) ∧ w = w' := by
  go_enter Try.func33, Try.ntmps33
  go_wp2
  go_ret
  exact ⟨rfl, rfl⟩
set_option maxHeartbeats 4000000 in
set_option maxRecDepth 100000 in
theorem cmp33_4 (a b : Int) (w : World) : Calls Try.prog 33 #[.int .i64 49, .int .u64 a, .int .u64 b] w fun e w' => e = .returned (.bool (cmpI 4 a b)) ∧ w = w' := by
  go_enter Try.func33, Try.ntmps33
  go_wp2
  go_ret
  exact ⟨rfl, rfl⟩
set_option maxHeartbeats 4000000 in
set_option maxRecDepth 100000 in
theorem cmp33_7 (a b : Int) (w : World) : Calls Try.prog 33 #[.int .i64 52, .int .u64 a, .int .u64 b] w fun e w' => e = .returned (.bool (cmpI 7 a b)) ∧ w = w' := by
  go_enter Try.func33, Try.ntmps33
  go_wp2
  go_ret
  exact ⟨rfl, rfl⟩
set_option maxHeartbeats 4000000 in
set_option maxRecDepth 100000 in
theorem cmp33_8 (a b : Int) (w : World) : Calls Try.prog 33 #[.int .i64 53, .int .u64 a, .int .u64 b] w fun e w' => e = .returned (.bool (cmpI 8 a b)) ∧ w = w' := by
  go_enter Try.func33, Try.ntmps33
  go_wp2
  go_ret
  exact ⟨rfl, rfl⟩
set_option maxHeartbeats 4000000 in
set_option maxRecDepth 100000 in
theorem ho64_0 (a b : Int) (w : World) : Calls Try.prog 22 #[.int .i64 45, .int .u64 a, .int .u64 b] w fun e w' => e = .returned (.bool (cnd 64 0 a b)) ∧ w = w' := by
  go_enter Try.func22, Try.ntmps22
  go_wp2_with (go_at_call 33; ((with_reducible refine (cmp33_0 _ _ _).mono ?_); rintro e w1 ⟨rfl, rfl⟩))
  go_ret
  exact ⟨rfl, rfl⟩
set_option maxHeartbeats 4000000 in
set_option maxRecDepth 100000 in
theorem ho64_1 (a b : Int) (w : World) : Calls Try.prog 22 #[.int .i64 46, .int .u64 a, .int .u64 b] w fun e w' => e = .returned (.bool (cnd 64 1 a b)) ∧ w = w' := by
  go_enter Try.func22, Try.ntmps22
  go_wp2_with (go_at_call 33; ((with_reducible refine (cmp33_1 _ _ _).mono ?_); rintro e w1 ⟨rfl, rfl⟩))
  go_ret
  exact ⟨rfl, rfl⟩
set_option maxHeartbeats 4000000 in
set_option maxRecDepth 100000 in
theorem ho64_2 (a b : Int) (w : World) : Calls Try.prog 22 #[.int .i64 47, .int .u64 a, .int .u64 b] w fun e w' => e = .returned (.bool (cnd 64 2 a b)) ∧ w = w' := by
  go_enter Try.func22, Try.ntmps22
  go_wp2_with (go_at_call 33; ((with_reducible refine (cmp33_2 _ _ _).mono ?_); rintro e w1 ⟨rfl, rfl⟩))
  go_ret
  exact ⟨rfl, rfl⟩
set_option maxHeartbeats 4000000 in
set_option maxRecDepth 100000 in
theorem ho64_3 (a b : Int) (a0 : 0 ≤ a) (a1 : a < 18446744073709551616) (b0 : 0 ≤ b) (b1 : b < 18446744073709551616) (w : World) : Calls Try.prog 22 #[.int .i64 48, .int .u64 a, .int .u64 b] w fun e w' => e = .returned (.bool (cnd 64 3 a b)) ∧ w = w' := by
  have hv := and64 a b a0 a1 b0 b1
  show Calls Try.prog 22 _ w fun e w' => e = .returned (.bool (an a b != 0)) ∧ w = w'
  generalize an a b = c at hv ⊢
  go_enter Try.func22, Try.ntmps22
  go_wp2
  go_ret
  exact ⟨rfl, rfl⟩
set_option maxHeartbeats 4000000 in
set_option maxRecDepth 100000 in
theorem ho64_4 (a b : Int) (w : World) : Calls Try.prog 22 #[.int .i64 49, .int .u64 a, .int .u64 b] w fun e w' => e = .returned (.bool (cnd 64 4 a b)) ∧ w = w' := by
  go_enter Try.func22, Try.ntmps22
  go_wp2_with (go_at_call 33; ((with_reducible refine (cmp33_4 _ _ _).mono ?_); rintro e w1 ⟨rfl, rfl⟩))
  go_ret
  exact ⟨rfl, rfl⟩
set_option maxHeartbeats 4000000 in
set_option maxRecDepth 100000 in
theorem ho64_5 (a b : Int) (w : World) : Calls Try.prog 22 #[.int .i64 50, .int .u64 a, .int .u64 b] w fun e w' => e = .returned (.bool (cnd 64 5 a b)) ∧ w = w' := by
  go_enter Try.func22, Try.ntmps22
  go_wp2_with (go_at_call 32; ((with_reducible refine (cmp32_5 _ _ _).mono ?_); rintro e w1 ⟨rfl, rfl⟩))
  go_ret
  exact ⟨rfl, rfl⟩
set_option maxHeartbeats 4000000 in
set_option maxRecDepth 100000 in
theorem ho64_6 (a b : Int) (w : World) : Calls Try.prog 22 #[.int .i64 51, .int .u64 a, .int .u64 b] w fun e w' => e = .returned (.bool (cnd 64 6 a b)) ∧ w = w' := by
  go_enter Try.func22, Try.ntmps22
  go_wp2_with (go_at_call 32; ((with_reducible refine (cmp32_6 _ _ _).mono ?_); rintro e w1 ⟨rfl, rfl⟩))
  go_ret
  exact ⟨rfl, rfl⟩
set_option maxHeartbeats 4000000 in
set_option maxRecDepth 100000 in
theorem ho64_7 (a b : Int) (w : World) : Calls Try.prog 22 #[.int .i64 52, .int .u64 a, .int .u64 b] w fun e w' => e = .returned (.bool (cnd 64 7 a b)) ∧ w = w' := by
  go_enter Try.func22, Try.ntmps22
  go_wp2_with (go_at_call 33; ((with_reducible refine (cmp33_7 _ _ _).mono ?_); rintro e w1 ⟨rfl, rfl⟩))
  go_ret
  exact ⟨rfl, rfl⟩
set_option maxHeartbeats 4000000 in
set_option maxRecDepth 100000 in
theorem ho64_8 (a b : Int) (w : World) : Calls Try.prog 22 #[.int .i64 53, .int .u64 a, .int .u64 b] w fun e w' => e = .returned (.bool (cnd 64 8 a b)) ∧ w = w' := by
  go_enter Try.func22, Try.ntmps22
  go_wp2_with (go_at_call 33; ((with_reducible refine (cmp33_8 _ _ _).mono ?_); rintro e w1 ⟨rfl, rfl⟩))
  go_ret
  exact ⟨rfl, rfl⟩
set_option maxHeartbeats 4000000 in
set_option maxRecDepth 100000 in
theorem ho64_9 (a b : Int) (w : World) : Calls Try.prog 22 #[.int .i64 54, .int .u64 a, .int .u64 b] w fun e w' => e = .returned (.bool (cnd 64 9 a b)) ∧ w = w' := by
  go_enter Try.func22, Try.ntmps22
  go_wp2_with (go_at_call 32; ((with_reducible refine (cmp32_9 _ _ _).mono ?_); rintro e w1 ⟨rfl, rfl⟩))
  go_ret
  exact ⟨rfl, rfl⟩
set_option maxHeartbeats 4000000 in
set_option maxRecDepth 100000 in
theorem ho64_10 (a b : Int) (w : World) : Calls Try.prog 22 #[.int .i64 55, .int .u64 a, .int .u64 b] w fun e w' => e = .returned (.bool (cnd 64 10 a b)) ∧ w = w' := by
  go_enter Try.func22, Try.ntmps22
  go_wp2_with (go_at_call 32; ((with_reducible refine (cmp32_10 _ _ _).mono ?_); rintro e w1 ⟨rfl, rfl⟩))
  go_ret
  exact ⟨rfl, rfl⟩
theorem ret_b {a b : Bool} (h : a = b) : Ending.returned (.bool a) = .returned (.bool b) := by rw [h]
set_option maxHeartbeats 4000000 in
set_option maxRecDepth 100000 in
theorem ho32_0 (a b : Int) (w : World) : Calls Try.prog 21 #[.int .i64 45, .int .u64 a, .int .u64 b] w fun e w' => e = .returned (.bool (cnd 32 0 (a % 4294967296) (b % 4294967296))) ∧ w = w' := by
  go_enter Try.func21, Try.ntmps21
  go_wp2_with (go_at_call 31; ((with_reducible refine (cmp31_0 _ _ _).mono ?_); rintro e w1 ⟨rfl, rfl⟩))
  go_ret
  exact ⟨rfl, rfl⟩
set_option maxHeartbeats 4000000 in
set_option maxRecDepth 100000 in
theorem ho32_1 (a b : Int) (w : World) : Calls Try.prog 21 #[.int .i64 46, .int .u64 a, .int .u64 b] w fun e w' => e = .returned (.bool (cnd 32 1 (a % 4294967296) (b % 4294967296))) ∧ w = w' := by
  go_enter Try.func21, Try.ntmps21
  go_wp2_with (go_at_call 31; ((with_reducible refine (cmp31_1 _ _ _).mono ?_); rintro e w1 ⟨rfl, rfl⟩))
  go_ret
  exact ⟨rfl, rfl⟩
set_option maxHeartbeats 4000000 in
set_option maxRecDepth 100000 in
theorem ho32_2 (a b : Int) (w : World) : Calls Try.prog 21 #[.int .i64 47, .int .u64 a, .int .u64 b] w fun e w' => e = .returned (.bool (cnd 32 2 (a % 4294967296) (b % 4294967296))) ∧ w = w' := by
  go_enter Try.func21, Try.ntmps21
  go_wp2_with (go_at_call 31; ((with_reducible refine (cmp31_2 _ _ _).mono ?_); rintro e w1 ⟨rfl, rfl⟩))
  go_ret
  exact ⟨rfl, rfl⟩
set_option maxHeartbeats 4000000 in
set_option maxRecDepth 100000 in
theorem ho32_3 (a b : Int) (w : World) : Calls Try.prog 21 #[.int .i64 48, .int .u64 a, .int .u64 b] w fun e w' => e = .returned (.bool (cnd 32 3 (a % 4294967296) (b % 4294967296))) ∧ w = w' := by
  have hv := and32 (a % 4294967296) (b % 4294967296) (by omega) (by omega) (by omega) (by omega)
  show Calls Try.prog 21 _ w fun e w' => e = .returned (.bool (an (a % 4294967296) (b % 4294967296) != 0)) ∧ w = w'
  generalize an (a % 4294967296) (b % 4294967296) = c at hv ⊢
  go_enter Try.func21, Try.ntmps21
  go_wp2
  go_ret
  exact ⟨rfl, rfl⟩
set_option maxHeartbeats 4000000 in
set_option maxRecDepth 100000 in
theorem ho32_4 (a b : Int) (w : World) : Calls Try.prog 21 #[.int .i64 49, .int .u64 a, .int .u64 b] w fun e w' => e = .returned (.bool (cnd 32 4 (a % 4294967296) (b % 4294967296))) ∧ w = w' := by
  go_enter Try.func21, Try.ntmps21
  go_wp2_with (go_at_call 31; ((with_reducible refine (cmp31_4 _ _ _).mono ?_); rintro e w1 ⟨rfl, rfl⟩))
  go_ret
  exact ⟨rfl, rfl⟩
set_option maxHeartbeats 4000000 in
set_option maxRecDepth 100000 in
theorem ho32_5 (a b : Int) (w : World) : Calls Try.prog 21 #[.int .i64 50, .int .u64 a, .int .u64 b] w fun e w' => e = .returned (.bool (cnd 32 5 (a % 4294967296) (b % 4294967296))) ∧ w = w' := by
  have h1 := wrap32_low a
  have h2 := wrap32_low b
  go_enter Try.func21, Try.ntmps21
  go_wp2_with (go_at_call 30; ((with_reducible refine (cmp30_5 _ _ _).mono ?_); rintro e w1 ⟨rfl, rfl⟩))
  go_ret
  exact ⟨ret_b (by show decide (wrap32 b < wrap32 a) = decide (wrap32 (b % 4294967296) < wrap32 (a % 4294967296)); rw [h1, h2]), rfl⟩
set_option maxHeartbeats 4000000 in
set_option maxRecDepth 100000 in
theorem ho32_6 (a b : Int) (w : World) : Calls Try.prog 21 #[.int .i64 51, .int .u64 a, .int .u64 b] w fun e w' => e = .returned (.bool (cnd 32 6 (a % 4294967296) (b % 4294967296))) ∧ w = w' := by
  have h1 := wrap32_low a
  have h2 := wrap32_low b
  go_enter Try.func21, Try.ntmps21
  go_wp2_with (go_at_call 30; ((with_reducible refine (cmp30_6 _ _ _).mono ?_); rintro e w1 ⟨rfl, rfl⟩))
  go_ret
  exact ⟨ret_b (by show decide (wrap32 b ≤ wrap32 a) = decide (wrap32 (b % 4294967296) ≤ wrap32 (a % 4294967296)); rw [h1, h2]), rfl⟩
set_option maxHeartbeats 4000000 in
set_option maxRecDepth 100000 in
theorem ho32_7 (a b : Int) (w : World) : Calls Try.prog 21 #[.int .i64 52, .int .u64 a, .int .u64 b] w fun e w' => e = .returned (.bool (cnd 32 7 (a % 4294967296) (b % 4294967296))) ∧ w = w' := by
  go_enter Try.func21, Try.ntmps21
  go_wp2_with (go_at_call 31; ((with_reducible refine (cmp31_7 _ _ _).mono ?_); rintro e w1 ⟨rfl, rfl⟩))
  go_ret
  exact ⟨rfl, rfl⟩
set_option maxHeartbeats 4000000 in
set_option maxRecDepth 100000 in
theorem ho32_8 (a b : Int) (w : World) : Calls Try.prog 21 #[.int .i64 53, .int .u64 a, .int .u64 b] w fun e w' => e = .returned (.bool (cnd 32 8 (a % 4294967296) (b % 4294967296))) ∧ w = w' := by
  go_enter Try.func21, Try.ntmps21
  go_wp2_with (go_at_call 31; ((with_reducible refine (cmp31_8 _ _ _).mono ?_); rintro e w1 ⟨rfl, rfl⟩))
  go_ret
  exact ⟨rfl, rfl⟩
set_option maxHeartbeats 4000000 in
set_option maxRecDepth 100000 in
theorem ho32_9 (a b : Int) (w : World) : Calls Try.prog 21 #[.int .i64 54, .int .u64 a, .int .u64 b] w fun e w' => e = .returned (.bool (cnd 32 9 (a % 4294967296) (b % 4294967296))) ∧ w = w' := by
  have h1 := wrap32_low a
  have h2 := wrap32_low b
  go_enter Try.func21, Try.ntmps21
  go_wp2_with (go_at_call 30; ((with_reducible refine (cmp30_9 _ _ _).mono ?_); rintro e w1 ⟨rfl, rfl⟩))
  go_ret
  exact ⟨ret_b (by show decide (wrap32 a < wrap32 b) = decide (wrap32 (a % 4294967296) < wrap32 (b % 4294967296)); rw [h1, h2]), rfl⟩
set_option maxHeartbeats 4000000 in
set_option maxRecDepth 100000 in
theorem ho32_10 (a b : Int) (w : World) : Calls Try.prog 21 #[.int .i64 55, .int .u64 a, .int .u64 b] w fun e w' => e = .returned (.bool (cnd 32 10 (a % 4294967296) (b % 4294967296))) ∧ w = w' := by
  have h1 := wrap32_low a
  have h2 := wrap32_low b
  go_enter Try.func21, Try.ntmps21
  go_wp2_with (go_at_call 30; ((with_reducible refine (cmp30_10 _ _ _).mono ?_); rintro e w1 ⟨rfl, rfl⟩))
  go_ret
  exact ⟨ret_b (by show decide (wrap32 a ≤ wrap32 b) = decide (wrap32 (a % 4294967296) ≤ wrap32 (b % 4294967296)); rw [h1, h2]), rfl⟩
theorem ho64 (i : Nat) (h : i < 11) (a b : Int) (a0 : 0 ≤ a) (a1 : a < 18446744073709551616) (b0 : 0 ≤ b) (b1 : b < 18446744073709551616) (w : World) : Calls Try.prog 22 #[.int .i64 (45 + (i : Int)), .int .u64 a, .int .u64 b] w fun e w' => e = .returned (.bool (cnd 64 i a b)) ∧ w = w' :=
  match i, h with
  | 0, _ => ho64_0 a b w
  | 1, _ => ho64_1 a b w
  | 2, _ => ho64_2 a b w
  | 3, _ => ho64_3 a b a0 a1 b0 b1 w
  | 4, _ => ho64_4 a b w
  | 5, _ => ho64_5 a b w
  | 6, _ => ho64_6 a b w
  | 7, _ => ho64_7 a b w
  | 8, _ => ho64_8 a b w
  | 9, _ => ho64_9 a b w
  | 10, _ => ho64_10 a b w
  | _ + 11, h => absurd h (by omega)
theorem ho32 (i : Nat) (h : i < 11) (a b : Int) (w : World) : Calls Try.prog 21 #[.int .i64 (45 + (i : Int)), .int .u64 a, .int .u64 b] w fun e w' => e = .returned (.bool (cnd 32 i (a % 4294967296) (b % 4294967296))) ∧ w = w' :=
  match i, h with
  | 0, _ => ho32_0 a b w
  | 1, _ => ho32_1 a b w
  | 2, _ => ho32_2 a b w
  | 3, _ => ho32_3 a b w
  | 4, _ => ho32_4 a b w
  | 5, _ => ho32_5 a b w
  | 6, _ => ho32_6 a b w
  | 7, _ => ho32_7 a b w
  | 8, _ => ho32_8 a b w
  | 9, _ => ho32_9 a b w
  | 10, _ => ho32_10 a b w
  | _ + 11, h => absurd h (by omega)
end Go.Proofs.Ytiklgnokojkoeaa
