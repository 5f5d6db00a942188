/- What the reference's low, half and Condition return: 'cnd' for numbers of 32 or 64 bits. No condition but the numbers' bounds. -/
import Derived.Test.YtiklgnokojkoeaaCnd
import Derived.Test.YtiklgnokojkoeaaL1Base
namespace Go.Proofs.Ytiklgnokojkoeaa
open Go.RowKit L1
open L6 (an)

theorem rlow64 (x : Int) (w : World) : Calls Try.prog 24 #[.int .u64 x, .int .i64 64] w fun e w' => e = .returned (.int .u64 x) ∧ w = w' := by
  go_enter Try.func24, Try.ntmps24
  go_wp2
  go_ret
  exact ⟨rfl, rfl⟩
theorem rlow32 (x : Int) (w : World) (h0 : 0 ≤ x) : Calls Try.prog 24 #[.int .u64 x, .int .i64 32] w fun e w' => e = .returned (.int .u64 (x % 4294967296)) ∧ w = w' := by
  have HP := Lib.hid (power_at 32 32 4294967296 w rfl (by decide) rfl)
  go_enter Try.func24, Try.ntmps24
  go_wp2_with (go_at_call 35; ((with_reducible refine (HP.out).mono ?_); rintro e w1 ⟨rfl, rfl⟩))
  go_ret
  exact ⟨rfl, rfl⟩
theorem rhalf64 (w : World) : Calls Try.prog 34 #[.int .i64 64] w fun e w' => e = .returned (.int .u64 9223372036854775808) ∧ w = w' := by
  have HP := Lib.hid (power_at 63 63 9223372036854775808 w rfl (by decide) rfl)
  go_enter Try.func34, Try.ntmps34
  go_wp2_with (go_at_call 35; ((with_reducible refine (HP.out).mono ?_); rintro e w1 ⟨rfl, rfl⟩))
  go_ret
  exact ⟨rfl, rfl⟩
theorem rhalf32 (w : World) : Calls Try.prog 34 #[.int .i64 32] w fun e w' => e = .returned (.int .u64 2147483648) ∧ w = w' := by
  have HP := Lib.hid (power_at 31 31 2147483648 w rfl (by decide) rfl)
  go_enter Try.func34, Try.ntmps34
  go_wp2_with (go_at_call 35; ((with_reducible refine (HP.out).mono ?_); rintro e w1 ⟨rfl, rfl⟩))
  go_ret
  exact ⟨rfl, rfl⟩
theorem ret_b' {a b : Bool} (h : a = b) : Ending.returned (.bool a) = .returned (.bool b) := by rw [h]
theorem lt_add (a b c : Int) : decide (a + c < b + c) = decide (a < b) := by
  congr 1; exact propext (by omega)
theorem le_add (a b c : Int) : decide (a + c ≤ b + c) = decide (a ≤ b) := by
  congr 1; exact propext (by omega)
set_option maxHeartbeats 4000000 in
set_option maxRecDepth 100000 in
theorem rc64_0 (a b : Int) (_a0 : 0 ≤ a) (_a1 : a < 18446744073709551616) (_b0 : 0 ≤ b) (_b1 : b < 18446744073709551616) (w : World) : Calls Try.prog 23 #[.int .i64 0, .int .u64 a, .int .u64 b, .int .i64 64] w fun e w' => e = .returned (.bool (cnd 64 0 a b)) ∧ w = w' := by
  go_enter Try.func23, Try.ntmps23
  go_wp2_with (first | (go_at_call 34; ((with_reducible refine (rhalf64 _).mono ?_); rintro e w1 ⟨rfl, rfl⟩)) | (go_at_call 24; ((with_reducible refine (rlow64 _ _).mono ?_); rintro e w2 ⟨rfl, rfl⟩)))
  go_ret
  exact ⟨rfl, rfl⟩
set_option maxHeartbeats 4000000 in
set_option maxRecDepth 100000 in
theorem rc64_1 (a b : Int) (_a0 : 0 ≤ a) (_a1 : a < 18446744073709551616) (_b0 : 0 ≤ b) (_b1 : b < 18446744073709551616) (w : World) : Calls Try.prog 23 #[.int .i64 1, .int .u64 a, .int .u64 b, .int .i64 64] w fun e w' => e = .returned (.bool (cnd 64 1 a b)) ∧ w = w' := by
  go_enter Try.func23, Try.ntmps23
  go_wp2_with (first | (go_at_call 34; ((with_reducible refine (rhalf64 _).mono ?_); rintro e w1 ⟨rfl, rfl⟩)) | (go_at_call 24; ((with_reducible refine (rlow64 _ _).mono ?_); rintro e w2 ⟨rfl, rfl⟩)))
  go_ret
  exact ⟨rfl, rfl⟩
set_option maxHeartbeats 4000000 in
set_option maxRecDepth 100000 in
theorem rc64_2 (a b : Int) (_a0 : 0 ≤ a) (_a1 : a < 18446744073709551616) (_b0 : 0 ≤ b) (_b1 : b < 18446744073709551616) (w : World) : Calls Try.prog 23 #[.int .i64 2, .int .u64 a, .int .u64 b, .int .i64 64] w fun e w' => e = .returned (.bool (cnd 64 2 a b)) ∧ w = w' := by
  go_enter Try.func23, Try.ntmps23
  go_wp2_with (first | (go_at_call 34; ((with_reducible refine (rhalf64 _).mono ?_); rintro e w1 ⟨rfl, rfl⟩)) | (go_at_call 24; ((with_reducible refine (rlow64 _ _).mono ?_); rintro e w2 ⟨rfl, rfl⟩)))
  go_ret
  exact ⟨rfl, rfl⟩
set_option maxHeartbeats 4000000 in
set_option maxRecDepth 100000 in
theorem rc64_3 (a b : Int) (a0 : 0 ≤ a) (a1 : a < 18446744073709551616) (b0 : 0 ≤ b) (b1 : b < 18446744073709551616) (w : World) : Calls Try.prog 23 #[.int .i64 3, .int .u64 a, .int .u64 b, .int .i64 64] w fun e w' => e = .returned (.bool (cnd 64 3 a b)) ∧ w = w' := by
  show Calls Try.prog 23 _ w fun e w' => e = .returned (.bool (an a b != 0)) ∧ w = w'
  obtain ⟨v, hv⟩ : ∃ v, (an a b != 0) = v := ⟨_, rfl⟩
  rw [hv]
  go_enter Try.func23, Try.ntmps23
  go_wp2_with (first | (go_at_call 34; ((with_reducible refine (rhalf64 _).mono ?_); rintro e w1 ⟨rfl, rfl⟩)) | (go_at_call 24; ((with_reducible refine (rlow64 _ _).mono ?_); rintro e w2 ⟨rfl, rfl⟩)))
  go_loop [1, 2] (fun p q => ∃ x y : Int, (0 ≤ x ∧ x < 18446744073709551616) ∧ (0 ≤ y ∧ y < 18446744073709551616) ∧ p = .int .u64 x ∧ q = .int .u64 y ∧ (an x y != 0) = v) (fun p _ => (intOf p).toNat)
  case atStart => exact ⟨a, b, ⟨a0, a1⟩, ⟨b0, b1⟩, rfl, rfl, hv⟩
  case round =>
    obtain ⟨x, y, ⟨x0, x1⟩, ⟨y0, y1⟩, rfl, rfl, hxy⟩ := hrel
    by_cases hx : 0 < x
    · by_cases hy : 0 < y
      · by_cases ho : x % 2 = 1
        · by_cases hp : y % 2 = 1
          · rw [an_both x y x0 y0 ho hp] at hxy
            subst hxy
            go_wp2
            go_ret
            exact ⟨rfl, rfl⟩
          · have hh := an_half x y x0 y0 (fun h => hp h.2)
            go_wp2
            go_round
            case rel => exact ⟨x / 2, y / 2, by omega, by omega, rfl, rfl, by rw [hh]; exact hxy⟩
            case measure => simp [intOf]; omega
        · have hh := an_half x y x0 y0 (fun h => ho h.1)
          go_wp2
          go_round
          case rel => exact ⟨x / 2, y / 2, by omega, by omega, rfl, rfl, by rw [hh]; exact hxy⟩
          case measure => simp [intOf]; omega
      · rw [an_zero x y (.inr (by omega))] at hxy
        subst hxy
        go_wp2
        go_ret
        exact ⟨rfl, rfl⟩
    · rw [an_zero x y (.inl (by omega))] at hxy
      subst hxy
      go_wp2
      go_ret
      exact ⟨rfl, rfl⟩
set_option maxHeartbeats 4000000 in
set_option maxRecDepth 100000 in
theorem rc64_4 (a b : Int) (_a0 : 0 ≤ a) (_a1 : a < 18446744073709551616) (_b0 : 0 ≤ b) (_b1 : b < 18446744073709551616) (w : World) : Calls Try.prog 23 #[.int .i64 4, .int .u64 a, .int .u64 b, .int .i64 64] w fun e w' => e = .returned (.bool (cnd 64 4 a b)) ∧ w = w' := by
  go_enter Try.func23, Try.ntmps23
  go_wp2_with (first | (go_at_call 34; ((with_reducible refine (rhalf64 _).mono ?_); rintro e w1 ⟨rfl, rfl⟩)) | (go_at_call 24; ((with_reducible refine (rlow64 _ _).mono ?_); rintro e w2 ⟨rfl, rfl⟩)))
  go_ret
  exact ⟨rfl, rfl⟩
set_option maxHeartbeats 4000000 in
set_option maxRecDepth 100000 in
theorem rc64_5 (a b : Int) (_a0 : 0 ≤ a) (_a1 : a < 18446744073709551616) (_b0 : 0 ≤ b) (_b1 : b < 18446744073709551616) (w : World) : Calls Try.prog 23 #[.int .i64 5, .int .u64 a, .int .u64 b, .int .i64 64] w fun e w' => e = .returned (.bool (cnd 64 5 a b)) ∧ w = w' := by
  have h1 := half64 a
  have h2 := half64 b
  go_enter Try.func23, Try.ntmps23
  go_wp2_with (first | (go_at_call 34; ((with_reducible refine (rhalf64 _).mono ?_); rintro e w1 ⟨rfl, rfl⟩)) | (go_at_call 24; ((with_reducible refine (rlow64 _ _).mono ?_); rintro e w2 ⟨rfl, rfl⟩)))
  go_ret
  exact ⟨ret_b' (by first | rfl | (show decide ((b + 9223372036854775808) % 18446744073709551616 < (a + 9223372036854775808) % 18446744073709551616) = decide (wrap64 b < wrap64 a); rw [h1, h2, lt_add])), rfl⟩
set_option maxHeartbeats 4000000 in
set_option maxRecDepth 100000 in
theorem rc64_6 (a b : Int) (_a0 : 0 ≤ a) (_a1 : a < 18446744073709551616) (_b0 : 0 ≤ b) (_b1 : b < 18446744073709551616) (w : World) : Calls Try.prog 23 #[.int .i64 6, .int .u64 a, .int .u64 b, .int .i64 64] w fun e w' => e = .returned (.bool (cnd 64 6 a b)) ∧ w = w' := by
  have h1 := half64 a
  have h2 := half64 b
  go_enter Try.func23, Try.ntmps23
  go_wp2_with (first | (go_at_call 34; ((with_reducible refine (rhalf64 _).mono ?_); rintro e w1 ⟨rfl, rfl⟩)) | (go_at_call 24; ((with_reducible refine (rlow64 _ _).mono ?_); rintro e w2 ⟨rfl, rfl⟩)))
  go_ret
  exact ⟨ret_b' (by first | rfl | (show decide ((b + 9223372036854775808) % 18446744073709551616 ≤ (a + 9223372036854775808) % 18446744073709551616) = decide (wrap64 b ≤ wrap64 a); rw [h1, h2, le_add])), rfl⟩
set_option maxHeartbeats 4000000 in
set_option maxRecDepth 100000 in
theorem rc64_7 (a b : Int) (_a0 : 0 ≤ a) (_a1 : a < 18446744073709551616) (_b0 : 0 ≤ b) (_b1 : b < 18446744073709551616) (w : World) : Calls Try.prog 23 #[.int .i64 7, .int .u64 a, .int .u64 b, .int .i64 64] w fun e w' => e = .returned (.bool (cnd 64 7 a b)) ∧ w = w' := by
  go_enter Try.func23, Try.ntmps23
  go_wp2_with (first | (go_at_call 34; ((with_reducible refine (rhalf64 _).mono ?_); rintro e w1 ⟨rfl, rfl⟩)) | (go_at_call 24; ((with_reducible refine (rlow64 _ _).mono ?_); rintro e w2 ⟨rfl, rfl⟩)))
  go_ret
  exact ⟨rfl, rfl⟩
set_option maxHeartbeats 4000000 in
set_option maxRecDepth 100000 in
theorem rc64_8 (a b : Int) (_a0 : 0 ≤ a) (_a1 : a < 18446744073709551616) (_b0 : 0 ≤ b) (_b1 : b < 18446744073709551616) (w : World) : Calls Try.prog 23 #[.int .i64 8, .int .u64 a, .int .u64 b, .int .i64 64] w fun e w' => e = .returned (.bool (cnd 64 8 a b)) ∧ w = w' := by
  go_enter Try.func23, Try.ntmps23
  go_wp2_with (first | (go_at_call 34; ((with_reducible refine (rhalf64 _).mono ?_); rintro e w1 ⟨rfl, rfl⟩)) | (go_at_call 24; ((with_reducible refine (rlow64 _ _).mono ?_); rintro e w2 ⟨rfl, rfl⟩)))
  go_ret
  exact ⟨rfl, rfl⟩
set_option maxHeartbeats 4000000 in
set_option maxRecDepth 100000 in
theorem rc64_9 (a b : Int) (_a0 : 0 ≤ a) (_a1 : a < 18446744073709551616) (_b0 : 0 ≤ b) (_b1 : b < 18446744073709551616) (w : World) : Calls Try.prog 23 #[.int .i64 9, .int .u64 a, .int .u64 b, .int .i64 64] w fun e w' => e = .returned (.bool (cnd 64 9 a b)) ∧ w = w' := by
  have h1 := half64 a
  have h2 := half64 b
  go_enter Try.func23, Try.ntmps23
  go_wp2_with (first | (go_at_call 34; ((with_reducible refine (rhalf64 _).mono ?_); rintro e w1 ⟨rfl, rfl⟩)) | (go_at_call 24; ((with_reducible refine (rlow64 _ _).mono ?_); rintro e w2 ⟨rfl, rfl⟩)))
  go_ret
  exact ⟨ret_b' (by first | rfl | (show decide ((a + 9223372036854775808) % 18446744073709551616 < (b + 9223372036854775808) % 18446744073709551616) = decide (wrap64 a < wrap64 b); rw [h1, h2, lt_add])), rfl⟩
set_option maxHeartbeats 4000000 in
set_option maxRecDepth 100000 in
theorem rc64_10 (a b : Int) (_a0 : 0 ≤ a) (_a1 : a < 18446744073709551616) (_b0 : 0 ≤ b) (_b1 : b < 18446744073709551616) (w : World) : Calls Try.prog 23 #[.int .i64 10, .int .u64 a, .int .u64 b, .int .i64 64] w fun e w' => e = .returned (.bool (cnd 64 10 a b)) ∧ w = w' := by
  have h1 := half64 a
  have h2 := half64 b
  go_enter Try.func23, Try.ntmps23
  go_wp2_with (first | (go_at_call 34; ((with_reducible refine (rhalf64 _).mono ?_); rintro e w1 ⟨rfl, rfl⟩)) | (go_at_call 24; ((with_reducible refine (rlow64 _ _).mono ?_); rintro e w2 ⟨rfl, rfl⟩)))
  go_ret
  exact ⟨ret_b' (by first | rfl | (show decide ((a + 9223372036854775808) % 18446744073709551616 ≤ (b + 9223372036854775808) % 18446744073709551616) = decide (wrap64 a ≤ wrap64 b); rw [h1, h2, le_add])), rfl⟩
set_option maxHeartbeats 4000000 in
set_option maxRecDepth 100000 in
theorem rc32_0 (a b : Int) (a0 : 0 ≤ a) (a1 : a < 4294967296) (b0 : 0 ≤ b) (b1 : b < 4294967296) (w : World) : Calls Try.prog 23 #[.int .i64 0, .int .u64 a, .int .u64 b, .int .i64 32] w fun e w' => e = .returned (.bool (cnd 32 0 a b)) ∧ w = w' := by
  go_enter Try.func23, Try.ntmps23
  go_wp2_with (first | (go_at_call 34; ((with_reducible refine (rhalf32 _).mono ?_); rintro e w1 ⟨rfl, rfl⟩)) | (go_at_call 24; ((with_reducible refine (rlow32 _ _ (by omega)).mono ?_); rintro e w2 ⟨rfl, rfl⟩)))
  go_ret
  exact ⟨rfl, rfl⟩
set_option maxHeartbeats 4000000 in
set_option maxRecDepth 100000 in
theorem rc32_1 (a b : Int) (a0 : 0 ≤ a) (a1 : a < 4294967296) (b0 : 0 ≤ b) (b1 : b < 4294967296) (w : World) : Calls Try.prog 23 #[.int .i64 1, .int .u64 a, .int .u64 b, .int .i64 32] w fun e w' => e = .returned (.bool (cnd 32 1 a b)) ∧ w = w' := by
  go_enter Try.func23, Try.ntmps23
  go_wp2_with (first | (go_at_call 34; ((with_reducible refine (rhalf32 _).mono ?_); rintro e w1 ⟨rfl, rfl⟩)) | (go_at_call 24; ((with_reducible refine (rlow32 _ _ (by omega)).mono ?_); rintro e w2 ⟨rfl, rfl⟩)))
  go_ret
  exact ⟨rfl, rfl⟩
set_option maxHeartbeats 4000000 in
set_option maxRecDepth 100000 in
theorem rc32_2 (a b : Int) (a0 : 0 ≤ a) (a1 : a < 4294967296) (b0 : 0 ≤ b) (b1 : b < 4294967296) (w : World) : Calls Try.prog 23 #[.int .i64 2, .int .u64 a, .int .u64 b, .int .i64 32] w fun e w' => e = .returned (.bool (cnd 32 2 a b)) ∧ w = w' := by
  go_enter Try.func23, Try.ntmps23
  go_wp2_with (first | (go_at_call 34; ((with_reducible refine (rhalf32 _).mono ?_); rintro e w1 ⟨rfl, rfl⟩)) | (go_at_call 24; ((with_reducible refine (rlow32 _ _ (by omega)).mono ?_); rintro e w2 ⟨rfl, rfl⟩)))
  go_ret
  exact ⟨rfl, rfl⟩
set_option maxHeartbeats 4000000 in
set_option maxRecDepth 100000 in
theorem rc32_3 (a b : Int) (a0 : 0 ≤ a) (a1 : a < 4294967296) (b0 : 0 ≤ b) (b1 : b < 4294967296) (w : World) : Calls Try.prog 23 #[.int .i64 3, .int .u64 a, .int .u64 b, .int .i64 32] w fun e w' => e = .returned (.bool (cnd 32 3 a b)) ∧ w = w' := by
  show Calls Try.prog 23 _ w fun e w' => e = .returned (.bool (an a b != 0)) ∧ w = w'
  obtain ⟨v, hv⟩ : ∃ v, (an a b != 0) = v := ⟨_, rfl⟩
  rw [hv]
  go_enter Try.func23, Try.ntmps23
  go_wp2_with (first | (go_at_call 34; ((with_reducible refine (rhalf32 _).mono ?_); rintro e w1 ⟨rfl, rfl⟩)) | (go_at_call 24; ((with_reducible refine (rlow32 _ _ (by omega)).mono ?_); rintro e w2 ⟨rfl, rfl⟩)))
  go_loop [1, 2] (fun p q => ∃ x y : Int, (0 ≤ x ∧ x < 4294967296) ∧ (0 ≤ y ∧ y < 4294967296) ∧ p = .int .u64 x ∧ q = .int .u64 y ∧ (an x y != 0) = v) (fun p _ => (intOf p).toNat)
  case atStart => exact ⟨a, b, ⟨a0, a1⟩, ⟨b0, b1⟩, rfl, rfl, hv⟩
  case round =>
    obtain ⟨x, y, ⟨x0, x1⟩, ⟨y0, y1⟩, rfl, rfl, hxy⟩ := hrel
    by_cases hx : 0 < x
    · by_cases hy : 0 < y
      · by_cases ho : x % 2 = 1
        · by_cases hp : y % 2 = 1
          · rw [an_both x y x0 y0 ho hp] at hxy
            subst hxy
            go_wp2
            go_ret
            exact ⟨rfl, rfl⟩
          · have hh := an_half x y x0 y0 (fun h => hp h.2)
            go_wp2
            go_round
            case rel => exact ⟨x / 2, y / 2, by omega, by omega, rfl, rfl, by rw [hh]; exact hxy⟩
            case measure => simp [intOf]; omega
        · have hh := an_half x y x0 y0 (fun h => ho h.1)
          go_wp2
          go_round
          case rel => exact ⟨x / 2, y / 2, by omega, by omega, rfl, rfl, by rw [hh]; exact hxy⟩
          case measure => simp [intOf]; omega
      · rw [an_zero x y (.inr (by omega))] at hxy
        subst hxy
        go_wp2
        go_ret
        exact ⟨rfl, rfl⟩
    · rw [an_zero x y (.inl (by omega))] at hxy
      subst hxy
      go_wp2
      go_ret
      exact ⟨rfl, rfl⟩
set_option maxHeartbeats 4000000 in
set_option maxRecDepth 100000 in
theorem rc32_4 (a b : Int) (a0 : 0 ≤ a) (a1 : a < 4294967296) (b0 : 0 ≤ b) (b1 : b < 4294967296) (w : World) : Calls Try.prog 23 #[.int .i64 4, .int .u64 a, .int .u64 b, .int .i64 32] w fun e w' => e = .returned (.bool (cnd 32 4 a b)) ∧ w = w' := by
  go_enter Try.func23, Try.ntmps23
  go_wp2_with (first | (go_at_call 34; ((with_reducible refine (rhalf32 _).mono ?_); rintro e w1 ⟨rfl, rfl⟩)) | (go_at_call 24; ((with_reducible refine (rlow32 _ _ (by omega)).mono ?_); rintro e w2 ⟨rfl, rfl⟩)))
  go_ret
  exact ⟨rfl, rfl⟩
set_option maxHeartbeats 4000000 in
set_option maxRecDepth 100000 in
theorem rc32_5 (a b : Int) (a0 : 0 ≤ a) (a1 : a < 4294967296) (b0 : 0 ≤ b) (b1 : b < 4294967296) (w : World) : Calls Try.prog 23 #[.int .i64 5, .int .u64 a, .int .u64 b, .int .i64 32] w fun e w' => e = .returned (.bool (cnd 32 5 a b)) ∧ w = w' := by
  have h1 : (a + 2147483648) % 4294967296 = wrap32 a + 2147483648 := half32 a
  have h2 : (b + 2147483648) % 4294967296 = wrap32 b + 2147483648 := half32 b
  go_enter Try.func23, Try.ntmps23
  go_wp2_with (first | (go_at_call 34; ((with_reducible refine (rhalf32 _).mono ?_); rintro e w1 ⟨rfl, rfl⟩)) | (go_at_call 24; ((with_reducible refine (rlow32 _ _ (by omega)).mono ?_); rintro e w2 ⟨rfl, rfl⟩)))
  go_ret
  exact ⟨ret_b' (by first | rfl | (show decide ((b + 2147483648) % 4294967296 < (a + 2147483648) % 4294967296) = decide (wrap32 b < wrap32 a); rw [h1, h2, lt_add])), rfl⟩
set_option maxHeartbeats 4000000 in
set_option maxRecDepth 100000 in
theorem rc32_6 (a b : Int) (a0 : 0 ≤ a) (a1 : a < 4294967296) (b0 : 0 ≤ b) (b1 : b < 4294967296) (w : World) : Calls Try.prog 23 #[.int .i64 6, .int .u64 a, .int .u64 b, .int .i64 32] w fun e w' => e = .returned (.bool (cnd 32 6 a b)) ∧ w = w' := by
  have h1 : (a + 2147483648) % 4294967296 = wrap32 a + 2147483648 := half32 a
  have h2 : (b + 2147483648) % 4294967296 = wrap32 b + 2147483648 := half32 b
  go_enter Try.func23, Try.ntmps23
  go_wp2_with (first | (go_at_call 34; ((with_reducible refine (rhalf32 _).mono ?_); rintro e w1 ⟨rfl, rfl⟩)) | (go_at_call 24; ((with_reducible refine (rlow32 _ _ (by omega)).mono ?_); rintro e w2 ⟨rfl, rfl⟩)))
  go_ret
  exact ⟨ret_b' (by first | rfl | (show decide ((b + 2147483648) % 4294967296 ≤ (a + 2147483648) % 4294967296) = decide (wrap32 b ≤ wrap32 a); rw [h1, h2, le_add])), rfl⟩
set_option maxHeartbeats 4000000 in
set_option maxRecDepth 100000 in
theorem rc32_7 (a b : Int) (a0 : 0 ≤ a) (a1 : a < 4294967296) (b0 : 0 ≤ b) (b1 : b < 4294967296) (w : World) : Calls Try.prog 23 #[.int .i64 7, .int .u64 a, .int .u64 b, .int .i64 32] w fun e w' => e = .returned (.bool (cnd 32 7 a b)) ∧ w = w' := by
  go_enter Try.func23, Try.ntmps23
  go_wp2_with (first | (go_at_call 34; ((with_reducible refine (rhalf32 _).mono ?_); rintro e w1 ⟨rfl, rfl⟩)) | (go_at_call 24; ((with_reducible refine (rlow32 _ _ (by omega)).mono ?_); rintro e w2 ⟨rfl, rfl⟩)))
  go_ret
  exact ⟨rfl, rfl⟩
set_option maxHeartbeats 4000000 in
set_option maxRecDepth 100000 in
theorem rc32_8 (a b : Int) (a0 : 0 ≤ a) (a1 : a < 4294967296) (b0 : 0 ≤ b) (b1 : b < 4294967296) (w : World) : Calls Try.prog 23 #[.int .i64 8, .int .u64 a, .int .u64 b, .int .i64 32] w fun e w' => e = .returned (.bool (cnd 32 8 a b)) ∧ w = w' := by
  go_enter Try.func23, Try.ntmps23
  go_wp2_with (first | (go_at_call 34; ((with_reducible refine (rhalf32 _).mono ?_); rintro e w1 ⟨rfl, rfl⟩)) | (go_at_call 24; ((with_reducible refine (rlow32 _ _ (by omega)).mono ?_); rintro e w2 ⟨rfl, rfl⟩)))
  go_ret
  exact ⟨rfl, rfl⟩
set_option maxHeartbeats 4000000 in
set_option maxRecDepth 100000 in
theorem rc32_9 (a b : Int) (a0 : 0 ≤ a) (a1 : a < 4294967296) (b0 : 0 ≤ b) (b1 : b < 4294967296) (w : World) : Calls Try.prog 23 #[.int .i64 9, .int .u64 a, .int .u64 b, .int .i64 32] w fun e w' => e = .returned (.bool (cnd 32 9 a b)) ∧ w = w' := by
  have h1 : (a + 2147483648) % 4294967296 = wrap32 a + 2147483648 := half32 a
  have h2 : (b + 2147483648) % 4294967296 = wrap32 b + 2147483648 := half32 b
  go_enter Try.func23, Try.ntmps23
  go_wp2_with (first | (go_at_call 34; ((with_reducible refine (rhalf32 _).mono ?_); rintro e w1 ⟨rfl, rfl⟩)) | (go_at_call 24; ((with_reducible refine (rlow32 _ _ (by omega)).mono ?_); rintro e w2 ⟨rfl, rfl⟩)))
  go_ret
  exact ⟨ret_b' (by first | rfl | (show decide ((a + 2147483648) % 4294967296 < (b + 2147483648) % 4294967296) = decide (wrap32 a < wrap32 b); rw [h1, h2, lt_add])), rfl⟩
set_option maxHeartbeats 4000000 in
set_option maxRecDepth 100000 in
theorem rc32_10 (a b : Int) (a0 : 0 ≤ a) (a1 : a < 4294967296) (b0 : 0 ≤ b) (b1 : b < 4294967296) (w : World) : Calls Try.prog 23 #[.int .i64 10, .int .u64 a, .int .u64 b, .int .i64 32] w fun e w' => e = .returned (.bool (cnd 32 10 a b)) ∧ w = w' := by
  have h1 : (a + 2147483648) % 4294967296 = wrap32 a + 2147483648 := half32 a
  have h2 : (b + 2147483648) % 4294967296 = wrap32 b + 2147483648 := half32 b
  go_enter Try.func23, Try.ntmps23
  go_wp2_with (first | (go_at_call 34; ((with_reducible refine (rhalf32 _).mono ?_); rintro e w1 ⟨rfl, rfl⟩)) | (go_at_call 24; ((with_reducible refine (rlow32 _ _ (by omega)).mono ?_); rintro e w2 ⟨rfl, rfl⟩)))
  go_ret
  exact ⟨ret_b' (by first | rfl | (show decide ((a + 2147483648) % 4294967296 ≤ (b + 2147483648) % 4294967296) = decide (wrap32 a ≤ wrap32 b); rw [h1, h2, le_add])), rfl⟩
theorem rc64 (i : Nat) (h : i < 11) (a b : Int) (a0 : 0 ≤ a) (a1 : a < 18446744073709551616) (b0 : 0 ≤ b) (b1 : b < 18446744073709551616) (w : World) : Calls Try.prog 23 #[.int .i64 (i : Int), .int .u64 a, .int .u64 b, .int .i64 64] w fun e w' => e = .returned (.bool (cnd 64 i a b)) ∧ w = w' :=
  match i, h with
  | 0, _ => rc64_0 a b a0 a1 b0 b1 w
  | 1, _ => rc64_1 a b a0 a1 b0 b1 w
  | 2, _ => rc64_2 a b a0 a1 b0 b1 w
  | 3, _ => rc64_3 a b a0 a1 b0 b1 w
  | 4, _ => rc64_4 a b a0 a1 b0 b1 w
  | 5, _ => rc64_5 a b a0 a1 b0 b1 w
  | 6, _ => rc64_6 a b a0 a1 b0 b1 w
  | 7, _ => rc64_7 a b a0 a1 b0 b1 w
  | 8, _ => rc64_8 a b a0 a1 b0 b1 w
  | 9, _ => rc64_9 a b a0 a1 b0 b1 w
  | 10, _ => rc64_10 a b a0 a1 b0 b1 w
  | _ + 11, h => absurd h (by omega)
theorem rc32 (i : Nat) (h : i < 11) (a b : Int) (a0 : 0 ≤ a) (a1 : a < 4294967296) (b0 : 0 ≤ b) (b1 : b < 4294967296) (w : World) : Calls Try.prog 23 #[.int .i64 (i : Int), .int .u64 a, .int .u64 b, .int .i64 32] w fun e w' => e = .returned (.bool (cnd 32 i a b)) ∧ w = w' :=
  match i, h with
  | 0, _ => rc32_0 a b a0 a1 b0 b1 w
  | 1, _ => rc32_1 a b a0 a1 b0 b1 w
  | 2, _ => rc32_2 a b a0 a1 b0 b1 w
  | 3, _ => rc32_3 a b a0 a1 b0 b1 w
  | 4, _ => rc32_4 a b a0 a1 b0 b1 w
  | 5, _ => rc32_5 a b a0 a1 b0 b1 w
  | 6, _ => rc32_6 a b a0 a1 b0 b1 w
  | 7, _ => rc32_7 a b a0 a1 b0 b1 w
  | 8, _ => rc32_8 a b a0 a1 b0 b1 w
  | 9, _ => rc32_9 a b a0 a1 b0 b1 w
  | 10, _ => rc32_10 a b a0 a1 b0 b1 w
  | _ + 11, h => absurd h (by omega)
end Go.Proofs.Ytiklgnokojkoeaa
