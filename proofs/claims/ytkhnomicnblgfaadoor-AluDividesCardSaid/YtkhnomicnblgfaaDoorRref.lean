/- What the reference's small functions of layer 6 return. Condition: the numbers have 64 bits. -/
import Derived.Test.YtkhnomicnblgfaaDoorDo
namespace Go.Proofs.YtkhnomicnblgfaaDoor
open Go.RowKit L1 L3

theorem rlow64 (x : Int) (w : World) : Calls Tryd.prog 23 #[.int .u64 x, .int .i64 64] w fun e w' => e = .returned (.int .u64 x) ∧ w = w' := by
  go_enter Tryd.func23, Tryd.ntmps23
  go_wp2
  go_ret
  exact ⟨rfl, rfl⟩
theorem rlow32 (x : Int) (w : World) (h0 : 0 ≤ x) : Calls Tryd.prog 23 #[.int .u64 x, .int .i64 32] w fun e w' => e = .returned (.int .u64 (x % 4294967296)) ∧ w = w' := by
  have HP := Lib.hid (power_at 32 32 4294967296 w rfl (by decide) rfl)
  go_enter Tryd.func23, Tryd.ntmps23
  go_wp2_with (go_at_call 27; ((with_reducible refine (HP.out).mono ?_); rintro e w1 ⟨rfl, rfl⟩))
  go_ret
  exact ⟨rfl, rfl⟩
theorem rlow16 (x : Int) (w : World) (h0 : 0 ≤ x) : Calls Tryd.prog 23 #[.int .u64 x, .int .i64 16] w fun e w' => e = .returned (.int .u64 (x % 65536)) ∧ w = w' := by
  have HP := Lib.hid (power_at 16 16 65536 w rfl (by decide) rfl)
  go_enter Tryd.func23, Tryd.ntmps23
  go_wp2_with (go_at_call 27; ((with_reducible refine (HP.out).mono ?_); rintro e w1 ⟨rfl, rfl⟩))
  go_ret
  exact ⟨rfl, rfl⟩

theorem half_b (C : Int) (k : Nat) (h0 : 0 ≤ C) (h1 : C < 18446744073709551616) : 0 ≤ C / (2 : Int) ^ (k + 1) ∧ C / (2 : Int) ^ (k + 1) < 9223372036854775808 := by
  have e : C / (2 : Int) ^ (k + 1) = C / 2 / (2 : Int) ^ k := by
    rw [Int.pow_succ, Int.mul_comm, ← Int.ediv_ediv_of_nonneg (by decide)]
  have p : (0 : Int) ≤ (2 : Int) ^ k := Int.pow_nonneg (by decide)
  have := ediv_b (C / 2) ((2 : Int) ^ k) (by omega) p
  rw [e]
  omega

set_option maxHeartbeats 4000000 in
set_option maxRecDepth 100000 in
theorem rbitwise (ki : Int) (kind : Nat) (hk : (ki = 0 ∧ kind = 0) ∨ (ki = 1 ∧ kind = 1) ∨ (ki = 2 ∧ kind = 2)) (a b : Int) (w : World) (h0 : 0 ≤ a) (h1 : a < 18446744073709551616) (k0 : 0 ≤ b) (k1 : b < 18446744073709551616) :
    Calls Tryd.prog 72 #[.int .i64 ki, .int .u64 a, .int .u64 b] w fun e w' => e = .returned (.int .u64 (bw kind a b)) ∧ w = w' := by
  have c0 := bw_nonneg kind a b
  have c1 := bw_b kind a b h0 h1 k0 k1
  have HS := Lib.hid (bw_step kind a b)
  have HB := Lib.hid (fun k => half_b (bw kind a b) k c0 c1)
  have HZ := Lib.hid (show bw kind a b / (2 : Int) ^ 64 = 0 from Int.ediv_eq_zero_of_lt c0 c1)
  obtain ⟨C, hC⟩ : ∃ C, bw kind a b = C := ⟨_, rfl⟩
  rw [hC] at HS HB HZ ⊢
  clear c0 c1 hC
  rcases hk with ⟨rfl, rfl⟩ | ⟨rfl, rfl⟩ | ⟨rfl, rfl⟩
  all_goals
    go_enter Tryd.func72, Tryd.ntmps72
    go_wp2
    go_loop [7, 8] (fun o i => ∃ j : Nat, j ≤ 64 ∧ i = .int .i64 ((j : Int) - 1) ∧ o = .int .u64 (C / (2 : Int) ^ j)) (fun _ i => (intOf i + 1).toNat)
    case atStart => exact ⟨64, by decide, rfl, by rw [HZ.out]⟩
    case round =>
      obtain ⟨j, hj, rfl, rfl⟩ := hrel
      cases j with
      | zero =>
        have e0 : ((0 : Nat) : Int) - 1 = -1 := rfl
        rw [e0]
        go_wp2
        go_ret
        exact ⟨rfl, rfl⟩
      | succ k =>
        have e0 : ((k + 1 : Nat) : Int) - 1 = (k : Int) := by omega
        rw [e0]
        have hk63 : k ≤ 63 := by omega
        have p0 : 0 ≤ (2 : Int) ^ k := Int.pow_nonneg (by decide)
        have pz : ¬ (2 : Int) ^ k = 0 := by have := Int.pow_pos (n := 2) (m := k) (by decide); omega
        have q0 := (ediv_b a _ h0 p0).1
        have q1 := (ediv_b b _ k0 p0).1
        have s := HS.out k
        have hb := HB.out k
        have hpa := tbI_eq a k h0
        have hpb := tbI_eq b k k0
        have hm : -1 ≤ (k : Int) - 1 := by omega
        have HP := Lib.hid (power_any k w hk63)
        generalize C / (2 : Int) ^ (k + 1) = q at s hb ⊢
        obtain ⟨d0, d1⟩ := hb
        have HSS := Lib.hid s
        clear s e0
        cases ta : tbI a k <;> cases tb : tbI b k
        all_goals
          rw [ta] at hpa
          rw [tb] at hpb
          rw [ta, tb] at HSS
          have na : (a / (2 : Int) ^ k % 2 == 1) = tbI a k := by rw [hpa, ta]; rfl
          have nb : (b / (2 : Int) ^ k % 2 == 1) = tbI b k := by rw [hpb, tb]; rfl
          rw [ta] at na
          rw [tb] at nb
          have HX := Lib.hid HSS.out
          simp only [bk] at HX
          clear hpa hpb ta tb HSS
          go_wp2_with (go_at_call 27; ((with_reducible refine (HP.out).mono ?_); rintro e w1 ⟨rfl, rfl⟩))
          go_round
          case rel => exact ⟨k, by omega, by first | rfl | go_num, by rw [HX.out]; first | rfl | go_num | simp⟩
          case measure => simp [intOf]

set_option maxHeartbeats 2000000 in
set_option maxRecDepth 100000 in
theorem rshift0_64 (a : Int) (c : Nat) (w : World) (h0 : 0 ≤ a) (h1 : a < 18446744073709551616) (hc : c ≤ 64) :
    Calls Tryd.prog 73 #[.int .i64 0, .int .u64 a, .int .i64 (c : Int), .int .i64 64] w fun e w' => e = .returned (.int .u64 (a * (2 : Int) ^ c % 18446744073709551616)) ∧ w = w' := by
  have HS := Lib.hid (fun j : Nat => shl_step a j)
  have H0 := Lib.hid (show a = a * (2 : Int) ^ 0 % 18446744073709551616 from by rw [Int.pow_zero, Int.mul_one]; exact (Int.emod_eq_of_lt h0 (by omega)).symm)
  have HP := Lib.hid (power_at 63 63 9223372036854775808 w rfl (by decide) rfl)
  have HL := Lib.hid (fun x => rlow64 x w)
  go_enter Tryd.func73, Tryd.ntmps73
  go_wp2
  go_loop [1, 9] (fun x i => ∃ (j : Nat) (y : Int), j ≤ c ∧ i = .int .i64 (j : Int) ∧ x = .int .u64 y ∧ 0 ≤ y ∧ y < 18446744073709551616 ∧ Hid (y = a * (2 : Int) ^ j % 18446744073709551616)) (fun _ i => c - (intOf i).toNat)
  case atStart => exact ⟨0, a, Nat.zero_le _, rfl, rfl, h0, by omega, Lib.hid H0.out⟩
  case round =>
    obtain ⟨j, y, hj, rfl, rfl, y0, y1, hY⟩ := hrel
    by_cases hlt : j < c
    · have hlt' : (j : Int) < (c : Int) := by omega
      have HN := Lib.hid (show y * 2 % 18446744073709551616 = a * (2 : Int) ^ (j + 1) % 18446744073709551616 by rw [hY.out]; exact HS.out j)
      have n0 : 0 ≤ y * 2 % 18446744073709551616 := by omega
      go_wp2_with (first | (go_at_call 27; ((with_reducible refine (HP.out).mono ?_); rintro e w1 ⟨rfl, rfl⟩)) | (go_at_call 23; ((with_reducible refine (HL.out _).mono ?_); rintro e w1 ⟨rfl, rfl⟩)))
      go_round
      case rel => exact ⟨j + 1, y * 2 % 18446744073709551616, by omega, by go_num, by first | rfl | go_num | (congr 1), n0, by omega, HN⟩
      case measure => simp [intOf]; omega
    · have hge : ¬ (j : Int) < (c : Int) := by omega
      obtain rfl : j = c := by omega
      go_wp2
      go_ret
      exact ⟨ret_int hY.out, rfl⟩

set_option maxHeartbeats 2000000 in
set_option maxRecDepth 100000 in
theorem rshift1_64 (a : Int) (c : Nat) (w : World) (h0 : 0 ≤ a) (h1 : a < 18446744073709551616) (hc : c ≤ 64) :
    Calls Tryd.prog 73 #[.int .i64 1, .int .u64 a, .int .i64 (c : Int), .int .i64 64] w fun e w' => e = .returned (.int .u64 (a / (2 : Int) ^ c)) ∧ w = w' := by
  have HS := Lib.hid (fun j : Nat => shr_step a j)
  have H0 := Lib.hid (show a = a / (2 : Int) ^ 0 from by rw [Int.pow_zero, Int.ediv_one])
  have HP := Lib.hid (power_at 63 63 9223372036854775808 w rfl (by decide) rfl)
  have HL := Lib.hid (fun x => rlow64 x w)
  go_enter Tryd.func73, Tryd.ntmps73
  go_wp2
  go_loop [1, 9] (fun x i => ∃ (j : Nat) (y : Int), j ≤ c ∧ i = .int .i64 (j : Int) ∧ x = .int .u64 y ∧ 0 ≤ y ∧ y < 18446744073709551616 ∧ Hid (y = a / (2 : Int) ^ j)) (fun _ i => c - (intOf i).toNat)
  case atStart => exact ⟨0, a, Nat.zero_le _, rfl, rfl, h0, by omega, Lib.hid H0.out⟩
  case round =>
    obtain ⟨j, y, hj, rfl, rfl, y0, y1, hY⟩ := hrel
    by_cases hlt : j < c
    · have hlt' : (j : Int) < (c : Int) := by omega
      have HN := Lib.hid (show y / 2 = a / (2 : Int) ^ (j + 1) by rw [hY.out]; exact HS.out j)
      have n0 : 0 ≤ y / 2 := by omega
      go_wp2_with (first | (go_at_call 27; ((with_reducible refine (HP.out).mono ?_); rintro e w1 ⟨rfl, rfl⟩)) | (go_at_call 23; ((with_reducible refine (HL.out _).mono ?_); rintro e w1 ⟨rfl, rfl⟩)))
      go_round
      case rel => exact ⟨j + 1, y / 2, by omega, by go_num, by first | rfl | go_num | (congr 1), n0, by omega, HN⟩
      case measure => simp [intOf]; omega
    · have hge : ¬ (j : Int) < (c : Int) := by omega
      obtain rfl : j = c := by omega
      go_wp2
      go_ret
      exact ⟨ret_int hY.out, rfl⟩

set_option maxHeartbeats 2000000 in
set_option maxRecDepth 100000 in
theorem rshift2_64 (a : Int) (c : Nat) (w : World) (h0 : 0 ≤ a) (h1 : a < 18446744073709551616) (hc : c ≤ 64) :
    Calls Tryd.prog 73 #[.int .i64 2, .int .u64 a, .int .i64 (c : Int), .int .i64 64] w fun e w' => e = .returned (.int .u64 (sx 64 a / (2 : Int) ^ c % 18446744073709551616)) ∧ w = w' := by
  have sb : -9223372036854775808 ≤ sx 64 a ∧ sx 64 a < 9223372036854775808 := by simp only [sx]; simp; omega
  have HS := Lib.hid (fun j : Nat => sar_step64 (sx 64 a) j sb.1 sb.2)
  have H0 := Lib.hid (show a = sx 64 a / (2 : Int) ^ 0 % 18446744073709551616 from by rw [Int.pow_zero, Int.ediv_one]; simp only [sx]; simp; omega)
  have HP := Lib.hid (power_at 63 63 9223372036854775808 w rfl (by decide) rfl)
  have HL := Lib.hid (fun x => rlow64 x w)
  clear sb
  go_enter Tryd.func73, Tryd.ntmps73
  go_wp2
  go_loop [1, 9] (fun x i => ∃ (j : Nat) (y : Int), j ≤ c ∧ i = .int .i64 (j : Int) ∧ x = .int .u64 y ∧ 0 ≤ y ∧ y < 18446744073709551616 ∧ Hid (y = sx 64 a / (2 : Int) ^ j % 18446744073709551616)) (fun _ i => c - (intOf i).toNat)
  case atStart => exact ⟨0, a, Nat.zero_le _, rfl, rfl, h0, by omega, Lib.hid H0.out⟩
  case round =>
    obtain ⟨j, y, hj, rfl, rfl, y0, y1, hY⟩ := hrel
    by_cases hlt : j < c
    · have hlt' : (j : Int) < (c : Int) := by omega
      have u0 : 0 ≤ y / 9223372036854775808 * 9223372036854775808 := by omega
      have u1 : y / 2 + y / 9223372036854775808 * 9223372036854775808 < 18446744073709551616 := by omega
      have HN := Lib.hid (show y / 2 + y / 9223372036854775808 * 9223372036854775808 = sx 64 a / (2 : Int) ^ (j + 1) % 18446744073709551616 by rw [hY.out]; exact HS.out j)
      have n0 : 0 ≤ y / 2 + y / 9223372036854775808 * 9223372036854775808 := by omega
      go_wp2_with (first | (go_at_call 27; ((with_reducible refine (HP.out).mono ?_); rintro e w1 ⟨rfl, rfl⟩)) | (go_at_call 23; ((with_reducible refine (HL.out _).mono ?_); rintro e w1 ⟨rfl, rfl⟩)))
      go_round
      case rel => exact ⟨j + 1, y / 2 + y / 9223372036854775808 * 9223372036854775808, by omega, by go_num, by first | rfl | go_num | (congr 1), n0, by omega, HN⟩
      case measure => simp [intOf]; omega
    · have hge : ¬ (j : Int) < (c : Int) := by omega
      obtain rfl : j = c := by omega
      go_wp2
      go_ret
      exact ⟨ret_int hY.out, rfl⟩

set_option maxHeartbeats 2000000 in
set_option maxRecDepth 100000 in
theorem rshift0_32 (a : Int) (c : Nat) (w : World) (h0 : 0 ≤ a) (h1 : a < 4294967296) (hc : c ≤ 64) :
    Calls Tryd.prog 73 #[.int .i64 0, .int .u64 a, .int .i64 (c : Int), .int .i64 32] w fun e w' => e = .returned (.int .u64 (a * (2 : Int) ^ c % 18446744073709551616)) ∧ w = w' := by
  have HS := Lib.hid (fun j : Nat => shl_step a j)
  have H0 := Lib.hid (show a = a * (2 : Int) ^ 0 % 18446744073709551616 from by rw [Int.pow_zero, Int.mul_one]; exact (Int.emod_eq_of_lt h0 (by omega)).symm)
  have HP := Lib.hid (power_at 31 31 2147483648 w rfl (by decide) rfl)
  have HL := Lib.hid (fun x => rlow32 x w)
  go_enter Tryd.func73, Tryd.ntmps73
  go_wp2
  go_loop [1, 9] (fun x i => ∃ (j : Nat) (y : Int), j ≤ c ∧ i = .int .i64 (j : Int) ∧ x = .int .u64 y ∧ 0 ≤ y ∧ y < 18446744073709551616 ∧ Hid (y = a * (2 : Int) ^ j % 18446744073709551616)) (fun _ i => c - (intOf i).toNat)
  case atStart => exact ⟨0, a, Nat.zero_le _, rfl, rfl, h0, by omega, Lib.hid H0.out⟩
  case round =>
    obtain ⟨j, y, hj, rfl, rfl, y0, y1, hY⟩ := hrel
    by_cases hlt : j < c
    · have hlt' : (j : Int) < (c : Int) := by omega
      have ym0 : 0 ≤ y % 4294967296 := by omega
      have HN := Lib.hid (show y * 2 % 18446744073709551616 = a * (2 : Int) ^ (j + 1) % 18446744073709551616 by rw [hY.out]; exact HS.out j)
      have n0 : 0 ≤ y * 2 % 18446744073709551616 := by omega
      go_wp2_with (first | (go_at_call 27; ((with_reducible refine (HP.out).mono ?_); rintro e w1 ⟨rfl, rfl⟩)) | (go_at_call 23; ((with_reducible refine (HL.out _ y0).mono ?_); rintro e w1 ⟨rfl, rfl⟩)))
      go_round
      case rel => exact ⟨j + 1, y * 2 % 18446744073709551616, by omega, by go_num, by first | rfl | go_num | (congr 1), n0, by omega, HN⟩
      case measure => simp [intOf]; omega
    · have hge : ¬ (j : Int) < (c : Int) := by omega
      obtain rfl : j = c := by omega
      go_wp2
      go_ret
      exact ⟨ret_int hY.out, rfl⟩

set_option maxHeartbeats 2000000 in
set_option maxRecDepth 100000 in
theorem rshift1_32 (a : Int) (c : Nat) (w : World) (h0 : 0 ≤ a) (h1 : a < 4294967296) (hc : c ≤ 64) :
    Calls Tryd.prog 73 #[.int .i64 1, .int .u64 a, .int .i64 (c : Int), .int .i64 32] w fun e w' => e = .returned (.int .u64 (a / (2 : Int) ^ c)) ∧ w = w' := by
  have HS := Lib.hid (fun j : Nat => shr_step a j)
  have H0 := Lib.hid (show a = a / (2 : Int) ^ 0 from by rw [Int.pow_zero, Int.ediv_one])
  have HP := Lib.hid (power_at 31 31 2147483648 w rfl (by decide) rfl)
  have HL := Lib.hid (fun x => rlow32 x w)
  go_enter Tryd.func73, Tryd.ntmps73
  go_wp2
  go_loop [1, 9] (fun x i => ∃ (j : Nat) (y : Int), j ≤ c ∧ i = .int .i64 (j : Int) ∧ x = .int .u64 y ∧ 0 ≤ y ∧ y < 4294967296 ∧ Hid (y = a / (2 : Int) ^ j)) (fun _ i => c - (intOf i).toNat)
  case atStart => exact ⟨0, a, Nat.zero_le _, rfl, rfl, h0, by omega, Lib.hid H0.out⟩
  case round =>
    obtain ⟨j, y, hj, rfl, rfl, y0, y1, hY⟩ := hrel
    by_cases hlt : j < c
    · have hlt' : (j : Int) < (c : Int) := by omega
      have ym : y % 4294967296 = y := Int.emod_eq_of_lt y0 y1
      have HN := Lib.hid (show y / 2 = a / (2 : Int) ^ (j + 1) by rw [hY.out]; exact HS.out j)
      have n0 : 0 ≤ y / 2 := by omega
      go_wp2_with (first | (go_at_call 27; ((with_reducible refine (HP.out).mono ?_); rintro e w1 ⟨rfl, rfl⟩)) | (go_at_call 23; ((with_reducible refine (HL.out _ y0).mono ?_); rintro e w1 ⟨rfl, rfl⟩)))
      go_round
      case rel => exact ⟨j + 1, y / 2, by omega, by go_num, by first | rfl | go_num | (congr 1), n0, by omega, HN⟩
      case measure => simp [intOf]; omega
    · have hge : ¬ (j : Int) < (c : Int) := by omega
      obtain rfl : j = c := by omega
      go_wp2
      go_ret
      exact ⟨ret_int hY.out, rfl⟩

set_option maxHeartbeats 2000000 in
set_option maxRecDepth 100000 in
theorem rshift2_32 (a : Int) (c : Nat) (w : World) (h0 : 0 ≤ a) (h1 : a < 4294967296) (hc : c ≤ 64) :
    Calls Tryd.prog 73 #[.int .i64 2, .int .u64 a, .int .i64 (c : Int), .int .i64 32] w fun e w' => e = .returned (.int .u64 (sx 32 a / (2 : Int) ^ c % 4294967296)) ∧ w = w' := by
  have sb : -2147483648 ≤ sx 32 a ∧ sx 32 a < 2147483648 := by simp only [sx]; simp; omega
  have HS := Lib.hid (fun j : Nat => sar_step32 (sx 32 a) j sb.1 sb.2)
  have H0 := Lib.hid (show a = sx 32 a / (2 : Int) ^ 0 % 4294967296 from by rw [Int.pow_zero, Int.ediv_one]; simp only [sx]; simp; omega)
  have HP := Lib.hid (power_at 31 31 2147483648 w rfl (by decide) rfl)
  have HL := Lib.hid (fun x => rlow32 x w)
  clear sb
  go_enter Tryd.func73, Tryd.ntmps73
  go_wp2
  go_loop [1, 9] (fun x i => ∃ (j : Nat) (y : Int), j ≤ c ∧ i = .int .i64 (j : Int) ∧ x = .int .u64 y ∧ 0 ≤ y ∧ y < 4294967296 ∧ Hid (y = sx 32 a / (2 : Int) ^ j % 4294967296)) (fun _ i => c - (intOf i).toNat)
  case atStart => exact ⟨0, a, Nat.zero_le _, rfl, rfl, h0, by omega, Lib.hid H0.out⟩
  case round =>
    obtain ⟨j, y, hj, rfl, rfl, y0, y1, hY⟩ := hrel
    by_cases hlt : j < c
    · have hlt' : (j : Int) < (c : Int) := by omega
      have ym : y % 4294967296 = y := Int.emod_eq_of_lt y0 y1
      have u0 : 0 ≤ y / 2147483648 * 2147483648 := by omega
      have u1 : y / 2 + y / 2147483648 * 2147483648 < 4294967296 := by omega
      have HN := Lib.hid (show y / 2 + y / 2147483648 * 2147483648 = sx 32 a / (2 : Int) ^ (j + 1) % 4294967296 by rw [hY.out]; exact HS.out j)
      have n0 : 0 ≤ y / 2 + y / 2147483648 * 2147483648 := by omega
      go_wp2_with (first | (go_at_call 27; ((with_reducible refine (HP.out).mono ?_); rintro e w1 ⟨rfl, rfl⟩)) | (go_at_call 23; ((with_reducible refine (HL.out _ y0).mono ?_); rintro e w1 ⟨rfl, rfl⟩)))
      go_round
      case rel => exact ⟨j + 1, y / 2 + y / 2147483648 * 2147483648, by omega, by go_num, by first | rfl | go_num | (congr 1), n0, by omega, HN⟩
      case measure => simp [intOf]; omega
    · have hge : ¬ (j : Int) < (c : Int) := by omega
      obtain rfl : j = c := by omega
      go_wp2
      go_ret
      exact ⟨ret_int hY.out, rfl⟩

theorem rsize_any (a : Int) (w : World) (h0 : -9223372036854775808 ≤ a) (h1 : a ≤ 9223372036854775807) : Calls Tryd.prog 28 #[.int .i64 a] w fun e w' => e = .returned (.int .u64 (a.natAbs : Int)) ∧ w = w' := by
  by_cases h : a < 0
  · go_enter Tryd.func28, Tryd.ntmps28
    go_wp2
    go_ret
    exact ⟨ret_int (by simp only [IntKind.wrap_u64]; omega), rfl⟩
  · have h' : 0 ≤ a := by omega
    go_enter Tryd.func28, Tryd.ntmps28
    go_wp2
    go_ret
    exact ⟨ret_int (by first | (simp only [IntKind.wrap_u64]; omega) | omega), rfl⟩
end Go.Proofs.YtkhnomicnblgfaaDoor
