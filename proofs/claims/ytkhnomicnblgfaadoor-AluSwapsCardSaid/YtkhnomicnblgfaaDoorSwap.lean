/- What the program's Swap and the reference's return, and the byte-turning operations: the last bytes in reverse order. Condition: the number has 64 bits. -/
import Derived.Test.YtkhnomicnblgfaaDoorFns
namespace Go.Proofs.YtkhnomicnblgfaaDoor
open Go.RowKit L1 L3

def b1 (x : Int) : Int := bits .or .u64 (bits .and .u64 (x / 256) 71777214294589695) (IntKind.u64.wrap (bits .and .u64 x 71777214294589695 * 256))
def b2 (x : Int) : Int := bits .or .u64 (bits .and .u64 (x / 65536) 281470681808895) (IntKind.u64.wrap (bits .and .u64 x 281470681808895 * 65536))
def b3 (x : Int) : Int := bits .or .u64 (x / 4294967296) (IntKind.u64.wrap (x * 4294967296))
theorem in64 (x : Int) : 0 ≤ x % 18446744073709551616 ∧ x % 18446744073709551616 < 18446744073709551616 := ⟨Int.emod_nonneg _ (by decide), Int.emod_lt_of_pos _ (by decide)⟩
theorem div64_in (x c : Int) (h0 : 0 ≤ x) (h1 : x < 18446744073709551616) (hc : 0 ≤ c) : 0 ≤ x / c ∧ x / c < 18446744073709551616 := by
  have := ediv_b x c h0 hc
  omega
theorem an_in (x c : Int) (h0 : 0 ≤ c) (h1 : c < 18446744073709551616) : 0 ≤ an x c ∧ an x c < 18446744073709551616 := by
  have := an_b x c 64 (tn64 h0 h1)
  rw [p64] at this
  exact this
theorem b1_eq (x : Int) (h0 : 0 ≤ x) (h1 : x < 18446744073709551616) : b1 x = r1 x := by
  unfold b1 r1
  have d := div64_in x 256 h0 h1 (by decide)
  have a := an_in (x / 256) 71777214294589695 (by decide) (by decide)
  have m := in64 (an x 71777214294589695 * 256)
  rw [and64 _ _ d.1 d.2 (by decide) (by decide), and64 _ _ h0 h1 (by decide) (by decide), IntKind.wrap_u64, or64 _ _ a.1 a.2 m.1 m.2]
theorem b2_eq (x : Int) (h0 : 0 ≤ x) (h1 : x < 18446744073709551616) : b2 x = r2 x := by
  unfold b2 r2
  have d := div64_in x 65536 h0 h1 (by decide)
  have a := an_in (x / 65536) 281470681808895 (by decide) (by decide)
  have m := in64 (an x 281470681808895 * 65536)
  rw [and64 _ _ d.1 d.2 (by decide) (by decide), and64 _ _ h0 h1 (by decide) (by decide), IntKind.wrap_u64, or64 _ _ a.1 a.2 m.1 m.2]
theorem b3_eq (x : Int) (h0 : 0 ≤ x) (h1 : x < 18446744073709551616) : b3 x = r3 x := by
  unfold b3 r3
  have d := div64_in x 4294967296 h0 h1 (by decide)
  have m := in64 (x * 4294967296)
  rw [IntKind.wrap_u64, or64 _ _ d.1 d.2 m.1 m.2]
theorem b_rev (x : Int) (h0 : 0 ≤ x) (h1 : x < 18446744073709551616) : b3 (b2 (b1 x)) = rv x := by
  obtain ⟨k1, k2, k3⟩ := rev_eq x h0 h1
  rw [b1_eq x h0 h1, b2_eq _ k1.1 k1.2, b3_eq _ k2.1 k2.2, k3]

set_option maxHeartbeats 1000000 in
theorem rev_any (x : Int) (w : World) (h0 : 0 ≤ x) (h1 : x < 18446744073709551616) : Calls Tryd.prog 74 #[.int .u64 x] w fun e w' => e = .returned (.int .u64 (rv x)) ∧ w = w' := by
  have H := Lib.hid (b_rev x h0 h1)
  go_enter Tryd.func74, Tryd.ntmps74
  go_wp2
  go_ret
  exact ⟨ret_int H.out, rfl⟩
theorem reversed_any (x : Int) (w : World) (h0 : 0 ≤ x) (h1 : x < 18446744073709551616) : Calls Tryd.prog 25 #[.int .u64 x] w fun e w' => e = .returned (.int .u64 (rv x)) ∧ w = w' := by
  have H := Lib.hid (rev_any x w h0 h1)
  go_enter Tryd.func25, Tryd.ntmps25
  go_wp2_with (go_at_call 74; ((with_reducible refine (H.out).mono ?_); rintro e w1 ⟨rfl, rfl⟩))
  go_ret
  exact ⟨rfl, rfl⟩
theorem swap_is (x n : Int) (w : World) (h0 : 0 ≤ x) (h1 : x < 18446744073709551616) (hn : n = 16 ∨ n = 32 ∨ n = 64) : Calls Tryd.prog 14 #[.int .u64 x, .int .i64 n] w fun e w' => e = .returned (.int .u64 (sw n x)) ∧ w = w' := by
  have H := Lib.hid (reversed_any x w h0 h1)
  have r := rv_b x
  obtain ⟨r0, r1⟩ := r
  rcases hn with rfl | rfl | rfl
  all_goals
    go_enter Tryd.func14, Tryd.ntmps14
    go_wp2_with (go_at_call 25; ((with_reducible refine (H.out).mono ?_); rintro e w1 ⟨rfl, rfl⟩))
    go_ret
    exact ⟨ret_int (by simp [sw]), rfl⟩
theorem swap_no (x n : Int) (w : World) (h1 : (n == 16) = false) (h2 : (n == 32) = false) (h3 : (n == 64) = false) : Calls Tryd.prog 14 #[.int .u64 x, .int .i64 n] w fun e w' => e = .returned (.int .u64 0) ∧ w = w' := by
  go_enter Tryd.func14, Tryd.ntmps14
  go_wp2
  go_ret
  exact ⟨rfl, rfl⟩
theorem bswap16_is (a b : Int) (w : World) (h0 : 0 ≤ a) (h1 : a < 18446744073709551616) : Calls Tryd.prog 69 #[.int .u64 a, .int .u64 b] w fun e w' => e = .returned (.int .u64 (sw 16 a)) ∧ Below w.heap.size w w' := by
  have H := Lib.hid (swap_is a 16 w h0 h1 (by decide))
  go_enter Tryd.func69, Tryd.ntmps69
  go_wp2_with (first | (go_at_call 79; ((with_reducible refine (width16 _).mono ?_); rintro e w1 ⟨rfl, rfl⟩)) | (go_at_call 14; ((with_reducible refine (H.out).mono ?_); rintro e w1 ⟨rfl, rfl⟩)))
  go_ret
  exact ⟨rfl, Below.refl _ _⟩
theorem bswap32_is (a b : Int) (w : World) (h0 : 0 ≤ a) (h1 : a < 18446744073709551616) : Calls Tryd.prog 70 #[.int .u64 a, .int .u64 b] w fun e w' => e = .returned (.int .u64 (sw 32 a)) ∧ Below w.heap.size w w' := by
  have H := Lib.hid (swap_is a 32 w h0 h1 (by decide))
  go_enter Tryd.func70, Tryd.ntmps70
  go_wp2_with (first | (go_at_call 80; ((with_reducible refine (width32 _).mono ?_); rintro e w1 ⟨rfl, rfl⟩)) | (go_at_call 14; ((with_reducible refine (H.out).mono ?_); rintro e w1 ⟨rfl, rfl⟩)))
  go_ret
  exact ⟨rfl, Below.refl _ _⟩
theorem bswap64_is (a b : Int) (w : World) (h0 : 0 ≤ a) (h1 : a < 18446744073709551616) : Calls Tryd.prog 71 #[.int .u64 a, .int .u64 b] w fun e w' => e = .returned (.int .u64 (sw 64 a)) ∧ Below w.heap.size w w' := by
  have H := Lib.hid (swap_is a 64 w h0 h1 (by decide))
  go_enter Tryd.func71, Tryd.ntmps71
  go_wp2_with (first | (go_at_call 81; ((with_reducible refine (width64 _).mono ?_); rintro e w1 ⟨rfl, rfl⟩)) | (go_at_call 14; ((with_reducible refine (H.out).mono ?_); rintro e w1 ⟨rfl, rfl⟩)))
  go_ret
  exact ⟨rfl, Below.refl _ _⟩

theorem rswap_no (x n : Int) (w : World) (h1 : (n != 16) = true) (h2 : (n != 32) = true) (h3 : (n != 64) = true) : Calls Tryd.prog 15 #[.int .u64 x, .int .i64 n] w fun e w' => e = .returned (.int .u64 0) ∧ w = w' := by
  go_enter Tryd.func15, Tryd.ntmps15
  go_wp2
  go_ret
  exact ⟨rfl, rfl⟩
set_option maxHeartbeats 1000000 in
theorem rswap16 (x : Int) (w : World) (h0 : 0 ≤ x) (h1 : x < 18446744073709551616) : Calls Tryd.prog 15 #[.int .u64 x, .int .i64 16] w fun e w' => e = .returned (.int .u64 (sw 16 x)) ∧ w = w' := by
  have H : sw 16 x = x % 256 * 256 + x / 256 % 256 := sw16 x
  rw [H]
  clear H
  go_enter Tryd.func15, Tryd.ntmps15
  go_wp2
  refine wp_loop_rounds 3 ?_
  repeat (rw [rounds_succ]; go_wp2)
  go_ret
  exact ⟨rfl, rfl⟩
set_option maxHeartbeats 1000000 in
theorem rswap32 (x : Int) (w : World) (h0 : 0 ≤ x) (h1 : x < 18446744073709551616) : Calls Tryd.prog 15 #[.int .u64 x, .int .i64 32] w fun e w' => e = .returned (.int .u64 (sw 32 x)) ∧ w = w' := by
  have H : sw 32 x = ((x % 256 * 256 + x / 256 % 256) * 256 + x / 256 / 256 % 256) * 256 + x / 256 / 256 / 256 % 256 := sw32 x
  rw [H]
  clear H
  go_enter Tryd.func15, Tryd.ntmps15
  go_wp2
  refine wp_loop_rounds 5 ?_
  repeat (rw [rounds_succ]; go_wp2)
  go_ret
  exact ⟨rfl, rfl⟩
/-- What the reference's loop has made of a number's bytes behind k rounds, and what is left of the number. -/
def outB (x : Int) : Nat → Int
  | 0 => 0
  | k + 1 => outB x k * 256 + lefB x k % 256
where lefB (x : Int) : Nat → Int
  | 0 => x
  | k + 1 => lefB x k / 256
theorem lefB_b (x : Int) (h0 : 0 ≤ x) (h1 : x < 18446744073709551616) : ∀ k, 0 ≤ outB.lefB x k ∧ outB.lefB x k < 18446744073709551616
  | 0 => ⟨h0, h1⟩
  | k + 1 => by
    have := lefB_b x h0 h1 k
    simp only [outB.lefB]
    omega
theorem outB_b (x : Int) : ∀ k, 0 ≤ outB x k ∧ outB x k < 256 ^ k
  | 0 => by simp [outB]
  | k + 1 => by
    have := outB_b x k
    simp only [outB]
    have e : (256 : Int) ^ (k + 1) = 256 ^ k * 256 := Int.pow_succ _ _
    omega
theorem pow256 (k : Nat) (h : k < 8) : (256 : Int) ^ k ≤ 72057594037927936 := by
  have : 256 ^ k ≤ 256 ^ 7 := Nat.pow_le_pow_right (by decide) (by omega)
  have h2 : ((256 ^ k : Nat) : Int) ≤ ((256 ^ 7 : Nat) : Int) := by exact_mod_cast this
  simpa using h2
theorem out8 (x : Int) : outB x 8 = rv x := by
  simp only [outB, outB.lefB, rv]
  simp only [Int.zero_mul, Int.zero_add]
set_option maxHeartbeats 1000000 in
theorem rswap64 (x : Int) (w : World) (h0 : 0 ≤ x) (h1 : x < 18446744073709551616) : Calls Tryd.prog 15 #[.int .u64 x, .int .i64 64] w fun e w' => e = .returned (.int .u64 (sw 64 x)) ∧ w = w' := by
  have H : sw 64 x = outB x 8 := (out8 x).symm
  have HB := Lib.hid (lefB_b x h0 h1)
  have HO := Lib.hid (outB_b x)
  rw [H]
  clear H
  go_enter Tryd.func15, Tryd.ntmps15
  go_wp2
  go_loop [0, 5, 6] (fun y o i => ∃ k : Nat, k ≤ 8 ∧ i = .int .i64 (k : Int) ∧ o = .int .u64 (outB x k) ∧ y = .int .u64 (outB.lefB x k)) (fun _ _ i => 8 - (intOf i).toNat)
  case atStart => exact ⟨0, by decide, rfl, rfl, rfl⟩
  case round =>
    obtain ⟨k, hk, rfl, rfl, rfl⟩ := hrel
    by_cases hlt : k < 8
    · have hlt' : (k : Int) < 8 := by omega
      have c := HO.out k
      have d := HB.out k
      have p := pow256 k hlt
      have HS := Lib.hid (show outB x (k + 1) = outB x k * 256 + outB.lefB x k % 256 from rfl)
      have HT := Lib.hid (show outB.lefB x (k + 1) = outB.lefB x k / 256 from rfl)
      generalize outB x k = o at c HS
      generalize outB.lefB x k = y at d HS HT
      obtain ⟨c0, c1⟩ := c
      obtain ⟨d0, d1⟩ := d
      have c2 : o < 72057594037927936 := by omega
      clear c1 p
      go_wp2
      go_round
      case rel => exact ⟨k + 1, by omega, by go_num, by rw [HS.out], by rw [HT.out]⟩
      case measure => simp [intOf]; omega
    · have hge : ¬ (k : Int) < 8 := by omega
      obtain rfl : k = 8 := by omega
      go_wp2
      go_ret
      exact ⟨rfl, rfl⟩
theorem rswap_is (x n : Int) (w : World) (h0 : 0 ≤ x) (h1 : x < 18446744073709551616) (hn : n = 16 ∨ n = 32 ∨ n = 64) : Calls Tryd.prog 15 #[.int .u64 x, .int .i64 n] w fun e w' => e = .returned (.int .u64 (sw n x)) ∧ w = w' := by
  rcases hn with rfl | rfl | rfl
  · exact rswap16 x w h0 h1
  · exact rswap32 x w h0 h1
  · exact rswap64 x w h0 h1
end Go.Proofs.YtkhnomicnblgfaaDoor
