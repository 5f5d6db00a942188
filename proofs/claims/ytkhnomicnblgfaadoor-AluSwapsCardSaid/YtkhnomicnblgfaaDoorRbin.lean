/- What the reference's operations on two numbers return. Condition: the numbers have as many bits as the operation. -/
import Derived.Test.YtkhnomicnblgfaaDoorRdv
namespace Go.Proofs.YtkhnomicnblgfaaDoor
open Go.RowKit L1 L3

/-- What the reference has for two numbers of 32 bits before the last bits are taken. -/
def biV : Nat → Int → Int → Int
  | 0, a, b => a + b
  | 1, a, b => (a - b) % 18446744073709551616
  | 2, a, b => a * b % 18446744073709551616
  | 3, a, b => if b = 0 then 0 else a / b
  | 4, a, b => ro a b
  | 5, a, b => an a b
  | 6, a, b => a * 2 ^ (b % 32).toNat % 18446744073709551616
  | 7, a, b => a / 2 ^ (b % 32).toNat
  | 8, a, b => if b = 0 then a else a % b
  | 9, a, b => xo a b
  | 10, _, b => b
  | 11, a, b => sx 32 a / 2 ^ (b % 32).toNat % 4294967296
  | 12, a, b => dq (sx 32 a) (sx 32 b) % 18446744073709551616
  | _, a, b => dr (sx 32 a) (sx 32 b) % 18446744073709551616
theorem toNat_mod (b n : Int) (hn : 0 < n) : (((b % n).toNat : Nat) : Int) = b % n := Int.toNat_of_nonneg (Int.emod_nonneg _ (by omega))
set_option maxHeartbeats 1000000 in
set_option maxRecDepth 100000 in
theorem rbin64_0 (a b : Int) (w : World) (_h0 : 0 ≤ a) (_h1 : a < 18446744073709551616) (_k0 : 0 ≤ b) (_k1 : b < 18446744073709551616) :
    Calls Tryd.prog 24 #[.int .i64 0, .int .u64 a, .int .u64 b, .int .i64 64] w fun e w' => e = .returned (.int .u64 (aluL 0 64 a b)) ∧ w = w' := by
  have HA := Lib.hid (rextend_64 a w)
  have HB := Lib.hid (rextend_64 b w)
  have HD := Lib.hid (rdivide_any (sx 64 a) (sx 64 b) w (sx_b 64 a).1 (sx_b 64 a).2 (sx_b 64 b).1 (sx_b 64 b).2)
  have hv : aluL 0 64 a b = mo 64 (a + b) := rfl
  rw [hv]
  clear hv
  go_enter Tryd.func24, Tryd.ntmps24
  go_wp2_with (first | (go_at_call 16; ((with_reducible refine (HA.out).mono ?_); rintro e w1 ⟨rfl, rfl⟩)) | (go_at_call 16; ((with_reducible refine (HB.out).mono ?_); rintro e w1 ⟨rfl, rfl⟩)) | (go_at_call 18; ((with_reducible refine (HD.out).mono ?_); rintro e w1 ⟨rfl, rfl⟩)))
  go_ret
  exact ⟨ret_int (by first | rfl | (rw [IntKind.wrap_u64]) | (rw [IntKind.wrap_u64]; rfl)), rfl⟩
set_option maxHeartbeats 1000000 in
set_option maxRecDepth 100000 in
theorem rbin64_1 (a b : Int) (w : World) (_h0 : 0 ≤ a) (_h1 : a < 18446744073709551616) (_k0 : 0 ≤ b) (_k1 : b < 18446744073709551616) :
    Calls Tryd.prog 24 #[.int .i64 1, .int .u64 a, .int .u64 b, .int .i64 64] w fun e w' => e = .returned (.int .u64 (aluL 1 64 a b)) ∧ w = w' := by
  have HA := Lib.hid (rextend_64 a w)
  have HB := Lib.hid (rextend_64 b w)
  have HD := Lib.hid (rdivide_any (sx 64 a) (sx 64 b) w (sx_b 64 a).1 (sx_b 64 a).2 (sx_b 64 b).1 (sx_b 64 b).2)
  have hv : aluL 1 64 a b = mo 64 (a - b) := rfl
  rw [hv]
  clear hv
  go_enter Tryd.func24, Tryd.ntmps24
  go_wp2_with (first | (go_at_call 16; ((with_reducible refine (HA.out).mono ?_); rintro e w1 ⟨rfl, rfl⟩)) | (go_at_call 16; ((with_reducible refine (HB.out).mono ?_); rintro e w1 ⟨rfl, rfl⟩)) | (go_at_call 18; ((with_reducible refine (HD.out).mono ?_); rintro e w1 ⟨rfl, rfl⟩)))
  go_ret
  exact ⟨ret_int (by first | rfl | (rw [IntKind.wrap_u64]) | (rw [IntKind.wrap_u64]; rfl)), rfl⟩
set_option maxHeartbeats 1000000 in
set_option maxRecDepth 100000 in
theorem rbin64_2 (a b : Int) (w : World) (_h0 : 0 ≤ a) (_h1 : a < 18446744073709551616) (_k0 : 0 ≤ b) (_k1 : b < 18446744073709551616) :
    Calls Tryd.prog 24 #[.int .i64 2, .int .u64 a, .int .u64 b, .int .i64 64] w fun e w' => e = .returned (.int .u64 (aluL 2 64 a b)) ∧ w = w' := by
  have HA := Lib.hid (rextend_64 a w)
  have HB := Lib.hid (rextend_64 b w)
  have HD := Lib.hid (rdivide_any (sx 64 a) (sx 64 b) w (sx_b 64 a).1 (sx_b 64 a).2 (sx_b 64 b).1 (sx_b 64 b).2)
  have hv : aluL 2 64 a b = mo 64 (a * b) := rfl
  rw [hv]
  clear hv
  go_enter Tryd.func24, Tryd.ntmps24
  go_wp2_with (first | (go_at_call 16; ((with_reducible refine (HA.out).mono ?_); rintro e w1 ⟨rfl, rfl⟩)) | (go_at_call 16; ((with_reducible refine (HB.out).mono ?_); rintro e w1 ⟨rfl, rfl⟩)) | (go_at_call 18; ((with_reducible refine (HD.out).mono ?_); rintro e w1 ⟨rfl, rfl⟩)))
  go_ret
  exact ⟨ret_int (by first | rfl | (rw [IntKind.wrap_u64]) | (rw [IntKind.wrap_u64]; rfl)), rfl⟩
set_option maxHeartbeats 1000000 in
set_option maxRecDepth 100000 in
theorem rbin64_3 (a b : Int) (w : World) (h0 : 0 ≤ a) (h1 : a < 18446744073709551616) (k0 : 0 ≤ b) (k1 : b < 18446744073709551616) :
    Calls Tryd.prog 24 #[.int .i64 3, .int .u64 a, .int .u64 b, .int .i64 64] w fun e w' => e = .returned (.int .u64 (aluL 3 64 a b)) ∧ w = w' := by
  have HA := Lib.hid (rextend_64 a w)
  have HB := Lib.hid (rextend_64 b w)
  have HD := Lib.hid (rdivide_any (sx 64 a) (sx 64 b) w (sx_b 64 a).1 (sx_b 64 a).2 (sx_b 64 b).1 (sx_b 64 b).2)
  by_cases hb : b = 0
  · have hv : aluL 3 64 a b = 0 := if_pos hb
    rw [hv]
    have hb' : (b == 0) = true := by simpa using hb
    clear hv hb
    go_enter Tryd.func24, Tryd.ntmps24
    go_wp2_with (first | (go_at_call 16; ((with_reducible refine (HA.out).mono ?_); rintro e w1 ⟨rfl, rfl⟩)) | (go_at_call 16; ((with_reducible refine (HB.out).mono ?_); rintro e w1 ⟨rfl, rfl⟩)) | (go_at_call 18; ((with_reducible refine (HD.out).mono ?_); rintro e w1 ⟨rfl, rfl⟩)))
    go_ret
    exact ⟨rfl, rfl⟩
  · have hv : aluL 3 64 a b = a / b := if_neg hb
    rw [hv]
    have hb' : (b == 0) = false := by simpa using hb
    clear hv
    go_enter Tryd.func24, Tryd.ntmps24
    go_wp2_with (first | (go_at_call 16; ((with_reducible refine (HA.out).mono ?_); rintro e w1 ⟨rfl, rfl⟩)) | (go_at_call 16; ((with_reducible refine (HB.out).mono ?_); rintro e w1 ⟨rfl, rfl⟩)) | (go_at_call 18; ((with_reducible refine (HD.out).mono ?_); rintro e w1 ⟨rfl, rfl⟩)))
    go_ret
    exact ⟨ret_int (by first | rfl | (rw [IntKind.wrap_u64]; exact Int.emod_eq_of_lt (ediv_b a b h0 k0).1 (by have := (ediv_b a b h0 k0).2; omega))), rfl⟩
set_option maxHeartbeats 1000000 in
set_option maxRecDepth 100000 in
theorem rbin64_4 (a b : Int) (w : World) (h0 : 0 ≤ a) (h1 : a < 18446744073709551616) (k0 : 0 ≤ b) (k1 : b < 18446744073709551616) :
    Calls Tryd.prog 24 #[.int .i64 4, .int .u64 a, .int .u64 b, .int .i64 64] w fun e w' => e = .returned (.int .u64 (aluL 4 64 a b)) ∧ w = w' := by
  have HA := Lib.hid (rextend_64 a w)
  have HB := Lib.hid (rextend_64 b w)
  have HD := Lib.hid (rdivide_any (sx 64 a) (sx 64 b) w (sx_b 64 a).1 (sx_b 64 a).2 (sx_b 64 b).1 (sx_b 64 b).2)
  have HW := Lib.hid (rbitwise 0 0 (.inl ⟨rfl, rfl⟩) a b w h0 (by omega) k0 (by omega))
  have hv : aluL 4 64 a b = bw 0 a b := rfl
  rw [hv]
  clear hv
  go_enter Tryd.func24, Tryd.ntmps24
  go_wp2_with (first | (go_at_call 16; ((with_reducible refine (HA.out).mono ?_); rintro e w1 ⟨rfl, rfl⟩)) | (go_at_call 16; ((with_reducible refine (HB.out).mono ?_); rintro e w1 ⟨rfl, rfl⟩)) | (go_at_call 18; ((with_reducible refine (HD.out).mono ?_); rintro e w1 ⟨rfl, rfl⟩)) | (go_at_call 72; ((with_reducible refine (HW.out).mono ?_); rintro e w1 ⟨rfl, rfl⟩)))
  go_ret
  exact ⟨ret_int (by first | rfl | (rw [IntKind.wrap_u64]) | (rw [IntKind.wrap_u64]; rfl)), rfl⟩
set_option maxHeartbeats 1000000 in
set_option maxRecDepth 100000 in
theorem rbin64_5 (a b : Int) (w : World) (h0 : 0 ≤ a) (h1 : a < 18446744073709551616) (k0 : 0 ≤ b) (k1 : b < 18446744073709551616) :
    Calls Tryd.prog 24 #[.int .i64 5, .int .u64 a, .int .u64 b, .int .i64 64] w fun e w' => e = .returned (.int .u64 (aluL 5 64 a b)) ∧ w = w' := by
  have HA := Lib.hid (rextend_64 a w)
  have HB := Lib.hid (rextend_64 b w)
  have HD := Lib.hid (rdivide_any (sx 64 a) (sx 64 b) w (sx_b 64 a).1 (sx_b 64 a).2 (sx_b 64 b).1 (sx_b 64 b).2)
  have HW := Lib.hid (rbitwise 1 1 (.inr (.inl ⟨rfl, rfl⟩)) a b w h0 (by omega) k0 (by omega))
  have hv : aluL 5 64 a b = bw 1 a b := rfl
  rw [hv]
  clear hv
  go_enter Tryd.func24, Tryd.ntmps24
  go_wp2_with (first | (go_at_call 16; ((with_reducible refine (HA.out).mono ?_); rintro e w1 ⟨rfl, rfl⟩)) | (go_at_call 16; ((with_reducible refine (HB.out).mono ?_); rintro e w1 ⟨rfl, rfl⟩)) | (go_at_call 18; ((with_reducible refine (HD.out).mono ?_); rintro e w1 ⟨rfl, rfl⟩)) | (go_at_call 72; ((with_reducible refine (HW.out).mono ?_); rintro e w1 ⟨rfl, rfl⟩)))
  go_ret
  exact ⟨ret_int (by first | rfl | (rw [IntKind.wrap_u64]) | (rw [IntKind.wrap_u64]; rfl)), rfl⟩
set_option maxHeartbeats 1000000 in
set_option maxRecDepth 100000 in
theorem rbin64_6 (a b : Int) (w : World) (h0 : 0 ≤ a) (h1 : a < 18446744073709551616) (k0 : 0 ≤ b) (k1 : b < 18446744073709551616) :
    Calls Tryd.prog 24 #[.int .i64 6, .int .u64 a, .int .u64 b, .int .i64 64] w fun e w' => e = .returned (.int .u64 (aluL 6 64 a b)) ∧ w = w' := by
  have HA := Lib.hid (rextend_64 a w)
  have HB := Lib.hid (rextend_64 b w)
  have HD := Lib.hid (rdivide_any (sx 64 a) (sx 64 b) w (sx_b 64 a).1 (sx_b 64 a).2 (sx_b 64 b).1 (sx_b 64 b).2)
  have hs := rshift0_64 a (b % 64).toNat w h0 h1 (by omega)
  rw [toNat_mod b 64 (by decide)] at hs
  have HS := Lib.hid hs
  clear hs
  have q0 : 0 ≤ b % 64 := by omega
  have q1 : b % 64 < 64 := by omega
  have hv : aluL 6 64 a b = a * 2 ^ (b % 64).toNat % 18446744073709551616 := rfl
  rw [hv]
  clear hv
  go_enter Tryd.func24, Tryd.ntmps24
  go_wp2_with (first | (go_at_call 16; ((with_reducible refine (HA.out).mono ?_); rintro e w1 ⟨rfl, rfl⟩)) | (go_at_call 16; ((with_reducible refine (HB.out).mono ?_); rintro e w1 ⟨rfl, rfl⟩)) | (go_at_call 18; ((with_reducible refine (HD.out).mono ?_); rintro e w1 ⟨rfl, rfl⟩)) | (go_at_call 73; ((with_reducible refine (HS.out).mono ?_); rintro e w1 ⟨rfl, rfl⟩)))
  go_ret
  exact ⟨ret_int (by first | rfl | (rw [IntKind.wrap_u64]) | (rw [IntKind.wrap_u64]; rfl)), rfl⟩
set_option maxHeartbeats 1000000 in
set_option maxRecDepth 100000 in
theorem rbin64_7 (a b : Int) (w : World) (h0 : 0 ≤ a) (h1 : a < 18446744073709551616) (k0 : 0 ≤ b) (k1 : b < 18446744073709551616) :
    Calls Tryd.prog 24 #[.int .i64 7, .int .u64 a, .int .u64 b, .int .i64 64] w fun e w' => e = .returned (.int .u64 (aluL 7 64 a b)) ∧ w = w' := by
  have HA := Lib.hid (rextend_64 a w)
  have HB := Lib.hid (rextend_64 b w)
  have HD := Lib.hid (rdivide_any (sx 64 a) (sx 64 b) w (sx_b 64 a).1 (sx_b 64 a).2 (sx_b 64 b).1 (sx_b 64 b).2)
  have hs := rshift1_64 a (b % 64).toNat w h0 h1 (by omega)
  rw [toNat_mod b 64 (by decide)] at hs
  have HS := Lib.hid hs
  clear hs
  have q0 : 0 ≤ b % 64 := by omega
  have q1 : b % 64 < 64 := by omega
  have hv : aluL 7 64 a b = a / 2 ^ (b % 64).toNat := rfl
  rw [hv]
  clear hv
  go_enter Tryd.func24, Tryd.ntmps24
  go_wp2_with (first | (go_at_call 16; ((with_reducible refine (HA.out).mono ?_); rintro e w1 ⟨rfl, rfl⟩)) | (go_at_call 16; ((with_reducible refine (HB.out).mono ?_); rintro e w1 ⟨rfl, rfl⟩)) | (go_at_call 18; ((with_reducible refine (HD.out).mono ?_); rintro e w1 ⟨rfl, rfl⟩)) | (go_at_call 73; ((with_reducible refine (HS.out).mono ?_); rintro e w1 ⟨rfl, rfl⟩)))
  go_ret
  exact ⟨ret_int (by first | rfl | (rw [IntKind.wrap_u64]) | (rw [IntKind.wrap_u64]; rfl)), rfl⟩
set_option maxHeartbeats 1000000 in
set_option maxRecDepth 100000 in
theorem rbin64_8 (a b : Int) (w : World) (h0 : 0 ≤ a) (h1 : a < 18446744073709551616) (_k0 : 0 ≤ b) (_k1 : b < 18446744073709551616) :
    Calls Tryd.prog 24 #[.int .i64 8, .int .u64 a, .int .u64 b, .int .i64 64] w fun e w' => e = .returned (.int .u64 (aluL 8 64 a b)) ∧ w = w' := by
  have HA := Lib.hid (rextend_64 a w)
  have HB := Lib.hid (rextend_64 b w)
  have HD := Lib.hid (rdivide_any (sx 64 a) (sx 64 b) w (sx_b 64 a).1 (sx_b 64 a).2 (sx_b 64 b).1 (sx_b 64 b).2)
  by_cases hb : b = 0
  · have hv : aluL 8 64 a b = a := if_pos hb
    rw [hv]
    have hb' : (b == 0) = true := by simpa using hb
    clear hv hb
    go_enter Tryd.func24, Tryd.ntmps24
    go_wp2_with (first | (go_at_call 16; ((with_reducible refine (HA.out).mono ?_); rintro e w1 ⟨rfl, rfl⟩)) | (go_at_call 16; ((with_reducible refine (HB.out).mono ?_); rintro e w1 ⟨rfl, rfl⟩)) | (go_at_call 18; ((with_reducible refine (HD.out).mono ?_); rintro e w1 ⟨rfl, rfl⟩)))
    go_ret
    exact ⟨rfl, rfl⟩
  · have hv : aluL 8 64 a b = a % b := if_neg hb
    rw [hv]
    have hb' : (b == 0) = false := by simpa using hb
    clear hv
    go_enter Tryd.func24, Tryd.ntmps24
    go_wp2_with (first | (go_at_call 16; ((with_reducible refine (HA.out).mono ?_); rintro e w1 ⟨rfl, rfl⟩)) | (go_at_call 16; ((with_reducible refine (HB.out).mono ?_); rintro e w1 ⟨rfl, rfl⟩)) | (go_at_call 18; ((with_reducible refine (HD.out).mono ?_); rintro e w1 ⟨rfl, rfl⟩)))
    go_ret
    exact ⟨ret_int (by first | rfl | (rw [IntKind.wrap_u64]; exact Int.emod_eq_of_lt (emod_b a b h0 hb k0).1 (by have := (emod_b a b h0 hb k0).2; omega))), rfl⟩
set_option maxHeartbeats 1000000 in
set_option maxRecDepth 100000 in
theorem rbin64_9 (a b : Int) (w : World) (h0 : 0 ≤ a) (h1 : a < 18446744073709551616) (k0 : 0 ≤ b) (k1 : b < 18446744073709551616) :
    Calls Tryd.prog 24 #[.int .i64 9, .int .u64 a, .int .u64 b, .int .i64 64] w fun e w' => e = .returned (.int .u64 (aluL 9 64 a b)) ∧ w = w' := by
  have HA := Lib.hid (rextend_64 a w)
  have HB := Lib.hid (rextend_64 b w)
  have HD := Lib.hid (rdivide_any (sx 64 a) (sx 64 b) w (sx_b 64 a).1 (sx_b 64 a).2 (sx_b 64 b).1 (sx_b 64 b).2)
  have HW := Lib.hid (rbitwise 2 2 (.inr (.inr ⟨rfl, rfl⟩)) a b w h0 (by omega) k0 (by omega))
  have hv : aluL 9 64 a b = bw 2 a b := rfl
  rw [hv]
  clear hv
  go_enter Tryd.func24, Tryd.ntmps24
  go_wp2_with (first | (go_at_call 16; ((with_reducible refine (HA.out).mono ?_); rintro e w1 ⟨rfl, rfl⟩)) | (go_at_call 16; ((with_reducible refine (HB.out).mono ?_); rintro e w1 ⟨rfl, rfl⟩)) | (go_at_call 18; ((with_reducible refine (HD.out).mono ?_); rintro e w1 ⟨rfl, rfl⟩)) | (go_at_call 72; ((with_reducible refine (HW.out).mono ?_); rintro e w1 ⟨rfl, rfl⟩)))
  go_ret
  exact ⟨ret_int (by first | rfl | (rw [IntKind.wrap_u64]) | (rw [IntKind.wrap_u64]; rfl)), rfl⟩
set_option maxHeartbeats 1000000 in
set_option maxRecDepth 100000 in
theorem rbin64_10 (a b : Int) (w : World) (_h0 : 0 ≤ a) (_h1 : a < 18446744073709551616) (_k0 : 0 ≤ b) (_k1 : b < 18446744073709551616) :
    Calls Tryd.prog 24 #[.int .i64 10, .int .u64 a, .int .u64 b, .int .i64 64] w fun e w' => e = .returned (.int .u64 (aluL 10 64 a b)) ∧ w = w' := by
  have HA := Lib.hid (rextend_64 a w)
  have HB := Lib.hid (rextend_64 b w)
  have HD := Lib.hid (rdivide_any (sx 64 a) (sx 64 b) w (sx_b 64 a).1 (sx_b 64 a).2 (sx_b 64 b).1 (sx_b 64 b).2)
  have hv : aluL 10 64 a b = b := rfl
  rw [hv]
  clear hv
  go_enter Tryd.func24, Tryd.ntmps24
  go_wp2_with (first | (go_at_call 16; ((with_reducible refine (HA.out).mono ?_); rintro e w1 ⟨rfl, rfl⟩)) | (go_at_call 16; ((with_reducible refine (HB.out).mono ?_); rintro e w1 ⟨rfl, rfl⟩)) | (go_at_call 18; ((with_reducible refine (HD.out).mono ?_); rintro e w1 ⟨rfl, rfl⟩)))
  go_ret
  exact ⟨ret_int (by first | rfl | (rw [IntKind.wrap_u64]) | (rw [IntKind.wrap_u64]; rfl)), rfl⟩
set_option maxHeartbeats 1000000 in
set_option maxRecDepth 100000 in
theorem rbin64_11 (a b : Int) (w : World) (h0 : 0 ≤ a) (h1 : a < 18446744073709551616) (k0 : 0 ≤ b) (k1 : b < 18446744073709551616) :
    Calls Tryd.prog 24 #[.int .i64 11, .int .u64 a, .int .u64 b, .int .i64 64] w fun e w' => e = .returned (.int .u64 (aluL 11 64 a b)) ∧ w = w' := by
  have HA := Lib.hid (rextend_64 a w)
  have HB := Lib.hid (rextend_64 b w)
  have HD := Lib.hid (rdivide_any (sx 64 a) (sx 64 b) w (sx_b 64 a).1 (sx_b 64 a).2 (sx_b 64 b).1 (sx_b 64 b).2)
  have hs := rshift2_64 a (b % 64).toNat w h0 h1 (by omega)
  rw [toNat_mod b 64 (by decide)] at hs
  have HS := Lib.hid hs
  clear hs
  have q0 : 0 ≤ b % 64 := by omega
  have q1 : b % 64 < 64 := by omega
  have hv : aluL 11 64 a b = sx 64 a / 2 ^ (b % 64).toNat % 18446744073709551616 := rfl
  rw [hv]
  clear hv
  go_enter Tryd.func24, Tryd.ntmps24
  go_wp2_with (first | (go_at_call 16; ((with_reducible refine (HA.out).mono ?_); rintro e w1 ⟨rfl, rfl⟩)) | (go_at_call 16; ((with_reducible refine (HB.out).mono ?_); rintro e w1 ⟨rfl, rfl⟩)) | (go_at_call 18; ((with_reducible refine (HD.out).mono ?_); rintro e w1 ⟨rfl, rfl⟩)) | (go_at_call 73; ((with_reducible refine (HS.out).mono ?_); rintro e w1 ⟨rfl, rfl⟩)))
  go_ret
  exact ⟨ret_int (by first | rfl | (rw [IntKind.wrap_u64]) | (rw [IntKind.wrap_u64]; rfl)), rfl⟩
set_option maxHeartbeats 1000000 in
set_option maxRecDepth 100000 in
theorem rbin64_12 (a b : Int) (w : World) (_h0 : 0 ≤ a) (_h1 : a < 18446744073709551616) (_k0 : 0 ≤ b) (_k1 : b < 18446744073709551616) :
    Calls Tryd.prog 24 #[.int .i64 12, .int .u64 a, .int .u64 b, .int .i64 64] w fun e w' => e = .returned (.int .u64 (aluL 12 64 a b)) ∧ w = w' := by
  have HA := Lib.hid (rextend_64 a w)
  have HB := Lib.hid (rextend_64 b w)
  have HD := Lib.hid (rdivide_any (sx 64 a) (sx 64 b) w (sx_b 64 a).1 (sx_b 64 a).2 (sx_b 64 b).1 (sx_b 64 b).2)
  have hv : aluL 12 64 a b = dq (sx 64 a) (sx 64 b) % 18446744073709551616 := rfl
  rw [hv]
  clear hv
  generalize dq (sx 64 a) (sx 64 b) = q at HD ⊢
  go_enter Tryd.func24, Tryd.ntmps24
  go_wp2_with (first | (go_at_call 16; ((with_reducible refine (HA.out).mono ?_); rintro e w1 ⟨rfl, rfl⟩)) | (go_at_call 16; ((with_reducible refine (HB.out).mono ?_); rintro e w1 ⟨rfl, rfl⟩)) | (go_at_call 18; ((with_reducible refine (HD.out).mono ?_); rintro e w1 ⟨rfl, rfl⟩)))
  go_ret
  exact ⟨ret_int (by first | rfl | (rw [IntKind.wrap_u64]) | (rw [IntKind.wrap_u64]; rfl)), rfl⟩
set_option maxHeartbeats 1000000 in
set_option maxRecDepth 100000 in
theorem rbin64_13 (a b : Int) (w : World) (_h0 : 0 ≤ a) (_h1 : a < 18446744073709551616) (_k0 : 0 ≤ b) (_k1 : b < 18446744073709551616) :
    Calls Tryd.prog 24 #[.int .i64 13, .int .u64 a, .int .u64 b, .int .i64 64] w fun e w' => e = .returned (.int .u64 (aluL 13 64 a b)) ∧ w = w' := by
  have HA := Lib.hid (rextend_64 a w)
  have HB := Lib.hid (rextend_64 b w)
  have HD := Lib.hid (rdivide_any (sx 64 a) (sx 64 b) w (sx_b 64 a).1 (sx_b 64 a).2 (sx_b 64 b).1 (sx_b 64 b).2)
  have hv : aluL 13 64 a b = dr (sx 64 a) (sx 64 b) % 18446744073709551616 := rfl
  rw [hv]
  clear hv
  generalize dr (sx 64 a) (sx 64 b) = r at HD ⊢
  go_enter Tryd.func24, Tryd.ntmps24
  go_wp2_with (first | (go_at_call 16; ((with_reducible refine (HA.out).mono ?_); rintro e w1 ⟨rfl, rfl⟩)) | (go_at_call 16; ((with_reducible refine (HB.out).mono ?_); rintro e w1 ⟨rfl, rfl⟩)) | (go_at_call 18; ((with_reducible refine (HD.out).mono ?_); rintro e w1 ⟨rfl, rfl⟩)))
  go_ret
  exact ⟨ret_int (by first | rfl | (rw [IntKind.wrap_u64]) | (rw [IntKind.wrap_u64]; rfl)), rfl⟩
set_option maxHeartbeats 1000000 in
set_option maxRecDepth 100000 in
theorem rbin32_0 (a b : Int) (w : World) (h0 : 0 ≤ a) (h1 : a < 4294967296) (k0 : 0 ≤ b) (k1 : b < 4294967296) :
    Calls Tryd.prog 24 #[.int .i64 0, .int .u64 a, .int .u64 b, .int .i64 32] w fun e w' => e = .returned (.int .u64 (biV 0 a b)) ∧ w = w' := by
  have HA := Lib.hid (rextend_32 a w h0 (by omega))
  have HB := Lib.hid (rextend_32 b w k0 (by omega))
  have HD := Lib.hid (rdivide_any (sx 32 a) (sx 32 b) w (sx_b 32 a).1 (sx_b 32 a).2 (sx_b 32 b).1 (sx_b 32 b).2)
  have hv : biV 0 a b = a + b := rfl
  rw [hv]
  clear hv
  go_enter Tryd.func24, Tryd.ntmps24
  go_wp2_with (first | (go_at_call 16; ((with_reducible refine (HA.out).mono ?_); rintro e w1 ⟨rfl, rfl⟩)) | (go_at_call 16; ((with_reducible refine (HB.out).mono ?_); rintro e w1 ⟨rfl, rfl⟩)) | (go_at_call 18; ((with_reducible refine (HD.out).mono ?_); rintro e w1 ⟨rfl, rfl⟩)))
  go_ret
  exact ⟨ret_int (by first | rfl | (rw [IntKind.wrap_u64]) | (rw [IntKind.wrap_u64]; rfl)), rfl⟩
set_option maxHeartbeats 1000000 in
set_option maxRecDepth 100000 in
theorem rbin32_1 (a b : Int) (w : World) (h0 : 0 ≤ a) (h1 : a < 4294967296) (k0 : 0 ≤ b) (k1 : b < 4294967296) :
    Calls Tryd.prog 24 #[.int .i64 1, .int .u64 a, .int .u64 b, .int .i64 32] w fun e w' => e = .returned (.int .u64 (biV 1 a b)) ∧ w = w' := by
  have HA := Lib.hid (rextend_32 a w h0 (by omega))
  have HB := Lib.hid (rextend_32 b w k0 (by omega))
  have HD := Lib.hid (rdivide_any (sx 32 a) (sx 32 b) w (sx_b 32 a).1 (sx_b 32 a).2 (sx_b 32 b).1 (sx_b 32 b).2)
  have hv : biV 1 a b = (a - b) % 18446744073709551616 := rfl
  rw [hv]
  clear hv
  go_enter Tryd.func24, Tryd.ntmps24
  go_wp2_with (first | (go_at_call 16; ((with_reducible refine (HA.out).mono ?_); rintro e w1 ⟨rfl, rfl⟩)) | (go_at_call 16; ((with_reducible refine (HB.out).mono ?_); rintro e w1 ⟨rfl, rfl⟩)) | (go_at_call 18; ((with_reducible refine (HD.out).mono ?_); rintro e w1 ⟨rfl, rfl⟩)))
  go_ret
  exact ⟨ret_int (by first | rfl | (rw [IntKind.wrap_u64]) | (rw [IntKind.wrap_u64]; rfl)), rfl⟩
set_option maxHeartbeats 1000000 in
set_option maxRecDepth 100000 in
theorem rbin32_2 (a b : Int) (w : World) (h0 : 0 ≤ a) (h1 : a < 4294967296) (k0 : 0 ≤ b) (k1 : b < 4294967296) :
    Calls Tryd.prog 24 #[.int .i64 2, .int .u64 a, .int .u64 b, .int .i64 32] w fun e w' => e = .returned (.int .u64 (biV 2 a b)) ∧ w = w' := by
  have HA := Lib.hid (rextend_32 a w h0 (by omega))
  have HB := Lib.hid (rextend_32 b w k0 (by omega))
  have HD := Lib.hid (rdivide_any (sx 32 a) (sx 32 b) w (sx_b 32 a).1 (sx_b 32 a).2 (sx_b 32 b).1 (sx_b 32 b).2)
  have hv : biV 2 a b = a * b % 18446744073709551616 := rfl
  rw [hv]
  clear hv
  go_enter Tryd.func24, Tryd.ntmps24
  go_wp2_with (first | (go_at_call 16; ((with_reducible refine (HA.out).mono ?_); rintro e w1 ⟨rfl, rfl⟩)) | (go_at_call 16; ((with_reducible refine (HB.out).mono ?_); rintro e w1 ⟨rfl, rfl⟩)) | (go_at_call 18; ((with_reducible refine (HD.out).mono ?_); rintro e w1 ⟨rfl, rfl⟩)))
  go_ret
  exact ⟨ret_int (by first | rfl | (rw [IntKind.wrap_u64]) | (rw [IntKind.wrap_u64]; rfl)), rfl⟩
set_option maxHeartbeats 1000000 in
set_option maxRecDepth 100000 in
theorem rbin32_3 (a b : Int) (w : World) (h0 : 0 ≤ a) (h1 : a < 4294967296) (k0 : 0 ≤ b) (k1 : b < 4294967296) :
    Calls Tryd.prog 24 #[.int .i64 3, .int .u64 a, .int .u64 b, .int .i64 32] w fun e w' => e = .returned (.int .u64 (biV 3 a b)) ∧ w = w' := by
  have HA := Lib.hid (rextend_32 a w h0 (by omega))
  have HB := Lib.hid (rextend_32 b w k0 (by omega))
  have HD := Lib.hid (rdivide_any (sx 32 a) (sx 32 b) w (sx_b 32 a).1 (sx_b 32 a).2 (sx_b 32 b).1 (sx_b 32 b).2)
  by_cases hb : b = 0
  · have hv : biV 3 a b = 0 := if_pos hb
    rw [hv]
    have hb' : (b == 0) = true := by simpa using hb
    clear hv hb
    go_enter Tryd.func24, Tryd.ntmps24
    go_wp2_with (first | (go_at_call 16; ((with_reducible refine (HA.out).mono ?_); rintro e w1 ⟨rfl, rfl⟩)) | (go_at_call 16; ((with_reducible refine (HB.out).mono ?_); rintro e w1 ⟨rfl, rfl⟩)) | (go_at_call 18; ((with_reducible refine (HD.out).mono ?_); rintro e w1 ⟨rfl, rfl⟩)))
    go_ret
    exact ⟨rfl, rfl⟩
  · have hv : biV 3 a b = a / b := if_neg hb
    rw [hv]
    have hb' : (b == 0) = false := by simpa using hb
    clear hv
    go_enter Tryd.func24, Tryd.ntmps24
    go_wp2_with (first | (go_at_call 16; ((with_reducible refine (HA.out).mono ?_); rintro e w1 ⟨rfl, rfl⟩)) | (go_at_call 16; ((with_reducible refine (HB.out).mono ?_); rintro e w1 ⟨rfl, rfl⟩)) | (go_at_call 18; ((with_reducible refine (HD.out).mono ?_); rintro e w1 ⟨rfl, rfl⟩)))
    go_ret
    exact ⟨ret_int (by first | rfl | (rw [IntKind.wrap_u64]; exact Int.emod_eq_of_lt (ediv_b a b h0 k0).1 (by have := (ediv_b a b h0 k0).2; omega))), rfl⟩
set_option maxHeartbeats 1000000 in
set_option maxRecDepth 100000 in
theorem rbin32_4 (a b : Int) (w : World) (h0 : 0 ≤ a) (h1 : a < 4294967296) (k0 : 0 ≤ b) (k1 : b < 4294967296) :
    Calls Tryd.prog 24 #[.int .i64 4, .int .u64 a, .int .u64 b, .int .i64 32] w fun e w' => e = .returned (.int .u64 (biV 4 a b)) ∧ w = w' := by
  have HA := Lib.hid (rextend_32 a w h0 (by omega))
  have HB := Lib.hid (rextend_32 b w k0 (by omega))
  have HD := Lib.hid (rdivide_any (sx 32 a) (sx 32 b) w (sx_b 32 a).1 (sx_b 32 a).2 (sx_b 32 b).1 (sx_b 32 b).2)
  have HW := Lib.hid (rbitwise 0 0 (.inl ⟨rfl, rfl⟩) a b w h0 (by omega) k0 (by omega))
  have hv : biV 4 a b = bw 0 a b := rfl
  rw [hv]
  clear hv
  go_enter Tryd.func24, Tryd.ntmps24
  go_wp2_with (first | (go_at_call 16; ((with_reducible refine (HA.out).mono ?_); rintro e w1 ⟨rfl, rfl⟩)) | (go_at_call 16; ((with_reducible refine (HB.out).mono ?_); rintro e w1 ⟨rfl, rfl⟩)) | (go_at_call 18; ((with_reducible refine (HD.out).mono ?_); rintro e w1 ⟨rfl, rfl⟩)) | (go_at_call 72; ((with_reducible refine (HW.out).mono ?_); rintro e w1 ⟨rfl, rfl⟩)))
  go_ret
  exact ⟨ret_int (by first | rfl | (rw [IntKind.wrap_u64]) | (rw [IntKind.wrap_u64]; rfl)), rfl⟩
set_option maxHeartbeats 1000000 in
set_option maxRecDepth 100000 in
theorem rbin32_5 (a b : Int) (w : World) (h0 : 0 ≤ a) (h1 : a < 4294967296) (k0 : 0 ≤ b) (k1 : b < 4294967296) :
    Calls Tryd.prog 24 #[.int .i64 5, .int .u64 a, .int .u64 b, .int .i64 32] w fun e w' => e = .returned (.int .u64 (biV 5 a b)) ∧ w = w' := by
  have HA := Lib.hid (rextend_32 a w h0 (by omega))
  have HB := Lib.hid (rextend_32 b w k0 (by omega))
  have HD := Lib.hid (rdivide_any (sx 32 a) (sx 32 b) w (sx_b 32 a).1 (sx_b 32 a).2 (sx_b 32 b).1 (sx_b 32 b).2)
  have HW := Lib.hid (rbitwise 1 1 (.inr (.inl ⟨rfl, rfl⟩)) a b w h0 (by omega) k0 (by omega))
  have hv : biV 5 a b = bw 1 a b := rfl
  rw [hv]
  clear hv
  go_enter Tryd.func24, Tryd.ntmps24
  go_wp2_with (first | (go_at_call 16; ((with_reducible refine (HA.out).mono ?_); rintro e w1 ⟨rfl, rfl⟩)) | (go_at_call 16; ((with_reducible refine (HB.out).mono ?_); rintro e w1 ⟨rfl, rfl⟩)) | (go_at_call 18; ((with_reducible refine (HD.out).mono ?_); rintro e w1 ⟨rfl, rfl⟩)) | (go_at_call 72; ((with_reducible refine (HW.out).mono ?_); rintro e w1 ⟨rfl, rfl⟩)))
  go_ret
  exact ⟨ret_int (by first | rfl | (rw [IntKind.wrap_u64]) | (rw [IntKind.wrap_u64]; rfl)), rfl⟩
set_option maxHeartbeats 1000000 in
set_option maxRecDepth 100000 in
theorem rbin32_6 (a b : Int) (w : World) (h0 : 0 ≤ a) (h1 : a < 4294967296) (k0 : 0 ≤ b) (k1 : b < 4294967296) :
    Calls Tryd.prog 24 #[.int .i64 6, .int .u64 a, .int .u64 b, .int .i64 32] w fun e w' => e = .returned (.int .u64 (biV 6 a b)) ∧ w = w' := by
  have HA := Lib.hid (rextend_32 a w h0 (by omega))
  have HB := Lib.hid (rextend_32 b w k0 (by omega))
  have HD := Lib.hid (rdivide_any (sx 32 a) (sx 32 b) w (sx_b 32 a).1 (sx_b 32 a).2 (sx_b 32 b).1 (sx_b 32 b).2)
  have hs := rshift0_32 a (b % 32).toNat w h0 h1 (by omega)
  rw [toNat_mod b 32 (by decide)] at hs
  have HS := Lib.hid hs
  clear hs
  have q0 : 0 ≤ b % 32 := by omega
  have q1 : b % 32 < 32 := by omega
  have hv : biV 6 a b = a * 2 ^ (b % 32).toNat % 18446744073709551616 := rfl
  rw [hv]
  clear hv
  go_enter Tryd.func24, Tryd.ntmps24
  go_wp2_with (first | (go_at_call 16; ((with_reducible refine (HA.out).mono ?_); rintro e w1 ⟨rfl, rfl⟩)) | (go_at_call 16; ((with_reducible refine (HB.out).mono ?_); rintro e w1 ⟨rfl, rfl⟩)) | (go_at_call 18; ((with_reducible refine (HD.out).mono ?_); rintro e w1 ⟨rfl, rfl⟩)) | (go_at_call 73; ((with_reducible refine (HS.out).mono ?_); rintro e w1 ⟨rfl, rfl⟩)))
  go_ret
  exact ⟨ret_int (by first | rfl | (rw [IntKind.wrap_u64]) | (rw [IntKind.wrap_u64]; rfl)), rfl⟩
set_option maxHeartbeats 1000000 in
set_option maxRecDepth 100000 in
theorem rbin32_7 (a b : Int) (w : World) (h0 : 0 ≤ a) (h1 : a < 4294967296) (k0 : 0 ≤ b) (k1 : b < 4294967296) :
    Calls Tryd.prog 24 #[.int .i64 7, .int .u64 a, .int .u64 b, .int .i64 32] w fun e w' => e = .returned (.int .u64 (biV 7 a b)) ∧ w = w' := by
  have HA := Lib.hid (rextend_32 a w h0 (by omega))
  have HB := Lib.hid (rextend_32 b w k0 (by omega))
  have HD := Lib.hid (rdivide_any (sx 32 a) (sx 32 b) w (sx_b 32 a).1 (sx_b 32 a).2 (sx_b 32 b).1 (sx_b 32 b).2)
  have hs := rshift1_32 a (b % 32).toNat w h0 h1 (by omega)
  rw [toNat_mod b 32 (by decide)] at hs
  have HS := Lib.hid hs
  clear hs
  have q0 : 0 ≤ b % 32 := by omega
  have q1 : b % 32 < 32 := by omega
  have hv : biV 7 a b = a / 2 ^ (b % 32).toNat := rfl
  rw [hv]
  clear hv
  go_enter Tryd.func24, Tryd.ntmps24
  go_wp2_with (first | (go_at_call 16; ((with_reducible refine (HA.out).mono ?_); rintro e w1 ⟨rfl, rfl⟩)) | (go_at_call 16; ((with_reducible refine (HB.out).mono ?_); rintro e w1 ⟨rfl, rfl⟩)) | (go_at_call 18; ((with_reducible refine (HD.out).mono ?_); rintro e w1 ⟨rfl, rfl⟩)) | (go_at_call 73; ((with_reducible refine (HS.out).mono ?_); rintro e w1 ⟨rfl, rfl⟩)))
  go_ret
  exact ⟨ret_int (by first | rfl | (rw [IntKind.wrap_u64]) | (rw [IntKind.wrap_u64]; rfl)), rfl⟩
set_option maxHeartbeats 1000000 in
set_option maxRecDepth 100000 in
theorem rbin32_8 (a b : Int) (w : World) (h0 : 0 ≤ a) (h1 : a < 4294967296) (k0 : 0 ≤ b) (k1 : b < 4294967296) :
    Calls Tryd.prog 24 #[.int .i64 8, .int .u64 a, .int .u64 b, .int .i64 32] w fun e w' => e = .returned (.int .u64 (biV 8 a b)) ∧ w = w' := by
  have HA := Lib.hid (rextend_32 a w h0 (by omega))
  have HB := Lib.hid (rextend_32 b w k0 (by omega))
  have HD := Lib.hid (rdivide_any (sx 32 a) (sx 32 b) w (sx_b 32 a).1 (sx_b 32 a).2 (sx_b 32 b).1 (sx_b 32 b).2)
  by_cases hb : b = 0
  · have hv : biV 8 a b = a := if_pos hb
    rw [hv]
    have hb' : (b == 0) = true := by simpa using hb
    clear hv hb
    go_enter Tryd.func24, Tryd.ntmps24
    go_wp2_with (first | (go_at_call 16; ((with_reducible refine (HA.out).mono ?_); rintro e w1 ⟨rfl, rfl⟩)) | (go_at_call 16; ((with_reducible refine (HB.out).mono ?_); rintro e w1 ⟨rfl, rfl⟩)) | (go_at_call 18; ((with_reducible refine (HD.out).mono ?_); rintro e w1 ⟨rfl, rfl⟩)))
    go_ret
    exact ⟨rfl, rfl⟩
  · have hv : biV 8 a b = a % b := if_neg hb
    rw [hv]
    have hb' : (b == 0) = false := by simpa using hb
    clear hv
    go_enter Tryd.func24, Tryd.ntmps24
    go_wp2_with (first | (go_at_call 16; ((with_reducible refine (HA.out).mono ?_); rintro e w1 ⟨rfl, rfl⟩)) | (go_at_call 16; ((with_reducible refine (HB.out).mono ?_); rintro e w1 ⟨rfl, rfl⟩)) | (go_at_call 18; ((with_reducible refine (HD.out).mono ?_); rintro e w1 ⟨rfl, rfl⟩)))
    go_ret
    exact ⟨ret_int (by first | rfl | (rw [IntKind.wrap_u64]; exact Int.emod_eq_of_lt (emod_b a b h0 hb k0).1 (by have := (emod_b a b h0 hb k0).2; omega))), rfl⟩
set_option maxHeartbeats 1000000 in
set_option maxRecDepth 100000 in
theorem rbin32_9 (a b : Int) (w : World) (h0 : 0 ≤ a) (h1 : a < 4294967296) (k0 : 0 ≤ b) (k1 : b < 4294967296) :
    Calls Tryd.prog 24 #[.int .i64 9, .int .u64 a, .int .u64 b, .int .i64 32] w fun e w' => e = .returned (.int .u64 (biV 9 a b)) ∧ w = w' := by
  have HA := Lib.hid (rextend_32 a w h0 (by omega))
  have HB := Lib.hid (rextend_32 b w k0 (by omega))
  have HD := Lib.hid (rdivide_any (sx 32 a) (sx 32 b) w (sx_b 32 a).1 (sx_b 32 a).2 (sx_b 32 b).1 (sx_b 32 b).2)
  have HW := Lib.hid (rbitwise 2 2 (.inr (.inr ⟨rfl, rfl⟩)) a b w h0 (by omega) k0 (by omega))
  have hv : biV 9 a b = bw 2 a b := rfl
  rw [hv]
  clear hv
  go_enter Tryd.func24, Tryd.ntmps24
  go_wp2_with (first | (go_at_call 16; ((with_reducible refine (HA.out).mono ?_); rintro e w1 ⟨rfl, rfl⟩)) | (go_at_call 16; ((with_reducible refine (HB.out).mono ?_); rintro e w1 ⟨rfl, rfl⟩)) | (go_at_call 18; ((with_reducible refine (HD.out).mono ?_); rintro e w1 ⟨rfl, rfl⟩)) | (go_at_call 72; ((with_reducible refine (HW.out).mono ?_); rintro e w1 ⟨rfl, rfl⟩)))
  go_ret
  exact ⟨ret_int (by first | rfl | (rw [IntKind.wrap_u64]) | (rw [IntKind.wrap_u64]; rfl)), rfl⟩
set_option maxHeartbeats 1000000 in
set_option maxRecDepth 100000 in
theorem rbin32_10 (a b : Int) (w : World) (h0 : 0 ≤ a) (h1 : a < 4294967296) (k0 : 0 ≤ b) (k1 : b < 4294967296) :
    Calls Tryd.prog 24 #[.int .i64 10, .int .u64 a, .int .u64 b, .int .i64 32] w fun e w' => e = .returned (.int .u64 (biV 10 a b)) ∧ w = w' := by
  have HA := Lib.hid (rextend_32 a w h0 (by omega))
  have HB := Lib.hid (rextend_32 b w k0 (by omega))
  have HD := Lib.hid (rdivide_any (sx 32 a) (sx 32 b) w (sx_b 32 a).1 (sx_b 32 a).2 (sx_b 32 b).1 (sx_b 32 b).2)
  have hv : biV 10 a b = b := rfl
  rw [hv]
  clear hv
  go_enter Tryd.func24, Tryd.ntmps24
  go_wp2_with (first | (go_at_call 16; ((with_reducible refine (HA.out).mono ?_); rintro e w1 ⟨rfl, rfl⟩)) | (go_at_call 16; ((with_reducible refine (HB.out).mono ?_); rintro e w1 ⟨rfl, rfl⟩)) | (go_at_call 18; ((with_reducible refine (HD.out).mono ?_); rintro e w1 ⟨rfl, rfl⟩)))
  go_ret
  exact ⟨ret_int (by first | rfl | (rw [IntKind.wrap_u64]) | (rw [IntKind.wrap_u64]; rfl)), rfl⟩
set_option maxHeartbeats 1000000 in
set_option maxRecDepth 100000 in
theorem rbin32_11 (a b : Int) (w : World) (h0 : 0 ≤ a) (h1 : a < 4294967296) (k0 : 0 ≤ b) (k1 : b < 4294967296) :
    Calls Tryd.prog 24 #[.int .i64 11, .int .u64 a, .int .u64 b, .int .i64 32] w fun e w' => e = .returned (.int .u64 (biV 11 a b)) ∧ w = w' := by
  have HA := Lib.hid (rextend_32 a w h0 (by omega))
  have HB := Lib.hid (rextend_32 b w k0 (by omega))
  have HD := Lib.hid (rdivide_any (sx 32 a) (sx 32 b) w (sx_b 32 a).1 (sx_b 32 a).2 (sx_b 32 b).1 (sx_b 32 b).2)
  have hs := rshift2_32 a (b % 32).toNat w h0 h1 (by omega)
  rw [toNat_mod b 32 (by decide)] at hs
  have HS := Lib.hid hs
  clear hs
  have q0 : 0 ≤ b % 32 := by omega
  have q1 : b % 32 < 32 := by omega
  have hv : biV 11 a b = sx 32 a / 2 ^ (b % 32).toNat % 4294967296 := rfl
  rw [hv]
  clear hv
  go_enter Tryd.func24, Tryd.ntmps24
  go_wp2_with (first | (go_at_call 16; ((with_reducible refine (HA.out).mono ?_); rintro e w1 ⟨rfl, rfl⟩)) | (go_at_call 16; ((with_reducible refine (HB.out).mono ?_); rintro e w1 ⟨rfl, rfl⟩)) | (go_at_call 18; ((with_reducible refine (HD.out).mono ?_); rintro e w1 ⟨rfl, rfl⟩)) | (go_at_call 73; ((with_reducible refine (HS.out).mono ?_); rintro e w1 ⟨rfl, rfl⟩)))
  go_ret
  exact ⟨ret_int (by first | rfl | (rw [IntKind.wrap_u64]) | (rw [IntKind.wrap_u64]; rfl)), rfl⟩
set_option maxHeartbeats 1000000 in
set_option maxRecDepth 100000 in
theorem rbin32_12 (a b : Int) (w : World) (h0 : 0 ≤ a) (h1 : a < 4294967296) (k0 : 0 ≤ b) (k1 : b < 4294967296) :
    Calls Tryd.prog 24 #[.int .i64 12, .int .u64 a, .int .u64 b, .int .i64 32] w fun e w' => e = .returned (.int .u64 (biV 12 a b)) ∧ w = w' := by
  have HA := Lib.hid (rextend_32 a w h0 (by omega))
  have HB := Lib.hid (rextend_32 b w k0 (by omega))
  have HD := Lib.hid (rdivide_any (sx 32 a) (sx 32 b) w (sx_b 32 a).1 (sx_b 32 a).2 (sx_b 32 b).1 (sx_b 32 b).2)
  have hv : biV 12 a b = dq (sx 32 a) (sx 32 b) % 18446744073709551616 := rfl
  rw [hv]
  clear hv
  generalize dq (sx 32 a) (sx 32 b) = q at HD ⊢
  go_enter Tryd.func24, Tryd.ntmps24
  go_wp2_with (first | (go_at_call 16; ((with_reducible refine (HA.out).mono ?_); rintro e w1 ⟨rfl, rfl⟩)) | (go_at_call 16; ((with_reducible refine (HB.out).mono ?_); rintro e w1 ⟨rfl, rfl⟩)) | (go_at_call 18; ((with_reducible refine (HD.out).mono ?_); rintro e w1 ⟨rfl, rfl⟩)))
  go_ret
  exact ⟨ret_int (by first | rfl | (rw [IntKind.wrap_u64]) | (rw [IntKind.wrap_u64]; rfl)), rfl⟩
set_option maxHeartbeats 1000000 in
set_option maxRecDepth 100000 in
theorem rbin32_13 (a b : Int) (w : World) (h0 : 0 ≤ a) (h1 : a < 4294967296) (k0 : 0 ≤ b) (k1 : b < 4294967296) :
    Calls Tryd.prog 24 #[.int .i64 13, .int .u64 a, .int .u64 b, .int .i64 32] w fun e w' => e = .returned (.int .u64 (biV 13 a b)) ∧ w = w' := by
  have HA := Lib.hid (rextend_32 a w h0 (by omega))
  have HB := Lib.hid (rextend_32 b w k0 (by omega))
  have HD := Lib.hid (rdivide_any (sx 32 a) (sx 32 b) w (sx_b 32 a).1 (sx_b 32 a).2 (sx_b 32 b).1 (sx_b 32 b).2)
  have hv : biV 13 a b = dr (sx 32 a) (sx 32 b) % 18446744073709551616 := rfl
  rw [hv]
  clear hv
  generalize dr (sx 32 a) (sx 32 b) = r at HD ⊢
  go_enter Tryd.func24, Tryd.ntmps24
  go_wp2_with (first | (go_at_call 16; ((with_reducible refine (HA.out).mono ?_); rintro e w1 ⟨rfl, rfl⟩)) | (go_at_call 16; ((with_reducible refine (HB.out).mono ?_); rintro e w1 ⟨rfl, rfl⟩)) | (go_at_call 18; ((with_reducible refine (HD.out).mono ?_); rintro e w1 ⟨rfl, rfl⟩)))
  go_ret
  exact ⟨ret_int (by first | rfl | (rw [IntKind.wrap_u64]) | (rw [IntKind.wrap_u64]; rfl)), rfl⟩

theorem rbin64 (i : Nat) (hi : i < 14) (a b x : Int) (hx : x = (i : Int)) (w : World) (h0 : 0 ≤ a) (h1 : a < 18446744073709551616) (k0 : 0 ≤ b) (k1 : b < 18446744073709551616) :
    Calls Tryd.prog 24 #[.int .i64 x, .int .u64 a, .int .u64 b, .int .i64 64] w fun e w' => e = .returned (.int .u64 (aluL i 64 a b)) ∧ w = w' := by
  subst hx
  exact match i, hi with
  | 0, _ => rbin64_0 a b w h0 h1 k0 k1
  | 1, _ => rbin64_1 a b w h0 h1 k0 k1
  | 2, _ => rbin64_2 a b w h0 h1 k0 k1
  | 3, _ => rbin64_3 a b w h0 h1 k0 k1
  | 4, _ => rbin64_4 a b w h0 h1 k0 k1
  | 5, _ => rbin64_5 a b w h0 h1 k0 k1
  | 6, _ => rbin64_6 a b w h0 h1 k0 k1
  | 7, _ => rbin64_7 a b w h0 h1 k0 k1
  | 8, _ => rbin64_8 a b w h0 h1 k0 k1
  | 9, _ => rbin64_9 a b w h0 h1 k0 k1
  | 10, _ => rbin64_10 a b w h0 h1 k0 k1
  | 11, _ => rbin64_11 a b w h0 h1 k0 k1
  | 12, _ => rbin64_12 a b w h0 h1 k0 k1
  | 13, _ => rbin64_13 a b w h0 h1 k0 k1
  | k + 14, hi => absurd hi (by omega)
theorem rbin32 (i : Nat) (hi : i < 14) (a b x : Int) (hx : x = (i : Int)) (w : World) (h0 : 0 ≤ a) (h1 : a < 4294967296) (k0 : 0 ≤ b) (k1 : b < 4294967296) :
    Calls Tryd.prog 24 #[.int .i64 x, .int .u64 a, .int .u64 b, .int .i64 32] w fun e w' => e = .returned (.int .u64 (biV i a b)) ∧ w = w' := by
  subst hx
  exact match i, hi with
  | 0, _ => rbin32_0 a b w h0 h1 k0 k1
  | 1, _ => rbin32_1 a b w h0 h1 k0 k1
  | 2, _ => rbin32_2 a b w h0 h1 k0 k1
  | 3, _ => rbin32_3 a b w h0 h1 k0 k1
  | 4, _ => rbin32_4 a b w h0 h1 k0 k1
  | 5, _ => rbin32_5 a b w h0 h1 k0 k1
  | 6, _ => rbin32_6 a b w h0 h1 k0 k1
  | 7, _ => rbin32_7 a b w h0 h1 k0 k1
  | 8, _ => rbin32_8 a b w h0 h1 k0 k1
  | 9, _ => rbin32_9 a b w h0 h1 k0 k1
  | 10, _ => rbin32_10 a b w h0 h1 k0 k1
  | 11, _ => rbin32_11 a b w h0 h1 k0 k1
  | 12, _ => rbin32_12 a b w h0 h1 k0 k1
  | 13, _ => rbin32_13 a b w h0 h1 k0 k1
  | k + 14, hi => absurd hi (by omega)
theorem low_mod (x : Int) : x % 18446744073709551616 % 4294967296 = x % 4294967296 := by omega
theorem biV_low (i : Nat) (hi : i < 14) (a b : Int) (h0 : 0 ≤ a) (h1 : a < 4294967296) (k0 : 0 ≤ b) (k1 : b < 4294967296) : biV i a b % 4294967296 = aluL i 32 a b ∧ 0 ≤ biV i a b :=
  have ha := tn32 h0 h1
  have hb := tn32 k0 k1
  match i, hi with
  | 0, _ => ⟨rfl, by show 0 ≤ a + b; omega⟩
  | 1, _ => ⟨low_mod _, by show 0 ≤ (a - b) % 18446744073709551616; omega⟩
  | 2, _ => ⟨low_mod _, (in64 _).1⟩
  | 3, _ => by
    show (if b = 0 then (0 : Int) else a / b) % 4294967296 = (if b = 0 then (0 : Int) else a / b) ∧ 0 ≤ (if b = 0 then (0 : Int) else a / b)
    split
    · exact ⟨rfl, Int.le_refl _⟩
    · have := ediv_b a b h0 k0
      exact ⟨Int.emod_eq_of_lt this.1 (by omega), this.1⟩
  | 4, _ => by
    have := ro_b a b 32 ha hb
    rw [p32] at this
    exact ⟨Int.emod_eq_of_lt this.1 this.2, this.1⟩
  | 5, _ => by
    have := an_b a b 32 hb
    rw [p32] at this
    exact ⟨Int.emod_eq_of_lt this.1 this.2, this.1⟩
  | 6, _ => ⟨low_mod _, (in64 _).1⟩
  | 7, _ => by
    have := ediv_b a (2 ^ (b % 32).toNat) h0 (Int.pow_nonneg (by decide))
    show (a / 2 ^ (b % 32).toNat) % 4294967296 = a / 2 ^ (b % 32).toNat ∧ 0 ≤ a / 2 ^ (b % 32).toNat
    exact ⟨Int.emod_eq_of_lt this.1 (by omega), this.1⟩
  | 8, _ => by
    show (if b = 0 then a else a % b) % 4294967296 = (if b = 0 then a else a % b) ∧ 0 ≤ (if b = 0 then a else a % b)
    split
    · exact ⟨Int.emod_eq_of_lt h0 h1, h0⟩
    · rename_i hz
      have := emod_b a b h0 hz k0
      exact ⟨Int.emod_eq_of_lt this.1 (by omega), this.1⟩
  | 9, _ => by
    have := xo_b a b 32 ha hb
    rw [p32] at this
    exact ⟨Int.emod_eq_of_lt this.1 this.2, this.1⟩
  | 10, _ => ⟨Int.emod_eq_of_lt k0 k1, k0⟩
  | 11, _ => ⟨Int.emod_emod_of_dvd _ (Int.dvd_refl _), by show 0 ≤ sx 32 a / 2 ^ (b % 32).toNat % 4294967296; omega⟩
  | 12, _ => ⟨low_mod _, (in64 _).1⟩
  | 13, _ => ⟨low_mod _, (in64 _).1⟩
  | k + 14, hi => absurd hi (by omega)
end Go.Proofs.YtkhnomicnblgfaaDoor
