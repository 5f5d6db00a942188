/- What the program's small functions of layer 6 return. Condition: the numbers are of 64 bits, and the table of widths reads as laid. -/
import Derived.Test.YtkhnomicnblgfaaDoorMath
import Derived.Test.YtkhnomicnblgfaaDoorL1Base
import Derived.Test.YtkhnomicnblgfaaDoorL3Get
namespace Go.Proofs.YtkhnomicnblgfaaDoor
open Go.RowKit L1 L3

set_option maxHeartbeats 1000000 in
set_option maxRecDepth 100000 in
theorem len64 (x n : Int) (w : World) (h : (x = 18446744073709551615 ∧ n = 64) ∨ (x = 4294967295 ∧ n = 32) ∨ (x = 65535 ∧ n = 16)) :
    Calls Tryd.prog 83 #[.int .u64 x] w fun e w' => e = .returned (.int .i64 n) ∧ w = w' := by
  rcases h with ⟨rfl, rfl⟩ | ⟨rfl, rfl⟩ | ⟨rfl, rfl⟩
  all_goals
    go_enter Tryd.func83, Tryd.ntmps83
    go_wp2
    go_ret
    exact ⟨ret_int (by kernel_rfl), rfl⟩
theorem width64 (w : World) : Calls Tryd.prog 81 #[] w fun e w' => e = .returned (.int .i64 64) ∧ w = w' := by
  have hs : IntKind.u64.signed = false := rfl
  have hx : bits .xor .u64 IntKind.u64.max 0 = 18446744073709551615 := by kernel_rfl
  have HL := Lib.hid (len64 18446744073709551615 64 w (.inl ⟨rfl, rfl⟩))
  go_enter Tryd.func81, Tryd.ntmps81
  go_wp2_with (go_at_call 83; ((with_reducible refine (HL.out).mono ?_); rintro e w1 ⟨rfl, rfl⟩))
  go_ret
  exact ⟨rfl, rfl⟩
theorem width32 (w : World) : Calls Tryd.prog 80 #[] w fun e w' => e = .returned (.int .i64 32) ∧ w = w' := by
  have hs : IntKind.u32.signed = false := rfl
  have hx : bits .xor .u32 IntKind.u32.max 0 = 4294967295 := by kernel_rfl
  have HL := Lib.hid (len64 4294967295 32 w (.inr (.inl ⟨rfl, rfl⟩)))
  go_enter Tryd.func80, Tryd.ntmps80
  go_wp2_with (go_at_call 83; ((with_reducible refine (HL.out).mono ?_); rintro e w1 ⟨rfl, rfl⟩))
  go_ret
  exact ⟨rfl, rfl⟩
theorem width16 (w : World) : Calls Tryd.prog 79 #[] w fun e w' => e = .returned (.int .i64 16) ∧ w = w' := by
  have hs : IntKind.u16.signed = false := rfl
  have hx : bits .xor .u16 IntKind.u16.max 0 = 65535 := by kernel_rfl
  have HL := Lib.hid (len64 65535 16 w (.inr (.inr ⟨rfl, rfl⟩)))
  go_enter Tryd.func79, Tryd.ntmps79
  go_wp2_with (go_at_call 83; ((with_reducible refine (HL.out).mono ?_); rintro e w1 ⟨rfl, rfl⟩))
  go_ret
  exact ⟨rfl, rfl⟩
theorem count64 (b : Int) (w : World) (h0 : 0 ≤ b) (h1 : b < 18446744073709551616) : Calls Tryd.prog 75 #[.int .u64 b] w fun e w' => e = .returned (.int .u64 (b % 64)) ∧ w = w' := by
  go_enter Tryd.func75, Tryd.ntmps75
  go_wp2_with (go_at_call 81; ((with_reducible refine (width64 _).mono ?_); rintro e w1 ⟨rfl, rfl⟩))
  go_ret
  exact ⟨rfl, rfl⟩
theorem signed64 (x : Int) (w : World) (hw : Wid w) (h0 : 0 ≤ x) (h1 : x < 18446744073709551616) : Calls Tryd.prog 76 #[.int .u64 x] w fun e w' => e = .returned (.int .i64 (sx 64 x)) ∧ w = w' := by
  have HE := Lib.hid (extend_yes x 64 w h0 h1 hw (by decide))
  go_enter Tryd.func76, Tryd.ntmps76
  go_wp2_with (first | (go_at_call 81; ((with_reducible refine (width64 _).mono ?_); rintro e w1 ⟨rfl, rfl⟩)) | (go_at_call 82; ((with_reducible refine (HE.out).mono ?_); rintro e w1 ⟨rfl, rfl⟩)))
  go_ret
  exact ⟨rfl, rfl⟩

theorem count32 (b : Int) (w : World) (h0 : 0 ≤ b) (h1 : b < 18446744073709551616) : Calls Tryd.prog 77 #[.int .u64 b] w fun e w' => e = .returned (.int .u64 (b % 32)) ∧ w = w' := by
  go_enter Tryd.func77, Tryd.ntmps77
  go_wp2_with (go_at_call 80; ((with_reducible refine (width32 _).mono ?_); rintro e w1 ⟨rfl, rfl⟩))
  go_ret
  exact ⟨rfl, rfl⟩
theorem signed32 (x : Int) (w : World) (hw : Wid w) (h0 : 0 ≤ x) (h1 : x < 18446744073709551616) : Calls Tryd.prog 78 #[.int .u64 x] w fun e w' => e = .returned (.int .i64 (sx 32 x)) ∧ w = w' := by
  have HE := Lib.hid (extend_yes x 32 w h0 h1 hw (by decide))
  go_enter Tryd.func78, Tryd.ntmps78
  go_wp2_with (first | (go_at_call 80; ((with_reducible refine (width32 _).mono ?_); rintro e w1 ⟨rfl, rfl⟩)) | (go_at_call 82; ((with_reducible refine (HE.out).mono ?_); rintro e w1 ⟨rfl, rfl⟩)))
  go_ret
  exact ⟨rfl, rfl⟩

theorem divide_any (a b : Int) (w : World) (_h0 : -9223372036854775808 ≤ a) (_h1 : a ≤ 9223372036854775807) (k0 : -9223372036854775808 ≤ b) (k1 : b ≤ 9223372036854775807) :
    Calls Tryd.prog 17 #[.int .i64 a, .int .i64 b] w fun e w' => e = .returned (.tuple #[.int .i64 (dq a b), .int .i64 (dr a b)]) ∧ Below w.heap.size w w' := by
  by_cases hb : b = 0
  · subst hb
    go_enter Tryd.func17, Tryd.ntmps17
    go_wp2
    go_ret2
    exact ⟨rfl, Below.refl _ _⟩
  · have hb' : (b == 0) = false := by simpa using hb
    have e1 : dq a b = wrap64 (a.tdiv b) := by unfold dq; rw [if_neg hb]
    have e2 : dr a b = a.tmod b := by unfold dr; rw [if_neg hb]
    rw [e1, e2]
    clear e1 e2
    go_enter Tryd.func17, Tryd.ntmps17
    go_wp2
    go_quiet (fail)
    go_wp2
    go_ret2
    exact ⟨rfl, below_drewN (Below.refl _ _) nq⟩

theorem sx_same (n x : Int) : sx' n x = sx n x := rfl
theorem sx_b (n x : Int) : -9223372036854775808 ≤ sx n x ∧ sx n x ≤ 9223372036854775807 := by
  unfold sx
  repeat' split
  all_goals omega
theorem sx_low (x : Int) : sx 32 (x % 4294967296) = sx 32 x := by
  simp only [sx]
  simp
theorem w8_sx (x : Int) : IntKind.i8.wrap x = sx 8 x := by
  simp [sx, IntKind.wrap, IntKind.bits, IntKind.signed]; omega
theorem w16_sx (x : Int) : IntKind.i16.wrap x = sx 16 x := by
  simp [sx, IntKind.wrap, IntKind.bits, IntKind.signed]; omega
theorem w32_sx (x : Int) : IntKind.i32.wrap x = sx 32 x := by
  rw [IntKind.wrap_i32]; rfl
theorem w32_w (x : Int) : IntKind.i32.wrap x = wrap32 x := by
  rw [IntKind.wrap_i32]; unfold wrap32; omega
theorem mod_low (b : Int) : b % 4294967296 % 32 = b % 32 := by omega
theorem add64_is (a b : Int) (w : World) (_h0 : 0 ≤ a) (_h1 : a < 18446744073709551616) (_k0 : 0 ≤ b) (_k1 : b < 18446744073709551616) :
    Calls Tryd.prog 31 #[.int .u64 a, .int .u64 b] w fun e w' => e = .returned (.int .u64 (aluL 0 64 a b)) ∧ Below w.heap.size w w' := by
  go_enter Tryd.func31, Tryd.ntmps31
  go_wp2
  go_ret
  exact ⟨rfl, Below.refl _ _⟩

theorem sub64_is (a b : Int) (w : World) (_h0 : 0 ≤ a) (_h1 : a < 18446744073709551616) (_k0 : 0 ≤ b) (_k1 : b < 18446744073709551616) :
    Calls Tryd.prog 32 #[.int .u64 a, .int .u64 b] w fun e w' => e = .returned (.int .u64 (aluL 1 64 a b)) ∧ Below w.heap.size w w' := by
  go_enter Tryd.func32, Tryd.ntmps32
  go_wp2
  go_ret
  exact ⟨rfl, Below.refl _ _⟩

theorem mul64_is (a b : Int) (w : World) (_h0 : 0 ≤ a) (_h1 : a < 18446744073709551616) (_k0 : 0 ≤ b) (_k1 : b < 18446744073709551616) :
    Calls Tryd.prog 33 #[.int .u64 a, .int .u64 b] w fun e w' => e = .returned (.int .u64 (aluL 2 64 a b)) ∧ Below w.heap.size w w' := by
  go_enter Tryd.func33, Tryd.ntmps33
  go_wp2
  go_ret
  exact ⟨rfl, Below.refl _ _⟩

theorem div64_is (a b : Int) (w : World) (h0 : 0 ≤ a) (h1 : a < 18446744073709551616) (k0 : 0 ≤ b) (k1 : b < 18446744073709551616) :
    Calls Tryd.prog 34 #[.int .u64 a, .int .u64 b] w fun e w' => e = .returned (.int .u64 (aluL 3 64 a b)) ∧ Below w.heap.size w w' := by
  by_cases hb : b = 0
  · have hb' : (b == 0) = true := by simpa using hb
    have hv : aluL 3 64 a b = 0 := by rw [hb]; rfl
    rw [hv]
    clear hv hb
    go_enter Tryd.func34, Tryd.ntmps34
    go_wp2
    go_ret
    exact ⟨rfl, Below.refl _ _⟩
  · have hb' : (b == 0) = false := by simpa using hb
    have hv : aluL 3 64 a b = a / (b) := if_neg hb
    rw [hv]
    have hd := ediv_b (a) (b) (by omega) (by omega)
    have q0 : 0 ≤ b := by omega
    have q1 : 0 ≤ a := by omega
    clear hv
    go_enter Tryd.func34, Tryd.ntmps34
    go_wp2
    go_ret
    refine ⟨ret_int ?_, Below.refl _ _⟩
    first | rfl | (show IntKind.u64.wrap _ = _; rw [IntKind.wrap_u64]; exact Int.emod_eq_of_lt hd.1 (by omega)) | (show _ % 18446744073709551616 = _; exact Int.emod_eq_of_lt hd.1 (by omega)) | (show _ % 4294967296 = _; exact Int.emod_eq_of_lt hd.1 (by omega)) | (show IntKind.u64.wrap (IntKind.u32.wrap _) = _; rw [IntKind.wrap_u64, IntKind.wrap_u32]; rw [Int.emod_eq_of_lt hd.1 (by omega), Int.emod_eq_of_lt hd.1 (by omega)])

theorem or64_is (a b : Int) (w : World) (h0 : 0 ≤ a) (h1 : a < 18446744073709551616) (k0 : 0 ≤ b) (k1 : b < 18446744073709551616) :
    Calls Tryd.prog 35 #[.int .u64 a, .int .u64 b] w fun e w' => e = .returned (.int .u64 (aluL 4 64 a b)) ∧ Below w.heap.size w w' := by
  have hv := or64 a b h0 h1 k0 k1
  have hx : ∀ a b, aluL 4 64 a b = ro a b := fun _ _ => rfl
  rw [hx]
  obtain ⟨c, hc⟩ : ∃ c, ro a b = c := ⟨_, rfl⟩
  rw [hc] at hv ⊢
  clear hc hx
  go_enter Tryd.func35, Tryd.ntmps35
  go_wp2
  go_ret
  exact ⟨rfl, Below.refl _ _⟩

theorem and64_is (a b : Int) (w : World) (h0 : 0 ≤ a) (h1 : a < 18446744073709551616) (k0 : 0 ≤ b) (k1 : b < 18446744073709551616) :
    Calls Tryd.prog 36 #[.int .u64 a, .int .u64 b] w fun e w' => e = .returned (.int .u64 (aluL 5 64 a b)) ∧ Below w.heap.size w w' := by
  have hv := and64 a b h0 h1 k0 k1
  have hx : ∀ a b, aluL 5 64 a b = an a b := fun _ _ => rfl
  rw [hx]
  obtain ⟨c, hc⟩ : ∃ c, an a b = c := ⟨_, rfl⟩
  rw [hc] at hv ⊢
  clear hc hx
  go_enter Tryd.func36, Tryd.ntmps36
  go_wp2
  go_ret
  exact ⟨rfl, Below.refl _ _⟩

theorem lsh64_is (a b : Int) (w : World) (_h0 : 0 ≤ a) (_h1 : a < 18446744073709551616) (k0 : 0 ≤ b) (k1 : b < 18446744073709551616) :
    Calls Tryd.prog 37 #[.int .u64 a, .int .u64 b] w fun e w' => e = .returned (.int .u64 (aluL 6 64 a b)) ∧ Below w.heap.size w w' := by
  have q0 : 0 ≤ b % 64 := by omega
  have q1 : b % 64 ≤ 64 := by omega
  have HC := Lib.hid (count64 b w k0 k1)
  go_enter Tryd.func37, Tryd.ntmps37
  go_wp2_with (go_at_call 75; ((with_reducible refine (HC.out).mono ?_); rintro e w1 ⟨rfl, rfl⟩))
  go_ret
  refine ⟨ret_int ?_, Below.refl _ _⟩
  rfl

theorem rsh64_is (a b : Int) (w : World) (h0 : 0 ≤ a) (_h1 : a < 18446744073709551616) (k0 : 0 ≤ b) (k1 : b < 18446744073709551616) :
    Calls Tryd.prog 38 #[.int .u64 a, .int .u64 b] w fun e w' => e = .returned (.int .u64 (aluL 7 64 a b)) ∧ Below w.heap.size w w' := by
  have q0 : 0 ≤ b % 64 := by omega
  have q1 : b % 64 ≤ 64 := by omega
  have HC := Lib.hid (count64 b w k0 k1)
  have hd := ediv_b a (2 ^ (b % 64).toNat) (by omega) (Int.pow_nonneg (by decide))
  have HD := Lib.hid hd
  clear hd
  go_enter Tryd.func38, Tryd.ntmps38
  go_wp2_with (go_at_call 75; ((with_reducible refine (HC.out).mono ?_); rintro e w1 ⟨rfl, rfl⟩))
  go_ret
  refine ⟨ret_int ?_, Below.refl _ _⟩
  first | rfl | (show IntKind.u64.wrap _ = _; rw [IntKind.wrap_u64]; exact Int.emod_eq_of_lt HD.out.1 (by have := HD.out.2; omega)) | exact Int.emod_eq_of_lt HD.out.1 (by have := HD.out.2; omega)

theorem mod64_is (a b : Int) (w : World) (h0 : 0 ≤ a) (h1 : a < 18446744073709551616) (k0 : 0 ≤ b) (_k1 : b < 18446744073709551616) :
    Calls Tryd.prog 39 #[.int .u64 a, .int .u64 b] w fun e w' => e = .returned (.int .u64 (aluL 8 64 a b)) ∧ Below w.heap.size w w' := by
  by_cases hb : b = 0
  · have hb' : (b == 0) = true := by simpa using hb
    have hv : aluL 8 64 a b = a := by rw [hb]; rfl
    rw [hv]
    clear hv hb
    go_enter Tryd.func39, Tryd.ntmps39
    go_wp2
    go_ret
    exact ⟨rfl, Below.refl _ _⟩
  · have hb' : (b == 0) = false := by simpa using hb
    have hv : aluL 8 64 a b = a % (b) := if_neg hb
    rw [hv]
    have hd := emod_b (a) (b) (by omega) hb (by omega)
    have q0 : 0 ≤ b := by omega
    have q1 : 0 ≤ a := by omega
    clear hv
    go_enter Tryd.func39, Tryd.ntmps39
    go_wp2
    go_ret
    refine ⟨ret_int ?_, Below.refl _ _⟩
    first | rfl | (show IntKind.u64.wrap _ = _; rw [IntKind.wrap_u64]; exact Int.emod_eq_of_lt hd.1 (by omega)) | (show _ % 18446744073709551616 = _; exact Int.emod_eq_of_lt hd.1 (by omega)) | (show _ % 4294967296 = _; exact Int.emod_eq_of_lt hd.1 (by omega)) | (show IntKind.u64.wrap (IntKind.u32.wrap _) = _; rw [IntKind.wrap_u64, IntKind.wrap_u32]; rw [Int.emod_eq_of_lt hd.1 (by omega), Int.emod_eq_of_lt hd.1 (by omega)])

theorem xor64_is (a b : Int) (w : World) (h0 : 0 ≤ a) (h1 : a < 18446744073709551616) (k0 : 0 ≤ b) (k1 : b < 18446744073709551616) :
    Calls Tryd.prog 40 #[.int .u64 a, .int .u64 b] w fun e w' => e = .returned (.int .u64 (aluL 9 64 a b)) ∧ Below w.heap.size w w' := by
  have hv := xor64 a b h0 h1 k0 k1
  have hx : ∀ a b, aluL 9 64 a b = xo a b := fun _ _ => rfl
  rw [hx]
  obtain ⟨c, hc⟩ : ∃ c, xo a b = c := ⟨_, rfl⟩
  rw [hc] at hv ⊢
  clear hc hx
  go_enter Tryd.func40, Tryd.ntmps40
  go_wp2
  go_ret
  exact ⟨rfl, Below.refl _ _⟩

theorem mov64_is (a b : Int) (w : World) (_h0 : 0 ≤ a) (_h1 : a < 18446744073709551616) (_k0 : 0 ≤ b) (_k1 : b < 18446744073709551616) :
    Calls Tryd.prog 41 #[.int .u64 a, .int .u64 b] w fun e w' => e = .returned (.int .u64 (aluL 10 64 a b)) ∧ Below w.heap.size w w' := by
  go_enter Tryd.func41, Tryd.ntmps41
  go_wp2
  go_ret
  exact ⟨rfl, Below.refl _ _⟩

theorem arsh64_is (a b : Int) (w : World) (hw : Wid w) (h0 : 0 ≤ a) (h1 : a < 18446744073709551616) (k0 : 0 ≤ b) (k1 : b < 18446744073709551616) :
    Calls Tryd.prog 42 #[.int .u64 a, .int .u64 b] w fun e w' => e = .returned (.int .u64 (aluL 11 64 a b)) ∧ Below w.heap.size w w' := by
  have q0 : 0 ≤ b % 64 := by omega
  have q1 : b % 64 ≤ 64 := by omega
  have HC := Lib.hid (count64 b w k0 k1)
  have HS := Lib.hid (signed64 a w hw h0 h1)
  go_enter Tryd.func42, Tryd.ntmps42
  go_wp2_with (first | (go_at_call 75; ((with_reducible refine (HC.out).mono ?_); rintro e w1 ⟨rfl, rfl⟩)) | (go_at_call 76; ((with_reducible refine (HS.out).mono ?_); rintro e w1 ⟨rfl, rfl⟩)))
  go_ret
  refine ⟨ret_int ?_, Below.refl _ _⟩
  first | rfl | (show IntKind.u64.wrap _ = _ % 4294967296; rw [IntKind.wrap_u64]; omega)

theorem sdiv64_is (a b : Int) (w : World) (hw : Wid w) (h0 : 0 ≤ a) (h1 : a < 18446744073709551616) (k0 : 0 ≤ b) (k1 : b < 18446744073709551616) :
    Calls Tryd.prog 43 #[.int .u64 a, .int .u64 b] w fun e w' => e = .returned (.int .u64 (aluL 12 64 a b)) ∧ Below w.heap.size w w' := by
  have HS := Lib.hid (signed64 a w hw h0 h1)
  have HT := Lib.hid (signed64 b w hw k0 k1)
  have HD := Lib.hid (divide_any (sx 64 a) (sx 64 b) w (sx_b 64 a).1 (sx_b 64 a).2 (sx_b 64 b).1 (sx_b 64 b).2)
  go_enter Tryd.func43, Tryd.ntmps43
  go_wp2_with (first | (go_at_call 76; ((with_reducible refine (HS.out).mono ?_); rintro e w1 ⟨rfl, rfl⟩)) | (go_at_call 76; ((with_reducible refine (HT.out).mono ?_); rintro e w1 ⟨rfl, rfl⟩)) | (go_at_call 17; ((with_reducible refine (HD.out).mono ?_); rintro e w1 ⟨rfl, hb1⟩)))
  go_ret
  refine ⟨ret_int ?_, hb1⟩
  first | rfl | (show IntKind.u64.wrap _ = _ % 4294967296; rw [IntKind.wrap_u64]; omega)

theorem smod64_is (a b : Int) (w : World) (hw : Wid w) (h0 : 0 ≤ a) (h1 : a < 18446744073709551616) (k0 : 0 ≤ b) (k1 : b < 18446744073709551616) :
    Calls Tryd.prog 44 #[.int .u64 a, .int .u64 b] w fun e w' => e = .returned (.int .u64 (aluL 13 64 a b)) ∧ Below w.heap.size w w' := by
  have HS := Lib.hid (signed64 a w hw h0 h1)
  have HT := Lib.hid (signed64 b w hw k0 k1)
  have HD := Lib.hid (divide_any (sx 64 a) (sx 64 b) w (sx_b 64 a).1 (sx_b 64 a).2 (sx_b 64 b).1 (sx_b 64 b).2)
  go_enter Tryd.func44, Tryd.ntmps44
  go_wp2_with (first | (go_at_call 76; ((with_reducible refine (HS.out).mono ?_); rintro e w1 ⟨rfl, rfl⟩)) | (go_at_call 76; ((with_reducible refine (HT.out).mono ?_); rintro e w1 ⟨rfl, rfl⟩)) | (go_at_call 17; ((with_reducible refine (HD.out).mono ?_); rintro e w1 ⟨rfl, hb1⟩)))
  go_ret
  refine ⟨ret_int ?_, hb1⟩
  first | rfl | (show IntKind.u64.wrap _ = _ % 4294967296; rw [IntKind.wrap_u64]; omega)

theorem add32_is (a b : Int) (w : World) (_h0 : 0 ≤ a) (_h1 : a < 18446744073709551616) (_k0 : 0 ≤ b) (_k1 : b < 18446744073709551616) :
    Calls Tryd.prog 45 #[.int .u64 a, .int .u64 b] w fun e w' => e = .returned (.int .u64 (aluL 0 32 (a % 4294967296) (b % 4294967296))) ∧ Below w.heap.size w w' := by
  go_enter Tryd.func45, Tryd.ntmps45
  go_wp2
  go_ret
  exact ⟨ret_int (by show _ = (a % 4294967296 + b % 4294967296) % 4294967296; rw [← Int.add_emod]), Below.refl _ _⟩

theorem sub32_is (a b : Int) (w : World) (_h0 : 0 ≤ a) (_h1 : a < 18446744073709551616) (_k0 : 0 ≤ b) (_k1 : b < 18446744073709551616) :
    Calls Tryd.prog 46 #[.int .u64 a, .int .u64 b] w fun e w' => e = .returned (.int .u64 (aluL 1 32 (a % 4294967296) (b % 4294967296))) ∧ Below w.heap.size w w' := by
  go_enter Tryd.func46, Tryd.ntmps46
  go_wp2
  go_ret
  exact ⟨ret_int (by show _ = (a % 4294967296 - b % 4294967296) % 4294967296; rw [← Int.sub_emod]), Below.refl _ _⟩

theorem mul32_is (a b : Int) (w : World) (_h0 : 0 ≤ a) (_h1 : a < 18446744073709551616) (_k0 : 0 ≤ b) (_k1 : b < 18446744073709551616) :
    Calls Tryd.prog 47 #[.int .u64 a, .int .u64 b] w fun e w' => e = .returned (.int .u64 (aluL 2 32 (a % 4294967296) (b % 4294967296))) ∧ Below w.heap.size w w' := by
  go_enter Tryd.func47, Tryd.ntmps47
  go_wp2
  go_ret
  exact ⟨ret_int (by show _ = (a % 4294967296 * (b % 4294967296)) % 4294967296; rw [← Int.mul_emod]), Below.refl _ _⟩

theorem div32_is (a b : Int) (w : World) (_h0 : 0 ≤ a) (_h1 : a < 18446744073709551616) (_k0 : 0 ≤ b) (_k1 : b < 18446744073709551616) :
    Calls Tryd.prog 48 #[.int .u64 a, .int .u64 b] w fun e w' => e = .returned (.int .u64 (aluL 3 32 (a % 4294967296) (b % 4294967296))) ∧ Below w.heap.size w w' := by
  by_cases hb : b % 4294967296 = 0
  · have hb' : (b % 4294967296 == 0) = true := by simpa using hb
    have hv : aluL 3 32 (a % 4294967296) (b % 4294967296) = 0 := by rw [hb]; rfl
    rw [hv]
    clear hv hb
    go_enter Tryd.func48, Tryd.ntmps48
    go_wp2
    go_ret
    exact ⟨rfl, Below.refl _ _⟩
  · have hb' : (b % 4294967296 == 0) = false := by simpa using hb
    have hv : aluL 3 32 (a % 4294967296) (b % 4294967296) = a % 4294967296 / (b % 4294967296) := if_neg hb
    rw [hv]
    have hd := ediv_b (a % 4294967296) (b % 4294967296) (by omega) (by omega)
    have q0 : 0 ≤ b % 4294967296 := by omega
    have q1 : 0 ≤ a % 4294967296 := by omega
    clear hv
    go_enter Tryd.func48, Tryd.ntmps48
    go_wp2
    go_ret
    refine ⟨ret_int ?_, Below.refl _ _⟩
    first | rfl | (show IntKind.u64.wrap _ = _; rw [IntKind.wrap_u64]; exact Int.emod_eq_of_lt hd.1 (by omega)) | (show _ % 18446744073709551616 = _; exact Int.emod_eq_of_lt hd.1 (by omega)) | (show _ % 4294967296 = _; exact Int.emod_eq_of_lt hd.1 (by omega)) | (show IntKind.u64.wrap (IntKind.u32.wrap _) = _; rw [IntKind.wrap_u64, IntKind.wrap_u32]; rw [Int.emod_eq_of_lt hd.1 (by omega), Int.emod_eq_of_lt hd.1 (by omega)])

theorem or32_is (a b : Int) (w : World) (_h0 : 0 ≤ a) (_h1 : a < 18446744073709551616) (_k0 : 0 ≤ b) (_k1 : b < 18446744073709551616) :
    Calls Tryd.prog 49 #[.int .u64 a, .int .u64 b] w fun e w' => e = .returned (.int .u64 (aluL 4 32 (a % 4294967296) (b % 4294967296))) ∧ Below w.heap.size w w' := by
  have a0 : 0 ≤ a % 4294967296 := by omega
  have a1 : a % 4294967296 < 4294967296 := by omega
  have b0 : 0 ≤ b % 4294967296 := by omega
  have b1 : b % 4294967296 < 4294967296 := by omega
  have hv := or32 (a % 4294967296) (b % 4294967296) a0 a1 b0 b1
  have hb := ro_b _ _ 32 (tn32 a0 a1) (tn32 b0 b1)
  rw [p32] at hb
  have hx : ∀ a b, aluL 4 32 a b = ro a b := fun _ _ => rfl
  rw [hx]
  obtain ⟨c, hc⟩ : ∃ c, ro (a % 4294967296) (b % 4294967296) = c := ⟨_, rfl⟩
  rw [hc] at hv hb ⊢
  clear hc hx a0 a1 b0 b1
  obtain ⟨c0, c1⟩ := hb
  go_enter Tryd.func49, Tryd.ntmps49
  go_wp2
  go_ret
  refine ⟨ret_int ?_, Below.refl _ _⟩
  first | rfl | (show IntKind.u64.wrap c = c; rw [IntKind.wrap_u64]; omega) | (show c % 18446744073709551616 = c; omega)

theorem and32_is (a b : Int) (w : World) (_h0 : 0 ≤ a) (_h1 : a < 18446744073709551616) (_k0 : 0 ≤ b) (_k1 : b < 18446744073709551616) :
    Calls Tryd.prog 50 #[.int .u64 a, .int .u64 b] w fun e w' => e = .returned (.int .u64 (aluL 5 32 (a % 4294967296) (b % 4294967296))) ∧ Below w.heap.size w w' := by
  have a0 : 0 ≤ a % 4294967296 := by omega
  have a1 : a % 4294967296 < 4294967296 := by omega
  have b0 : 0 ≤ b % 4294967296 := by omega
  have b1 : b % 4294967296 < 4294967296 := by omega
  have hv := and32 (a % 4294967296) (b % 4294967296) a0 a1 b0 b1
  have hb := an_b (a % 4294967296) (b % 4294967296) 32 (tn32 b0 b1)
  rw [p32] at hb
  have hx : ∀ a b, aluL 5 32 a b = an a b := fun _ _ => rfl
  rw [hx]
  obtain ⟨c, hc⟩ : ∃ c, an (a % 4294967296) (b % 4294967296) = c := ⟨_, rfl⟩
  rw [hc] at hv hb ⊢
  clear hc hx a0 a1 b0 b1
  obtain ⟨c0, c1⟩ := hb
  go_enter Tryd.func50, Tryd.ntmps50
  go_wp2
  go_ret
  refine ⟨ret_int ?_, Below.refl _ _⟩
  first | rfl | (show IntKind.u64.wrap c = c; rw [IntKind.wrap_u64]; omega) | (show c % 18446744073709551616 = c; omega)

theorem lsh32_is (a b : Int) (w : World) (_h0 : 0 ≤ a) (_h1 : a < 18446744073709551616) (k0 : 0 ≤ b) (k1 : b < 18446744073709551616) :
    Calls Tryd.prog 51 #[.int .u64 a, .int .u64 b] w fun e w' => e = .returned (.int .u64 (aluL 6 32 (a % 4294967296) (b % 4294967296))) ∧ Below w.heap.size w w' := by
  have q0 : 0 ≤ b % 32 := by omega
  have q1 : b % 32 ≤ 32 := by omega
  have HC := Lib.hid (count32 b w k0 k1)
  have q2 : 0 ≤ a % 4294967296 := by omega
  go_enter Tryd.func51, Tryd.ntmps51
  go_wp2_with (go_at_call 77; ((with_reducible refine (HC.out).mono ?_); rintro e w1 ⟨rfl, rfl⟩))
  go_ret
  refine ⟨ret_int ?_, Below.refl _ _⟩
  have hv : ∀ a b, aluL 6 32 a b = mo 32 (a * 2 ^ (b % 32).toNat) := fun _ _ => rfl
  rw [hv, mod_low]
  first | rfl | (show IntKind.u64.wrap _ = _ % 4294967296; rw [IntKind.wrap_u64]; omega)

theorem rsh32_is (a b : Int) (w : World) (_h0 : 0 ≤ a) (_h1 : a < 18446744073709551616) (k0 : 0 ≤ b) (k1 : b < 18446744073709551616) :
    Calls Tryd.prog 52 #[.int .u64 a, .int .u64 b] w fun e w' => e = .returned (.int .u64 (aluL 7 32 (a % 4294967296) (b % 4294967296))) ∧ Below w.heap.size w w' := by
  have q0 : 0 ≤ b % 32 := by omega
  have q1 : b % 32 ≤ 32 := by omega
  have HC := Lib.hid (count32 b w k0 k1)
  have q2 : 0 ≤ a % 4294967296 := by omega
  have hd := ediv_b (a % 4294967296) (2 ^ (b % 32).toNat) (by omega) (Int.pow_nonneg (by decide))
  have HD := Lib.hid hd
  clear hd
  go_enter Tryd.func52, Tryd.ntmps52
  go_wp2_with (go_at_call 77; ((with_reducible refine (HC.out).mono ?_); rintro e w1 ⟨rfl, rfl⟩))
  go_ret
  refine ⟨ret_int ?_, Below.refl _ _⟩
  have hv : ∀ a b, aluL 7 32 a b = a / 2 ^ (b % 32).toNat := fun _ _ => rfl
  rw [hv, mod_low]
  first | rfl | (show IntKind.u64.wrap _ = _; rw [IntKind.wrap_u64]; exact Int.emod_eq_of_lt HD.out.1 (by have := HD.out.2; omega)) | exact Int.emod_eq_of_lt HD.out.1 (by have := HD.out.2; omega)

theorem mod32_is (a b : Int) (w : World) (_h0 : 0 ≤ a) (_h1 : a < 18446744073709551616) (_k0 : 0 ≤ b) (_k1 : b < 18446744073709551616) :
    Calls Tryd.prog 53 #[.int .u64 a, .int .u64 b] w fun e w' => e = .returned (.int .u64 (aluL 8 32 (a % 4294967296) (b % 4294967296))) ∧ Below w.heap.size w w' := by
  by_cases hb : b % 4294967296 = 0
  · have hb' : (b % 4294967296 == 0) = true := by simpa using hb
    have hv : aluL 8 32 (a % 4294967296) (b % 4294967296) = a % 4294967296 := by rw [hb]; rfl
    rw [hv]
    clear hv hb
    go_enter Tryd.func53, Tryd.ntmps53
    go_wp2
    go_ret
    exact ⟨rfl, Below.refl _ _⟩
  · have hb' : (b % 4294967296 == 0) = false := by simpa using hb
    have hv : aluL 8 32 (a % 4294967296) (b % 4294967296) = a % 4294967296 % (b % 4294967296) := if_neg hb
    rw [hv]
    have hd := emod_b (a % 4294967296) (b % 4294967296) (by omega) hb (by omega)
    have q0 : 0 ≤ b % 4294967296 := by omega
    have q1 : 0 ≤ a % 4294967296 := by omega
    clear hv
    go_enter Tryd.func53, Tryd.ntmps53
    go_wp2
    go_ret
    refine ⟨ret_int ?_, Below.refl _ _⟩
    first | rfl | (show IntKind.u64.wrap _ = _; rw [IntKind.wrap_u64]; exact Int.emod_eq_of_lt hd.1 (by omega)) | (show _ % 18446744073709551616 = _; exact Int.emod_eq_of_lt hd.1 (by omega)) | (show _ % 4294967296 = _; exact Int.emod_eq_of_lt hd.1 (by omega)) | (show IntKind.u64.wrap (IntKind.u32.wrap _) = _; rw [IntKind.wrap_u64, IntKind.wrap_u32]; rw [Int.emod_eq_of_lt hd.1 (by omega), Int.emod_eq_of_lt hd.1 (by omega)])

theorem xor32_is (a b : Int) (w : World) (_h0 : 0 ≤ a) (_h1 : a < 18446744073709551616) (_k0 : 0 ≤ b) (_k1 : b < 18446744073709551616) :
    Calls Tryd.prog 54 #[.int .u64 a, .int .u64 b] w fun e w' => e = .returned (.int .u64 (aluL 9 32 (a % 4294967296) (b % 4294967296))) ∧ Below w.heap.size w w' := by
  have a0 : 0 ≤ a % 4294967296 := by omega
  have a1 : a % 4294967296 < 4294967296 := by omega
  have b0 : 0 ≤ b % 4294967296 := by omega
  have b1 : b % 4294967296 < 4294967296 := by omega
  have hv := xor32 (a % 4294967296) (b % 4294967296) a0 a1 b0 b1
  have hb := xo_b _ _ 32 (tn32 a0 a1) (tn32 b0 b1)
  rw [p32] at hb
  have hx : ∀ a b, aluL 9 32 a b = xo a b := fun _ _ => rfl
  rw [hx]
  obtain ⟨c, hc⟩ : ∃ c, xo (a % 4294967296) (b % 4294967296) = c := ⟨_, rfl⟩
  rw [hc] at hv hb ⊢
  clear hc hx a0 a1 b0 b1
  obtain ⟨c0, c1⟩ := hb
  go_enter Tryd.func54, Tryd.ntmps54
  go_wp2
  go_ret
  refine ⟨ret_int ?_, Below.refl _ _⟩
  first | rfl | (show IntKind.u64.wrap c = c; rw [IntKind.wrap_u64]; omega) | (show c % 18446744073709551616 = c; omega)

theorem mov32_is (a b : Int) (w : World) (_h0 : 0 ≤ a) (_h1 : a < 18446744073709551616) (_k0 : 0 ≤ b) (_k1 : b < 18446744073709551616) :
    Calls Tryd.prog 55 #[.int .u64 a, .int .u64 b] w fun e w' => e = .returned (.int .u64 (aluL 10 32 (a % 4294967296) (b % 4294967296))) ∧ Below w.heap.size w w' := by
  go_enter Tryd.func55, Tryd.ntmps55
  go_wp2
  go_ret
  exact ⟨ret_int rfl, Below.refl _ _⟩

theorem arsh32_is (a b : Int) (w : World) (hw : Wid w) (h0 : 0 ≤ a) (h1 : a < 18446744073709551616) (k0 : 0 ≤ b) (k1 : b < 18446744073709551616) :
    Calls Tryd.prog 56 #[.int .u64 a, .int .u64 b] w fun e w' => e = .returned (.int .u64 (aluL 11 32 (a % 4294967296) (b % 4294967296))) ∧ Below w.heap.size w w' := by
  have q0 : 0 ≤ b % 32 := by omega
  have q1 : b % 32 ≤ 64 := by omega
  have HC := Lib.hid (count32 b w k0 k1)
  have HS := Lib.hid (signed32 a w hw h0 h1)
  go_enter Tryd.func56, Tryd.ntmps56
  go_wp2_with (first | (go_at_call 77; ((with_reducible refine (HC.out).mono ?_); rintro e w1 ⟨rfl, rfl⟩)) | (go_at_call 78; ((with_reducible refine (HS.out).mono ?_); rintro e w1 ⟨rfl, rfl⟩)))
  go_ret
  refine ⟨ret_int ?_, Below.refl _ _⟩
  have hv : ∀ a b, aluL 11 32 a b = mo 32 (sx 32 a / 2 ^ (b % 32).toNat) := fun _ _ => rfl
  rw [hv, mod_low, sx_low]
  first | rfl | (show IntKind.u64.wrap _ = _ % 4294967296; rw [IntKind.wrap_u64]; omega)

theorem sdiv32_is (a b : Int) (w : World) (hw : Wid w) (h0 : 0 ≤ a) (h1 : a < 18446744073709551616) (k0 : 0 ≤ b) (k1 : b < 18446744073709551616) :
    Calls Tryd.prog 57 #[.int .u64 a, .int .u64 b] w fun e w' => e = .returned (.int .u64 (aluL 12 32 (a % 4294967296) (b % 4294967296))) ∧ Below w.heap.size w w' := by
  have HS := Lib.hid (signed32 a w hw h0 h1)
  have HT := Lib.hid (signed32 b w hw k0 k1)
  have HD := Lib.hid (divide_any (sx 32 a) (sx 32 b) w (sx_b 32 a).1 (sx_b 32 a).2 (sx_b 32 b).1 (sx_b 32 b).2)
  go_enter Tryd.func57, Tryd.ntmps57
  go_wp2_with (first | (go_at_call 78; ((with_reducible refine (HS.out).mono ?_); rintro e w1 ⟨rfl, rfl⟩)) | (go_at_call 78; ((with_reducible refine (HT.out).mono ?_); rintro e w1 ⟨rfl, rfl⟩)) | (go_at_call 17; ((with_reducible refine (HD.out).mono ?_); rintro e w1 ⟨rfl, hb1⟩)))
  go_ret
  refine ⟨ret_int ?_, hb1⟩
  have hv : ∀ a b, aluL 12 32 a b = mo 32 (dq (sx 32 a) (sx 32 b)) := fun _ _ => rfl
  rw [hv, sx_low, sx_low]
  first | rfl | (show IntKind.u64.wrap _ = _ % 4294967296; rw [IntKind.wrap_u64]; omega)

theorem smod32_is (a b : Int) (w : World) (hw : Wid w) (h0 : 0 ≤ a) (h1 : a < 18446744073709551616) (k0 : 0 ≤ b) (k1 : b < 18446744073709551616) :
    Calls Tryd.prog 58 #[.int .u64 a, .int .u64 b] w fun e w' => e = .returned (.int .u64 (aluL 13 32 (a % 4294967296) (b % 4294967296))) ∧ Below w.heap.size w w' := by
  have HS := Lib.hid (signed32 a w hw h0 h1)
  have HT := Lib.hid (signed32 b w hw k0 k1)
  have HD := Lib.hid (divide_any (sx 32 a) (sx 32 b) w (sx_b 32 a).1 (sx_b 32 a).2 (sx_b 32 b).1 (sx_b 32 b).2)
  go_enter Tryd.func58, Tryd.ntmps58
  go_wp2_with (first | (go_at_call 78; ((with_reducible refine (HS.out).mono ?_); rintro e w1 ⟨rfl, rfl⟩)) | (go_at_call 78; ((with_reducible refine (HT.out).mono ?_); rintro e w1 ⟨rfl, rfl⟩)) | (go_at_call 17; ((with_reducible refine (HD.out).mono ?_); rintro e w1 ⟨rfl, hb1⟩)))
  go_ret
  refine ⟨ret_int ?_, hb1⟩
  have hv : ∀ a b, aluL 13 32 a b = mo 32 (dr (sx 32 a) (sx 32 b)) := fun _ _ => rfl
  rw [hv, sx_low, sx_low]
  first | rfl | (show IntKind.u64.wrap _ = _ % 4294967296; rw [IntKind.wrap_u64]; omega)


theorem neg64_is (a b : Int) (w : World) : Calls Tryd.prog 59 #[.int .u64 a, .int .u64 b] w fun e w' => e = .returned (.int .u64 (mo 64 (-a))) ∧ Below w.heap.size w w' := by
  go_enter Tryd.func59, Tryd.ntmps59
  go_wp2
  go_ret
  refine ⟨ret_int ?_, Below.refl _ _⟩
  first | rfl | (show IntKind.u64.wrap _ = _ % 18446744073709551616; rw [IntKind.wrap_u64]; omega)
theorem neg32_is (a b : Int) (w : World) : Calls Tryd.prog 60 #[.int .u64 a, .int .u64 b] w fun e w' => e = .returned (.int .u64 (mo 32 (-a))) ∧ Below w.heap.size w w' := by
  go_enter Tryd.func60, Tryd.ntmps60
  go_wp2
  go_ret
  refine ⟨ret_int ?_, Below.refl _ _⟩
  show _ = (-a) % 4294967296
  first | omega | (simp only [IntKind.wrap_u64, IntKind.wrap_u32]; omega)
theorem movs8_64_is (a b : Int) (w : World) : Calls Tryd.prog 61 #[.int .u64 a, .int .u64 b] w fun e w' => e = .returned (.int .u64 (mo 64 (sx 8 b))) ∧ Below w.heap.size w w' := by
  go_enter Tryd.func61, Tryd.ntmps61
  go_wp2
  go_ret
  refine ⟨ret_int ?_, Below.refl _ _⟩
  show _ = sx 8 b % 18446744073709551616
  first | (rw [← w8_sx]; done) | (rw [← w8_sx]; rfl) | (rw [← w8_sx, IntKind.wrap_u64]; done) | (rw [← w8_sx, IntKind.wrap_u64, IntKind.wrap_u32]; omega) | (rw [← w8_sx, IntKind.wrap_u64, w32_w]; done) | (rw [← w8_sx, w32_w]; done)
theorem movs16_64_is (a b : Int) (w : World) : Calls Tryd.prog 62 #[.int .u64 a, .int .u64 b] w fun e w' => e = .returned (.int .u64 (mo 64 (sx 16 b))) ∧ Below w.heap.size w w' := by
  go_enter Tryd.func62, Tryd.ntmps62
  go_wp2
  go_ret
  refine ⟨ret_int ?_, Below.refl _ _⟩
  show _ = sx 16 b % 18446744073709551616
  first | (rw [← w16_sx]; done) | (rw [← w16_sx]; rfl) | (rw [← w16_sx, IntKind.wrap_u64]; done) | (rw [← w16_sx, IntKind.wrap_u64, IntKind.wrap_u32]; omega) | (rw [← w16_sx, IntKind.wrap_u64, w32_w]; done) | (rw [← w16_sx, w32_w]; done)
theorem movs32_64_is (a b : Int) (w : World) : Calls Tryd.prog 63 #[.int .u64 a, .int .u64 b] w fun e w' => e = .returned (.int .u64 (mo 64 (sx 32 b))) ∧ Below w.heap.size w w' := by
  go_enter Tryd.func63, Tryd.ntmps63
  go_wp2
  go_ret
  refine ⟨ret_int ?_, Below.refl _ _⟩
  show _ = sx 32 b % 18446744073709551616
  first | (rw [← w32_sx]; done) | (rw [← w32_sx]; rfl) | (rw [← w32_sx, IntKind.wrap_u64]; done) | (rw [← w32_sx, IntKind.wrap_u64, IntKind.wrap_u32]; omega) | (rw [← w32_sx, IntKind.wrap_u64, w32_w]; done) | (rw [← w32_sx, w32_w]; done)
theorem movs8_32_is (a b : Int) (w : World) : Calls Tryd.prog 64 #[.int .u64 a, .int .u64 b] w fun e w' => e = .returned (.int .u64 (mo 32 (sx 8 b))) ∧ Below w.heap.size w w' := by
  go_enter Tryd.func64, Tryd.ntmps64
  go_wp2
  go_ret
  refine ⟨ret_int ?_, Below.refl _ _⟩
  show _ = sx 8 b % 4294967296
  first | (rw [← w8_sx]; done) | (rw [← w8_sx]; rfl) | (rw [← w8_sx, IntKind.wrap_u64]; done) | (rw [← w8_sx, IntKind.wrap_u64, IntKind.wrap_u32]; omega) | (rw [← w8_sx, IntKind.wrap_u64, w32_w]; done) | (rw [← w8_sx, w32_w]; done)
theorem movs16_32_is (a b : Int) (w : World) : Calls Tryd.prog 65 #[.int .u64 a, .int .u64 b] w fun e w' => e = .returned (.int .u64 (mo 32 (sx 16 b))) ∧ Below w.heap.size w w' := by
  go_enter Tryd.func65, Tryd.ntmps65
  go_wp2
  go_ret
  refine ⟨ret_int ?_, Below.refl _ _⟩
  show _ = sx 16 b % 4294967296
  first | (rw [← w16_sx]; done) | (rw [← w16_sx]; rfl) | (rw [← w16_sx, IntKind.wrap_u64]; done) | (rw [← w16_sx, IntKind.wrap_u64, IntKind.wrap_u32]; omega) | (rw [← w16_sx, IntKind.wrap_u64, w32_w]; done) | (rw [← w16_sx, w32_w]; done)
theorem le16_is (a b : Int) (w : World) (_h0 : 0 ≤ a) (_h1 : a < 18446744073709551616) : Calls Tryd.prog 66 #[.int .u64 a, .int .u64 b] w fun e w' => e = .returned (.int .u64 (a % 65536)) ∧ Below w.heap.size w w' := by
  go_enter Tryd.func66, Tryd.ntmps66
  go_wp2
  go_ret
  exact ⟨ret_int (by first | rfl | (simp only [IntKind.wrap_u64, IntKind.wrap_u16]; omega) | omega), Below.refl _ _⟩
theorem le32_is (a b : Int) (w : World) (_h0 : 0 ≤ a) (_h1 : a < 18446744073709551616) : Calls Tryd.prog 67 #[.int .u64 a, .int .u64 b] w fun e w' => e = .returned (.int .u64 (a % 4294967296)) ∧ Below w.heap.size w w' := by
  go_enter Tryd.func67, Tryd.ntmps67
  go_wp2
  go_ret
  exact ⟨ret_int (by first | rfl | (simp only [IntKind.wrap_u64, IntKind.wrap_u16]; omega) | omega), Below.refl _ _⟩
theorem le64_is (a b : Int) (w : World) (_h0 : 0 ≤ a) (_h1 : a < 18446744073709551616) : Calls Tryd.prog 68 #[.int .u64 a, .int .u64 b] w fun e w' => e = .returned (.int .u64 (a)) ∧ Below w.heap.size w w' := by
  go_enter Tryd.func68, Tryd.ntmps68
  go_wp2
  go_ret
  exact ⟨ret_int (by first | rfl | (simp only [IntKind.wrap_u64, IntKind.wrap_u16]; omega) | omega), Below.refl _ _⟩

end Go.Proofs.YtkhnomicnblgfaaDoor
