/- The chapter's examples: the function that all statements call answers true. Condition: the table of widths reads as laid. -/
import Derived.Test.YtkhnomicnblgfaaDoorDo
namespace Go.Proofs.YtkhnomicnblgfaaDoor
open Go.RowKit L1 L3

theorem ex1 : doV 14 false 7 4294967301 0 = 12 := by decide +kernel
theorem ex2 : doV 3 false 0 5 0 = 0 := by decide +kernel
theorem ex3 : doV 8 true 0 5 0 = 5 := by decide +kernel
theorem ex4 : doV 38 false 0 1122867 0 = 13090 := by decide +kernel
theorem ex5 : doV 68 false 0 1 1 = 1 := by decide +kernel
theorem ex6 : dq (-7) 2 = -3 ∧ dr (-7) 2 = -1 := by decide +kernel
theorem ex7 : sw 16 258 = 513 := by decide +kernel
theorem ex8 : opd false (frm (ix 0)) (-1) 5 = 18446744073709551615 := by decide +kernel
theorem div_ex (w : World) : Calls Tryd.prog 17 #[.int .i64 (-7), .int .i64 2] w fun e w' => e = .returned (.tuple #[.int .i64 (-3), .int .i64 (-1)]) ∧ Below w.heap.size w w' := by
  have := divide_any (-7) 2 w (by decide) (by decide) (by decide) (by decide)
  rw [ex6.1, ex6.2] at this
  exact this
theorem swap_ex (w : World) : Calls Tryd.prog 14 #[.int .u64 258, .int .i64 16] w fun e w' => e = .returned (.int .u64 513) ∧ w = w' := by
  have := swap_is 258 16 w (by decide) (by decide) (by decide)
  rw [ex7] at this
  exact this

set_option maxHeartbeats 4000000 in
set_option maxRecDepth 100000 in
theorem alive_any (w : World) (hw : Wid w) : Calls Tryd.prog 11 #[] w fun e w' => e = .returned (.bool true) ∧ Below w.heap.size w w' := by
  have HW := Lib.hid hw
  have H1 := Lib.hid (fun w hw => do_any 14 false 0 0 0 7 4294967301 0 12 true w hw (by decide) (by decide) (by decide) (by decide) ex1 (by decide))
  have H2 := Lib.hid (fun w hw => do_any 3 false 0 0 0 0 5 0 0 true w hw (by decide) (by decide) (by decide) (by decide) ex2 (by decide))
  have H3 := Lib.hid (fun w hw => do_any 8 true 0 0 0 0 5 0 5 true w hw (by decide) (by decide) (by decide) (by decide) ex3 (by decide))
  have H4 := Lib.hid (fun w hw => do_any 38 false 0 0 0 0 1122867 0 13090 true w hw (by decide) (by decide) (by decide) (by decide) ex4 (by decide))
  have H5 := Lib.hid (fun w hw => do_any 68 false 0 0 0 0 1 1 1 false w hw (by decide) (by decide) (by decide) (by decide) ex5 (by decide))
  have H8 := Lib.hid (fun w => operand_any 0 false 0 0 0 (-1) 5 18446744073709551615 w ex8)
  clear hw
  go_enter Tryd.func11, Tryd.ntmps11
  go_upto_region 2 with (go_at_call 9; ((with_reducible refine (H1.out _ HW.out).mono ?_); rintro e w1 ⟨rfl, b1⟩))
  go_upto_region 3 with (go_at_call 9; ((with_reducible refine (H2.out _ (wid_below HW.out b1)).mono ?_); rintro e w2 ⟨rfl, b2⟩; have B2 := bch b1 b2))
  go_upto_region 4 with (go_at_call 9; ((with_reducible refine (H3.out _ (wid_below HW.out B2)).mono ?_); rintro e w3 ⟨rfl, b3⟩; have B3 := bch B2 b3))
  go_upto_region 5 with (go_at_call 9; ((with_reducible refine (H4.out _ (wid_below HW.out B3)).mono ?_); rintro e w4 ⟨rfl, b4⟩; have B4 := bch B3 b4))
  go_upto_region 6 with (go_at_call 9; ((with_reducible refine (H5.out _ (wid_below HW.out B4)).mono ?_); rintro e w5 ⟨rfl, b5⟩; have B5 := bch B4 b5))
  go_upto_region 7 with (go_at_call 17; ((with_reducible refine (div_ex _).mono ?_); rintro e w6 ⟨rfl, b6⟩; have B6 := bch B5 b6))
  go_wp2_with (first | (go_at_call 14; ((with_reducible refine (swap_ex _).mono ?_); rintro e w7 ⟨rfl, rfl⟩)) | (go_at_call 12; ((with_reducible refine (H8.out _).mono ?_); rintro e w8 ⟨rfl, b8⟩)))
  go_ret
  exact ⟨rfl, bch B6 b8⟩
end Go.Proofs.YtkhnomicnblgfaaDoor
