/- The chapter's examples: the function that all statements call answers true. No condition. -/
import Derived.Test.YtiklgnokojkoeaaHolds
import Derived.Test.YtiklgnokojkoeaaPair
import Derived.Deep.DeepCutAuto
namespace Go.Proofs.Ytiklgnokojkoeaa
open Go.RowKit L3
open L6 (cells6 row_up)

theorem ex1 : hoV 46 false (-1) 1 0 = false := by decide +kernel
theorem ex2 : hoV 50 true 0 1 18446744073709551615 = true := by decide +kernel
theorem ex3 : hoV 44 false 0 0 0 = true := by decide +kernel
theorem i64_sm (x : Int) (h0 : -1 ≤ x) (h1 : x < 1000) : (Lit.int .i64 x).wf = true := by
  simp [Lit.wf, IntKind.min, IntKind.max, IntKind.bits, IntKind.signed]
  omega

set_option maxHeartbeats 4000000 in
set_option maxRecDepth 100000 in
theorem alive_any (w : World) : Calls Try.prog 9 #[] w fun e w' => e = .returned (.bool true) ∧ Below w.heap.size w w' := by
  have H1 := Lib.hid (fun w => opposite_at 46 53 true (i64_sm 46 (by decide) (by decide)) (by decide +kernel) (by decide +kernel) w)
  have H2 := Lib.hid (fun w => mirror_at 46 52 true (i64_sm 46 (by decide) (by decide)) (by decide +kernel) (by decide +kernel) w)
  have H3 := Lib.hid (fun w => opposite_at 48 0 false (i64_sm 48 (by decide) (by decide)) (by decide +kernel) (by decide +kernel) w)
  have H4 := Lib.hid (fun w => holds_any 46 false 0 0 0 (-1) 1 0 false w (by decide) (by decide) (by decide) (by decide) ex1)
  have H5 := Lib.hid (fun w => holds_any 50 true 0 0 0 0 1 18446744073709551615 true w (by decide) (by decide) (by decide) (by decide) ex2)
  have H6 := Lib.hid (fun w => holds_any 44 false 0 0 0 0 0 0 true w (by decide) (by decide) (by decide) (by decide) ex3)
  have b0 : Below w.heap.size w ((w.alloc (.cells #[.int .i64 46, .bool false, .int .i64 0, .int .i64 0, .int .i64 0, .int .i64 (-1)] 23)).alloc (.cells #[.int .i64 50, .bool true, .int .i64 0, .int .i64 0, .int .i64 0, .int .i64 0] 23)) := bch (bnew w _) (bnew _ _)
  have hx0 : ((w.alloc (.cells #[.int .i64 46, .bool false, .int .i64 0, .int .i64 0, .int .i64 0, .int .i64 (-1)] 23)).alloc (.cells #[.int .i64 50, .bool true, .int .i64 0, .int .i64 0, .int .i64 0, .int .i64 0] 23)).heap[w.heap.size]? = some (.cells #[.int .i64 46, .bool false, .int .i64 0, .int .i64 0, .int .i64 0, .int .i64 (-1)] 23) := row_up (heap_alloc_last w _) (bnew _ _)
  have hy0 : ((w.alloc (.cells #[.int .i64 46, .bool false, .int .i64 0, .int .i64 0, .int .i64 0, .int .i64 (-1)] 23)).alloc (.cells #[.int .i64 50, .bool true, .int .i64 0, .int .i64 0, .int .i64 0, .int .i64 0] 23)).heap[w.heap.size + 1]? = some (.cells #[.int .i64 50, .bool true, .int .i64 0, .int .i64 0, .int .i64 0, .int .i64 0] 23) := by
    have h := heap_alloc_last (w.alloc (.cells #[.int .i64 46, .bool false, .int .i64 0, .int .i64 0, .int .i64 0, .int .i64 (-1)] 23)) (.cells #[.int .i64 50, .bool true, .int .i64 0, .int .i64 0, .int .i64 0, .int .i64 0] 23)
    have e : (w.alloc (.cells #[.int .i64 46, .bool false, .int .i64 0, .int .i64 0, .int .i64 0, .int .i64 (-1)] 23)).heap.size = w.heap.size + 1 := by simp
    rwa [e] at h
  go_enter Try.func9, Try.ntmps9
  go_upto_region 2 with (fail)
  generalize (w.alloc (.cells #[.int .i64 46, .bool false, .int .i64 0, .int .i64 0, .int .i64 0, .int .i64 (-1)] 23)).alloc (.cells #[.int .i64 50, .bool true, .int .i64 0, .int .i64 0, .int .i64 0, .int .i64 0] 23) = W at b0 hx0 hy0 ⊢
  go_upto_region 3 with (go_at_call 12; ((with_reducible refine (H1.out _).mono ?_); rintro e w1 ⟨rfl, b1⟩; have B1 := bch b0 b1; have hx1 := row_up hx0 b1; have hy1 := row_up hy0 b1))
  go_upto_region 4 with (go_at_call 13; ((with_reducible refine (H2.out _).mono ?_); rintro e w2 ⟨rfl, b2⟩; have B2 := bch B1 b2; have hx2 := row_up hx1 b2; have hy2 := row_up hy1 b2))
  go_upto_region 5 with (go_at_call 12; ((with_reducible refine (H3.out _).mono ?_); rintro e w3 ⟨rfl, b3⟩; have B3 := bch B2 b3; have hx3 := row_up hx2 b3; have hy3 := row_up hy2 b3))
  obtain ⟨x0, x1, x2, x3, x4, x5⟩ := cells6 hx3
  go_wp2_with (first
    | (go_at_call 10; ((with_reducible refine (H4.out _).mono ?_); rintro e w4 ⟨rfl, b4⟩; have B4 := bch B3 b4; have hy4 := row_up hy3 b4; clear x0 x1 x2 x3 x4 x5; obtain ⟨x0, x1, x2, x3, x4, x5⟩ := cells6 hy4))
    | (go_at_call 10; ((with_reducible refine (H5.out _).mono ?_); rintro e w5 ⟨rfl, b5⟩; have B5 := bch B4 b5))
    | (go_at_call 10; ((with_reducible refine (H6.out _).mono ?_); rintro e w6 ⟨rfl, b6⟩)))
  go_ret
  exact ⟨rfl, bch B5 b6⟩
end Go.Proofs.Ytiklgnokojkoeaa
