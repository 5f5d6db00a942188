/- The reference's Form and Bits, number by number. No condition. -/
import Derived.Test.YtiklgnokojkoeaaL3Ref
namespace Go.Proofs.Ytiklgnokojkoeaa.L3
open Go.RowKit

set_option maxHeartbeats 40000000 in
set_option maxRecDepth 100000 in
theorem rform_in (k : Nat) (hk : k < 86) (w : World) : Calls Try.prog 16 #[.int .i64 (k : Int)] w fun e w' => e = .returned (.int .i64 (fm k)) ∧ w = w' := by
  rcases lt86 hk with rfl | rfl | rfl | rfl | rfl | rfl | rfl | rfl | rfl | rfl | rfl | rfl | rfl | rfl | rfl | rfl | rfl | rfl | rfl | rfl | rfl | rfl | rfl | rfl | rfl | rfl | rfl | rfl | rfl | rfl | rfl | rfl | rfl | rfl | rfl | rfl | rfl | rfl | rfl | rfl | rfl | rfl | rfl | rfl | rfl | rfl | rfl | rfl | rfl | rfl | rfl | rfl | rfl | rfl | rfl | rfl | rfl | rfl | rfl | rfl | rfl | rfl | rfl | rfl | rfl | rfl | rfl | rfl | rfl | rfl | rfl | rfl | rfl | rfl | rfl | rfl | rfl | rfl | rfl | rfl | rfl | rfl | rfl | rfl | rfl | rfl
  all_goals
    clear hk
    go_enter Try.func16, Try.ntmps16
    go_wp2_with (first | (go_at_call 28; ((with_reducible refine (right_at _ true _ (by decide)).mono ?_); rintro e w1 ⟨rfl, rfl⟩)))
    go_ret
    exact ⟨rfl, rfl⟩

set_option maxRecDepth 100000 in
theorem rform_at (op : Int) (v : Int) (w : World) (hv : frm (ix op) = v) : Calls Try.prog 16 #[.int .i64 op] w fun e w' => e = .returned (.int .i64 v) ∧ w = w' := by
  subst hv
  by_cases h : 0 ≤ op ∧ op < 86
  · have := rform_in (ix op) (ix_lt h) w
    rw [ix_in h] at this
    rwa [frm, if_pos (ix_lt h)]
  · have HK : Hid (decide (ix op < 86) = false) := Lib.hid (by rw [ix_out h]; rfl)
    rw [ix_out h]
    clear h
    go_enter Try.func16, Try.ntmps16
    go_wp2_with (first | (go_at_call 28; ((with_reducible refine (right_at _ false _ HK.out).mono ?_); rintro e w1 ⟨rfl, rfl⟩)))
    go_ret
    exact ⟨rfl, rfl⟩

set_option maxHeartbeats 2000000 in
set_option maxRecDepth 100000 in
theorem rbits_a (k : Nat) (h : 0 ≤ k ∧ k ≤ 13) (w : World) : Calls Try.prog 17 #[.int .i64 (k : Int)] w fun e w' => e = .returned (.int .i64 64) ∧ Below w.heap.size w w' := by
  have HK : Hid (decide (ix (k : Int) < 86) = true) := Lib.hid (by rw [ix_nat (by omega)]; exact decide_eq_true (by omega))
  have g0 : decide ((35 : Int) ≤ (k : Int)) = false := by rw [decide_eq_false_iff_not]; omega
  have g1 : decide ((69 : Int) ≤ (k : Int)) = false := by rw [decide_eq_false_iff_not]; omega
  have g2 : decide ((76 : Int) ≤ (k : Int)) = false := by rw [decide_eq_false_iff_not]; omega
  have g3 : decide ((14 : Int) ≤ (k : Int)) = false := by rw [decide_eq_false_iff_not]; omega
  have g4 : decide ((56 : Int) ≤ (k : Int)) = false := by rw [decide_eq_false_iff_not]; omega
  have g5 : decide ((k : Int) ≤ 43) = true := by rw [decide_eq_true_iff]; omega
  have g6 : decide ((k : Int) ≤ 75) = true := by rw [decide_eq_true_iff]; omega
  have g7 : decide ((k : Int) ≤ 83) = true := by rw [decide_eq_true_iff]; omega
  have g8 : decide ((k : Int) ≤ 27) = true := by rw [decide_eq_true_iff]; omega
  have g9 : decide ((k : Int) ≤ 66) = true := by rw [decide_eq_true_iff]; omega
  have g10 : ((k : Int) == 44) = false := by rw [beq_eq_false_iff_ne]; omega
  have g11 : ((k : Int) == 67) = false := by rw [beq_eq_false_iff_ne]; omega
  have g12 : ((k : Int) == 68) = false := by rw [beq_eq_false_iff_ne]; omega
  have g13 : ((k : Int) == 29) = false := by rw [beq_eq_false_iff_ne]; omega
  have g14 : ((k : Int) == 33) = false := by rw [beq_eq_false_iff_ne]; omega
  have g15 : ((k : Int) == 34) = false := by rw [beq_eq_false_iff_ne]; omega
  clear h
  go_enter Try.func17, Try.ntmps17
  go_wp2_with (first | (go_at_call 28; ((with_reducible refine (right_at _ true _ HK.out).mono ?_); rintro e w1 ⟨rfl, rfl⟩)))
  go_ret
  exact ⟨rfl, bnew w _⟩

set_option maxHeartbeats 2000000 in
set_option maxRecDepth 100000 in
theorem rbits_b (k : Nat) (h : 14 ≤ k ∧ k ≤ 27) (w : World) : Calls Try.prog 17 #[.int .i64 (k : Int)] w fun e w' => e = .returned (.int .i64 32) ∧ Below w.heap.size w w' := by
  have HK : Hid (decide (ix (k : Int) < 86) = true) := Lib.hid (by rw [ix_nat (by omega)]; exact decide_eq_true (by omega))
  have g0 : decide ((35 : Int) ≤ (k : Int)) = false := by rw [decide_eq_false_iff_not]; omega
  have g1 : decide ((69 : Int) ≤ (k : Int)) = false := by rw [decide_eq_false_iff_not]; omega
  have g2 : decide ((76 : Int) ≤ (k : Int)) = false := by rw [decide_eq_false_iff_not]; omega
  have g3 : decide ((14 : Int) ≤ (k : Int)) = true := by rw [decide_eq_true_iff]; omega
  have g4 : decide ((56 : Int) ≤ (k : Int)) = false := by rw [decide_eq_false_iff_not]; omega
  have g5 : decide ((k : Int) ≤ 43) = true := by rw [decide_eq_true_iff]; omega
  have g6 : decide ((k : Int) ≤ 75) = true := by rw [decide_eq_true_iff]; omega
  have g7 : decide ((k : Int) ≤ 83) = true := by rw [decide_eq_true_iff]; omega
  have g8 : decide ((k : Int) ≤ 27) = true := by rw [decide_eq_true_iff]; omega
  have g9 : decide ((k : Int) ≤ 66) = true := by rw [decide_eq_true_iff]; omega
  have g10 : ((k : Int) == 44) = false := by rw [beq_eq_false_iff_ne]; omega
  have g11 : ((k : Int) == 67) = false := by rw [beq_eq_false_iff_ne]; omega
  have g12 : ((k : Int) == 68) = false := by rw [beq_eq_false_iff_ne]; omega
  have g13 : ((k : Int) == 29) = false := by rw [beq_eq_false_iff_ne]; omega
  have g14 : ((k : Int) == 33) = false := by rw [beq_eq_false_iff_ne]; omega
  have g15 : ((k : Int) == 34) = false := by rw [beq_eq_false_iff_ne]; omega
  clear h
  go_enter Try.func17, Try.ntmps17
  go_wp2_with (first | (go_at_call 28; ((with_reducible refine (right_at _ true _ HK.out).mono ?_); rintro e w1 ⟨rfl, rfl⟩)))
  go_ret
  exact ⟨rfl, bnew w _⟩

set_option maxHeartbeats 2000000 in
set_option maxRecDepth 100000 in
theorem rbits_c (k : Nat) (h : 30 ≤ k ∧ k ≤ 32) (w : World) : Calls Try.prog 17 #[.int .i64 (k : Int)] w fun e w' => e = .returned (.int .i64 64) ∧ Below w.heap.size w w' := by
  have HK : Hid (decide (ix (k : Int) < 86) = true) := Lib.hid (by rw [ix_nat (by omega)]; exact decide_eq_true (by omega))
  have g0 : decide ((35 : Int) ≤ (k : Int)) = false := by rw [decide_eq_false_iff_not]; omega
  have g1 : decide ((69 : Int) ≤ (k : Int)) = false := by rw [decide_eq_false_iff_not]; omega
  have g2 : decide ((76 : Int) ≤ (k : Int)) = false := by rw [decide_eq_false_iff_not]; omega
  have g3 : decide ((14 : Int) ≤ (k : Int)) = true := by rw [decide_eq_true_iff]; omega
  have g4 : decide ((56 : Int) ≤ (k : Int)) = false := by rw [decide_eq_false_iff_not]; omega
  have g5 : decide ((k : Int) ≤ 43) = true := by rw [decide_eq_true_iff]; omega
  have g6 : decide ((k : Int) ≤ 75) = true := by rw [decide_eq_true_iff]; omega
  have g7 : decide ((k : Int) ≤ 83) = true := by rw [decide_eq_true_iff]; omega
  have g8 : decide ((k : Int) ≤ 27) = false := by rw [decide_eq_false_iff_not]; omega
  have g9 : decide ((k : Int) ≤ 66) = true := by rw [decide_eq_true_iff]; omega
  have g10 : ((k : Int) == 44) = false := by rw [beq_eq_false_iff_ne]; omega
  have g11 : ((k : Int) == 67) = false := by rw [beq_eq_false_iff_ne]; omega
  have g12 : ((k : Int) == 68) = false := by rw [beq_eq_false_iff_ne]; omega
  have g13 : ((k : Int) == 29) = false := by rw [beq_eq_false_iff_ne]; omega
  have g14 : ((k : Int) == 33) = false := by rw [beq_eq_false_iff_ne]; omega
  have g15 : ((k : Int) == 34) = false := by rw [beq_eq_false_iff_ne]; omega
  clear h
  go_enter Try.func17, Try.ntmps17
  go_wp2_with (first | (go_at_call 28; ((with_reducible refine (right_at _ true _ HK.out).mono ?_); rintro e w1 ⟨rfl, rfl⟩)))
  go_ret
  exact ⟨rfl, bnew w _⟩

set_option maxHeartbeats 2000000 in
set_option maxRecDepth 100000 in
theorem rbits_d (k : Nat) (h : 45 ≤ k ∧ k ≤ 55) (w : World) : Calls Try.prog 17 #[.int .i64 (k : Int)] w fun e w' => e = .returned (.int .i64 64) ∧ Below w.heap.size w w' := by
  have HK : Hid (decide (ix (k : Int) < 86) = true) := Lib.hid (by rw [ix_nat (by omega)]; exact decide_eq_true (by omega))
  have g0 : decide ((35 : Int) ≤ (k : Int)) = true := by rw [decide_eq_true_iff]; omega
  have g1 : decide ((69 : Int) ≤ (k : Int)) = false := by rw [decide_eq_false_iff_not]; omega
  have g2 : decide ((76 : Int) ≤ (k : Int)) = false := by rw [decide_eq_false_iff_not]; omega
  have g3 : decide ((14 : Int) ≤ (k : Int)) = true := by rw [decide_eq_true_iff]; omega
  have g4 : decide ((56 : Int) ≤ (k : Int)) = false := by rw [decide_eq_false_iff_not]; omega
  have g5 : decide ((k : Int) ≤ 43) = false := by rw [decide_eq_false_iff_not]; omega
  have g6 : decide ((k : Int) ≤ 75) = true := by rw [decide_eq_true_iff]; omega
  have g7 : decide ((k : Int) ≤ 83) = true := by rw [decide_eq_true_iff]; omega
  have g8 : decide ((k : Int) ≤ 27) = false := by rw [decide_eq_false_iff_not]; omega
  have g9 : decide ((k : Int) ≤ 66) = true := by rw [decide_eq_true_iff]; omega
  have g10 : ((k : Int) == 44) = false := by rw [beq_eq_false_iff_ne]; omega
  have g11 : ((k : Int) == 67) = false := by rw [beq_eq_false_iff_ne]; omega
  have g12 : ((k : Int) == 68) = false := by rw [beq_eq_false_iff_ne]; omega
  have g13 : ((k : Int) == 29) = false := by rw [beq_eq_false_iff_ne]; omega
  have g14 : ((k : Int) == 33) = false := by rw [beq_eq_false_iff_ne]; omega
  have g15 : ((k : Int) == 34) = false := by rw [beq_eq_false_iff_ne]; omega
  clear h
  go_enter Try.func17, Try.ntmps17
  go_wp2_with (first | (go_at_call 28; ((with_reducible refine (right_at _ true _ HK.out).mono ?_); rintro e w1 ⟨rfl, rfl⟩)))
  go_ret
  exact ⟨rfl, bnew w _⟩

set_option maxHeartbeats 2000000 in
set_option maxRecDepth 100000 in
theorem rbits_e (k : Nat) (h : 56 ≤ k ∧ k ≤ 66) (w : World) : Calls Try.prog 17 #[.int .i64 (k : Int)] w fun e w' => e = .returned (.int .i64 32) ∧ Below w.heap.size w w' := by
  have HK : Hid (decide (ix (k : Int) < 86) = true) := Lib.hid (by rw [ix_nat (by omega)]; exact decide_eq_true (by omega))
  have g0 : decide ((35 : Int) ≤ (k : Int)) = true := by rw [decide_eq_true_iff]; omega
  have g1 : decide ((69 : Int) ≤ (k : Int)) = false := by rw [decide_eq_false_iff_not]; omega
  have g2 : decide ((76 : Int) ≤ (k : Int)) = false := by rw [decide_eq_false_iff_not]; omega
  have g3 : decide ((14 : Int) ≤ (k : Int)) = true := by rw [decide_eq_true_iff]; omega
  have g4 : decide ((56 : Int) ≤ (k : Int)) = true := by rw [decide_eq_true_iff]; omega
  have g5 : decide ((k : Int) ≤ 43) = false := by rw [decide_eq_false_iff_not]; omega
  have g6 : decide ((k : Int) ≤ 75) = true := by rw [decide_eq_true_iff]; omega
  have g7 : decide ((k : Int) ≤ 83) = true := by rw [decide_eq_true_iff]; omega
  have g8 : decide ((k : Int) ≤ 27) = false := by rw [decide_eq_false_iff_not]; omega
  have g9 : decide ((k : Int) ≤ 66) = true := by rw [decide_eq_true_iff]; omega
  have g10 : ((k : Int) == 44) = false := by rw [beq_eq_false_iff_ne]; omega
  have g11 : ((k : Int) == 67) = false := by rw [beq_eq_false_iff_ne]; omega
  have g12 : ((k : Int) == 68) = false := by rw [beq_eq_false_iff_ne]; omega
  have g13 : ((k : Int) == 29) = false := by rw [beq_eq_false_iff_ne]; omega
  have g14 : ((k : Int) == 33) = false := by rw [beq_eq_false_iff_ne]; omega
  have g15 : ((k : Int) == 34) = false := by rw [beq_eq_false_iff_ne]; omega
  clear h
  go_enter Try.func17, Try.ntmps17
  go_wp2_with (first | (go_at_call 28; ((with_reducible refine (right_at _ true _ HK.out).mono ?_); rintro e w1 ⟨rfl, rfl⟩)))
  go_ret
  exact ⟨rfl, bnew w _⟩

set_option maxHeartbeats 2000000 in
set_option maxRecDepth 100000 in
theorem rbits_f (k : Nat) (h : 84 ≤ k ∧ k ≤ 85) (w : World) : Calls Try.prog 17 #[.int .i64 (k : Int)] w fun e w' => e = .returned (.int .i64 64) ∧ Below w.heap.size w w' := by
  have HK : Hid (decide (ix (k : Int) < 86) = true) := Lib.hid (by rw [ix_nat (by omega)]; exact decide_eq_true (by omega))
  have g0 : decide ((35 : Int) ≤ (k : Int)) = true := by rw [decide_eq_true_iff]; omega
  have g1 : decide ((69 : Int) ≤ (k : Int)) = true := by rw [decide_eq_true_iff]; omega
  have g2 : decide ((76 : Int) ≤ (k : Int)) = true := by rw [decide_eq_true_iff]; omega
  have g3 : decide ((14 : Int) ≤ (k : Int)) = true := by rw [decide_eq_true_iff]; omega
  have g4 : decide ((56 : Int) ≤ (k : Int)) = true := by rw [decide_eq_true_iff]; omega
  have g5 : decide ((k : Int) ≤ 43) = false := by rw [decide_eq_false_iff_not]; omega
  have g6 : decide ((k : Int) ≤ 75) = false := by rw [decide_eq_false_iff_not]; omega
  have g7 : decide ((k : Int) ≤ 83) = false := by rw [decide_eq_false_iff_not]; omega
  have g8 : decide ((k : Int) ≤ 27) = false := by rw [decide_eq_false_iff_not]; omega
  have g9 : decide ((k : Int) ≤ 66) = false := by rw [decide_eq_false_iff_not]; omega
  have g10 : ((k : Int) == 44) = false := by rw [beq_eq_false_iff_ne]; omega
  have g11 : ((k : Int) == 67) = false := by rw [beq_eq_false_iff_ne]; omega
  have g12 : ((k : Int) == 68) = false := by rw [beq_eq_false_iff_ne]; omega
  have g13 : ((k : Int) == 29) = false := by rw [beq_eq_false_iff_ne]; omega
  have g14 : ((k : Int) == 33) = false := by rw [beq_eq_false_iff_ne]; omega
  have g15 : ((k : Int) == 34) = false := by rw [beq_eq_false_iff_ne]; omega
  clear h
  go_enter Try.func17, Try.ntmps17
  go_wp2_with (first | (go_at_call 28; ((with_reducible refine (right_at _ true _ HK.out).mono ?_); rintro e w1 ⟨rfl, rfl⟩)))
  go_ret
  exact ⟨rfl, bnew w _⟩

theorem bits_split {k : Nat} (h : k < 86) : ((0 ≤ k ∧ k ≤ 13) ∨ (14 ≤ k ∧ k ≤ 27) ∨ (30 ≤ k ∧ k ≤ 32) ∨ (45 ≤ k ∧ k ≤ 55) ∨ (56 ≤ k ∧ k ≤ 66) ∨ (84 ≤ k ∧ k ≤ 85)) ∨ k = 28 ∨ k = 29 ∨ k = 33 ∨ k = 34 ∨ k = 44 ∨ k = 67 ∨ k = 68 ∨ k = 35 ∨ k = 36 ∨ k = 37 ∨ k = 38 ∨ k = 39 ∨ k = 40 ∨ k = 41 ∨ k = 42 ∨ k = 43 ∨ k = 69 ∨ k = 70 ∨ k = 71 ∨ k = 72 ∨ k = 73 ∨ k = 74 ∨ k = 75 ∨ k = 76 ∨ k = 77 ∨ k = 78 ∨ k = 79 ∨ k = 80 ∨ k = 81 ∨ k = 82 ∨ k = 83 := by omega
theorem bits_vals : ∀ k, k < 86 → ((0 ≤ k ∧ k ≤ 13) ∨ (30 ≤ k ∧ k ≤ 32) ∨ (45 ≤ k ∧ k ≤ 55) ∨ (84 ≤ k ∧ k ≤ 85) → bt k = 64) ∧ ((14 ≤ k ∧ k ≤ 27) ∨ (56 ≤ k ∧ k ≤ 66) → bt k = 32) := by decide +kernel

set_option maxHeartbeats 40000000 in
set_option maxRecDepth 100000 in
theorem rbits_in (k : Nat) (hk : k < 86) (w : World) : Calls Try.prog 17 #[.int .i64 (k : Int)] w fun e w' => e = .returned (.int .i64 (bt k)) ∧ Below w.heap.size w w' := by
  rcases bits_split hk with (h | h | h | h | h | h) | rfl | rfl | rfl | rfl | rfl | rfl | rfl | rfl | rfl | rfl | rfl | rfl | rfl | rfl | rfl | rfl | rfl | rfl | rfl | rfl | rfl | rfl | rfl | rfl | rfl | rfl | rfl | rfl | rfl | rfl | rfl
  · rw [(bits_vals k hk).1 (by omega)]; exact rbits_a k h w
  · rw [(bits_vals k hk).2 (by omega)]; exact rbits_b k h w
  · rw [(bits_vals k hk).1 (by omega)]; exact rbits_c k h w
  · rw [(bits_vals k hk).1 (by omega)]; exact rbits_d k h w
  · rw [(bits_vals k hk).2 (by omega)]; exact rbits_e k h w
  · rw [(bits_vals k hk).1 (by omega)]; exact rbits_f k h w
  all_goals
    clear hk
    go_enter Try.func17, Try.ntmps17
    go_wp2_with (first | (go_at_call 28; ((with_reducible refine (right_at _ true _ (by decide)).mono ?_); rintro e w1 ⟨rfl, rfl⟩)))
    go_ret
    exact ⟨rfl, by first | exact bnew w _ | exact bch (bnew w _) (bnew _ _)⟩

set_option maxRecDepth 100000 in
theorem rbits_at (op : Int) (v : Int) (w : World) (hv : bt (ix op) = v) : Calls Try.prog 17 #[.int .i64 op] w fun e w' => e = .returned (.int .i64 v) ∧ Below w.heap.size w w' := by
  subst hv
  by_cases h : 0 ≤ op ∧ op < 86
  · have := rbits_in (ix op) (ix_lt h) w
    rwa [ix_in h] at this
  · have HK : Hid (decide (ix op < 86) = false) := Lib.hid (by rw [ix_out h]; rfl)
    rw [ix_out h]
    clear h
    go_enter Try.func17, Try.ntmps17
    go_wp2_with (first | (go_at_call 28; ((with_reducible refine (right_at _ false _ HK.out).mono ?_); rintro e w1 ⟨rfl, rfl⟩)))
    go_ret
    exact ⟨rfl, bnew w _⟩
end Go.Proofs.Ytiklgnokojkoeaa.L3
