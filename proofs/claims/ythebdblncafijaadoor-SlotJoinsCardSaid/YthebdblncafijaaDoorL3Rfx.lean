/- The reference's Fixed, range by range. No condition. -/
import Derived.Test.YthebdblncafijaaDoorL3Rfn
namespace Go.Proofs.YthebdblncafijaaDoor.L3
open Go.RowKit

set_option maxHeartbeats 2000000 in
set_option maxRecDepth 100000 in
theorem rfix_a (k : Nat) (h : 0 ≤ k ∧ k ≤ 11) (w : World) : Calls Tryd.prog 36 #[.int .i64 (k : Int)] w fun e w' => e = .returned (.tuple #[.int .i64 0, .int .i64 0, .int .i64 0]) ∧ Below w.heap.size w w' := by
  have g0 : decide ((30 : Int) ≤ (k : Int)) = false := by rw [decide_eq_false_iff_not]; omega
  have g1 : decide ((35 : Int) ≤ (k : Int)) = false := by rw [decide_eq_false_iff_not]; omega
  have g2 : decide ((k : Int) ≤ 34) = true := by rw [decide_eq_true_iff]; omega
  have g3 : decide ((k : Int) ≤ 43) = true := by rw [decide_eq_true_iff]; omega
  have g4 : ((k : Int) == 12) = false := by rw [beq_eq_false_iff_ne]; omega
  have g5 : ((k : Int) == 13) = false := by rw [beq_eq_false_iff_ne]; omega
  have g6 : ((k : Int) == 26) = false := by rw [beq_eq_false_iff_ne]; omega
  have g7 : ((k : Int) == 27) = false := by rw [beq_eq_false_iff_ne]; omega
  have g8 : ((k : Int) == 85) = false := by rw [beq_eq_false_iff_ne]; omega
  clear h
  go_enter Tryd.func36, Tryd.ntmps36
  go_wp2
  go_ret3
  exact ⟨rfl, Below.refl _ _⟩

set_option maxHeartbeats 2000000 in
set_option maxRecDepth 100000 in
theorem rfix_b (k : Nat) (h : 14 ≤ k ∧ k ≤ 25) (w : World) : Calls Tryd.prog 36 #[.int .i64 (k : Int)] w fun e w' => e = .returned (.tuple #[.int .i64 0, .int .i64 0, .int .i64 0]) ∧ Below w.heap.size w w' := by
  have g0 : decide ((30 : Int) ≤ (k : Int)) = false := by rw [decide_eq_false_iff_not]; omega
  have g1 : decide ((35 : Int) ≤ (k : Int)) = false := by rw [decide_eq_false_iff_not]; omega
  have g2 : decide ((k : Int) ≤ 34) = true := by rw [decide_eq_true_iff]; omega
  have g3 : decide ((k : Int) ≤ 43) = true := by rw [decide_eq_true_iff]; omega
  have g4 : ((k : Int) == 12) = false := by rw [beq_eq_false_iff_ne]; omega
  have g5 : ((k : Int) == 13) = false := by rw [beq_eq_false_iff_ne]; omega
  have g6 : ((k : Int) == 26) = false := by rw [beq_eq_false_iff_ne]; omega
  have g7 : ((k : Int) == 27) = false := by rw [beq_eq_false_iff_ne]; omega
  have g8 : ((k : Int) == 85) = false := by rw [beq_eq_false_iff_ne]; omega
  clear h
  go_enter Tryd.func36, Tryd.ntmps36
  go_wp2
  go_ret3
  exact ⟨rfl, Below.refl _ _⟩

set_option maxHeartbeats 2000000 in
set_option maxRecDepth 100000 in
theorem rfix_c (k : Nat) (h : 28 ≤ k ∧ k ≤ 29) (w : World) : Calls Tryd.prog 36 #[.int .i64 (k : Int)] w fun e w' => e = .returned (.tuple #[.int .i64 0, .int .i64 0, .int .i64 0]) ∧ Below w.heap.size w w' := by
  have g0 : decide ((30 : Int) ≤ (k : Int)) = false := by rw [decide_eq_false_iff_not]; omega
  have g1 : decide ((35 : Int) ≤ (k : Int)) = false := by rw [decide_eq_false_iff_not]; omega
  have g2 : decide ((k : Int) ≤ 34) = true := by rw [decide_eq_true_iff]; omega
  have g3 : decide ((k : Int) ≤ 43) = true := by rw [decide_eq_true_iff]; omega
  have g4 : ((k : Int) == 12) = false := by rw [beq_eq_false_iff_ne]; omega
  have g5 : ((k : Int) == 13) = false := by rw [beq_eq_false_iff_ne]; omega
  have g6 : ((k : Int) == 26) = false := by rw [beq_eq_false_iff_ne]; omega
  have g7 : ((k : Int) == 27) = false := by rw [beq_eq_false_iff_ne]; omega
  have g8 : ((k : Int) == 85) = false := by rw [beq_eq_false_iff_ne]; omega
  clear h
  go_enter Tryd.func36, Tryd.ntmps36
  go_wp2
  go_ret3
  exact ⟨rfl, Below.refl _ _⟩

set_option maxHeartbeats 2000000 in
set_option maxRecDepth 100000 in
theorem rfix_d (k : Nat) (h : 44 ≤ k ∧ k ≤ 84) (w : World) : Calls Tryd.prog 36 #[.int .i64 (k : Int)] w fun e w' => e = .returned (.tuple #[.int .i64 0, .int .i64 0, .int .i64 0]) ∧ Below w.heap.size w w' := by
  have g0 : decide ((30 : Int) ≤ (k : Int)) = true := by rw [decide_eq_true_iff]; omega
  have g1 : decide ((35 : Int) ≤ (k : Int)) = true := by rw [decide_eq_true_iff]; omega
  have g2 : decide ((k : Int) ≤ 34) = false := by rw [decide_eq_false_iff_not]; omega
  have g3 : decide ((k : Int) ≤ 43) = false := by rw [decide_eq_false_iff_not]; omega
  have g4 : ((k : Int) == 12) = false := by rw [beq_eq_false_iff_ne]; omega
  have g5 : ((k : Int) == 13) = false := by rw [beq_eq_false_iff_ne]; omega
  have g6 : ((k : Int) == 26) = false := by rw [beq_eq_false_iff_ne]; omega
  have g7 : ((k : Int) == 27) = false := by rw [beq_eq_false_iff_ne]; omega
  have g8 : ((k : Int) == 85) = false := by rw [beq_eq_false_iff_ne]; omega
  clear h
  go_enter Tryd.func36, Tryd.ntmps36
  go_wp2
  go_ret3
  exact ⟨rfl, Below.refl _ _⟩

set_option maxHeartbeats 2000000 in
set_option maxRecDepth 100000 in
theorem rfix_e (k : Nat) (h : 35 ≤ k ∧ k ≤ 43) (w : World) : Calls Tryd.prog 36 #[.int .i64 (k : Int)] w fun e w' => e = .returned (.tuple #[.int .i64 0, .int .i64 0, .int .i64 (bt k)]) ∧ Below w.heap.size w w' := by
  obtain ⟨v, hv⟩ : ∃ v, bt k = v := ⟨_, rfl⟩
  have HB : Hid (bt (ix (k : Int)) = v) := Lib.hid (by rw [ix_nat (by omega)]; exact hv)
  rw [hv]
  clear hv
  have g0 : decide ((30 : Int) ≤ (k : Int)) = true := by rw [decide_eq_true_iff]; omega
  have g1 : decide ((35 : Int) ≤ (k : Int)) = true := by rw [decide_eq_true_iff]; omega
  have g2 : decide ((k : Int) ≤ 34) = false := by rw [decide_eq_false_iff_not]; omega
  have g3 : decide ((k : Int) ≤ 43) = true := by rw [decide_eq_true_iff]; omega
  have g4 : ((k : Int) == 12) = false := by rw [beq_eq_false_iff_ne]; omega
  have g5 : ((k : Int) == 13) = false := by rw [beq_eq_false_iff_ne]; omega
  have g6 : ((k : Int) == 26) = false := by rw [beq_eq_false_iff_ne]; omega
  have g7 : ((k : Int) == 27) = false := by rw [beq_eq_false_iff_ne]; omega
  have g8 : ((k : Int) == 85) = false := by rw [beq_eq_false_iff_ne]; omega
  clear h
  go_enter Tryd.func36, Tryd.ntmps36
  go_wp2_with (first | (go_at_call 56; ((with_reducible refine (rbits_at _ _ _ HB.out).mono ?_); rintro e w1 ⟨rfl, hb1⟩)))
  go_ret3
  exact ⟨rfl, hb1⟩

set_option maxHeartbeats 4000000 in
set_option maxRecDepth 100000 in
theorem rfix_f (k : Nat) (h : 30 ≤ k ∧ k ≤ 34) (w : World) : Calls Tryd.prog 36 #[.int .i64 (k : Int)] w fun e w' => e = .returned (.tuple #[.int .i64 (sr k), .int .i64 (of k), .int .i64 (im k)]) ∧ Below w.heap.size w w' := by
  rcases (by omega : k = 30 ∨ k = 31 ∨ k = 32 ∨ k = 33 ∨ k = 34) with rfl | rfl | rfl | rfl | rfl
  all_goals
    clear h
    go_enter Tryd.func36, Tryd.ntmps36
    go_wp2
    go_region
    go_wp2
    go_ret3
    exact ⟨rfl, (bnew w _).drew⟩

theorem fix_vals : ∀ k, k < 86 → ((0 ≤ k ∧ k ≤ 11) ∨ (14 ≤ k ∧ k ≤ 25) ∨ (28 ≤ k ∧ k ≤ 29) ∨ (44 ≤ k ∧ k ≤ 84) → sr k = 0 ∧ of k = 0 ∧ im k = 0) ∧ (35 ≤ k ∧ k ≤ 43 → sr k = 0 ∧ of k = 0 ∧ im k = bt k) := by decide +kernel
theorem fix_split {k : Nat} (h : k < 86) : ((0 ≤ k ∧ k ≤ 11) ∨ (14 ≤ k ∧ k ≤ 25) ∨ (28 ≤ k ∧ k ≤ 29) ∨ (44 ≤ k ∧ k ≤ 84) ∨ (35 ≤ k ∧ k ≤ 43) ∨ (30 ≤ k ∧ k ≤ 34)) ∨ k = 12 ∨ k = 13 ∨ k = 26 ∨ k = 27 ∨ k = 85 := by omega

set_option maxHeartbeats 4000000 in
set_option maxRecDepth 100000 in
theorem rfixed_in (k : Nat) (hk : k < 86) (w : World) : Calls Tryd.prog 36 #[.int .i64 (k : Int)] w fun e w' => e = .returned (.tuple #[.int .i64 (sr k), .int .i64 (of k), .int .i64 (im k)]) ∧ Below w.heap.size w w' := by
  rcases fix_split hk with (h | h | h | h | h | h) | rfl | rfl | rfl | rfl | rfl
  · obtain ⟨e1, e2, e3⟩ := (fix_vals k hk).1 (by omega); rw [e1, e2, e3]; exact rfix_a k h w
  · obtain ⟨e1, e2, e3⟩ := (fix_vals k hk).1 (by omega); rw [e1, e2, e3]; exact rfix_b k h w
  · obtain ⟨e1, e2, e3⟩ := (fix_vals k hk).1 (by omega); rw [e1, e2, e3]; exact rfix_c k h w
  · obtain ⟨e1, e2, e3⟩ := (fix_vals k hk).1 (by omega); rw [e1, e2, e3]; exact rfix_d k h w
  · obtain ⟨e1, e2, e3⟩ := (fix_vals k hk).2 h; rw [e1, e2, e3]; exact rfix_e k h w
  · exact rfix_f k h w
  all_goals
    clear hk
    go_enter Tryd.func36, Tryd.ntmps36
    go_wp2
    go_ret3
    exact ⟨rfl, Below.refl _ _⟩

theorem ix_cases (op : Int) : (0 ≤ op ∧ op < 86) ∨ (op < 0 ∨ 86 ≤ op) := by omega

set_option maxHeartbeats 2000000 in
set_option maxRecDepth 100000 in
theorem rfixed_out (op : Int) (h : op < 0 ∨ 86 ≤ op) (w : World) : Calls Tryd.prog 36 #[.int .i64 op] w fun e w' => e = .returned (.tuple #[.int .i64 0, .int .i64 0, .int .i64 0]) ∧ Below w.heap.size w w' := by
  have e1 : (op == 12) = false := by rw [beq_eq_false_iff_ne]; omega
  have e2 : (op == 13) = false := by rw [beq_eq_false_iff_ne]; omega
  have e3 : (op == 26) = false := by rw [beq_eq_false_iff_ne]; omega
  have e4 : (op == 27) = false := by rw [beq_eq_false_iff_ne]; omega
  have e5 : (op == 85) = false := by rw [beq_eq_false_iff_ne]; omega
  rcases h with h | h
  · have f1 : decide ((30 : Int) ≤ op) = false := by rw [decide_eq_false_iff_not]; omega
    have f2 : decide ((35 : Int) ≤ op) = false := by rw [decide_eq_false_iff_not]; omega
    clear h
    go_enter Tryd.func36, Tryd.ntmps36
    go_wp2
    go_ret3
    exact ⟨rfl, Below.refl _ _⟩
  · have f1 : decide ((30 : Int) ≤ op) = true := by rw [decide_eq_true_iff]; omega
    have f2 : decide ((35 : Int) ≤ op) = true := by rw [decide_eq_true_iff]; omega
    have f3 : decide (op ≤ 34) = false := by rw [decide_eq_false_iff_not]; omega
    have f4 : decide (op ≤ 43) = false := by rw [decide_eq_false_iff_not]; omega
    clear h
    go_enter Tryd.func36, Tryd.ntmps36
    go_wp2
    go_ret3
    exact ⟨rfl, Below.refl _ _⟩

theorem rfixed_at (op r o i : Int) (w : World) (hr : sr (ix op) = r) (ho : of (ix op) = o) (hi : im (ix op) = i) : Calls Tryd.prog 36 #[.int .i64 op] w fun e w' => e = .returned (.tuple #[.int .i64 r, .int .i64 o, .int .i64 i]) ∧ Below w.heap.size w w' := by
  subst hr ho hi
  by_cases h : 0 ≤ op ∧ op < 86
  · have := rfixed_in (ix op) (ix_lt h) w
    rwa [ix_in h] at this
  · rw [ix_out h]
    exact rfixed_out op (by omega) w
end Go.Proofs.YthebdblncafijaaDoor.L3
