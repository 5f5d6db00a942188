/- What the code's numerals come to: the closure that puts a digit behind a number, the reading of digits, Parse. No condition but that the table of widths reads as the program's text lays it and that a text is within the reach of the form. -/
import Derived.Test.YthkkdkccadomkaaDoorBase
import Derived.OneCell
import Derived.Lib.OthersKept
namespace Go.Proofs.YthkkdkccadomkaaDoor
open Go.RowKit

theorem digit_at (r : Int) (d : Nat) (w : World) (h0 : 0 ≤ r) (h1 : r ≤ 2147483647) (hd : dg r = d) :
    Calls Tryd.prog 38 #[.int .i32 r] w fun e w' => e = .returned (.int .u64 (d : Int)) ∧ w = w' := by
  rw [← hd]; exact digit_any r w h0 h1

theorem add64_at (x y : Nat) (w : World) : (callFunc 40 #[.int .u64 (x : Int), .int .u64 (y : Int), .int .u64 0]).run Tryd.prog w =
      .ok (.value (.tuple #[.int .u64 (((x + y) % 18446744073709551616 : Nat) : Int), .int .u64 (((x + y) / 18446744073709551616 : Nat) : Int)])) w := by
  rw [run_callFunc_extern Tryd.func40 (by kernel_rfl) (by kernel_rfl) (by kernel_rfl) (e := add64Entry) (by kernel_rfl), run_add64 (x : Int) y 0 (by omega) (by omega) (by omega) (by omega)]
  simp only [Result.andThen]
  congr 5 <;> omega

set_option maxHeartbeats 1000000 in
theorem add_no (v base d : Nat) (o : Bool) (r : Int) (k : Nat) (w : World) (h0 : 0 ≤ r) (h1 : r ≤ 2147483647) (hd : dg r = d)
    (hc : w.heap[k]? = some (.cells #[.int .u64 (base : Int)] 40 (0, 0))) (hdb : base ≤ d) :
    Calls Tryd.prog 37 #[.agg #[.int .u64 (v : Int), .bool o], .int .i32 r, .pointer (some ⟨k, 0, none⟩)] w fun e w' =>
      e = .returned (.tuple #[.agg #[.int .u64 0, .bool false], .bool false]) ∧ Below w.heap.size w w' := by
  have cK := cell_of_one hc
  have fK := free_of_one hc
  have lK := lt_of_block hc
  have HD := Lib.hid hd
  clear hd hc
  have hdb' : decide ((base : Int) ≤ (d : Int)) = true := by simpa using hdb
  go_enter Tryd.func37, Tryd.ntmps37
  go_wp2_with (go_at_call 38; refine (digit_at _ d _ h0 h1 HD.out).mono ?_; rintro e w' ⟨rfl, rfl⟩)
  refine bodyPost_ret (v := .tuple #[.agg #[.int .u64 0, .bool false], .bool false]) (by simp [results, Tryd.results37, go_sem]) rfl ⟨rfl, ?_⟩
  exact ((Below.refl _ _).alloc (Nat.le_refl _) _).alloc (by simp) _

theorem mul_at (x y hi lo : Nat) (w : World) (hx : x < 18446744073709551616) (hy : y < 18446744073709551616) (e1 : hi = x * y / 18446744073709551616) (e2 : lo = x * y % 18446744073709551616) :
    Calls Tryd.prog 39 #[.int .u64 (x : Int), .int .u64 (y : Int)] w fun e w' => e = .returned (.tuple #[.int .u64 (hi : Int), .int .u64 (lo : Int)]) ∧ w = w' := by
  subst e1; subst e2
  exact (Tryd.bits_Mul64 x y hx hy w).mono fun _ _ h => ⟨h.1, h.2.symm⟩

theorem add_arith (v base d hi lo sm cy : Nat) (o : Bool) (e1 : hi = v * base / 18446744073709551616) (e2 : lo = v * base % 18446744073709551616)
    (e3 : sm = (lo + d) % 18446744073709551616) (e4 : cy = (lo + d) / 18446744073709551616) :
    sm = (v * base + d) % 18446744073709551616 ∧ (o || !(hi == 0) || !(cy == 0)) = (o || decide (18446744073709551616 ≤ v * base + d)) := by
  generalize v * base = P at *
  refine ⟨by omega, ?_⟩
  rw [Bool.or_assoc]
  congr 1
  by_cases h : 18446744073709551616 ≤ P + d
  · simp only [h, decide_true]
    by_cases h1 : hi = 0
    · have : cy ≠ 0 := by omega
      simp [this]
    · simp [h1]
  · have h1 : hi = 0 := by omega
    have h2 : cy = 0 := by omega
    simp [h, h1, h2]

set_option maxHeartbeats 1000000 in
theorem add_yes (v base d : Nat) (o : Bool) (r : Int) (k : Nat) (w : World) (hv : v < 18446744073709551616) (hb0 : base < 100) (h0 : 0 ≤ r) (h1 : r ≤ 2147483647) (hd : dg r = d)
    (hc : w.heap[k]? = some (.cells #[.int .u64 (base : Int)] 40 (0, 0))) (hdb : d < base) :
    Calls Tryd.prog 37 #[.agg #[.int .u64 (v : Int), .bool o], .int .i32 r, .pointer (some ⟨k, 0, none⟩)] w fun e w' =>
      e = .returned (.tuple #[.agg #[.int .u64 (((v * base + d) % 18446744073709551616 : Nat) : Int), .bool (o || decide (18446744073709551616 ≤ v * base + d))], .bool true]) ∧ Below w.heap.size w w' := by
  have cK := cell_of_one hc
  have fK := free_of_one hc
  have lK := lt_of_block hc
  have HD := Lib.hid hd
  clear hd hc
  obtain ⟨hi, e1⟩ : ∃ hi, hi = v * base / 18446744073709551616 := ⟨_, rfl⟩
  obtain ⟨lo, e2⟩ : ∃ lo, lo = v * base % 18446744073709551616 := ⟨_, rfl⟩
  obtain ⟨sm, e3⟩ : ∃ sm, sm = (lo + d) % 18446744073709551616 := ⟨_, rfl⟩
  obtain ⟨cy, e4⟩ : ∃ cy, cy = (lo + d) / 18446744073709551616 := ⟨_, rfl⟩
  have HA := Lib.hid (add_arith v base d hi lo sm cy o e1 e2 e3 e4)
  have E1 := Lib.hid e1
  have E2 := Lib.hid e2
  have hadd : ∀ w, (callFunc 40 #[.int .u64 (lo : Int), .int .u64 (d : Int), .int .u64 0]).run Tryd.prog w = .ok (.value (.tuple #[.int .u64 (sm : Int), .int .u64 (cy : Int)])) w := by
    intro w; rw [e3, e4]; exact add64_at lo d w
  clear e1 e2 e3 e4
  have hdb' : decide ((base : Int) ≤ (d : Int)) = false := by simpa using hdb
  have hdb2 : decide (base ≤ d) = false := by simpa using hdb
  have hval : ∀ X : Bool, (o || !(hi == 0) || !(cy == 0)) = X → Ending.returned (.tuple #[.agg #[.int .u64 (sm : Int), .bool X], .bool true]) = Ending.returned (.tuple #[.agg #[.int .u64 (((v * base + d) % 18446744073709551616 : Nat) : Int), .bool (o || decide (18446744073709551616 ≤ v * base + d))], .bool true]) := by
    intro X hX; rw [← HA.out.2, ← HA.out.1, hX]
  have HV := Lib.hid hval
  clear hval
  rcases (show (∃ X, X = true ∧ (o || !(hi == 0) || !(cy == 0)) = X ∧ o = true) ∨ (o = false ∧ hi ≠ 0) ∨ (o = false ∧ hi = 0) by cases o <;> simp; omega) with ⟨X, rfl, hX, rfl⟩ | ⟨rfl, hh⟩ | ⟨rfl, rfl⟩
  · clear hX
    go_enter Tryd.func37, Tryd.ntmps37
    go_wp2_with (first | (go_at_call 38; refine (digit_at _ d _ h0 h1 HD.out).mono ?_; rintro e w' ⟨rfl, rfl⟩) | (go_at_call 39; refine (mul_at v base hi lo _ hv (by omega) E1.out E2.out).mono ?_; rintro e w' ⟨rfl, rfl⟩))
    refine bodyPost_ret (v := .tuple #[.agg #[.int .u64 (sm : Int), .bool true], .bool true]) (by simp [results, Tryd.results37, go_sem]) rfl ⟨HV.out true (by simp), ?_⟩
    exact ((Below.refl _ _).alloc (Nat.le_refl _) _).alloc (by simp) _
  · have h2 : ((hi : Int) == 0) = false := by simpa using hh
    have h3 : ((hi : Int) != 0) = true := by simpa using hh
    have HH := Lib.hid hh
    clear hh
    go_enter Tryd.func37, Tryd.ntmps37
    go_wp2_with (first | (go_at_call 38; refine (digit_at _ d _ h0 h1 HD.out).mono ?_; rintro e w' ⟨rfl, rfl⟩) | (go_at_call 39; refine (mul_at v base hi lo _ hv (by omega) E1.out E2.out).mono ?_; rintro e w' ⟨rfl, rfl⟩))
    refine bodyPost_ret (v := .tuple #[.agg #[.int .u64 (sm : Int), .bool true], .bool true]) (by simp [results, Tryd.results37, go_sem]) rfl ⟨HV.out true (by simp [HH.out]), ?_⟩
    exact ((Below.refl _ _).alloc (Nat.le_refl _) _).alloc (by simp) _
  · go_enter Tryd.func37, Tryd.ntmps37
    go_wp2_with (first | (go_at_call 38; refine (digit_at _ d _ h0 h1 HD.out).mono ?_; rintro e w' ⟨rfl, rfl⟩) | (go_at_call 39; refine (mul_at v base 0 lo _ hv (by omega) E1.out E2.out).mono ?_; rintro e w' ⟨rfl, rfl⟩))
    refine bodyPost_ret (v := .tuple #[.agg #[.int .u64 (sm : Int), .bool ((cy : Int) != 0)], .bool true]) (by simp [results, Tryd.results37, go_sem]) rfl ⟨HV.out _ ?_, ?_⟩
    · by_cases hc : cy = 0
      · subst hc; rfl
      · have hc' : ((cy : Int) != 0) = true := by simpa using hc
        rw [hc']
        simp [hc]
    · exact ((Below.refl _ _).alloc (Nat.le_refl _) _).alloc (by simp) _

end Go.Proofs.YthkkdkccadomkaaDoor
