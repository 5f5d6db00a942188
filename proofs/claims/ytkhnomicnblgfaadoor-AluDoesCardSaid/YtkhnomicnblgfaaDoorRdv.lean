/- What the reference's Divide returns: the quotient and the remainder, as the program's. Condition: the numbers have 64 bits. -/
import Derived.Test.YtkhnomicnblgfaaDoorRref
namespace Go.Proofs.YtkhnomicnblgfaaDoor
open Go.RowKit L1 L3

theorem emod2 (x : Int) : x % 18446744073709551616 % 18446744073709551616 = x % 18446744073709551616 := Int.emod_emod_of_dvd _ (Int.dvd_refl _)
theorem rem_any (a b a' b' q' : Int) (h0 : -9223372036854775808 ≤ a) (h1 : a ≤ 9223372036854775807) (ha : a' % 18446744073709551616 = a % 18446744073709551616) (hb : b' % 18446744073709551616 = b % 18446744073709551616) (hq : q' % 18446744073709551616 = a.tdiv b % 18446744073709551616) :
    wrap64 ((a' - q' * b' % 18446744073709551616) % 18446744073709551616) = a.tmod b := by
  have e : (a' - q' * b' % 18446744073709551616) % 18446744073709551616 = (a % 18446744073709551616 - (q' % 18446744073709551616 * (b % 18446744073709551616)) % 18446744073709551616) % 18446744073709551616 := by
    rw [Int.sub_emod, emod2, ha, ← hb, ← Int.mul_emod, Int.sub_emod (a % _), emod2, emod2]
  rw [e]
  exact rem_wrap a b q' h0 h1 hq
theorem ret_two {a b c d : Int} (h : a = c) (k : b = d) : Ending.returned (.tuple #[.int .i64 a, .int .i64 b]) = Ending.returned (.tuple #[.int .i64 c, .int .i64 d]) := by rw [h, k]

set_option maxHeartbeats 1000000 in
theorem rdivide_any (a b : Int) (w : World) (h0 : -9223372036854775808 ≤ a) (h1 : a ≤ 9223372036854775807) (k0 : -9223372036854775808 ≤ b) (k1 : b ≤ 9223372036854775807) :
    Calls Tryd.prog 18 #[.int .i64 a, .int .i64 b] w fun e w' => e = .returned (.tuple #[.int .i64 (dq a b), .int .i64 (dr a b)]) ∧ w = w' := by
  by_cases hb : b = 0
  · subst hb
    go_enter Tryd.func18, Tryd.ntmps18
    go_wp2
    go_ret2
    exact ⟨rfl, rfl⟩
  · have hb' : (b == 0) = false := by simpa using hb
    have HA := Lib.hid (rsize_any a w h0 h1)
    have HB := Lib.hid (rsize_any b w k0 k1)
    have HT := Lib.hid (tdiv_abs a b)
    have pz : ¬ (b.natAbs : Int) = 0 := by omega
    have na : (a.natAbs : Int) ≤ 9223372036854775808 := by omega
    have na0 : 0 ≤ (a.natAbs : Int) := by omega
    have nb0 : 0 ≤ (b.natAbs : Int) := by omega
    have hq := ediv_b (a.natAbs : Int) (b.natAbs : Int) na0 nb0
    have HQ := Lib.hid (show dq a b = wrap64 (a.tdiv b) from if_neg hb)
    have HR := Lib.hid (show dr a b = a.tmod b from if_neg hb)
    have HM := Lib.hid (rem_any a b)
    generalize (a.natAbs : Int) = A at *
    generalize (b.natAbs : Int) = B at *
    cases s1 : decide (a < 0) <;> cases s2 : decide (b < 0)
    all_goals
      have HT' := Lib.hid HT.out
      rw [s1, s2] at HT'
      clear HT
      go_enter Tryd.func18, Tryd.ntmps18
      go_wp2_with (first | (go_at_call 28; ((with_reducible refine (HA.out).mono ?_); rintro e w1 ⟨rfl, rfl⟩)) | (go_at_call 28; ((with_reducible refine (HB.out).mono ?_); rintro e w1 ⟨rfl, rfl⟩)))
      go_ret2
      refine ⟨ret_two ?_ ?_, rfl⟩
      · rw [HQ.out]
        refine w64_mod _ _ ?_
        rw [HT'.out]
        first | rfl | (simp only [IntKind.wrap_u64]; exact emod2 _)
      · rw [HR.out]
        simp only [IntKind.wrap_u64]
        refine HM.out _ _ _ h0 h1 ?_ ?_ ?_
        · first | rfl | exact emod2 _
        · first | rfl | exact emod2 _
        · rw [HT'.out]; first | rfl | exact emod2 _
end Go.Proofs.YtkhnomicnblgfaaDoor
