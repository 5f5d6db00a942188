/- The reference's Code. No condition. -/
import Derived.Test.YthebdblncafijaaDoorL3Rfn
namespace Go.Proofs.YthebdblncafijaaDoor.L3
open Go.RowKit

set_option maxHeartbeats 2000000 in
set_option maxRecDepth 100000 in
theorem rcode_at (op : Int) (reg : Bool) (v : Int) (ok : Bool) (w : World) (hv : cdV (ix op) reg = v) (hk : cdB (ix op) reg = ok) : Calls Tryd.prog 35 #[.int .i64 op, .bool reg] w fun e w' => e = .returned (.tuple #[.int .u8 v, .bool ok]) ∧ Below w.heap.size w w' := by
  subst hv hk
  by_cases h : 0 ≤ op ∧ op < 86
  · obtain ⟨k, hk, rfl⟩ : ∃ k : Nat, k < 86 ∧ op = (k : Int) := ⟨ix op, ix_lt h, (ix_in h).symm⟩
    rw [ix_nat hk]
    obtain ⟨c, hc⟩ : ∃ c, cd k = c := ⟨_, rfl⟩
    obtain ⟨f, hf⟩ : ∃ f, frm k = f := ⟨_, rfl⟩
    have HF : Hid (frm (ix (k : Int)) = f) := Lib.hid (by rw [ix_nat hk]; exact hf)
    have HK : Hid (decide (ix (k : Int) < 86) = true) := Lib.hid (by rw [ix_nat hk]; exact decide_eq_true hk)
    have hcell : codesC[k]? = some (.int .u8 c) := by rw [codes_at k hk, hc]
    have hB : cdB k reg = (!reg || isR f) := by rw [cdB, decide_eq_true hk, Bool.true_and, ← hf, frm, if_pos hk]
    have hV : cdV k reg = if (!reg || isR f) then (if reg then IntKind.u8.wrap (c + 8) else c) else 0 := by rw [cdV, hB, cd8, hc]
    rw [hB, hV, isR]
    clear hB hV hf hc
    cases reg
    · go_enter Tryd.func35, Tryd.ntmps35
      go_wp2_with (first | (go_at_call 51; ((with_reducible refine (right_at _ _ _ HK.out).mono ?_); rintro e w1 ⟨rfl, rfl⟩)) | (go_at_call 28; ((with_reducible refine (rform_at _ _ _ HF.out).mono ?_); rintro e w1 ⟨rfl, rfl⟩)) | (go_at_call 55; ((with_reducible refine (codes_any _).mono ?_); rintro e w1 ⟨rfl, rfl⟩)))
      go_ret2
      exact ⟨rfl, bnew w _⟩
    · cases h0 : f == 0
      · cases h4 : f == 4
        · have n0 : (f != 0) = true := by rw [bne, h0]; rfl
          have n4 : (f != 4) = true := by rw [bne, h4]; rfl
          go_enter Tryd.func35, Tryd.ntmps35
          go_wp2_with (first | (go_at_call 51; ((with_reducible refine (right_at _ _ _ HK.out).mono ?_); rintro e w1 ⟨rfl, rfl⟩)) | (go_at_call 28; ((with_reducible refine (rform_at _ _ _ HF.out).mono ?_); rintro e w1 ⟨rfl, rfl⟩)) | (go_at_call 55; ((with_reducible refine (codes_any _).mono ?_); rintro e w1 ⟨rfl, rfl⟩)))
          go_ret2
          exact ⟨rfl, Below.refl _ _⟩
        · obtain rfl : f = 4 := by simpa using h4
          clear h0 h4
          go_enter Tryd.func35, Tryd.ntmps35
          go_wp2_with (first | (go_at_call 51; ((with_reducible refine (right_at _ _ _ HK.out).mono ?_); rintro e w1 ⟨rfl, rfl⟩)) | (go_at_call 28; ((with_reducible refine (rform_at _ _ _ HF.out).mono ?_); rintro e w1 ⟨rfl, rfl⟩)) | (go_at_call 55; ((with_reducible refine (codes_any _).mono ?_); rintro e w1 ⟨rfl, rfl⟩)))
          go_ret2
          exact ⟨rfl, bnew w _⟩
      · obtain rfl : f = 0 := by simpa using h0
        clear h0
        go_enter Tryd.func35, Tryd.ntmps35
        go_wp2_with (first | (go_at_call 51; ((with_reducible refine (right_at _ _ _ HK.out).mono ?_); rintro e w1 ⟨rfl, rfl⟩)) | (go_at_call 28; ((with_reducible refine (rform_at _ _ _ HF.out).mono ?_); rintro e w1 ⟨rfl, rfl⟩)) | (go_at_call 55; ((with_reducible refine (codes_any _).mono ?_); rintro e w1 ⟨rfl, rfl⟩)))
        go_ret2
        exact ⟨rfl, bnew w _⟩
  · have HK : Hid (decide (ix op < 86) = false) := Lib.hid (by rw [ix_out h]; rfl)
    rw [ix_out h]
    clear h
    go_enter Tryd.func35, Tryd.ntmps35
    go_wp2_with (first | (go_at_call 51; ((with_reducible refine (right_at _ false _ HK.out).mono ?_); rintro e w1 ⟨rfl, rfl⟩)))
    go_ret2
    exact ⟨rfl, Below.refl _ _⟩
end Go.Proofs.YthebdblncafijaaDoor.L3
