/- AluSwaps: for every number and number of bits, the law 'Swap returns the number of the reference, and swapping twice keeps the last bits' returns true, and its arguments read as before; the row's listed variable is tied to the program's text. No other condition. -/
import Derived.Test.YtkhnomicnblgfaaDoorAlive
import Derived.Test.YtkhnomicnblgfaaDoorLaw
import Derived.Test.YtkhnomicnblgfaaDoorCards
import Derived.Test.YtkhnomicnblgfaaDoorTie
import Derived.SevenTiedAt
namespace Go.Proofs.YtkhnomicnblgfaaDoor
open Go.ChangeShapes Go.WideShapes Go.ChangeAt Go.RowKit

open L3 L1

theorem sw_b (n x : Int) (hn : n = 16 ∨ n = 32 ∨ n = 64) : 0 ≤ sw n x ∧ sw n x < 18446744073709551616 := by
  have r := rv_b x
  rcases hn with rfl | rfl | rfl
  · show 0 ≤ rv x / 281474976710656 ∧ rv x / 281474976710656 < 18446744073709551616; omega
  · show 0 ≤ rv x / 4294967296 ∧ rv x / 4294967296 < 18446744073709551616; omega
  · exact r
theorem rv_rv (x : Int) (h0 : 0 ≤ x) (h1 : x < 18446744073709551616) : rv (rv x) = x := by
  obtain ⟨a, b, c, d, e, f, g, h, ha, hb, hc, hd, he, hf, hg, hh, hx⟩ := bytes8 x h0 h1
  obtain rfl : x = ((W8 a b c d e f g h : Nat) : Int) := by omega
  rw [rv_W8 a b c d e f g h ha hb hc hd he hf hg hh, rv_W8 h g f e d c b a hh hg hf he hd hc hb ha]
theorem byte2 (p q : Int) (hp : 0 ≤ p ∧ p < 256) (hq : 0 ≤ q ∧ q < 256) : (p * 256 + q) % 256 = q ∧ (p * 256 + q) / 256 % 256 = p := by omega
theorem sw16_sw16 (x : Int) : sw 16 (sw 16 x) = x % 65536 := by
  have e : ∀ y, sw 16 y = y % 256 * 256 + y / 256 % 256 := sw16
  rw [e (sw 16 x), e x]
  have k := byte2 (x % 256) (x / 256 % 256) (by omega) (by omega)
  rw [k.1, k.2]
  omega
theorem byte4 (p q r s : Int) (hp : 0 ≤ p ∧ p < 256) (hq : 0 ≤ q ∧ q < 256) (hr : 0 ≤ r ∧ r < 256) (hs : 0 ≤ s ∧ s < 256) :
    (((p * 256 + q) * 256 + r) * 256 + s) % 256 = s ∧ (((p * 256 + q) * 256 + r) * 256 + s) / 256 % 256 = r ∧ (((p * 256 + q) * 256 + r) * 256 + s) / 256 / 256 % 256 = q ∧ (((p * 256 + q) * 256 + r) * 256 + s) / 256 / 256 / 256 % 256 = p := by omega
theorem low4 (x : Int) : ((x / 256 / 256 / 256 % 256 * 256 + x / 256 / 256 % 256) * 256 + x / 256 % 256) * 256 + x % 256 = x % 4294967296 := by omega
theorem sw32_sw32 (x : Int) : sw 32 (sw 32 x) = x % 4294967296 := by
  have e : ∀ y, sw 32 y = ((y % 256 * 256 + y / 256 % 256) * 256 + y / 256 / 256 % 256) * 256 + y / 256 / 256 / 256 % 256 := sw32
  rw [e (sw 32 x), e x]
  have b : ∀ y : Int, 0 ≤ y % 256 ∧ y % 256 < 256 := fun y => by omega
  have k := byte4 (x % 256) (x / 256 % 256) (x / 256 / 256 % 256) (x / 256 / 256 / 256 % 256) (b _) (b _) (b _) (b _)
  rw [k.1, k.2.1, k.2.2.1, k.2.2.2, low4]
theorem sx_sw (n x : Int) (h0 : 0 ≤ x) (h1 : x < 18446744073709551616) (hn : n = 16 ∨ n = 32 ∨ n = 64) : sx n (sw n (sw n x)) = sx n x := by
  rcases hn with rfl | rfl | rfl
  · rw [sw16_sw16]; simp only [sx]; simp
  · rw [sw32_sw32, sx_low]
  · have : sw 64 (sw 64 x) = x := rv_rv x h0 h1
    rw [this]

set_option maxHeartbeats 4000000 in
set_option maxRecDepth 100000 in
theorem swaps_walk (x : Int) (hx : 0 ≤ x ∧ x < 18446744073709551616) (n : Int) (_ : -9223372036854775808 ≤ n ∧ n ≤ 9223372036854775807) (w : World) (hw : Wid w) :
    Calls Tryd.prog 5 #[.int .u64 x, .int .i64 n] w fun e w' => e = .returned (.bool true) ∧ Below w.heap.size w w' := by
  have HW := Lib.hid hw
  have HA := Lib.hid (alive_any w hw)
  clear hw
  by_cases hn : n = 16 ∨ n = 32 ∨ n = 64
  · have H1 := Lib.hid (swap_is x n w hx.1 hx.2 hn)
    have H2 := Lib.hid (rswap_is x n w hx.1 hx.2 hn)
    have hy := sw_b n x hn
    have hz := sw_b n (sw n x) hn
    have H3 := Lib.hid (fun w => swap_is (sw n x) n w hy.1 hy.2 hn)
    have H4 := Lib.hid (fun w => rextend_yes (sw n (sw n x)) n w hz.1 hz.2 (by omega))
    rw [sx_sw n x hx.1 hx.2 hn] at H4
    have H5 := Lib.hid (fun w => rextend_yes x n w hx.1 hx.2 (by omega))
    generalize sw n (sw n x) = z at H3 H4
    generalize sw n x = y at H1 H2 H3
    generalize sx n x = q at H4 H5
    clear hy hz
    rcases hn with rfl | rfl | rfl
    all_goals
      go_enter Tryd.func5, Tryd.ntmps5
      go_wp2_with (first | (go_at_call 14; ((with_reducible refine (H1.out).mono ?_); rintro e w1 ⟨rfl, rfl⟩)) | (go_at_call 15; ((with_reducible refine (H2.out).mono ?_); rintro e w1 ⟨rfl, rfl⟩)) | (go_at_call 11; ((with_reducible refine (HA.out).mono ?_); rintro e w3 ⟨rfl, b3⟩)) | (go_at_call 14; ((with_reducible refine (H3.out _).mono ?_); rintro e w4 ⟨rfl, rfl⟩)) | (go_at_call 16; ((with_reducible refine (H4.out _).mono ?_); rintro e w4 ⟨rfl, rfl⟩)) | (go_at_call 16; ((with_reducible refine (H5.out _).mono ?_); rintro e w4 ⟨rfl, rfl⟩)))
      go_ret
      exact ⟨rfl, b3⟩
  · have n1 : (n == 16) = false := by rw [beq_eq_false_iff_ne]; omega
    have n2 : (n == 32) = false := by rw [beq_eq_false_iff_ne]; omega
    have n3 : (n == 64) = false := by rw [beq_eq_false_iff_ne]; omega
    have m1 : (n != 16) = true := by simp [bne, n1]
    have m2 : (n != 32) = true := by simp [bne, n2]
    have m3 : (n != 64) = true := by simp [bne, n3]
    have H1 := Lib.hid (swap_no x n w n1 n2 n3)
    have H2 := Lib.hid (rswap_no x n w m1 m2 m3)
    clear hn n1 n2 n3
    go_enter Tryd.func5, Tryd.ntmps5
    go_wp2_with (first | (go_at_call 14; ((with_reducible refine (H1.out).mono ?_); rintro e w1 ⟨rfl, rfl⟩)) | (go_at_call 15; ((with_reducible refine (H2.out).mono ?_); rintro e w1 ⟨rfl, rfl⟩)) | (go_at_call 11; ((with_reducible refine (HA.out).mono ?_); rintro e w3 ⟨rfl, b3⟩)))
    go_ret
    exact ⟨rfl, b3⟩

set_option maxRecDepth 100000 in
theorem swaps_lifted (os : Os) (started : os.Started) (H : Type) (enc : TypeId × Value → H) :
    ReturnsInHanded {} Tryd.checked os 5 .any (fun w args => (Rows.aluSwapsSpec.pre enc Tryd.prog Tryd.f5 [] false w args ∧ laidMetH Tryd.prog laid4 w) ∧ sizedMet enc Tryd.prog Tryd.f5 (OpenSpec.ofChange Rows.aluSwapsSpec) false w args)
      (Rows.aluSwapsSpec.post enc Tryd.prog Tryd.f5 false true false false) := by
  refine returnsInHanded_of_change_and (C := Tryd.checked) (X := fun w _ => laidMetH Tryd.prog laid4 w) (fun _ _ _ hh h => h.of_heap hh) own started (by kernel_rfl) Tryd.func5
    (ChangeSpec.witness_shaped (enc := enc) (C := Tryd.checked) (os := os) (X := fun w _ => laidMetH Tryd.prog laid4 w) false (World.doorLaid Tryd.prog 4000 os) #[.int .u64 0, .int .i64 0] 8 rfl (World.shaped_of_RefB (by kernel_rfl) (by kernel_rfl)) (by kernel_rfl) (by kernel_rfl) (by kernel_rfl) (door_met os _)) ?_
  intro W base args ds gs before hval0 hW _ _ hL _
  have hval : ∀ (j : Nat) t v, Tryd.f5.params[j]? = some t → args[j]? = some v → Value.okWide Tryd.prog W .any base t v := hval0
  have hW' := hW
  obtain ⟨p, q, hA0, hV, rfl, hfz, hnd⟩ := hW
  have hA : DataW.TrodAll enc Tryd.prog W 0 (fun _ => true) true Tryd.f5.params.toList args.toList ds p := hA0
  rw [Tryd.params5] at hA hval
  obtain ⟨v0, vs0, d0, ds0, p0, q0, hargs, rfl, rfl, h0, r0⟩ := trodAll_cons hA
  obtain ⟨v1, vs1, d1, ds1, p1, q1, rfl, rfl, rfl, h1, r1⟩ := trodAll_cons r0
  obtain ⟨rfl, rfl, rfl⟩ := trodAll_nil r1
  obtain rfl : args = #[v0, v1] := by cases args; simp_all
  obtain ⟨rfl, rfl⟩ := trodVars_none hV
  obtain ⟨a0, rfl, rfl, rfl, w0⟩ := open_int Tryd.underlying24 (hval 0 24 v0 rfl rfl) h0
  obtain ⟨a1, rfl, rfl, rfl, w1⟩ := open_int Tryd.underlying3 (hval 1 3 v1 rfl rfl) h1
  clear hA0 hval0
  simp only [List.append_nil] at hW'
  refine (swaps_walk a0 (bu64 w0) a1 (bounds_i64 w1) W (tabs_of hL)).mono fun e W' ⟨he, hg⟩ => ?_
  subst he
  exact ⟨_, rfl, law_post hW' rfl rfl Tryd.underlying4 rfl (fun sp _ => (trodAll_cons_mk (shut_int Tryd.underlying24 w0) (trodAll_cons_mk (shut_int Tryd.underlying3 w1) trodAll_mk0))) hg⟩

theorem swaps_said : Rows.AluSwapsSaid :=
  OpenClaim.holds_of_wide 5 Tryd.f5 rfl rfl rfl rfl rfl rfl rfl ⟨rfl, rfl, rfl, rfl, rfl⟩ rfl rfl rfl rfl rfl (by kernel_rfl) Tryd.func5 (by kernel_rfl)
    (of_decide_eq_true (by kernel_rfl)) (by unfold Func.isWrapper; first | (rw [if_pos (by decide +kernel)]; kernel_rfl) | (rw [if_neg (by decide +kernel)]; exact ⟨rfl, rfl⟩))
    (fun os started H enc _ => swaps_lifted os started H enc)

/-- The card: the row's listed variables are tied to the program's text. -/
theorem swaps_card : Rows.AluSwapsCardSaid :=
  Claim7.holds_tied_plain_at .later [] [.data] true (true, "c4b0f213e8293d4ec68ba40c0ca6da894c6e3496a9363ffa585d4e111ac11d0f") false
    swaps_said (fun _ h => by cases h) (by kernel_rfl) (fun _ h => by cases h) aluSwaps_row_tie rfl ⟨rfl, rfl⟩ (by kernel_rfl) rfl
    (fun f fn hf hfn => by
      obtain rfl : f = 5 := Option.some.inj ((show Tryd.prog.funcNamed "slotcode/slotcodelaw06.AluSwaps" = some 5 by kernel_rfl).symm.trans hf) |>.symm
      obtain rfl : fn = Tryd.f5 := (Option.some.inj (Tryd.func5.symm.trans hfn)).symm
      exact ⟨by kernel_rfl, fun j t ht => by
        rw [Tryd.params5] at ht
        have hm : t ∈ [24, 3] := by simpa using Array.mem_of_getElem? ht
        have hall : ([24, 3].all fun u => !Tryd.prog.wantsStandIn u) = true := by kernel_rfl
        exact (show Tryd.prog.wantsStandIn t = false by simpa using List.all_eq_true.1 hall t hm)⟩)
    (by kernel_rfl)
#print axioms swaps_card
end Go.Proofs.YtkhnomicnblgfaaDoor
