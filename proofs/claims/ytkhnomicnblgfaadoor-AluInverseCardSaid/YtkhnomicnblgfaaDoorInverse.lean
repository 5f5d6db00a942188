/- AluInverse: for every two numbers, the law 'adding and subtracting the same operand restores a value' returns true, and its arguments read as before; the row's listed variable is tied to the program's text. No other condition. -/
import Derived.Test.YtkhnomicnblgfaaDoorAlive
import Derived.Test.YtkhnomicnblgfaaDoorLaw
import Derived.Test.YtkhnomicnblgfaaDoorCards
import Derived.Test.YtkhnomicnblgfaaDoorTie
import Derived.SevenTiedAt
namespace Go.Proofs.YtkhnomicnblgfaaDoor
open Go.ChangeShapes Go.WideShapes Go.ChangeAt Go.RowKit

open L3 L1

theorem inv_add (a b : Int) (h0 : 0 ≤ a) (h1 : a < 18446744073709551616) : ((a + b) % 18446744073709551616 - b) % 18446744073709551616 = a := by omega
theorem inv_neg (a : Int) : (0 - a) % 18446744073709551616 = (-a) % 18446744073709551616 := by rw [Int.zero_sub]
set_option maxHeartbeats 4000000 in
set_option maxRecDepth 100000 in
theorem inverse_walk (a : Int) (ha : 0 ≤ a ∧ a < 18446744073709551616) (b : Int) (hb : 0 ≤ b ∧ b < 18446744073709551616) (w : World) (hw : Wid w) :
    Calls Tryd.prog 8 #[.int .u64 a, .int .u64 b] w fun e w' => e = .returned (.bool true) ∧ Below w.heap.size w w' := by
  have HW := Lib.hid hw
  have e1 : doV 0 true 0 a b = (a + b) % 18446744073709551616 := rfl
  have e2 : doV 1 true 0 ((a + b) % 18446744073709551616) b = a := inv_add a b ha.1 ha.2
  have e3 : doV 9 true 0 a b = xo a b := rfl
  have e4 : doV 9 true 0 (xo a b) b = a := xo_xo a b ha.1
  have e5 : doV 28 false 0 a b = (-a) % 18446744073709551616 := rfl
  have e6 : doV 1 true 0 0 a = (-a) % 18446744073709551616 := inv_neg a
  have i1 := in64 (a + b)
  have i3 := xo_b a b 64 (tn64 ha.1 ha.2) (tn64 hb.1 hb.2)
  rw [p64] at i3
  have H1 := Lib.hid (fun w hw => do_any 0 true 0 0 0 0 a b _ true w hw ha.1 ha.2 hb.1 hb.2 e1 rfl)
  have H2 := Lib.hid (fun w hw => do_any 1 true 0 0 0 0 _ b _ true w hw i1.1 i1.2 hb.1 hb.2 e2 rfl)
  have H3 := Lib.hid (fun w hw => do_any 9 true 0 0 0 0 a b _ true w hw ha.1 ha.2 hb.1 hb.2 e3 rfl)
  have H4 := Lib.hid (fun w hw => do_any 9 true 0 0 0 0 _ b _ true w hw i3.1 i3.2 hb.1 hb.2 e4 rfl)
  have H5 := Lib.hid (fun w hw => do_any 28 false 0 0 0 0 a b _ true w hw ha.1 ha.2 hb.1 hb.2 e5 rfl)
  have H6 := Lib.hid (fun w hw => do_any 1 true 0 0 0 0 0 a _ true w hw (by decide) (by decide) ha.1 ha.2 e6 rfl)
  clear hw e1 e2 e3 e4 e5 e6 i1 i3 ha hb
  generalize (a + b) % 18446744073709551616 = sum at H1 H2
  generalize xo a b = once at H3 H4
  generalize (-a) % 18446744073709551616 = ng at H5 H6
  go_enter Tryd.func8, Tryd.ntmps8
  go_upto_region 2 with (go_at_call 9; ((with_reducible refine (H1.out _ HW.out).mono ?_); rintro e w1 ⟨rfl, b1⟩))
  go_upto_region 3 with (go_at_call 9; ((with_reducible refine (H2.out _ (wid_below HW.out b1)).mono ?_); rintro e w2 ⟨rfl, b2⟩; have B2 := bch b1 b2))
  go_upto_region 4 with (go_at_call 9; ((with_reducible refine (H3.out _ (wid_below HW.out B2)).mono ?_); rintro e w3 ⟨rfl, b3⟩; have B3 := bch B2 b3))
  go_upto_region 5 with (go_at_call 9; ((with_reducible refine (H4.out _ (wid_below HW.out B3)).mono ?_); rintro e w4 ⟨rfl, b4⟩; have B4 := bch B3 b4))
  go_upto_region 6 with (go_at_call 9; ((with_reducible refine (H5.out _ (wid_below HW.out B4)).mono ?_); rintro e w5 ⟨rfl, b5⟩; have B5 := bch B4 b5))
  go_upto_region 7 with (go_at_call 9; ((with_reducible refine (H6.out _ (wid_below HW.out B5)).mono ?_); rintro e w6 ⟨rfl, b6⟩; have B6 := bch B5 b6))
  go_wp2_with (go_at_call 11; ((with_reducible refine (alive_any _ (wid_below HW.out B6)).mono ?_); rintro e w7 ⟨rfl, b7⟩))
  go_ret
  exact ⟨rfl, bch B6 b7⟩

set_option maxRecDepth 100000 in
theorem inverse_lifted (os : Os) (started : os.Started) (H : Type) (enc : TypeId × Value → H) :
    ReturnsInHanded {} Tryd.checked os 8 .any (fun w args => (Rows.aluInverseSpec.pre enc Tryd.prog Tryd.f8 [] false w args ∧ laidMetH Tryd.prog laid4 w) ∧ sizedMet enc Tryd.prog Tryd.f8 (OpenSpec.ofChange Rows.aluInverseSpec) false w args)
      (Rows.aluInverseSpec.post enc Tryd.prog Tryd.f8 false true false false) := by
  refine returnsInHanded_of_change_and (C := Tryd.checked) (X := fun w _ => laidMetH Tryd.prog laid4 w) (fun _ _ _ hh h => h.of_heap hh) own started (by kernel_rfl) Tryd.func8
    (ChangeSpec.witness_shaped (enc := enc) (C := Tryd.checked) (os := os) (X := fun w _ => laidMetH Tryd.prog laid4 w) false (World.doorLaid Tryd.prog 4000 os) #[.int .u64 0, .int .u64 0] 8 rfl (World.shaped_of_RefB (by kernel_rfl) (by kernel_rfl)) (by kernel_rfl) (by kernel_rfl) (by kernel_rfl) (door_met os _)) ?_
  intro W base args ds gs before hval0 hW _ _ hL _
  have hval : ∀ (j : Nat) t v, Tryd.f8.params[j]? = some t → args[j]? = some v → Value.okWide Tryd.prog W .any base t v := hval0
  have hW' := hW
  obtain ⟨p, q, hA0, hV, rfl, hfz, hnd⟩ := hW
  have hA : DataW.TrodAll enc Tryd.prog W 0 (fun _ => true) true Tryd.f8.params.toList args.toList ds p := hA0
  rw [Tryd.params8] at hA hval
  obtain ⟨v0, vs0, d0, ds0, p0, q0, hargs, rfl, rfl, h0, r0⟩ := trodAll_cons hA
  obtain ⟨v1, vs1, d1, ds1, p1, q1, rfl, rfl, rfl, h1, r1⟩ := trodAll_cons r0
  obtain ⟨rfl, rfl, rfl⟩ := trodAll_nil r1
  obtain rfl : args = #[v0, v1] := by cases args; simp_all
  obtain ⟨rfl, rfl⟩ := trodVars_none hV
  obtain ⟨a0, rfl, rfl, rfl, w0⟩ := open_int Tryd.underlying24 (hval 0 24 v0 rfl rfl) h0
  obtain ⟨a1, rfl, rfl, rfl, w1⟩ := open_int Tryd.underlying24 (hval 1 24 v1 rfl rfl) h1
  clear hA0 hval0
  simp only [List.append_nil] at hW'
  refine (inverse_walk a0 (bu64 w0) a1 (bu64 w1) W (tabs_of hL)).mono fun e W' ⟨he, hg⟩ => ?_
  subst he
  exact ⟨_, rfl, law_post hW' rfl rfl Tryd.underlying4 rfl (fun sp _ => (trodAll_cons_mk (shut_int Tryd.underlying24 w0) (trodAll_cons_mk (shut_int Tryd.underlying24 w1) trodAll_mk0))) hg⟩

theorem inverse_said : Rows.AluInverseSaid :=
  OpenClaim.holds_of_wide 8 Tryd.f8 rfl rfl rfl rfl rfl rfl rfl ⟨rfl, rfl, rfl, rfl, rfl⟩ rfl rfl rfl rfl rfl (by kernel_rfl) Tryd.func8 (by kernel_rfl)
    (of_decide_eq_true (by kernel_rfl)) (by unfold Func.isWrapper; first | (rw [if_pos (by decide +kernel)]; kernel_rfl) | (rw [if_neg (by decide +kernel)]; exact ⟨rfl, rfl⟩))
    (fun os started H enc _ => inverse_lifted os started H enc)

/-- The card: the row's listed variables are tied to the program's text. -/
theorem inverse_card : Rows.AluInverseCardSaid :=
  Claim7.holds_tied_plain_at .later [] [.data] true (true, "c4b0f213e8293d4ec68ba40c0ca6da894c6e3496a9363ffa585d4e111ac11d0f") false
    inverse_said (fun _ h => by cases h) (by kernel_rfl) (fun _ h => by cases h) aluInverse_row_tie rfl ⟨rfl, rfl⟩ (by kernel_rfl) rfl
    (fun f fn hf hfn => by
      obtain rfl : f = 8 := Option.some.inj ((show Tryd.prog.funcNamed "slotcode/slotcodelaw06.AluInverse" = some 8 by kernel_rfl).symm.trans hf) |>.symm
      obtain rfl : fn = Tryd.f8 := (Option.some.inj (Tryd.func8.symm.trans hfn)).symm
      exact ⟨by kernel_rfl, fun j t ht => by
        rw [Tryd.params8] at ht
        have hm : t ∈ [24, 24] := by simpa using Array.mem_of_getElem? ht
        have hall : ([24, 24].all fun u => !Tryd.prog.wantsStandIn u) = true := by kernel_rfl
        exact (show Tryd.prog.wantsStandIn t = false by simpa using List.all_eq_true.1 hall t hm)⟩)
    (by kernel_rfl)
#print axioms inverse_card
end Go.Proofs.YtkhnomicnblgfaaDoor
