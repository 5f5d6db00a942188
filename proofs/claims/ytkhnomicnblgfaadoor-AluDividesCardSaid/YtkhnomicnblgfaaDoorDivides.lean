/- AluDivides: for every two numbers, the law 'Divide returns the results of the reference, which make up the dividend, and the remainder is less than the divisor' returns true, and its arguments read as before; the row's listed variable is tied to the program's text. No other condition. -/
import Derived.Test.YtkhnomicnblgfaaDoorAlive
import Derived.Test.YtkhnomicnblgfaaDoorLaw
import Derived.Test.YtkhnomicnblgfaaDoorCards
import Derived.Test.YtkhnomicnblgfaaDoorTie
import Derived.SevenTiedAt
namespace Go.Proofs.YtkhnomicnblgfaaDoor
open Go.ChangeShapes Go.WideShapes Go.ChangeAt Go.RowKit

open L3 L1

set_option maxHeartbeats 4000000 in
set_option maxRecDepth 100000 in
theorem divides_walk (a : Int) (ha : -9223372036854775808 ≤ a ∧ a ≤ 9223372036854775807) (b : Int) (hb : -9223372036854775808 ≤ b ∧ b ≤ 9223372036854775807) (w : World) (hw : Wid w) :
    Calls Tryd.prog 6 #[.int .i64 a, .int .i64 b] w fun e w' => e = .returned (.bool true) ∧ Below w.heap.size w w' := by
  have HW := Lib.hid hw
  have HD := Lib.hid (divide_any a b w ha.1 ha.2 hb.1 hb.2)
  have HR := Lib.hid (fun w => rdivide_any a b w ha.1 ha.2 hb.1 hb.2)
  have hqr := quo_rem a b ha.1 ha.2
  have hsg := dr_sign a b
  have hz0 : b = 0 → dr a b = a := fun h => if_pos h
  clear hw
  generalize dq a b = q at HD HR hqr
  generalize dr a b = r at HD HR hqr hsg hz0
  have hne : (wrap64 (wrap64 (q * b) + r) != a) = false := by simp [bne, hqr]
  clear hqr
  cases t1 : b == 0
  · have hb0 : b ≠ 0 := by rw [beq_eq_false_iff_ne] at t1; exact t1
    cases t2 : r == 0
    · have hr0 : r ≠ 0 := by rw [beq_eq_false_iff_ne] at t2; exact t2
      obtain ⟨g1, g2⟩ := hsg hb0 hr0
      have t3 : (decide (r < 0) == decide (a < 0)) = true := by
        rw [beq_iff_eq, decide_eq_decide]; exact g1
      cases t4 : b == -9223372036854775808
      · clear hsg hz0 g1
        go_enter Tryd.func6, Tryd.ntmps6
        go_wp2_with (first | (go_at_call 17; ((with_reducible refine (HD.out).mono ?_); rintro e w1 ⟨rfl, b1⟩)) | (go_at_call 18; ((with_reducible refine (HR.out _).mono ?_); rintro e w2 ⟨rfl, rfl⟩)) | (go_at_call 11; ((with_reducible refine (alive_any _ (wid_below HW.out b1)).mono ?_); rintro e w3 ⟨rfl, b3⟩)))
        all_goals
          go_ret
          refine ⟨ret_bool (decide_eq_true ?_), bch b1 b3⟩
          have hb4 : b ≠ -9223372036854775808 := by rw [beq_eq_false_iff_ne] at t4; exact t4
          have hwb : wrap64 (-b) = -b := by unfold wrap64; omega
          have hwr : wrap64 (-r) = -r := by unfold wrap64; omega
          omega
      · clear hsg hz0 g1 g2
        go_enter Tryd.func6, Tryd.ntmps6
        go_wp2_with (first | (go_at_call 17; ((with_reducible refine (HD.out).mono ?_); rintro e w1 ⟨rfl, b1⟩)) | (go_at_call 18; ((with_reducible refine (HR.out _).mono ?_); rintro e w2 ⟨rfl, rfl⟩)) | (go_at_call 11; ((with_reducible refine (alive_any _ (wid_below HW.out b1)).mono ?_); rintro e w3 ⟨rfl, b3⟩)))
        go_ret
        exact ⟨rfl, bch b1 b3⟩
    · clear hsg hz0
      go_enter Tryd.func6, Tryd.ntmps6
      go_wp2_with (first | (go_at_call 17; ((with_reducible refine (HD.out).mono ?_); rintro e w1 ⟨rfl, b1⟩)) | (go_at_call 18; ((with_reducible refine (HR.out _).mono ?_); rintro e w2 ⟨rfl, rfl⟩)) | (go_at_call 11; ((with_reducible refine (alive_any _ (wid_below HW.out b1)).mono ?_); rintro e w3 ⟨rfl, b3⟩)))
      go_ret
      exact ⟨rfl, bch b1 b3⟩
  · clear hsg hz0
    go_enter Tryd.func6, Tryd.ntmps6
    go_wp2_with (first | (go_at_call 17; ((with_reducible refine (HD.out).mono ?_); rintro e w1 ⟨rfl, b1⟩)) | (go_at_call 18; ((with_reducible refine (HR.out _).mono ?_); rintro e w2 ⟨rfl, rfl⟩)) | (go_at_call 11; ((with_reducible refine (alive_any _ (wid_below HW.out b1)).mono ?_); rintro e w3 ⟨rfl, b3⟩)))
    go_ret
    exact ⟨rfl, bch b1 b3⟩

set_option maxRecDepth 100000 in
theorem divides_lifted (os : Os) (started : os.Started) (H : Type) (enc : TypeId × Value → H) :
    ReturnsInHanded {} Tryd.checked os 6 .any (fun w args => (Rows.aluDividesSpec.pre enc Tryd.prog Tryd.f6 [] false w args ∧ laidMetH Tryd.prog laid4 w) ∧ sizedMet enc Tryd.prog Tryd.f6 (OpenSpec.ofChange Rows.aluDividesSpec) false w args)
      (Rows.aluDividesSpec.post enc Tryd.prog Tryd.f6 false true false false) := by
  refine returnsInHanded_of_change_and (C := Tryd.checked) (X := fun w _ => laidMetH Tryd.prog laid4 w) (fun _ _ _ hh h => h.of_heap hh) own started (by kernel_rfl) Tryd.func6
    (ChangeSpec.witness_shaped (enc := enc) (C := Tryd.checked) (os := os) (X := fun w _ => laidMetH Tryd.prog laid4 w) false (World.doorLaid Tryd.prog 4000 os) #[.int .i64 0, .int .i64 0] 8 rfl (World.shaped_of_RefB (by kernel_rfl) (by kernel_rfl)) (by kernel_rfl) (by kernel_rfl) (by kernel_rfl) (door_met os _)) ?_
  intro W base args ds gs before hval0 hW _ _ hL _
  have hval : ∀ (j : Nat) t v, Tryd.f6.params[j]? = some t → args[j]? = some v → Value.okWide Tryd.prog W .any base t v := hval0
  have hW' := hW
  obtain ⟨p, q, hA0, hV, rfl, hfz, hnd⟩ := hW
  have hA : DataW.TrodAll enc Tryd.prog W 0 (fun _ => true) true Tryd.f6.params.toList args.toList ds p := hA0
  rw [Tryd.params6] at hA hval
  obtain ⟨v0, vs0, d0, ds0, p0, q0, hargs, rfl, rfl, h0, r0⟩ := trodAll_cons hA
  obtain ⟨v1, vs1, d1, ds1, p1, q1, rfl, rfl, rfl, h1, r1⟩ := trodAll_cons r0
  obtain ⟨rfl, rfl, rfl⟩ := trodAll_nil r1
  obtain rfl : args = #[v0, v1] := by cases args; simp_all
  obtain ⟨rfl, rfl⟩ := trodVars_none hV
  obtain ⟨a0, rfl, rfl, rfl, w0⟩ := open_int Tryd.underlying2 (hval 0 2 v0 rfl rfl) h0
  obtain ⟨a1, rfl, rfl, rfl, w1⟩ := open_int Tryd.underlying2 (hval 1 2 v1 rfl rfl) h1
  clear hA0 hval0
  simp only [List.append_nil] at hW'
  refine (divides_walk a0 (bounds_i64 w0) a1 (bounds_i64 w1) W (tabs_of hL)).mono fun e W' ⟨he, hg⟩ => ?_
  subst he
  exact ⟨_, rfl, law_post hW' rfl rfl Tryd.underlying4 rfl (fun sp _ => (trodAll_cons_mk (shut_int Tryd.underlying2 w0) (trodAll_cons_mk (shut_int Tryd.underlying2 w1) trodAll_mk0))) hg⟩

theorem divides_said : Rows.AluDividesSaid :=
  OpenClaim.holds_of_wide 6 Tryd.f6 rfl rfl rfl rfl rfl rfl rfl ⟨rfl, rfl, rfl, rfl, rfl⟩ rfl rfl rfl rfl rfl (by kernel_rfl) Tryd.func6 (by kernel_rfl)
    (of_decide_eq_true (by kernel_rfl)) (by unfold Func.isWrapper; first | (rw [if_pos (by decide +kernel)]; kernel_rfl) | (rw [if_neg (by decide +kernel)]; exact ⟨rfl, rfl⟩))
    (fun os started H enc _ => divides_lifted os started H enc)

/-- The card: the row's listed variables are tied to the program's text. -/
theorem divides_card : Rows.AluDividesCardSaid :=
  Claim7.holds_tied_plain_at .later [] [.data] true (true, "c4b0f213e8293d4ec68ba40c0ca6da894c6e3496a9363ffa585d4e111ac11d0f") false
    divides_said (fun _ h => by cases h) (by kernel_rfl) (fun _ h => by cases h) aluDivides_row_tie rfl ⟨rfl, rfl⟩ (by kernel_rfl) rfl
    (fun f fn hf hfn => by
      obtain rfl : f = 6 := Option.some.inj ((show Tryd.prog.funcNamed "slotcode/slotcodelaw06.AluDivides" = some 6 by kernel_rfl).symm.trans hf) |>.symm
      obtain rfl : fn = Tryd.f6 := (Option.some.inj (Tryd.func6.symm.trans hfn)).symm
      exact ⟨by kernel_rfl, fun j t ht => by
        rw [Tryd.params6] at ht
        have hm : t ∈ [2, 2] := by simpa using Array.mem_of_getElem? ht
        have hall : ([2, 2].all fun u => !Tryd.prog.wantsStandIn u) = true := by kernel_rfl
        exact (show Tryd.prog.wantsStandIn t = false by simpa using List.all_eq_true.1 hall t hm)⟩)
    (by kernel_rfl)
#print axioms divides_card
end Go.Proofs.YtkhnomicnblgfaaDoor
