/- SlotEncodes: for every instruction, the law 'Encode returns the bytes of the reference, or the error of Check' returns true, and its argument reads as before; the row's listed variable is tied to the program's text. No other condition. -/
import Derived.Test.YthebdblncafijaaDoorRenca
import Derived.Test.YthebdblncafijaaDoorLaw
import Derived.Test.YthebdblncafijaaDoorCards
import Derived.Test.YthebdblncafijaaDoorTie
import Derived.SevenTiedAt
namespace Go.Proofs.YthebdblncafijaaDoor
open Go.ChangeShapes Go.WideShapes Go.ChangeAt Go.RowKit

open L3 L1 L4

theorem BsAt.own {w : World} {base : Nat} {v : Value} {n : Nat} {l : List UInt8} (h : w.ownsRow base 5 1 v n (byL l)) : BsV w v l := (own_bytes h).v

set_option maxHeartbeats 4000000 in
set_option maxRecDepth 100000 in
theorem enc_walk (x : Ix) (w : World) (hf : x.fits) (hw : Wid w) : Calls Tryd.prog 3 #[.agg #[.int .i64 x.op, .bool x.reg, .int .i64 x.dst, .int .i64 x.src, .int .i64 x.off, .int .i64 x.imm]] w fun e w' => e = .returned (.bool true) ∧ Below w.heap.size w w' := by
  have HW := Lib.hid hw
  have hx := heap_alloc_last w (.cells x.cs 23)
  have b0 := bnew w (.cells x.cs 23)
  obtain ⟨x0, x1, x2, x3, x4, x5⟩ := cells6 hx
  clear hw
  by_cases he : x.err = 0
  · have HE := Lib.hid (fun w hw => enc_is x x.bytes _ w hw hf he rfl rfl)
    have HC := Lib.hid (fun w => rchk_is x 0 w hf he)
    have HR := Lib.hid (fun w => renc_ok x w he)
    have hlm := bytes_length x
    clear he hf
    go_enter Tryd.func3, Tryd.ntmps3
    go_wp2_with (first | (go_at_call 9; ((with_reducible refine (HE.out _ (wid_below HW.out b0)).mono ?_); rintro e w1 ⟨k1, hk1, rfl, h1, b1⟩; have B1 := bch b0 b1; have hx1 := row_up hx b1; clear x0 x1 x2 x3 x4 x5; obtain ⟨x0, x1, x2, x3, x4, x5⟩ := cells6 hx1)) | (go_at_call 10; ((with_reducible refine (HC.out _).mono ?_); rintro e w2 ⟨rfl, b2⟩; have B2 := bch B1 b2; have hx2 := row_up hx1 b2; have h2 := row_up h1 b2)) | (go_at_call 11; ((with_reducible refine (alive_any _ (wid_below HW.out B2)).mono ?_); rintro e w3 ⟨rfl, b3⟩; have B3 := bch B2 b3; have h3 := row_up h2 b3; clear x0 x1 x2 x3 x4 x5; obtain ⟨x0, x1, x2, x3, x4, x5⟩ := cells6 (row_up hx2 b3))) | (go_at_call 13; ((with_reducible refine (HR.out _).mono ?_); rintro e w4 ⟨v4, rfl, h4, b4⟩; have B4 := bch B3 b4; have h3' := row_up h3 b4)) | (go_at_call 12; ((with_reducible refine (same_at _ _ x.bytes _ (by omega) ((row_bytes h3' rfl (by unfold maxLen; omega)).v) (BsAt.own h4)).mono ?_); rintro e w5 ⟨rfl, b5⟩)))
    go_ret
    exact ⟨rfl, bch B4 b5⟩
  · obtain ⟨R, hR⟩ : ∃ R, x.err = R := ⟨_, rfl⟩
    have hne : (R != 0) = true := by rw [← hR]; simpa using he
    have HE := Lib.hid (fun w hw => enc_no x R w hw hR hne)
    have HC := Lib.hid (fun w => rchk_is x R w hf hR)
    clear he hf hR
    go_enter Tryd.func3, Tryd.ntmps3
    go_wp2_with (first | (go_at_call 9; ((with_reducible refine (HE.out _ (wid_below HW.out b0)).mono ?_); rintro e w1 ⟨rfl, b1⟩; have B1 := bch b0 b1; have hx1 := row_up hx b1; clear x0 x1 x2 x3 x4 x5; obtain ⟨x0, x1, x2, x3, x4, x5⟩ := cells6 hx1)) | (go_at_call 10; ((with_reducible refine (HC.out _).mono ?_); rintro e w2 ⟨rfl, b2⟩; have B2 := bch B1 b2)) | (go_at_call 11; ((with_reducible refine (alive_any _ (wid_below HW.out B2)).mono ?_); rintro e w3 ⟨rfl, b3⟩; have B3 := bch B2 b3)))
    go_ret
    exact ⟨rfl, B3⟩

set_option maxRecDepth 100000 in
theorem enc_lifted (os : Os) (started : os.Started) (H : Type) (enc : TypeId × Value → H) :
    ReturnsInHanded {} Tryd.checked os 3 .any (fun w args => (Rows.slotEncodesSpec.pre enc Tryd.prog Tryd.f3 [] false w args ∧ laidMetH Tryd.prog laid4 w) ∧ sizedMet enc Tryd.prog Tryd.f3 (OpenSpec.ofChange Rows.slotEncodesSpec) false w args)
      (Rows.slotEncodesSpec.post enc Tryd.prog Tryd.f3 false true false false) := by
  refine returnsInHanded_of_change_and (C := Tryd.checked) (X := fun w _ => laidMetH Tryd.prog laid4 w) (fun _ _ _ hh h => h.of_heap hh) own started (by kernel_rfl) Tryd.func3
    (ChangeSpec.witness_shaped (enc := enc) (C := Tryd.checked) (os := os) (X := fun w _ => laidMetH Tryd.prog laid4 w) false (World.doorLaid Tryd.prog 4000 os) #[.agg #[.int .i64 0, .bool false, .int .i64 0, .int .i64 0, .int .i64 0, .int .i64 0]] 8 rfl (World.shaped_of_RefB (by kernel_rfl) (by kernel_rfl)) (by kernel_rfl) (by kernel_rfl) (by kernel_rfl) (door_met os _)) ?_
  intro W base args ds gs before hval0 hW _ _ hL _
  have hval : ∀ (j : Nat) t v, Tryd.f3.params[j]? = some t → args[j]? = some v → Value.okWide Tryd.prog W .any base t v := hval0
  have hW' := hW
  obtain ⟨p, q, hA0, hV, rfl, hfz, hnd⟩ := hW
  have hA : DataW.TrodAll enc Tryd.prog W 0 (fun _ => true) true Tryd.f3.params.toList args.toList ds p := hA0
  rw [Tryd.params3] at hA hval
  obtain ⟨v0, vs0, d0, ds0, p0, q0, hargs, rfl, rfl, h0, r0⟩ := trodAll_cons hA
  obtain ⟨rfl, rfl, rfl⟩ := trodAll_nil r0
  obtain rfl : args = #[v0] := by cases args; simp_all
  obtain ⟨rfl, rfl⟩ := trodVars_none hV
  clear hA0 hval0
  simp only [List.append_nil] at hW'
  obtain ⟨op0, reg0, dst0, src0, off0, imm0, rfl, rfl, rfl, k00, k20, k30, k40, k50⟩ := open_ins (hval 0 23 v0 rfl rfl) h0
  refine (enc_walk ⟨op0, reg0, dst0, src0, off0, imm0⟩ W (bounds_i64 k50) (tabs_of hL)).mono fun e W' ⟨he, hg⟩ => ?_
  subst he
  exact ⟨_, rfl, law_post_at hW' rfl rfl Tryd.underlying4 rfl (trodAll_mk1 (shut_ins k00 k20 k30 k40 k50)) hg⟩

theorem enc_said : Rows.SlotEncodesSaid :=
  OpenClaim.holds_of_wide 3 Tryd.f3 rfl rfl rfl rfl rfl rfl rfl ⟨rfl, rfl, rfl, rfl, rfl⟩ rfl rfl rfl rfl rfl (by kernel_rfl) Tryd.func3 (by kernel_rfl)
    (of_decide_eq_true (by kernel_rfl)) (by unfold Func.isWrapper; first | (rw [if_pos (by decide +kernel)]; kernel_rfl) | (rw [if_neg (by decide +kernel)]; exact ⟨rfl, rfl⟩))
    (fun os started H enc _ => enc_lifted os started H enc)

/-- The card: the row's listed variables are tied to the program's text. -/
theorem enc_card : Rows.SlotEncodesCardSaid :=
  Claim7.holds_tied_plain_at .later [] [.data] true (true, "7370c7ef35dfd77f2708cd0bf30d598406eb0cdf23cc79e1c137fbfec0eccda5") false
    enc_said (fun _ h => by cases h) (by kernel_rfl) (fun _ h => by cases h) slotEncodes_row_tie rfl ⟨rfl, rfl⟩ (by kernel_rfl) rfl
    (fun f fn hf hfn => by
      obtain rfl : f = 3 := Option.some.inj ((show Tryd.prog.funcNamed "slotcode/slotcodelaw05.SlotEncodes" = some 3 by kernel_rfl).symm.trans hf) |>.symm
      obtain rfl : fn = Tryd.f3 := (Option.some.inj (Tryd.func3.symm.trans hfn)).symm
      exact ⟨by kernel_rfl, fun j t ht => by
        rw [Tryd.params3] at ht
        have hm : t ∈ [23] := by simpa using Array.mem_of_getElem? ht
        have hall : ([23].all fun u => !Tryd.prog.wantsStandIn u) = true := by kernel_rfl
        exact (show Tryd.prog.wantsStandIn t = false by simpa using List.all_eq_true.1 hall t hm)⟩)
    (by kernel_rfl)
#print axioms enc_card
end Go.Proofs.YthebdblncafijaaDoor
