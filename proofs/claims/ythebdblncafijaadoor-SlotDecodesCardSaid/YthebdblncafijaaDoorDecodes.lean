/- SlotDecodes: for all bytes, the law 'Decode returns the instruction of the reference, or the error' returns true, and its argument reads as before; the row's listed variable is tied to the program's text. No other condition. -/
import Derived.Test.YthebdblncafijaaDoorRdecn
import Derived.Test.YthebdblncafijaaDoorLaw
import Derived.Test.YthebdblncafijaaDoorCards
import Derived.Test.YthebdblncafijaaDoorTie
import Derived.SevenTiedAt
namespace Go.Proofs.YthebdblncafijaaDoor
open Go.ChangeShapes Go.WideShapes Go.ChangeAt Go.RowKit

open L3 L1 L4

theorem rdec_is (v : Value) (l : List UInt8) (x : Ix) (n er : Int) (w : World) (hv : BsAt w v l) (hd : decF l = (x, n, er)) :
    Calls Tryd.prog 15 #[v] w fun e w' => e = .returned (.tuple #[.agg #[.int .i64 x.op, .bool x.reg, .int .i64 x.dst, .int .i64 x.src, .int .i64 x.off, .int .i64 x.imm], .int .i64 n, .int .i64 er]) ∧ Below w.heap.size w w' := by
  have := rdec_any v l w hv
  rw [hd] at this
  exact this
theorem eql_same (x : Ix) (w : World) : (binOp .eql 23 (.agg #[.int .i64 x.op, .bool x.reg, .int .i64 x.dst, .int .i64 x.src, .int .i64 x.off, .int .i64 x.imm]) (.agg #[.int .i64 x.op, .bool x.reg, .int .i64 x.dst, .int .i64 x.src, .int .i64 x.off, .int .i64 x.imm])).run Tryd.prog w = .ok (.bool true) w := by
  simp [go_sem]
set_option maxHeartbeats 4000000 in
set_option maxRecDepth 100000 in
theorem dec2_walk (v : Value) (l : List UInt8) (w : World) (hv : BsAt w v l) (hw : Wid w) : Calls Tryd.prog 4 #[v] w fun e w' => e = .returned (.bool true) ∧ Below w.heap.size w w' := by
  have HW := Lib.hid hw
  have HV := Lib.hid hv
  clear hw
  obtain ⟨⟨x, sl, er⟩, hd⟩ : ∃ d, decF l = d := ⟨_, rfl⟩
  have HD := Lib.hid (fun w hw hv => dec_is v l x sl er w hw hv hd)
  have HR := Lib.hid (fun (w : World) (hv : BsAt w v l) => rdec_is v l x sl er w hv hd)
  clear hd hv
  have hq := eql_same x
  go_enter Tryd.func4, Tryd.ntmps4
  go_wp2_with (first | (go_at_call 14; ((with_reducible refine (HD.out _ HW.out HV.out).mono ?_); rintro e w1 ⟨rfl, b1⟩; have B1 := bch b1 (bnew w1 (.cells x.cs 23)); have hx := heap_alloc_last w1 (.cells x.cs 23); obtain ⟨x0, x1, x2, x3, x4, x5⟩ := cells6 hx)) | (go_at_call 15; ((with_reducible refine (HR.out _ (HV.out.below B1)).mono ?_); rintro e w2 ⟨rfl, b2⟩; have B2 := bch (bch B1 b2) (bnew w2 (.cells x.cs 23)); have hx2 := row_up hx (bch b2 (bnew w2 (.cells x.cs 23))); have hy := heap_alloc_last w2 (.cells x.cs 23))) | (go_at_call 11; ((with_reducible refine (alive_any _ (wid_below HW.out B2)).mono ?_); rintro e w3 ⟨rfl, b3⟩; clear x0 x1 x2 x3 x4 x5; obtain ⟨x0, x1, x2, x3, x4, x5⟩ := cells6 (row_up hx2 b3); obtain ⟨y0, y1, y2, y3, y4, y5⟩ := cells6 (row_up hy b3))))
  go_ret
  exact ⟨rfl, bch B2 b3⟩

set_option maxRecDepth 100000 in
theorem dec2_lifted (os : Os) (started : os.Started) (H : Type) (enc : TypeId × Value → H) :
    ReturnsInHanded {} Tryd.checked os 4 .any (fun w args => (Rows.slotDecodesSpec.pre enc Tryd.prog Tryd.f4 [] false w args ∧ laidMetH Tryd.prog laid4 w) ∧ sizedMet enc Tryd.prog Tryd.f4 (OpenSpec.ofChange Rows.slotDecodesSpec) false w args)
      (Rows.slotDecodesSpec.post enc Tryd.prog Tryd.f4 false true false false) := by
  refine returnsInHanded_of_change_and (C := Tryd.checked) (X := fun w _ => laidMetH Tryd.prog laid4 w) (fun _ _ _ hh h => h.of_heap hh) own started (by kernel_rfl) Tryd.func4
    (ChangeSpec.witness_shaped (enc := enc) (C := Tryd.checked) (os := os) (X := fun w _ => laidMetH Tryd.prog laid4 w) false (World.doorLaid Tryd.prog 4000 os) #[.slice none 0 0] 8 rfl (World.shaped_of_RefB (by kernel_rfl) (by kernel_rfl)) (by kernel_rfl) (by kernel_rfl) (by kernel_rfl) (door_met os _)) ?_
  intro W base args ds gs before hval0 hW _ _ hL _
  have hval : ∀ (j : Nat) t v, Tryd.f4.params[j]? = some t → args[j]? = some v → Value.okWide Tryd.prog W .any base t v := hval0
  have hW' := hW
  obtain ⟨p, q, hA0, hV, rfl, hfz, hnd⟩ := hW
  have hA : DataW.TrodAll enc Tryd.prog W 0 (fun _ => true) true Tryd.f4.params.toList args.toList ds p := hA0
  rw [Tryd.params4] at hA hval
  obtain ⟨v0, vs0, d0, ds0, p0, q0, hargs, rfl, rfl, h0, r0⟩ := trodAll_cons hA
  obtain ⟨rfl, rfl, rfl⟩ := trodAll_nil r0
  obtain rfl : args = #[v0] := by cases args; simp_all
  obtain ⟨rfl, rfl⟩ := trodVars_none hV
  clear hA0 hval0
  simp only [List.append_nil] at hW'
  obtain ⟨l0, hl0⟩ := open_bytes (hval 0 24 v0 rfl rfl) h0
  have hlt0 : ∀ x ∈ p0, x.block < W.heap.size := fun x hx => by simpa using hW'.lt x (by simp [hx])
  refine (dec2_walk v0 l0 W hl0 (tabs_of hL)).mono fun e W' ⟨he, hg⟩ => ?_
  subst he
  exact ⟨_, rfl, law_post_at hW' rfl rfl Tryd.underlying4 rfl (trodAll_mk1 (Below.trod laidOut (by kernel_rfl) (of_decide_eq_true (by kernel_rfl)) h0 hg hlt0)) hg⟩

theorem dec2_said : Rows.SlotDecodesSaid :=
  OpenClaim.holds_of_wide 4 Tryd.f4 rfl rfl rfl rfl rfl rfl rfl ⟨rfl, rfl, rfl, rfl, rfl⟩ rfl rfl rfl rfl rfl (by kernel_rfl) Tryd.func4 (by kernel_rfl)
    (of_decide_eq_true (by kernel_rfl)) (by unfold Func.isWrapper; first | (rw [if_pos (by decide +kernel)]; kernel_rfl) | (rw [if_neg (by decide +kernel)]; exact ⟨rfl, rfl⟩))
    (fun os started H enc _ => dec2_lifted os started H enc)

/-- The card: the row's listed variables are tied to the program's text. -/
theorem dec2_card : Rows.SlotDecodesCardSaid :=
  Claim7.holds_tied_plain_at .later [] [.data] true (true, "7370c7ef35dfd77f2708cd0bf30d598406eb0cdf23cc79e1c137fbfec0eccda5") false
    dec2_said (fun _ h => by cases h) (by kernel_rfl) (fun _ h => by cases h) slotDecodes_row_tie rfl ⟨rfl, rfl⟩ (by kernel_rfl) rfl
    (fun f fn hf hfn => by
      obtain rfl : f = 4 := Option.some.inj ((show Tryd.prog.funcNamed "slotcode/slotcodelaw05.SlotDecodes" = some 4 by kernel_rfl).symm.trans hf) |>.symm
      obtain rfl : fn = Tryd.f4 := (Option.some.inj (Tryd.func4.symm.trans hfn)).symm
      exact ⟨by kernel_rfl, fun j t ht => by
        rw [Tryd.params4] at ht
        have hm : t ∈ [24] := by simpa using Array.mem_of_getElem? ht
        have hall : ([24].all fun u => !Tryd.prog.wantsStandIn u) = true := by kernel_rfl
        exact (show Tryd.prog.wantsStandIn t = false by simpa using List.all_eq_true.1 hall t hm)⟩)
    (by kernel_rfl)
#print axioms dec2_card
end Go.Proofs.YthebdblncafijaaDoor
