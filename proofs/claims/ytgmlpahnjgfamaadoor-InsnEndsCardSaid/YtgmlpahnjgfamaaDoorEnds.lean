/- InsnEnds: for every instruction, the law 'Ends and Jumps tell the forms' returns true, and its arguments read as before; the row's listed variable is tied to the program's text. No other condition. -/
import Derived.Test.YtgmlpahnjgfamaaDoorLaw
import Derived.Test.YtgmlpahnjgfamaaDoorCards
import Derived.Test.YtgmlpahnjgfamaaDoorTie
import Derived.SevenTiedAt
namespace Go.Proofs.YtgmlpahnjgfamaaDoor
open Go.ChangeShapes Go.WideShapes Go.ChangeAt Go.RowKit

open L3 L1

set_option maxHeartbeats 4000000 in
set_option maxRecDepth 100000 in
theorem ends_walk (op : Int) (reg : Bool) (dst src off imm : Int) (_ : (Lit.int .i64 imm).wf = true) (w : World) (hw : Wid w) :
    Calls Tryd.prog 6 #[.agg #[.int .i64 op, .bool reg, .int .i64 dst, .int .i64 src, .int .i64 off, .int .i64 imm]] w fun e w' => e = .returned (.bool true) ∧ Below w.heap.size w w' := by
  have hx0 : (w.alloc (.cells #[.int .i64 op, .bool reg, .int .i64 dst, .int .i64 src, .int .i64 off, .int .i64 imm] 29)).heap[w.heap.size]? = some (.cells #[.int .i64 op, .bool reg, .int .i64 dst, .int .i64 src, .int .i64 off, .int .i64 imm] 29) := heap_alloc_last w _
  have hT0 := Lib.hid (wid_below hw (bnew w (.cells #[.int .i64 op, .bool reg, .int .i64 dst, .int .i64 src, .int .i64 off, .int .i64 imm] 29)))
  clear hw
  obtain ⟨f, hf⟩ : ∃ f, frm (ix op) = f := ⟨_, rfl⟩
  have HF := Lib.hid hf
  clear hf
  cases e3 : (f == 3)
  · cases e6 : (f == 6) <;> cases e4 : (f == 4)
    · have HE : Hid (endF f = false) := Lib.hid (by rw [endF, e3, e6]; rfl)
      have HJ : Hid (jmpF f = false) := Lib.hid (by rw [jmpF, e3, e4]; rfl)
      go_enter Tryd.func6, Tryd.ntmps6
      go_wp2_with (first | (go_at_call 21; ((with_reducible refine (rform_at op _ _ HF.out).mono ?_); rintro e w0 ⟨rfl, rfl⟩)) | (go_at_call 10; ((with_reducible refine (alive_any _ hT0.out).mono ?_); rintro e w1 ⟨rfl, hb1⟩; have hx1 := (hb1.block _ (lt_of_block hx0)).trans hx0; have hT1 := Lib.hid (wid_below hT0.out hb1); obtain ⟨x0, x1, x2, x3, x4, x5⟩ := cells6 hx1)) | (go_at_call 22; ((with_reducible refine (ends_at op reg dst src off imm f _ _ HF.out HE.out).mono ?_); rintro e w2 ⟨rfl, hb2⟩; have hx2 := (hb2.block _ (lt_of_block hx1)).trans hx1; have hT2 := Lib.hid (wid_below hT1.out hb2); obtain ⟨x0, x1, x2, x3, x4, x5⟩ := cells6 hx2)) | (go_at_call 23; ((with_reducible refine (jumps_at op reg dst src off imm f _ _ HF.out HJ.out).mono ?_); rintro e w3 ⟨rfl, hb3⟩)))
      go_ret
      exact ⟨rfl, bch (bch (bch (bnew w _) hb1) hb2) hb3⟩
    · have HE : Hid (endF f = false) := Lib.hid (by rw [endF, e3, e6]; rfl)
      have HJ : Hid (jmpF f = true) := Lib.hid (by rw [jmpF, e3, e4]; rfl)
      go_enter Tryd.func6, Tryd.ntmps6
      go_wp2_with (first | (go_at_call 21; ((with_reducible refine (rform_at op _ _ HF.out).mono ?_); rintro e w0 ⟨rfl, rfl⟩)) | (go_at_call 10; ((with_reducible refine (alive_any _ hT0.out).mono ?_); rintro e w1 ⟨rfl, hb1⟩; have hx1 := (hb1.block _ (lt_of_block hx0)).trans hx0; have hT1 := Lib.hid (wid_below hT0.out hb1); obtain ⟨x0, x1, x2, x3, x4, x5⟩ := cells6 hx1)) | (go_at_call 22; ((with_reducible refine (ends_at op reg dst src off imm f _ _ HF.out HE.out).mono ?_); rintro e w2 ⟨rfl, hb2⟩; have hx2 := (hb2.block _ (lt_of_block hx1)).trans hx1; have hT2 := Lib.hid (wid_below hT1.out hb2); obtain ⟨x0, x1, x2, x3, x4, x5⟩ := cells6 hx2)) | (go_at_call 23; ((with_reducible refine (jumps_at op reg dst src off imm f _ _ HF.out HJ.out).mono ?_); rintro e w3 ⟨rfl, hb3⟩)))
      go_ret
      exact ⟨rfl, bch (bch (bch (bnew w _) hb1) hb2) hb3⟩
    · have HE : Hid (endF f = true) := Lib.hid (by rw [endF, e3, e6]; rfl)
      have HJ : Hid (jmpF f = false) := Lib.hid (by rw [jmpF, e3, e4]; rfl)
      go_enter Tryd.func6, Tryd.ntmps6
      go_wp2_with (first | (go_at_call 21; ((with_reducible refine (rform_at op _ _ HF.out).mono ?_); rintro e w0 ⟨rfl, rfl⟩)) | (go_at_call 10; ((with_reducible refine (alive_any _ hT0.out).mono ?_); rintro e w1 ⟨rfl, hb1⟩; have hx1 := (hb1.block _ (lt_of_block hx0)).trans hx0; have hT1 := Lib.hid (wid_below hT0.out hb1); obtain ⟨x0, x1, x2, x3, x4, x5⟩ := cells6 hx1)) | (go_at_call 22; ((with_reducible refine (ends_at op reg dst src off imm f _ _ HF.out HE.out).mono ?_); rintro e w2 ⟨rfl, hb2⟩; have hx2 := (hb2.block _ (lt_of_block hx1)).trans hx1; have hT2 := Lib.hid (wid_below hT1.out hb2); obtain ⟨x0, x1, x2, x3, x4, x5⟩ := cells6 hx2)) | (go_at_call 23; ((with_reducible refine (jumps_at op reg dst src off imm f _ _ HF.out HJ.out).mono ?_); rintro e w3 ⟨rfl, hb3⟩)))
      go_ret
      exact ⟨rfl, bch (bch (bch (bnew w _) hb1) hb2) hb3⟩
    · have HE : Hid (endF f = true) := Lib.hid (by rw [endF, e3, e6]; rfl)
      have HJ : Hid (jmpF f = true) := Lib.hid (by rw [jmpF, e3, e4]; rfl)
      go_enter Tryd.func6, Tryd.ntmps6
      go_wp2_with (first | (go_at_call 21; ((with_reducible refine (rform_at op _ _ HF.out).mono ?_); rintro e w0 ⟨rfl, rfl⟩)) | (go_at_call 10; ((with_reducible refine (alive_any _ hT0.out).mono ?_); rintro e w1 ⟨rfl, hb1⟩; have hx1 := (hb1.block _ (lt_of_block hx0)).trans hx0; have hT1 := Lib.hid (wid_below hT0.out hb1); obtain ⟨x0, x1, x2, x3, x4, x5⟩ := cells6 hx1)) | (go_at_call 22; ((with_reducible refine (ends_at op reg dst src off imm f _ _ HF.out HE.out).mono ?_); rintro e w2 ⟨rfl, hb2⟩; have hx2 := (hb2.block _ (lt_of_block hx1)).trans hx1; have hT2 := Lib.hid (wid_below hT1.out hb2); obtain ⟨x0, x1, x2, x3, x4, x5⟩ := cells6 hx2)) | (go_at_call 23; ((with_reducible refine (jumps_at op reg dst src off imm f _ _ HF.out HJ.out).mono ?_); rintro e w3 ⟨rfl, hb3⟩)))
      go_ret
      exact ⟨rfl, bch (bch (bch (bnew w _) hb1) hb2) hb3⟩
  · skip
    have HE : Hid (endF f = true) := Lib.hid (by rw [endF, e3]; rfl)
    have HJ : Hid (jmpF f = true) := Lib.hid (by rw [jmpF, e3]; rfl)
    go_enter Tryd.func6, Tryd.ntmps6
    go_wp2_with (first | (go_at_call 21; ((with_reducible refine (rform_at op _ _ HF.out).mono ?_); rintro e w0 ⟨rfl, rfl⟩)) | (go_at_call 10; ((with_reducible refine (alive_any _ hT0.out).mono ?_); rintro e w1 ⟨rfl, hb1⟩; have hx1 := (hb1.block _ (lt_of_block hx0)).trans hx0; have hT1 := Lib.hid (wid_below hT0.out hb1); obtain ⟨x0, x1, x2, x3, x4, x5⟩ := cells6 hx1)) | (go_at_call 22; ((with_reducible refine (ends_at op reg dst src off imm f _ _ HF.out HE.out).mono ?_); rintro e w2 ⟨rfl, hb2⟩; have hx2 := (hb2.block _ (lt_of_block hx1)).trans hx1; have hT2 := Lib.hid (wid_below hT1.out hb2); obtain ⟨x0, x1, x2, x3, x4, x5⟩ := cells6 hx2)) | (go_at_call 23; ((with_reducible refine (jumps_at op reg dst src off imm f _ _ HF.out HJ.out).mono ?_); rintro e w3 ⟨rfl, hb3⟩)))
    go_ret
    exact ⟨rfl, bch (bch (bch (bnew w _) hb1) hb2) hb3⟩

set_option maxRecDepth 100000 in
theorem ends_lifted (os : Os) (started : os.Started) (H : Type) (enc : TypeId × Value → H) :
    ReturnsInHanded {} Tryd.checked os 6 .any (fun w args => (Rows.insnEndsSpec.pre enc Tryd.prog Tryd.f6 [] false w args ∧ laidMetH Tryd.prog laid4 w) ∧ sizedMet enc Tryd.prog Tryd.f6 (OpenSpec.ofChange Rows.insnEndsSpec) false w args)
      (Rows.insnEndsSpec.post enc Tryd.prog Tryd.f6 false true false false) := by
  refine returnsInHanded_of_change_and (C := Tryd.checked) (X := fun w _ => laidMetH Tryd.prog laid4 w) (fun _ _ _ hh h => h.of_heap hh) own started (by kernel_rfl) Tryd.func6
    (ChangeSpec.witness_shaped (enc := enc) (C := Tryd.checked) (os := os) (X := fun w _ => laidMetH Tryd.prog laid4 w) false (World.doorLaid Tryd.prog 4000 os) #[.agg #[.int .i64 0, .bool false, .int .i64 0, .int .i64 0, .int .i64 0, .int .i64 0]] 8 rfl (World.shaped_of_RefB (by kernel_rfl) (by kernel_rfl)) (by kernel_rfl) (by kernel_rfl) (by kernel_rfl) (door_met os _)) ?_
  intro W base args ds gs before hval0 hW _ _ hL _
  have hval : ∀ (j : Nat) t v, Tryd.f6.params[j]? = some t → args[j]? = some v → Value.okWide Tryd.prog W .any base t v := hval0
  have hW' := hW
  obtain ⟨p, q, hA0, hV, rfl, hfz, hnd⟩ := hW
  have hA : DataW.TrodAll enc Tryd.prog W 0 (fun _ => true) true Tryd.f6.params.toList args.toList ds p := hA0
  rw [Tryd.params6] at hA hval
  obtain ⟨v0, vs0, d0, ds0, p0, q0, hargs, rfl, rfl, h0, r0⟩ := trodAll_cons hA
  obtain ⟨rfl, rfl, rfl⟩ := trodAll_nil r0
  obtain rfl : args = #[v0] := by cases args; simp_all
  obtain ⟨rfl, rfl⟩ := trodVars_none hV
  obtain ⟨op, reg, dst, src, off, imm, rfl, rfl, rfl, k0, k2, k3, k4, k5⟩ := open_ins (hval 0 29 v0 rfl rfl) h0
  clear hA0 hval0
  simp only [List.append_nil] at hW'
  refine (ends_walk op reg dst src off imm k5 W (tabs_of hL)).mono fun e W' ⟨he, hg⟩ => ?_
  subst he
  exact ⟨_, rfl, law_post hW' rfl rfl Tryd.underlying4 rfl (fun sp _ => (trodAll_cons_mk (shut_ins k0 k2 k3 k4 k5) trodAll_mk0)) hg⟩

theorem ends_said : Rows.InsnEndsSaid :=
  OpenClaim.holds_of_wide 6 Tryd.f6 rfl rfl rfl rfl rfl rfl rfl ⟨rfl, rfl, rfl, rfl, rfl⟩ rfl rfl rfl rfl rfl (by kernel_rfl) Tryd.func6 (by kernel_rfl)
    (of_decide_eq_true (by kernel_rfl)) (by unfold Func.isWrapper; first | (rw [if_pos (by decide +kernel)]; kernel_rfl) | (rw [if_neg (by decide +kernel)]; exact ⟨rfl, rfl⟩))
    (fun os started H enc _ => ends_lifted os started H enc)

/-- The card: the row's listed variables are tied to the program's text. -/
theorem ends_card : Rows.InsnEndsCardSaid :=
  Claim7.holds_tied_plain_at .later [] [.data] true (true, "b08d110b0b5bc7c2f0445ceb3778c24914d474e45514bf8d7beb638b62b76804") false
    ends_said (fun _ h => by cases h) (by kernel_rfl) (fun _ h => by cases h) insnEnds_row_tie rfl ⟨rfl, rfl⟩ (by kernel_rfl) rfl
    (fun f fn hf hfn => by
      obtain rfl : f = 6 := Option.some.inj ((show Tryd.prog.funcNamed "slotcode/slotcodelaw04.InsnEnds" = some 6 by kernel_rfl).symm.trans hf) |>.symm
      obtain rfl : fn = Tryd.f6 := (Option.some.inj (Tryd.func6.symm.trans hfn)).symm
      exact ⟨by kernel_rfl, fun j t ht => by
        rw [Tryd.params6] at ht
        have hm : t ∈ [29] := by simpa using Array.mem_of_getElem? ht
        have hall : ([29].all fun u => !Tryd.prog.wantsStandIn u) = true := by kernel_rfl
        exact (show Tryd.prog.wantsStandIn t = false by simpa using List.all_eq_true.1 hall t hm)⟩)
    (by kernel_rfl)
#print axioms ends_card
end Go.Proofs.YtgmlpahnjgfamaaDoor
