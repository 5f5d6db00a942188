/- InsnWrites: for every instruction, the law 'a correct instruction writes a register or none, and only one that uses Dst or calls does' returns true, and its arguments read as before; the row's listed variable is tied to the program's text. No other condition. -/
import Derived.Test.YtgmlpahnjgfamaaDoorFacts
import Derived.Test.YtgmlpahnjgfamaaDoorLaw
import Derived.Test.YtgmlpahnjgfamaaDoorCards
import Derived.Test.YtgmlpahnjgfamaaDoorTie
import Derived.SevenTiedAt
namespace Go.Proofs.YtgmlpahnjgfamaaDoor
open Go.ChangeShapes Go.WideShapes Go.ChangeAt Go.RowKit

open L3 L1

/-- A correct instruction writes a register, or none; and which. -/
theorem wri_cases (op f : Int) (hf : frm (ix op) = f) (reg : Bool) (dst src off imm : Int) (h : rchF f reg dst src off imm = 0) :
    (wri f dst = dst ∧ 0 ≤ dst ∧ dst ≤ 10 ∧ uD f = true) ∨ (wri f dst = 0 ∧ op = 67 ∧ f = 5) ∨ wri f dst = -1 := by
  have hg : (isG dst && isG src) = true := by
    unfold rchF rchk at h
    cases hh : (isG dst && isG src)
    · rw [hh] at h
      split at h
      · cases h
      · split at h
        · cases h
        · simp at h
    · rfl
  have hd : 0 ≤ dst ∧ dst ≤ 10 := by
    rw [Bool.and_eq_true] at hg
    have := hg.1
    unfold isG at this
    simpa using this
  have h67 : ∀ k, k < 87 → frm k = 5 → k = 67 := by decide +kernel
  have hF : IsF f := hf ▸ frm_isF op
  rcases hF with rfl | rfl | rfl | rfl | rfl | rfl | rfl | rfl | rfl | rfl | rfl | rfl | rfl
  case inr.inr.inr.inr.inr.inr.inl =>
    have hk := h67 (ix op) (by have := ix_le op; omega) hf
    refine Or.inr (Or.inl ⟨rfl, ?_, rfl⟩)
    unfold ix at hk
    split at hk <;> omega
  all_goals first
    | exact Or.inl ⟨rfl, hd.1, hd.2, rfl⟩
    | exact Or.inr (Or.inr rfl)

theorem field_dst (a b c d : Bool) (w : World) : (Instr.field 23 (.agg #[.bool a, .bool b, .bool c, .bool d]) 0).run Tryd.prog w = .ok (.bool a) w := by
  kernel_rfl

set_option maxHeartbeats 4000000 in
set_option maxRecDepth 100000 in
theorem writeslaw_walk (op : Int) (reg : Bool) (dst src off imm : Int) (_ : (Lit.int .i64 imm).wf = true) (w : World) (hw : Wid w) :
    Calls Tryd.prog 8 #[.agg #[.int .i64 op, .bool reg, .int .i64 dst, .int .i64 src, .int .i64 off, .int .i64 imm]] w fun e w' => e = .returned (.bool true) ∧ Below w.heap.size w w' := by
  have hx0 : (w.alloc (.cells #[.int .i64 op, .bool reg, .int .i64 dst, .int .i64 src, .int .i64 off, .int .i64 imm] 29)).heap[w.heap.size]? = some (.cells #[.int .i64 op, .bool reg, .int .i64 dst, .int .i64 src, .int .i64 off, .int .i64 imm] 29) := heap_alloc_last w _
  have hT0 := Lib.hid (wid_below hw (bnew w (.cells #[.int .i64 op, .bool reg, .int .i64 dst, .int .i64 src, .int .i64 off, .int .i64 imm] 29)))
  clear hw
  obtain ⟨f, hf⟩ : ∃ f, frm (ix op) = f := ⟨_, rfl⟩
  obtain ⟨R, hR⟩ : ∃ R, rchF f reg dst src off imm = R := ⟨_, rfl⟩
  have HF := Lib.hid hf
  have HR := Lib.hid hR
  have hfd := field_dst
  cases e0 : (R != 0)
  · obtain rfl : R = 0 := by simpa using e0
    clear e0
    rcases wri_cases op f hf reg dst src off imm hR with ⟨h1, h2, h3, h4⟩ | ⟨h1, rfl, rfl⟩ | h1
    · have HW := Lib.hid h1
      have HD := Lib.hid h4
      have i0 : decide ((-1 : Int) ≤ dst) = true := by rw [decide_eq_true_iff]; omega
      have i1 : decide (dst ≤ (10 : Int)) = true := by rw [decide_eq_true_iff]; omega
      have i2 : decide (dst < (0 : Int)) = false := by rw [decide_eq_false_iff_not]; omega
      clear hf hR h1 h2 h3 h4
      go_enter Tryd.func8, Tryd.ntmps8
      go_wp2_with (first | (go_at_call 16; ((with_reducible refine (rcheck_is op reg dst src off imm f _ _ HF.out HR.out).mono ?_); rintro e w1 ⟨rfl, hb1⟩; have hx1 := (hb1.block _ (lt_of_block hx0)).trans hx0; have hT1 := Lib.hid (wid_below hT0.out hb1); obtain ⟨x0, x1, x2, x3, x4, x5⟩ := cells6 hx1)) | (go_at_call 19; ((with_reducible refine (writes_at op reg dst src off imm f _ _ HF.out HW.out).mono ?_); rintro e w2 ⟨rfl, hb2⟩; have hx2 := (hb2.block _ (lt_of_block hx1)).trans hx1; have hT2 := Lib.hid (wid_below hT1.out hb2); obtain ⟨x0, x1, x2, x3, x4, x5⟩ := cells6 hx2)) | (go_at_call 10; ((with_reducible refine (alive_any _ hT2.out).mono ?_); rintro e w3 ⟨rfl, hb3⟩; have hx3 := (hb3.block _ (lt_of_block hx2)).trans hx2; have hT3 := Lib.hid (wid_below hT2.out hb3); obtain ⟨x0, x1, x2, x3, x4, x5⟩ := cells6 hx3)) | (go_at_call 9; ((with_reducible refine (uses_is op f reg _ _ _ _ _ HF.out HD.out rfl rfl rfl).mono ?_); rintro e w4 ⟨rfl, hb4⟩; have hx4 := (hb4.block _ (lt_of_block hx3)).trans hx3; have hT4 := Lib.hid (wid_below hT3.out hb4); obtain ⟨x0, x1, x2, x3, x4, x5⟩ := cells6 hx4)))
      go_ret
      exact ⟨rfl, bch (bch (bch (bch (bnew w _) hb1) hb2) hb3) hb4⟩
    · have HW := Lib.hid h1
      have HD : Hid (uD 5 = false) := Lib.hid rfl
      clear hf hR h1
      go_enter Tryd.func8, Tryd.ntmps8
      go_wp2_with (first | (go_at_call 16; ((with_reducible refine (rcheck_is 67 reg dst src off imm 5 _ _ HF.out HR.out).mono ?_); rintro e w1 ⟨rfl, hb1⟩; have hx1 := (hb1.block _ (lt_of_block hx0)).trans hx0; have hT1 := Lib.hid (wid_below hT0.out hb1); obtain ⟨x0, x1, x2, x3, x4, x5⟩ := cells6 hx1)) | (go_at_call 19; ((with_reducible refine (writes_at 67 reg dst src off imm 5 _ _ HF.out HW.out).mono ?_); rintro e w2 ⟨rfl, hb2⟩; have hx2 := (hb2.block _ (lt_of_block hx1)).trans hx1; have hT2 := Lib.hid (wid_below hT1.out hb2); obtain ⟨x0, x1, x2, x3, x4, x5⟩ := cells6 hx2)) | (go_at_call 10; ((with_reducible refine (alive_any _ hT2.out).mono ?_); rintro e w3 ⟨rfl, hb3⟩; have hx3 := (hb3.block _ (lt_of_block hx2)).trans hx2; have hT3 := Lib.hid (wid_below hT2.out hb3); obtain ⟨x0, x1, x2, x3, x4, x5⟩ := cells6 hx3)) | (go_at_call 9; ((with_reducible refine (uses_is 67 5 reg _ _ _ _ _ HF.out HD.out rfl rfl rfl).mono ?_); rintro e w4 ⟨rfl, hb4⟩; have hx4 := (hb4.block _ (lt_of_block hx3)).trans hx3; have hT4 := Lib.hid (wid_below hT3.out hb4); obtain ⟨x0, x1, x2, x3, x4, x5⟩ := cells6 hx4)))
      go_ret
      exact ⟨rfl, bch (bch (bch (bch (bnew w _) hb1) hb2) hb3) hb4⟩
    · have HW := Lib.hid h1
      clear hf hR h1
      go_enter Tryd.func8, Tryd.ntmps8
      go_wp2_with (first | (go_at_call 16; ((with_reducible refine (rcheck_is op reg dst src off imm f _ _ HF.out HR.out).mono ?_); rintro e w1 ⟨rfl, hb1⟩; have hx1 := (hb1.block _ (lt_of_block hx0)).trans hx0; have hT1 := Lib.hid (wid_below hT0.out hb1); obtain ⟨x0, x1, x2, x3, x4, x5⟩ := cells6 hx1)) | (go_at_call 19; ((with_reducible refine (writes_at op reg dst src off imm f _ _ HF.out HW.out).mono ?_); rintro e w2 ⟨rfl, hb2⟩; have hx2 := (hb2.block _ (lt_of_block hx1)).trans hx1; have hT2 := Lib.hid (wid_below hT1.out hb2); obtain ⟨x0, x1, x2, x3, x4, x5⟩ := cells6 hx2)) | (go_at_call 10; ((with_reducible refine (alive_any _ hT2.out).mono ?_); rintro e w3 ⟨rfl, hb3⟩; have hx3 := (hb3.block _ (lt_of_block hx2)).trans hx2; have hT3 := Lib.hid (wid_below hT2.out hb3); obtain ⟨x0, x1, x2, x3, x4, x5⟩ := cells6 hx3)))
      go_ret
      exact ⟨rfl, bch (bch (bch (bnew w _) hb1) hb2) hb3⟩
  · clear hf hR
    go_enter Tryd.func8, Tryd.ntmps8
    go_wp2_with (first | (go_at_call 16; ((with_reducible refine (rcheck_is op reg dst src off imm f _ _ HF.out HR.out).mono ?_); rintro e w1 ⟨rfl, hb1⟩; have hx1 := (hb1.block _ (lt_of_block hx0)).trans hx0; have hT1 := Lib.hid (wid_below hT0.out hb1); obtain ⟨x0, x1, x2, x3, x4, x5⟩ := cells6 hx1)) | (go_at_call 10; ((with_reducible refine (alive_any _ hT1.out).mono ?_); rintro e w2 ⟨rfl, hb2⟩; have hx2 := (hb2.block _ (lt_of_block hx1)).trans hx1; have hT2 := Lib.hid (wid_below hT1.out hb2); obtain ⟨x0, x1, x2, x3, x4, x5⟩ := cells6 hx2)))
    go_ret
    exact ⟨rfl, bch (bch (bnew w _) hb1) hb2⟩

set_option maxRecDepth 100000 in
theorem writeslaw_lifted (os : Os) (started : os.Started) (H : Type) (enc : TypeId × Value → H) :
    ReturnsInHanded {} Tryd.checked os 8 .any (fun w args => (Rows.insnWritesSpec.pre enc Tryd.prog Tryd.f8 [] false w args ∧ laidMetH Tryd.prog laid4 w) ∧ sizedMet enc Tryd.prog Tryd.f8 (OpenSpec.ofChange Rows.insnWritesSpec) false w args)
      (Rows.insnWritesSpec.post enc Tryd.prog Tryd.f8 false true false false) := by
  refine returnsInHanded_of_change_and (C := Tryd.checked) (X := fun w _ => laidMetH Tryd.prog laid4 w) (fun _ _ _ hh h => h.of_heap hh) own started (by kernel_rfl) Tryd.func8
    (ChangeSpec.witness_shaped (enc := enc) (C := Tryd.checked) (os := os) (X := fun w _ => laidMetH Tryd.prog laid4 w) false (World.doorLaid Tryd.prog 4000 os) #[.agg #[.int .i64 0, .bool false, .int .i64 0, .int .i64 0, .int .i64 0, .int .i64 0]] 8 rfl (World.shaped_of_RefB (by kernel_rfl) (by kernel_rfl)) (by kernel_rfl) (by kernel_rfl) (by kernel_rfl) (door_met os _)) ?_
  intro W base args ds gs before hval0 hW _ _ hL _
  have hval : ∀ (j : Nat) t v, Tryd.f8.params[j]? = some t → args[j]? = some v → Value.okWide Tryd.prog W .any base t v := hval0
  have hW' := hW
  obtain ⟨p, q, hA0, hV, rfl, hfz, hnd⟩ := hW
  have hA : DataW.TrodAll enc Tryd.prog W 0 (fun _ => true) true Tryd.f8.params.toList args.toList ds p := hA0
  rw [Tryd.params8] at hA hval
  obtain ⟨v0, vs0, d0, ds0, p0, q0, hargs, rfl, rfl, h0, r0⟩ := trodAll_cons hA
  obtain ⟨rfl, rfl, rfl⟩ := trodAll_nil r0
  obtain rfl : args = #[v0] := by cases args; simp_all
  obtain ⟨rfl, rfl⟩ := trodVars_none hV
  obtain ⟨op, reg, dst, src, off, imm, rfl, rfl, rfl, k0, k2, k3, k4, k5⟩ := open_ins (hval 0 29 v0 rfl rfl) h0
  clear hA0 hval0
  simp only [List.append_nil] at hW'
  refine (writeslaw_walk op reg dst src off imm k5 W (tabs_of hL)).mono fun e W' ⟨he, hg⟩ => ?_
  subst he
  exact ⟨_, rfl, law_post hW' rfl rfl Tryd.underlying4 rfl (fun sp _ => (trodAll_cons_mk (shut_ins k0 k2 k3 k4 k5) trodAll_mk0)) hg⟩

theorem writeslaw_said : Rows.InsnWritesSaid :=
  OpenClaim.holds_of_wide 8 Tryd.f8 rfl rfl rfl rfl rfl rfl rfl ⟨rfl, rfl, rfl, rfl, rfl⟩ rfl rfl rfl rfl rfl (by kernel_rfl) Tryd.func8 (by kernel_rfl)
    (of_decide_eq_true (by kernel_rfl)) (by unfold Func.isWrapper; first | (rw [if_pos (by decide +kernel)]; kernel_rfl) | (rw [if_neg (by decide +kernel)]; exact ⟨rfl, rfl⟩))
    (fun os started H enc _ => writeslaw_lifted os started H enc)

/-- The card: the row's listed variables are tied to the program's text. -/
theorem writeslaw_card : Rows.InsnWritesCardSaid :=
  Claim7.holds_tied_plain_at .later [] [.data] true (true, "b08d110b0b5bc7c2f0445ceb3778c24914d474e45514bf8d7beb638b62b76804") false
    writeslaw_said (fun _ h => by cases h) (by kernel_rfl) (fun _ h => by cases h) insnWrites_row_tie rfl ⟨rfl, rfl⟩ (by kernel_rfl) rfl
    (fun f fn hf hfn => by
      obtain rfl : f = 8 := Option.some.inj ((show Tryd.prog.funcNamed "slotcode/slotcodelaw04.InsnWrites" = some 8 by kernel_rfl).symm.trans hf) |>.symm
      obtain rfl : fn = Tryd.f8 := (Option.some.inj (Tryd.func8.symm.trans hfn)).symm
      exact ⟨by kernel_rfl, fun j t ht => by
        rw [Tryd.params8] at ht
        have hm : t ∈ [29] := by simpa using Array.mem_of_getElem? ht
        have hall : ([29].all fun u => !Tryd.prog.wantsStandIn u) = true := by kernel_rfl
        exact (show Tryd.prog.wantsStandIn t = false by simpa using List.all_eq_true.1 hall t hm)⟩)
    (by kernel_rfl)
#print axioms writeslaw_card
end Go.Proofs.YtgmlpahnjgfamaaDoor
