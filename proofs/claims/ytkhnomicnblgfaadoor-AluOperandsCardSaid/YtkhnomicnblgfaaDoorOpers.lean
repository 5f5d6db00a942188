/- AluOperands: for every instruction and value, the law 'Operand returns the operand of the reference' returns true, and its arguments read as before; the row's listed variable is tied to the program's text. No other condition. -/
import Derived.Test.YtkhnomicnblgfaaDoorAlive
import Derived.Test.YtkhnomicnblgfaaDoorLaw
import Derived.Test.YtkhnomicnblgfaaDoorCards
import Derived.Test.YtkhnomicnblgfaaDoorTie
import Derived.SevenTiedAt
namespace Go.Proofs.YtkhnomicnblgfaaDoor
open Go.ChangeShapes Go.WideShapes Go.ChangeAt Go.RowKit

open L3 L1

set_option maxHeartbeats 4000000 in
set_option maxRecDepth 100000 in
theorem opers_walk (op : Int) (reg : Bool) (dst src off imm s : Int) (_ : 0 ≤ s ∧ s < 18446744073709551616) (w : World) (hw : Wid w) :
    Calls Tryd.prog 4 #[.agg #[.int .i64 op, .bool reg, .int .i64 dst, .int .i64 src, .int .i64 off, .int .i64 imm], .int .u64 s] w fun e w' => e = .returned (.bool true) ∧ Below w.heap.size w w' := by
  have HW := Lib.hid hw
  have X : Bx w (w.alloc (.cells #[.int .i64 op, .bool reg, .int .i64 dst, .int .i64 src, .int .i64 off, .int .i64 imm] 23)) w.heap.size #[.int .i64 op, .bool reg, .int .i64 dst, .int .i64 src, .int .i64 off, .int .i64 imm] := ⟨bnew w _, heap_alloc_last w _⟩
  obtain ⟨v, hv⟩ : ∃ v, opd reg (frm (ix op)) imm s = v := ⟨_, rfl⟩
  have HO := Lib.hid (fun w => operand_any op reg dst src off imm s v w hv)
  have HR := Lib.hid (fun w => roperand_any op reg dst src off imm s v w hv)
  clear hv hw
  go_enter Tryd.func4, Tryd.ntmps4
  go_upto_region 1 with (fail)
  obtain ⟨g, hg⟩ : ∃ g, g = w.heap.size := ⟨_, rfl⟩
  rw [← hg] at X ⊢
  generalize w.alloc (.cells _ 23) = W1 at X ⊢
  clear hg
  have HA := Lib.hid (fun (W : World) (hb : Bx w W g #[.int .i64 op, .bool reg, .int .i64 dst, .int .i64 src, .int .i64 off, .int .i64 imm]) => alive_any W (wid_below HW.out hb.1))
  go_region_held3 (fun W => Bx w W g #[.int .i64 op, .bool reg, .int .i64 dst, .int .i64 src, .int .i64 off, .int .i64 imm] ∧ W.cell? ⟨g, 0, none⟩ = some (.int .i64 op) ∧ W.cell? ⟨g, 1, none⟩ = some (.bool reg) ∧ W.cell? ⟨g, 2, none⟩ = some (.int .i64 dst) ∧ W.cell? ⟨g, 3, none⟩ = some (.int .i64 src) ∧ W.cell? ⟨g, 4, none⟩ = some (.int .i64 off) ∧ W.cell? ⟨g, 5, none⟩ = some (.int .i64 imm))
    (first | exact keepB (Below.refl _ _).drew X | exact keepC hb9 (by assumption) | assumption)
    (first | (go_at_call 11; ((with_reducible refine (HA.out _ (And.left (by assumption))).mono ?_); rintro e w9 ⟨rfl, hb9⟩)) | (go_at_call 12; ((with_reducible refine (HO.out _).mono ?_); rintro e w9 ⟨rfl, hb9⟩)) | (go_at_call 13; ((with_reducible refine (HR.out _).mono ?_); rintro e w9 ⟨rfl, hb9⟩)))
  all_goals
    rename_i hh
    go_wp2
    go_ret
    exact ⟨rfl, hh.1.1⟩

set_option maxRecDepth 100000 in
theorem opers_lifted (os : Os) (started : os.Started) (H : Type) (enc : TypeId × Value → H) :
    ReturnsInHanded {} Tryd.checked os 4 .any (fun w args => (Rows.aluOperandsSpec.pre enc Tryd.prog Tryd.f4 [] false w args ∧ laidMetH Tryd.prog laid4 w) ∧ sizedMet enc Tryd.prog Tryd.f4 (OpenSpec.ofChange Rows.aluOperandsSpec) false w args)
      (Rows.aluOperandsSpec.post enc Tryd.prog Tryd.f4 false true false false) := by
  refine returnsInHanded_of_change_and (C := Tryd.checked) (X := fun w _ => laidMetH Tryd.prog laid4 w) (fun _ _ _ hh h => h.of_heap hh) own started (by kernel_rfl) Tryd.func4
    (ChangeSpec.witness_shaped (enc := enc) (C := Tryd.checked) (os := os) (X := fun w _ => laidMetH Tryd.prog laid4 w) false (World.doorLaid Tryd.prog 4000 os) #[.agg #[.int .i64 0, .bool false, .int .i64 0, .int .i64 0, .int .i64 0, .int .i64 0], .int .u64 0] 8 rfl (World.shaped_of_RefB (by kernel_rfl) (by kernel_rfl)) (by kernel_rfl) (by kernel_rfl) (by kernel_rfl) (door_met os _)) ?_
  intro W base args ds gs before hval0 hW _ _ hL _
  have hval : ∀ (j : Nat) t v, Tryd.f4.params[j]? = some t → args[j]? = some v → Value.okWide Tryd.prog W .any base t v := hval0
  have hW' := hW
  obtain ⟨p, q, hA0, hV, rfl, hfz, hnd⟩ := hW
  have hA : DataW.TrodAll enc Tryd.prog W 0 (fun _ => true) true Tryd.f4.params.toList args.toList ds p := hA0
  rw [Tryd.params4] at hA hval
  obtain ⟨v0, vs0, d0, ds0, p0, q0, hargs, rfl, rfl, h0, r0⟩ := trodAll_cons hA
  obtain ⟨v1, vs1, d1, ds1, p1, q1, rfl, rfl, rfl, h1, r1⟩ := trodAll_cons r0
  obtain ⟨rfl, rfl, rfl⟩ := trodAll_nil r1
  obtain rfl : args = #[v0, v1] := by cases args; simp_all
  obtain ⟨rfl, rfl⟩ := trodVars_none hV
  obtain ⟨op, reg, dst, src, off, imm, rfl, rfl, rfl, k0, k2, k3, k4, k5⟩ := open_ins (hval 0 23 v0 rfl rfl) h0
  obtain ⟨a1, rfl, rfl, rfl, w1⟩ := open_int Tryd.underlying24 (hval 1 24 v1 rfl rfl) h1
  clear hA0 hval0
  simp only [List.append_nil] at hW'
  refine (opers_walk op reg dst src off imm a1 (bu64 w1) W (tabs_of hL)).mono fun e W' ⟨he, hg⟩ => ?_
  subst he
  exact ⟨_, rfl, law_post hW' rfl rfl Tryd.underlying4 rfl (fun sp _ => (trodAll_cons_mk (shut_ins k0 k2 k3 k4 k5) (trodAll_cons_mk (shut_int Tryd.underlying24 w1) trodAll_mk0))) hg⟩

theorem opers_said : Rows.AluOperandsSaid :=
  OpenClaim.holds_of_wide 4 Tryd.f4 rfl rfl rfl rfl rfl rfl rfl ⟨rfl, rfl, rfl, rfl, rfl⟩ rfl rfl rfl rfl rfl (by kernel_rfl) Tryd.func4 (by kernel_rfl)
    (of_decide_eq_true (by kernel_rfl)) (by unfold Func.isWrapper; first | (rw [if_pos (by decide +kernel)]; kernel_rfl) | (rw [if_neg (by decide +kernel)]; exact ⟨rfl, rfl⟩))
    (fun os started H enc _ => opers_lifted os started H enc)

/-- The card: the row's listed variables are tied to the program's text. -/
theorem opers_card : Rows.AluOperandsCardSaid :=
  Claim7.holds_tied_plain_at .later [] [.data] true (true, "c4b0f213e8293d4ec68ba40c0ca6da894c6e3496a9363ffa585d4e111ac11d0f") false
    opers_said (fun _ h => by cases h) (by kernel_rfl) (fun _ h => by cases h) aluOperands_row_tie rfl ⟨rfl, rfl⟩ (by kernel_rfl) rfl
    (fun f fn hf hfn => by
      obtain rfl : f = 4 := Option.some.inj ((show Tryd.prog.funcNamed "slotcode/slotcodelaw06.AluOperands" = some 4 by kernel_rfl).symm.trans hf) |>.symm
      obtain rfl : fn = Tryd.f4 := (Option.some.inj (Tryd.func4.symm.trans hfn)).symm
      exact ⟨by kernel_rfl, fun j t ht => by
        rw [Tryd.params4] at ht
        have hm : t ∈ [23, 24] := by simpa using Array.mem_of_getElem? ht
        have hall : ([23, 24].all fun u => !Tryd.prog.wantsStandIn u) = true := by kernel_rfl
        exact (show Tryd.prog.wantsStandIn t = false by simpa using List.all_eq_true.1 hall t hm)⟩)
    (by kernel_rfl)
#print axioms opers_card
end Go.Proofs.YtkhnomicnblgfaaDoor
