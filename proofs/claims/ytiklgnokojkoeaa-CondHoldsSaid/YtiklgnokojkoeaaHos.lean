/- CondHolds: for every instruction and values, the law 'Holds returns the result of the reference' returns true, and its arguments read as before. No condition. -/
import Derived.Test.YtiklgnokojkoeaaFacts
import Derived.Test.YtiklgnokojkoeaaLaw
namespace Go.Proofs.Ytiklgnokojkoeaa
open Go.ChangeShapes Go.WideShapes Go.ChangeAt Go.RowKit

open L3
open L6 (opd cells6 row_up)

set_option maxHeartbeats 4000000 in
set_option maxRecDepth 100000 in
theorem holds_walk (op : Int) (reg : Bool) (dst src off imm a s : Int) (_ : (Lit.int .i64 op).wf = true) (ha : 0 ≤ a ∧ a < 18446744073709551616) (hs : 0 ≤ s ∧ s < 18446744073709551616) (w : World) :
    Calls Try.prog 3 #[.agg #[.int .i64 op, .bool reg, .int .i64 dst, .int .i64 src, .int .i64 off, .int .i64 imm, .int .u64 a, .int .u64 s]] w fun e w' => e = .returned (.bool true) ∧ Below w.heap.size w w' := by
  have X : By w (w.alloc (.cells #[.int .i64 op, .bool reg, .int .i64 dst, .int .i64 src, .int .i64 off, .int .i64 imm, .int .u64 a, .int .u64 s] 26)) w.heap.size #[.int .i64 op, .bool reg, .int .i64 dst, .int .i64 src, .int .i64 off, .int .i64 imm, .int .u64 a, .int .u64 s] := ⟨bnew w _, heap_alloc_last w _⟩
  obtain ⟨v, hv⟩ : ∃ v, hoV op reg imm a s = v := ⟨_, rfl⟩
  have HP := Lib.hid (fun w => holds_any op reg dst src off imm a s v w ha.1 ha.2 hs.1 hs.2 hv)
  have HR := Lib.hid (fun w => rholds_any op reg dst src off imm a s v w ha.1 ha.2 hs.1 hs.2 hv)
  clear hv ha hs
  go_enter Try.func3, Try.ntmps3
  go_upto_region 1 with (fail)
  obtain ⟨g, hg⟩ : ∃ g, g = w.heap.size := ⟨_, rfl⟩
  rw [← hg] at X ⊢
  generalize w.alloc (.cells _ 26) = W1 at X ⊢
  clear hg
  cases v
  all_goals
    go_region_held3 (fun W => By w W g #[.int .i64 op, .bool reg, .int .i64 dst, .int .i64 src, .int .i64 off, .int .i64 imm, .int .u64 a, .int .u64 s] ∧ W.cell? ⟨g, 0, none⟩ = some (.int .i64 op) ∧ W.cell? ⟨g, 1, none⟩ = some (.bool reg) ∧ W.cell? ⟨g, 2, none⟩ = some (.int .i64 dst) ∧ W.cell? ⟨g, 3, none⟩ = some (.int .i64 src) ∧ W.cell? ⟨g, 4, none⟩ = some (.int .i64 off) ∧ W.cell? ⟨g, 5, none⟩ = some (.int .i64 imm) ∧ W.cell? ⟨g, 6, none⟩ = some (.int .u64 a) ∧ W.cell? ⟨g, 7, none⟩ = some (.int .u64 s))
      (first | exact keep8B (Below.refl _ _).drew X | exact keep8C hb9 (by assumption) | assumption)
      (first | (go_at_call 9; ((with_reducible refine (alive_any _).mono ?_); rintro e w9 ⟨rfl, hb9⟩)) | (go_at_call 10; ((with_reducible refine (HP.out _).mono ?_); rintro e w9 ⟨rfl, hb9⟩)) | (go_at_call 11; ((with_reducible refine (HR.out _).mono ?_); rintro e w9 ⟨rfl, hb9⟩)))
    all_goals
      rename_i hh
      go_wp2
      go_ret
      exact ⟨rfl, hh.1.1⟩

set_option maxRecDepth 100000 in
theorem holds_lifted (os : Os) (started : os.Started) (H : Type) (enc : TypeId × Value → H) :
    ReturnsInHanded {} Try.checked os 3 .any (Rows.condHoldsSpec.pre6 enc Try.prog Try.f3 Rows.condHoldsRow.domain false) (Rows.condHoldsSpec.post enc Try.prog Try.f3 false true false false) := by
  refine returnsInHanded_of_change (C := Try.checked) own started (by kernel_rfl) Try.func3
    (ChangeSpec.witness6 (enc := enc) (C := Try.checked) false ⟨#[], #[.agg #[.int .i64 0, .bool false, .int .i64 0, .int .i64 0, .int .i64 0, .int .i64 0, .int .u64 0, .int .u64 0]], []⟩ 8 (by kernel_rfl) (by kernel_rfl) (by kernel_rfl) (by kernel_rfl)) ?_
  intro W base args ds gs before hval0 hW _ _
  have hval : ∀ (j : Nat) t v, Try.f3.params[j]? = some t → args[j]? = some v → Value.okWide Try.prog W .any base t v := hval0
  have hW' := hW
  obtain ⟨p, q, hA0, hV, rfl, hfz, hnd⟩ := hW
  have hA : DataW.TrodAll enc Try.prog W 0 (fun _ => true) true Try.f3.params.toList args.toList ds p := hA0
  rw [Try.params3] at hA hval
  obtain ⟨v0, vs0, d0, ds0, p0, q0, hargs, rfl, rfl, h0, r0⟩ := trodAll_cons hA
  obtain ⟨rfl, rfl, rfl⟩ := trodAll_nil r0
  obtain rfl : args = #[v0] := by cases args; simp_all
  obtain ⟨rfl, rfl⟩ := trodVars_none hV
  obtain ⟨op, reg, dst, src, off, imm, ca, cs, rfl, rfl, rfl, k0, k6, k7⟩ := open_case (hval 0 26 v0 rfl rfl) h0
  clear hA0 hval0
  simp only [List.append_nil] at hW'
  refine (holds_walk op reg dst src off imm ca cs k0.1 (bu64 k6) (bu64 k7) W).mono fun e W' ⟨he, hg⟩ => ?_
  subst he
  exact ⟨_, rfl, law_post hW' rfl rfl Try.underlying4 rfl (fun sp _ => (trodAll_cons_mk (shut_case k0 k6 k7) trodAll_mk0)) hg⟩

theorem holds_said : Rows.CondHoldsSaid :=
  OpenClaim.holds_of_wide 3 Try.f3 rfl rfl rfl rfl rfl rfl rfl ⟨rfl, rfl, rfl, rfl, rfl⟩ rfl rfl rfl rfl rfl (by kernel_rfl) Try.func3 (by kernel_rfl)
    (of_decide_eq_true (by kernel_rfl)) (by unfold Func.isWrapper; first | (rw [if_pos (by decide +kernel)]; kernel_rfl) | (rw [if_neg (by decide +kernel)]; exact ⟨rfl, rfl⟩))
    (fun os started H enc _ => holds_lifted os started H enc)
#print axioms holds_said
end Go.Proofs.Ytiklgnokojkoeaa
