/- CondOpposite: for every instruction and values, the law 'the opposite condition holds exactly if the condition does not' returns true, and its arguments read as before. No condition. -/
import Derived.Test.YtiklgnokojkoeaaFacts
import Derived.Test.YtiklgnokojkoeaaLaw
namespace Go.Proofs.Ytiklgnokojkoeaa
open Go.ChangeShapes Go.WideShapes Go.ChangeAt Go.RowKit

open L3
open L6 (opd cells6 row_up)

set_option maxHeartbeats 4000000 in
set_option maxRecDepth 100000 in
theorem oppo_no (op : Int) (reg : Bool) (dst src off imm a s : Int) (hw : (Lit.int .i64 op).wf = true) (_ : 0 ≤ a ∧ a < 18446744073709551616) (_ : 0 ≤ s ∧ s < 18446744073709551616) (w : World) (ho : opp op = none) :
    Calls Try.prog 5 #[.agg #[.int .i64 op, .bool reg, .int .i64 dst, .int .i64 src, .int .i64 off, .int .i64 imm, .int .u64 a, .int .u64 s]] w fun e w' => e = .returned (.bool true) ∧ Below w.heap.size w w' := by
  have b0 := bnew w (.cells #[.int .i64 op, .bool reg, .int .i64 dst, .int .i64 src, .int .i64 off, .int .i64 imm, .int .u64 a, .int .u64 s] 26)
  obtain ⟨x0, x1, x2, x3, x4, x5, x6, x7⟩ := cells8 (heap_alloc_last w (.cells #[.int .i64 op, .bool reg, .int .i64 dst, .int .i64 src, .int .i64 off, .int .i64 imm, .int .u64 a, .int .u64 s] 26))
  have E1 := Lib.hid (fun w => opposite_at op 0 false hw (by rw [ho]; rfl) (by rw [ho]; rfl) w)
  clear ho hw
  go_enter Try.func5, Try.ntmps5
  go_wp2_with (first | (go_at_call 12; ((with_reducible refine (E1.out _).mono ?_); rintro e w1 ⟨rfl, b1⟩; have B1 := bch b0 b1)) | (go_at_call 9; ((with_reducible refine (alive_any _).mono ?_); rintro e w2 ⟨rfl, b2⟩)))
  go_ret
  exact ⟨rfl, bch B1 b2⟩
set_option maxHeartbeats 4000000 in
set_option maxRecDepth 100000 in
theorem oppo_yes (op : Int) (reg : Bool) (dst src off imm a s : Int) (hw : (Lit.int .i64 op).wf = true) (ha : 0 ≤ a ∧ a < 18446744073709551616) (hs : 0 ≤ s ∧ s < 18446744073709551616) (w : World) (j : Int) (ho : opp op = some j) :
    Calls Try.prog 5 #[.agg #[.int .i64 op, .bool reg, .int .i64 dst, .int .i64 src, .int .i64 off, .int .i64 imm, .int .u64 a, .int .u64 s]] w fun e w' => e = .returned (.bool true) ∧ Below w.heap.size w w' := by
  have b0 := bnew w (.cells #[.int .i64 op, .bool reg, .int .i64 dst, .int .i64 src, .int .i64 off, .int .i64 imm, .int .u64 a, .int .u64 s] 26)
  have hx0 := heap_alloc_last w (.cells #[.int .i64 op, .bool reg, .int .i64 dst, .int .i64 src, .int .i64 off, .int .i64 imm, .int .u64 a, .int .u64 s] 26)
  obtain ⟨x0, x1, x2, x3, x4, x5, x6, x7⟩ := cells8 hx0
  have E1 := Lib.hid (fun w => opposite_at op j true hw (by rw [ho]; rfl) (by rw [ho]; rfl) w)
  obtain ⟨v, hv⟩ : ∃ v, hoV op reg imm a s = v := ⟨_, rfl⟩
  have hv' := opp_hoV ho reg imm a s
  rw [hv] at hv'
  have HP := Lib.hid (fun w => holds_any op reg dst src off imm a s v w ha.1 ha.2 hs.1 hs.2 hv)
  have HQ := Lib.hid (fun w => holds_any j reg dst src off imm a s (!v) w ha.1 ha.2 hs.1 hs.2 hv')
  clear hv hv' ha hs ho hw
  go_enter Try.func5, Try.ntmps5
  go_upto_region 4 with (go_at_call 12; ((with_reducible refine (E1.out _).mono ?_); rintro e w1 ⟨rfl, b1⟩; have B1 := bch b0 b1; have hx1 := row_up hx0 b1))
  clear x0 x1 x2 x3 x4 x5 x6 x7
  obtain ⟨x0, x1, x2, x3, x4, x5, x6, x7⟩ := cells8 hx1
  have X : Bz w (w1.alloc (.cells #[.int .i64 j, .bool reg, .int .i64 dst, .int .i64 src, .int .i64 off, .int .i64 imm] 23)) w.heap.size #[.int .i64 op, .bool reg, .int .i64 dst, .int .i64 src, .int .i64 off, .int .i64 imm, .int .u64 a, .int .u64 s] w1.heap.size #[.int .i64 j, .bool reg, .int .i64 dst, .int .i64 src, .int .i64 off, .int .i64 imm] := ⟨⟨bch B1 (bnew _ _), row_up hx1 (bnew _ _)⟩, heap_alloc_last _ _⟩
  go_upto_region 6 with (fail)
  obtain ⟨g, hg⟩ : ∃ g, g = w.heap.size := ⟨_, rfl⟩
  rw [← hg] at X ⊢
  obtain ⟨h, hh⟩ : ∃ h, h = w1.heap.size := ⟨_, rfl⟩
  rw [← hh] at X ⊢
  generalize w1.alloc (.cells _ 23) = W1 at X ⊢
  clear hg hh x0 x1 x2 x3 x4 x5 x6 x7 hx1 hx0 B1 b1 b0
  cases v
  all_goals
    go_region_held3 (fun W => Bz w W g #[.int .i64 op, .bool reg, .int .i64 dst, .int .i64 src, .int .i64 off, .int .i64 imm, .int .u64 a, .int .u64 s] h #[.int .i64 j, .bool reg, .int .i64 dst, .int .i64 src, .int .i64 off, .int .i64 imm] ∧ (W.cell? ⟨g, 0, none⟩ = some (.int .i64 op) ∧ W.cell? ⟨g, 1, none⟩ = some (.bool reg) ∧ W.cell? ⟨g, 2, none⟩ = some (.int .i64 dst) ∧ W.cell? ⟨g, 3, none⟩ = some (.int .i64 src) ∧ W.cell? ⟨g, 4, none⟩ = some (.int .i64 off) ∧ W.cell? ⟨g, 5, none⟩ = some (.int .i64 imm) ∧ W.cell? ⟨g, 6, none⟩ = some (.int .u64 a) ∧ W.cell? ⟨g, 7, none⟩ = some (.int .u64 s)) ∧ (W.cell? ⟨h, 0, none⟩ = some (.int .i64 j) ∧ W.cell? ⟨h, 1, none⟩ = some (.bool reg) ∧ W.cell? ⟨h, 2, none⟩ = some (.int .i64 dst) ∧ W.cell? ⟨h, 3, none⟩ = some (.int .i64 src) ∧ W.cell? ⟨h, 4, none⟩ = some (.int .i64 off) ∧ W.cell? ⟨h, 5, none⟩ = some (.int .i64 imm)))
      (first | exact keepzB (Below.refl _ _).drew X | exact keepzC hb9 (by assumption) | assumption)
      (first | (go_at_call 9; ((with_reducible refine (alive_any _).mono ?_); rintro e w9 ⟨rfl, hb9⟩)) | (go_at_call 10; ((with_reducible refine (HP.out _).mono ?_); rintro e w9 ⟨rfl, hb9⟩)) | (go_at_call 10; ((with_reducible refine (HQ.out _).mono ?_); rintro e w9 ⟨rfl, hb9⟩)))
    all_goals
      rename_i hh
      go_wp2
      go_ret
      exact ⟨rfl, hh.1.1.1⟩
theorem oppo_walk (op : Int) (reg : Bool) (dst src off imm a s : Int) (hw : (Lit.int .i64 op).wf = true) (ha : 0 ≤ a ∧ a < 18446744073709551616) (hs : 0 ≤ s ∧ s < 18446744073709551616) (w : World) :
    Calls Try.prog 5 #[.agg #[.int .i64 op, .bool reg, .int .i64 dst, .int .i64 src, .int .i64 off, .int .i64 imm, .int .u64 a, .int .u64 s]] w fun e w' => e = .returned (.bool true) ∧ Below w.heap.size w w' := by
  cases ho : opp op with
  | none => exact oppo_no op reg dst src off imm a s hw ha hs w ho
  | some j => exact oppo_yes op reg dst src off imm a s hw ha hs w j ho

set_option maxRecDepth 100000 in
theorem oppo_lifted (os : Os) (started : os.Started) (H : Type) (enc : TypeId × Value → H) :
    ReturnsInHanded {} Try.checked os 5 .any (Rows.condOppositeSpec.pre6 enc Try.prog Try.f5 Rows.condOppositeRow.domain false) (Rows.condOppositeSpec.post enc Try.prog Try.f5 false true false false) := by
  refine returnsInHanded_of_change (C := Try.checked) own started (by kernel_rfl) Try.func5
    (ChangeSpec.witness6 (enc := enc) (C := Try.checked) false ⟨#[], #[.agg #[.int .i64 0, .bool false, .int .i64 0, .int .i64 0, .int .i64 0, .int .i64 0, .int .u64 0, .int .u64 0]], []⟩ 8 (by kernel_rfl) (by kernel_rfl) (by kernel_rfl) (by kernel_rfl)) ?_
  intro W base args ds gs before hval0 hW _ _
  have hval : ∀ (j : Nat) t v, Try.f5.params[j]? = some t → args[j]? = some v → Value.okWide Try.prog W .any base t v := hval0
  have hW' := hW
  obtain ⟨p, q, hA0, hV, rfl, hfz, hnd⟩ := hW
  have hA : DataW.TrodAll enc Try.prog W 0 (fun _ => true) true Try.f5.params.toList args.toList ds p := hA0
  rw [Try.params5] at hA hval
  obtain ⟨v0, vs0, d0, ds0, p0, q0, hargs, rfl, rfl, h0, r0⟩ := trodAll_cons hA
  obtain ⟨rfl, rfl, rfl⟩ := trodAll_nil r0
  obtain rfl : args = #[v0] := by cases args; simp_all
  obtain ⟨rfl, rfl⟩ := trodVars_none hV
  obtain ⟨op, reg, dst, src, off, imm, ca, cs, rfl, rfl, rfl, k0, k6, k7⟩ := open_case (hval 0 26 v0 rfl rfl) h0
  clear hA0 hval0
  simp only [List.append_nil] at hW'
  refine (oppo_walk op reg dst src off imm ca cs k0.1 (bu64 k6) (bu64 k7) W).mono fun e W' ⟨he, hg⟩ => ?_
  subst he
  exact ⟨_, rfl, law_post hW' rfl rfl Try.underlying4 rfl (fun sp _ => (trodAll_cons_mk (shut_case k0 k6 k7) trodAll_mk0)) hg⟩

theorem oppo_said : Rows.CondOppositeSaid :=
  OpenClaim.holds_of_wide 5 Try.f5 rfl rfl rfl rfl rfl rfl rfl ⟨rfl, rfl, rfl, rfl, rfl⟩ rfl rfl rfl rfl rfl (by kernel_rfl) Try.func5 (by kernel_rfl)
    (of_decide_eq_true (by kernel_rfl)) (by unfold Func.isWrapper; first | (rw [if_pos (by decide +kernel)]; kernel_rfl) | (rw [if_neg (by decide +kernel)]; exact ⟨rfl, rfl⟩))
    (fun os started H enc _ => oppo_lifted os started H enc)
#print axioms oppo_said
end Go.Proofs.Ytiklgnokojkoeaa
