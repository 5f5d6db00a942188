/- CondPairs: for every number, the law 'Opposite and Mirror return the operations of the reference, and are their own inverses' returns true, and its arguments read as before. No condition. -/
import Derived.Test.YtiklgnokojkoeaaFacts
import Derived.Test.YtiklgnokojkoeaaLaw
namespace Go.Proofs.Ytiklgnokojkoeaa
open Go.ChangeShapes Go.WideShapes Go.ChangeAt Go.RowKit

open L3
open L6 (opd cells6 row_up)

theorem opp_mir {op j : Int} (h : opp op = some j) : ∃ b, mir op = some b := by
  obtain ⟨i, k, hi, hk, ⟨rfl, rfl⟩ | ⟨rfl, rfl⟩⟩ := mv_some h
  all_goals
    have hm : ∃ m, miI i = some m := by
      match i, hi with
      | 0, _ | 1, _ | 2, _ | 3, _ | 4, _ | 5, _ | 6, _ | 7, _ | 8, _ | 9, _ | 10, _ => exact ⟨_, rfl⟩
    obtain ⟨m, hm⟩ := hm
  · exact ⟨_, by rw [mir_at 45 _ i hi (.inl rfl) rfl, hm]; rfl⟩
  · exact ⟨_, by rw [mir_at 56 _ i hi (.inr rfl) rfl, hm]; rfl⟩

set_option maxHeartbeats 4000000 in
set_option maxRecDepth 100000 in
theorem pairs_walk (op : Int) (hw : (Lit.int .i64 op).wf = true) (w : World) :
    Calls Try.prog 4 #[.int .i64 op] w fun e w' => e = .returned (.bool true) ∧ Below w.heap.size w w' := by
  rcases ho : opp op with _ | a <;> rcases hm : mir op with _ | b
  ·
    have E1 := Lib.hid (fun w => opposite_at op 0 false hw (by rw [ho]; rfl) (by rw [ho]; rfl) w)
    have E2 := Lib.hid (fun w => mirror_at op 0 false hw (by rw [hm]; rfl) (by rw [hm]; rfl) w)
    have E3 := Lib.hid (fun w => ropposite_at op 0 false (by rw [ho]; rfl) (by rw [ho]; rfl) w)
    have E4 := Lib.hid (fun w => rmirror_at op 0 false (by rw [hm]; rfl) (by rw [hm]; rfl) w)
    have E5 := Lib.hid (fun w => opposite_at 0 0 false (i64_sm 0 (by decide) (by decide)) (by decide +kernel) (by decide +kernel) w)
    have E6 := Lib.hid (fun w => mirror_at 0 0 false (i64_sm 0 (by decide) (by decide)) (by decide +kernel) (by decide +kernel) w)
    clear ho hm hw
    go_enter Try.func4, Try.ntmps4
    go_upto_region 2 with (go_at_call 12; ((with_reducible refine (E1.out _).mono ?_); rintro e w1 ⟨rfl, b1⟩))
    go_upto_region 3 with (go_at_call 13; ((with_reducible refine (E2.out _).mono ?_); rintro e w2 ⟨rfl, b2⟩; have B2 := bch b1 b2))
    go_upto_region 4 with (go_at_call 14; ((with_reducible refine (E3.out _).mono ?_); rintro e w3 ⟨rfl, b3⟩; have B3 := bch B2 b3))
    go_upto_region 5 with (go_at_call 15; ((with_reducible refine (E4.out _).mono ?_); rintro e w4 ⟨rfl, b4⟩; have B4 := bch B3 b4))
    go_wp2_with (first
      | (go_at_call 12; ((with_reducible refine (E5.out _).mono ?_); rintro e w5 ⟨rfl, b5⟩; have B5 := bch B4 b5))
      | (go_at_call 13; ((with_reducible refine (E6.out _).mono ?_); rintro e w6 ⟨rfl, b6⟩; have B6 := bch B5 b6))
      | (go_at_call 9; ((with_reducible refine (alive_any _).mono ?_); rintro e w7 ⟨rfl, b7⟩)))
    go_ret
    exact ⟨rfl, bch B6 b7⟩
  ·
    have i2 := inv_of ok_mi cov_mi hm
    have wb := mv_wf (fun _ _ h => miI_lt h) hm
    have E1 := Lib.hid (fun w => opposite_at op 0 false hw (by rw [ho]; rfl) (by rw [ho]; rfl) w)
    have E2 := Lib.hid (fun w => mirror_at op b true hw (by rw [hm]; rfl) (by rw [hm]; rfl) w)
    have E3 := Lib.hid (fun w => ropposite_at op 0 false (by rw [ho]; rfl) (by rw [ho]; rfl) w)
    have E4 := Lib.hid (fun w => rmirror_at op b true (by rw [hm]; rfl) (by rw [hm]; rfl) w)
    have E5 := Lib.hid (fun w => opposite_at 0 0 false (i64_sm 0 (by decide) (by decide)) (by decide +kernel) (by decide +kernel) w)
    have E6 := Lib.hid (fun w => mirror_at b op true (i64_sm b (by omega) (by omega)) (by rw [i2]; rfl) (by rw [i2]; rfl) w)
    clear i2 wb
    clear ho hm hw
    go_enter Try.func4, Try.ntmps4
    go_upto_region 2 with (go_at_call 12; ((with_reducible refine (E1.out _).mono ?_); rintro e w1 ⟨rfl, b1⟩))
    go_upto_region 3 with (go_at_call 13; ((with_reducible refine (E2.out _).mono ?_); rintro e w2 ⟨rfl, b2⟩; have B2 := bch b1 b2))
    go_upto_region 4 with (go_at_call 14; ((with_reducible refine (E3.out _).mono ?_); rintro e w3 ⟨rfl, b3⟩; have B3 := bch B2 b3))
    go_upto_region 5 with (go_at_call 15; ((with_reducible refine (E4.out _).mono ?_); rintro e w4 ⟨rfl, b4⟩; have B4 := bch B3 b4))
    go_wp2_with (first
      | (go_at_call 12; ((with_reducible refine (E5.out _).mono ?_); rintro e w5 ⟨rfl, b5⟩; have B5 := bch B4 b5))
      | (go_at_call 13; ((with_reducible refine (E6.out _).mono ?_); rintro e w6 ⟨rfl, b6⟩; have B6 := bch B5 b6))
      | (go_at_call 9; ((with_reducible refine (alive_any _).mono ?_); rintro e w7 ⟨rfl, b7⟩)))
    go_ret
    exact ⟨rfl, bch B6 b7⟩
  · obtain ⟨b, hb⟩ := opp_mir ho
    rw [hm] at hb; cases hb
  ·
    have i1 := inv_of ok_op cov_op ho
    have i2 := inv_of ok_mi cov_mi hm
    have wa := mv_wf (fun _ _ h => opI_lt h) ho
    have wb := mv_wf (fun _ _ h => miI_lt h) hm
    have E1 := Lib.hid (fun w => opposite_at op a true hw (by rw [ho]; rfl) (by rw [ho]; rfl) w)
    have E2 := Lib.hid (fun w => mirror_at op b true hw (by rw [hm]; rfl) (by rw [hm]; rfl) w)
    have E3 := Lib.hid (fun w => ropposite_at op a true (by rw [ho]; rfl) (by rw [ho]; rfl) w)
    have E4 := Lib.hid (fun w => rmirror_at op b true (by rw [hm]; rfl) (by rw [hm]; rfl) w)
    have E5 := Lib.hid (fun w => opposite_at a op true (i64_sm a (by omega) (by omega)) (by rw [i1]; rfl) (by rw [i1]; rfl) w)
    have E6 := Lib.hid (fun w => mirror_at b op true (i64_sm b (by omega) (by omega)) (by rw [i2]; rfl) (by rw [i2]; rfl) w)
    clear i1 i2 wa wb
    clear ho hm hw
    go_enter Try.func4, Try.ntmps4
    go_upto_region 2 with (go_at_call 12; ((with_reducible refine (E1.out _).mono ?_); rintro e w1 ⟨rfl, b1⟩))
    go_upto_region 3 with (go_at_call 13; ((with_reducible refine (E2.out _).mono ?_); rintro e w2 ⟨rfl, b2⟩; have B2 := bch b1 b2))
    go_upto_region 4 with (go_at_call 14; ((with_reducible refine (E3.out _).mono ?_); rintro e w3 ⟨rfl, b3⟩; have B3 := bch B2 b3))
    go_upto_region 5 with (go_at_call 15; ((with_reducible refine (E4.out _).mono ?_); rintro e w4 ⟨rfl, b4⟩; have B4 := bch B3 b4))
    go_wp2_with (first
      | (go_at_call 12; ((with_reducible refine (E5.out _).mono ?_); rintro e w5 ⟨rfl, b5⟩; have B5 := bch B4 b5))
      | (go_at_call 13; ((with_reducible refine (E6.out _).mono ?_); rintro e w6 ⟨rfl, b6⟩; have B6 := bch B5 b6))
      | (go_at_call 9; ((with_reducible refine (alive_any _).mono ?_); rintro e w7 ⟨rfl, b7⟩)))
    go_ret
    exact ⟨rfl, bch B6 b7⟩

set_option maxRecDepth 100000 in
theorem pairs_lifted (os : Os) (started : os.Started) (H : Type) (enc : TypeId × Value → H) :
    ReturnsInHanded {} Try.checked os 4 .any (Rows.condPairsSpec.pre6 enc Try.prog Try.f4 Rows.condPairsRow.domain false) (Rows.condPairsSpec.post enc Try.prog Try.f4 false true false false) := by
  refine returnsInHanded_of_change (C := Try.checked) own started (by kernel_rfl) Try.func4
    (ChangeSpec.witness6 (enc := enc) (C := Try.checked) false ⟨#[], #[.int .i64 0], []⟩ 8 (by kernel_rfl) (by kernel_rfl) (by kernel_rfl) (by kernel_rfl)) ?_
  intro W base args ds gs before hval0 hW _ _
  have hval : ∀ (j : Nat) t v, Try.f4.params[j]? = some t → args[j]? = some v → Value.okWide Try.prog W .any base t v := hval0
  have hW' := hW
  obtain ⟨p, q, hA0, hV, rfl, hfz, hnd⟩ := hW
  have hA : DataW.TrodAll enc Try.prog W 0 (fun _ => true) true Try.f4.params.toList args.toList ds p := hA0
  rw [Try.params4] at hA hval
  obtain ⟨v0, vs0, d0, ds0, p0, q0, hargs, rfl, rfl, h0, r0⟩ := trodAll_cons hA
  obtain ⟨rfl, rfl, rfl⟩ := trodAll_nil r0
  obtain rfl : args = #[v0] := by cases args; simp_all
  obtain ⟨rfl, rfl⟩ := trodVars_none hV
  obtain ⟨a0, rfl, rfl, rfl, w0⟩ := open_int Try.underlying3 (hval 0 3 v0 rfl rfl) h0
  clear hA0 hval0
  simp only [List.append_nil] at hW'
  refine (pairs_walk a0 w0 W).mono fun e W' ⟨he, hg⟩ => ?_
  subst he
  exact ⟨_, rfl, law_post hW' rfl rfl Try.underlying4 rfl (fun sp _ => (trodAll_cons_mk (shut_int Try.underlying3 w0) trodAll_mk0)) hg⟩

theorem pairs_said : Rows.CondPairsSaid :=
  OpenClaim.holds_of_wide 4 Try.f4 rfl rfl rfl rfl rfl rfl rfl ⟨rfl, rfl, rfl, rfl, rfl⟩ rfl rfl rfl rfl rfl (by kernel_rfl) Try.func4 (by kernel_rfl)
    (of_decide_eq_true (by kernel_rfl)) (by unfold Func.isWrapper; first | (rw [if_pos (by decide +kernel)]; kernel_rfl) | (rw [if_neg (by decide +kernel)]; exact ⟨rfl, rfl⟩))
    (fun os started H enc _ => pairs_lifted os started H enc)
#print axioms pairs_said
end Go.Proofs.Ytiklgnokojkoeaa
