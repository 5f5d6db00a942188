/- OpsCodes: for every number, the law 'Code returns the opcode of the reference for both kinds of operands' returns true, and its argument reads as before. No condition. -/
import Derived.Test.YtflegdijmkacdaaRcd
import Derived.Test.YtflegdijmkacdaaLaw
namespace Go.Proofs.Ytflegdijmkacdaa
open Go.ChangeShapes Go.WideShapes Go.ChangeAt Go.RowKit

set_option maxHeartbeats 4000000 in
set_option maxRecDepth 100000 in
theorem codes_walk (op : Int) (_ : (Lit.int .i64 op).wf = true) (w : World) :
    Calls Try.prog 5 #[.int .i64 op] w fun e w' => e = .returned (.bool true) ∧ Below w.heap.size w w' := by
  obtain ⟨a, ha⟩ : ∃ a, cdV (ix op) false = a := ⟨_, rfl⟩
  obtain ⟨p, hp⟩ : ∃ p, cdB (ix op) false = p := ⟨_, rfl⟩
  obtain ⟨b, hb⟩ : ∃ b, cdV (ix op) true = b := ⟨_, rfl⟩
  obtain ⟨q, hq⟩ : ∃ q, cdB (ix op) true = q := ⟨_, rfl⟩
  have HA := Lib.hid ha
  have HP := Lib.hid hp
  have HB := Lib.hid hb
  have HQ := Lib.hid hq
  clear ha hp hb hq
  go_enter Try.func5, Try.ntmps5
  go_wp2_with (first
    | (go_at_call 9; ((with_reducible refine (alive_any _).mono ?_); rintro e wa ⟨rfl, hba⟩))
    | (go_at_call 17; ((with_reducible refine (code_at _ _ _ _ _ HA.out HP.out).mono ?_); rintro e w1 ⟨rfl, hb1⟩))
    | (go_at_call 17; ((with_reducible refine (code_at _ _ _ _ _ HB.out HQ.out).mono ?_); rintro e w2 ⟨rfl, hb2⟩))
    | (go_at_call 18; ((with_reducible refine (rcode_at _ _ _ _ _ HA.out HP.out).mono ?_); rintro e w3 ⟨rfl, hb3⟩))
    | (go_at_call 18; ((with_reducible refine (rcode_at _ _ _ _ _ HB.out HQ.out).mono ?_); rintro e w4 ⟨rfl, hb4⟩)))
  go_ret
  exact ⟨rfl, bch (bch (bch (bch hb1 hb2) hb3) hb4) hba⟩

set_option maxRecDepth 100000 in
theorem codes_lifted (os : Os) (started : os.Started) (H : Type) (enc : TypeId × Value → H) :
    ReturnsInHanded {} Try.checked os 5 .any (Rows.opsCodesSpec.pre6 enc Try.prog Try.f5 Rows.opsCodesRow.domain false) (Rows.opsCodesSpec.post enc Try.prog Try.f5 false true false false) := by
  refine returnsInHanded_of_change (C := Try.checked) own started (by kernel_rfl) Try.func5
    (ChangeSpec.witness6 (enc := enc) (C := Try.checked) false ⟨#[], #[.int .i64 0], []⟩ 8 (by kernel_rfl) (by kernel_rfl) (by kernel_rfl) (by kernel_rfl)) ?_
  intro W base args ds gs before hval0 hW _ _
  have hval : ∀ (j : Nat) t v, Try.f5.params[j]? = some t → args[j]? = some v → Value.okWide Try.prog W .any base t v := hval0
  have hW' := hW
  obtain ⟨p, q, hA0, hV, rfl, hfz, hnd⟩ := hW
  have hA : DataW.TrodAll enc Try.prog W 0 (fun _ => true) true Try.f5.params.toList args.toList ds p := hA0
  rw [Try.params5] at hA hval
  obtain ⟨v0, vs0, d0, ds0, p0, q0, hargs, rfl, rfl, h0, r0⟩ := trodAll_cons hA
  obtain ⟨rfl, rfl, rfl⟩ := trodAll_nil r0
  obtain rfl : args = #[v0] := by cases args; simp_all
  obtain ⟨rfl, rfl⟩ := trodVars_none hV
  obtain ⟨a0, rfl, rfl, rfl, w0⟩ := open_int Try.underlying3 (hval 0 3 v0 rfl rfl) h0
  clear hA0 hval0
  simp only [List.append_nil] at hW'
  refine (codes_walk a0 w0 W).mono fun e W' ⟨he, hg⟩ => ?_
  subst he
  exact ⟨_, rfl, law_post hW' rfl rfl Try.underlying4 rfl (fun sp _ => (trodAll_cons_mk (shut_int Try.underlying3 w0) trodAll_mk0)) hg⟩

theorem codes_said : Rows.OpsCodesSaid :=
  OpenClaim.holds_of_wide 5 Try.f5 rfl rfl rfl rfl rfl rfl rfl ⟨rfl, rfl, rfl, rfl, rfl⟩ rfl rfl rfl rfl rfl (by kernel_rfl) Try.func5 (by kernel_rfl)
    (of_decide_eq_true (by kernel_rfl)) (by unfold Func.isWrapper; first | (rw [if_pos (by decide +kernel)]; kernel_rfl) | (rw [if_neg (by decide +kernel)]; exact ⟨rfl, rfl⟩))
    (fun os started H enc _ => codes_lifted os started H enc)
#print axioms codes_said
end Go.Proofs.Ytflegdijmkacdaa
