/- OpsTable: for every number, the law 'Name, Form and Bits return the results of the reference' returns true, and its argument reads as before. No condition. -/
import Derived.Test.YtflegdijmkacdaaRfn
import Derived.Test.YtflegdijmkacdaaRnm
import Derived.Test.YtflegdijmkacdaaLaw
namespace Go.Proofs.Ytflegdijmkacdaa
open Go.ChangeShapes Go.WideShapes Go.ChangeAt Go.RowKit

set_option maxHeartbeats 4000000 in
set_option maxRecDepth 100000 in
theorem table_walk (op : Int) (_ : (Lit.int .i64 op).wf = true) (w : World) :
    Calls Try.prog 3 #[.int .i64 op] w fun e w' => e = .returned (.bool true) ∧ Below w.heap.size w w' := by
  obtain ⟨s, hs⟩ : ∃ s, nm (ix op) = s := ⟨_, rfl⟩
  obtain ⟨f, hf⟩ : ∃ f, frm (ix op) = f := ⟨_, rfl⟩
  obtain ⟨b, hb⟩ : ∃ b, bt (ix op) = b := ⟨_, rfl⟩
  have HS := Lib.hid hs
  have HF := Lib.hid hf
  have HB := Lib.hid hb
  clear hs hf hb
  go_enter Try.func3, Try.ntmps3
  go_wp2_with (first
    | (go_at_call 9; ((with_reducible refine (alive_any _).mono ?_); rintro e wa ⟨rfl, hba⟩))
    | (go_at_call 10; ((with_reducible refine (name_at _ _ _ HS.out).mono ?_); rintro e w1 ⟨rfl, hb1⟩))
    | (go_at_call 11; ((with_reducible refine (rname_at _ _ _ HS.out).mono ?_); rintro e w2 ⟨rfl, hb2⟩))
    | (go_at_call 12; ((with_reducible refine (form_at _ _ _ HF.out).mono ?_); rintro e w3 ⟨rfl, hb3⟩))
    | (go_at_call 13; ((with_reducible refine (rform_at _ _ _ HF.out).mono ?_); rintro e w' ⟨rfl, rfl⟩))
    | (go_at_call 14; ((with_reducible refine (bits_at _ _ _ HB.out).mono ?_); rintro e w4 ⟨rfl, hb4⟩))
    | (go_at_call 15; ((with_reducible refine (rbits_at _ _ _ HB.out).mono ?_); rintro e w5 ⟨rfl, hb5⟩)))
  go_ret
  exact ⟨rfl, bch (bch (bch (bch (bch hba hb1) hb2) hb3) hb4) hb5⟩

set_option maxRecDepth 100000 in
theorem table_lifted (os : Os) (started : os.Started) (H : Type) (enc : TypeId × Value → H) :
    ReturnsInHanded {} Try.checked os 3 .any (Rows.opsTableSpec.pre6 enc Try.prog Try.f3 Rows.opsTableRow.domain false) (Rows.opsTableSpec.post enc Try.prog Try.f3 false true false false) := by
  refine returnsInHanded_of_change (C := Try.checked) own started (by kernel_rfl) Try.func3
    (ChangeSpec.witness6 (enc := enc) (C := Try.checked) false ⟨#[], #[.int .i64 0], []⟩ 8 (by kernel_rfl) (by kernel_rfl) (by kernel_rfl) (by kernel_rfl)) ?_
  intro W base args ds gs before hval0 hW _ _
  have hval : ∀ (j : Nat) t v, Try.f3.params[j]? = some t → args[j]? = some v → Value.okWide Try.prog W .any base t v := hval0
  have hW' := hW
  obtain ⟨p, q, hA0, hV, rfl, hfz, hnd⟩ := hW
  have hA : DataW.TrodAll enc Try.prog W 0 (fun _ => true) true Try.f3.params.toList args.toList ds p := hA0
  rw [Try.params3] at hA hval
  obtain ⟨v0, vs0, d0, ds0, p0, q0, hargs, rfl, rfl, h0, r0⟩ := trodAll_cons hA
  obtain ⟨rfl, rfl, rfl⟩ := trodAll_nil r0
  obtain rfl : args = #[v0] := by cases args; simp_all
  obtain ⟨rfl, rfl⟩ := trodVars_none hV
  obtain ⟨a0, rfl, rfl, rfl, w0⟩ := open_int Try.underlying3 (hval 0 3 v0 rfl rfl) h0
  clear hA0 hval0
  simp only [List.append_nil] at hW'
  refine (table_walk a0 w0 W).mono fun e W' ⟨he, hg⟩ => ?_
  subst he
  exact ⟨_, rfl, law_post hW' rfl rfl Try.underlying4 rfl (fun sp _ => (trodAll_cons_mk (shut_int Try.underlying3 w0) trodAll_mk0)) hg⟩

theorem table_said : Rows.OpsTableSaid :=
  OpenClaim.holds_of_wide 3 Try.f3 rfl rfl rfl rfl rfl rfl rfl ⟨rfl, rfl, rfl, rfl, rfl⟩ rfl rfl rfl rfl rfl (by kernel_rfl) Try.func3 (by kernel_rfl)
    (of_decide_eq_true (by kernel_rfl)) (by unfold Func.isWrapper; first | (rw [if_pos (by decide +kernel)]; kernel_rfl) | (rw [if_neg (by decide +kernel)]; exact ⟨rfl, rfl⟩))
    (fun os started H enc _ => table_lifted os started H enc)
#print axioms table_said
end Go.Proofs.Ytflegdijmkacdaa
