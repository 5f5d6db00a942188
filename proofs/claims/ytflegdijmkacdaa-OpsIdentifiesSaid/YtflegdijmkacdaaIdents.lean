/- OpsIdentifies: for every opcode and fields, the law 'Identify returns the operation of the reference, or none' returns true, and its arguments read as before. No condition. -/
import Derived.Test.YtflegdijmkacdaaRix
import Derived.Test.YtflegdijmkacdaaLaw
namespace Go.Proofs.Ytflegdijmkacdaa
open Go.ChangeShapes Go.WideShapes Go.ChangeAt Go.RowKit

set_option maxHeartbeats 4000000 in
set_option maxRecDepth 100000 in
theorem idents_walk (code : Int) (_ : (Lit.int .u8 code).wf = true) (src : Int) (_ : (Lit.int .i64 src).wf = true) (off : Int) (_ : (Lit.int .i64 off).wf = true) (imm : Int) (_ : (Lit.int .i64 imm).wf = true) (w : World) :
    Calls Try.prog 7 #[.int .u8 code, .int .i64 src, .agg #[.int .i64 off, .int .i64 imm]] w fun e w' => e = .returned (.bool true) ∧ Below w.heap.size w w' := by
  obtain ⟨⟨n, r, ok⟩, hR⟩ : ∃ R, idF code src off imm 86 0 = R := ⟨_, rfl⟩
  have HR := Lib.hid hR
  clear hR
  go_enter Try.func7, Try.ntmps7
  go_wp2_with (first
    | (go_at_call 9; ((with_reducible refine (alive_any _).mono ?_); rintro e wa ⟨rfl, hba⟩))
    | (go_at_call 21; ((with_reducible refine (ident_at _ _ _ _ _ _ _ _ HR.out).mono ?_); rintro e w1 ⟨rfl, hb1⟩; have c0 : w1.cell? ⟨w.heap.size, 0, none⟩ = some (.int .i64 off) := (hb1.cell (by simp)).trans (World.cell?_alloc_at _ _ _ _ rfl); have c1 : w1.cell? ⟨w.heap.size, 1, none⟩ = some (.int .i64 imm) := (hb1.cell (by simp)).trans (World.cell?_alloc_at _ _ _ _ rfl)))
    | (go_at_call 22; ((with_reducible refine (rident_at _ _ _ _ _ _ _ _ HR.out).mono ?_); rintro e w2 ⟨rfl, hb2⟩)))
  go_ret
  exact ⟨rfl, bch (bch (bch (bnew w _) hb1) hb2) hba⟩

set_option maxRecDepth 100000 in
theorem idents_lifted (os : Os) (started : os.Started) (H : Type) (enc : TypeId × Value → H) :
    ReturnsInHanded {} Try.checked os 7 .any (Rows.opsIdentifiesSpec.pre6 enc Try.prog Try.f7 Rows.opsIdentifiesRow.domain false) (Rows.opsIdentifiesSpec.post enc Try.prog Try.f7 false true false false) := by
  refine returnsInHanded_of_change (C := Try.checked) own started (by kernel_rfl) Try.func7
    (ChangeSpec.witness6 (enc := enc) (C := Try.checked) false ⟨#[], #[.int .u8 0, .int .i64 0, .agg #[.int .i64 0, .int .i64 0]], []⟩ 8 (by kernel_rfl) (by kernel_rfl) (by kernel_rfl) (by kernel_rfl)) ?_
  intro W base args ds gs before hval0 hW _ _
  have hval : ∀ (j : Nat) t v, Try.f7.params[j]? = some t → args[j]? = some v → Value.okWide Try.prog W .any base t v := hval0
  have hW' := hW
  obtain ⟨p, q, hA0, hV, rfl, hfz, hnd⟩ := hW
  have hA : DataW.TrodAll enc Try.prog W 0 (fun _ => true) true Try.f7.params.toList args.toList ds p := hA0
  rw [Try.params7] at hA hval
  obtain ⟨v0, vs0, d0, ds0, p0, q0, hargs, rfl, rfl, h0, r0⟩ := trodAll_cons hA
  obtain ⟨v1, vs1, d1, ds1, p1, q1, rfl, rfl, rfl, h1, r1⟩ := trodAll_cons r0
  obtain ⟨v2, vs2, d2, ds2, p2, q2, rfl, rfl, rfl, h2, r2⟩ := trodAll_cons r1
  obtain ⟨rfl, rfl, rfl⟩ := trodAll_nil r2
  obtain rfl : args = #[v0, v1, v2] := by cases args; simp_all
  obtain ⟨rfl, rfl⟩ := trodVars_none hV
  obtain ⟨a0, rfl, rfl, rfl, w0⟩ := open_int Try.underlying5 (hval 0 5 v0 rfl rfl) h0
  obtain ⟨a1, rfl, rfl, rfl, w1⟩ := open_int Try.underlying3 (hval 1 3 v1 rfl rfl) h1
  obtain ⟨c0, c1, rfl⟩ := two_of Try.underlying33 (by kernel_rfl) (hval 2 33 v2 rfl rfl)
  have k2 := h2
  obtain ⟨fuel, hf⟩ := h2
  obtain ⟨x0, x1, rfl, rfl, wx0, wx1, rfl⟩ := two_ints Try.underlying33 Try.underlying3 (by kernel_rfl) hf
  clear hA0 hval0
  simp only [List.append_nil] at hW'
  refine (idents_walk a0 w0 a1 w1 x0 wx0 x1 wx1 W).mono fun e W' ⟨he, hg⟩ => ?_
  subst he
  exact ⟨_, rfl, law_post_at hW' rfl rfl Try.underlying4 rfl (trodAll_cons_mk (shut_int Try.underlying5 w0) (trodAll_cons_mk (shut_int Try.underlying3 w1) (trodAll_cons_mk (Below.trod laidOut (by kernel_rfl) (of_decide_eq_true (by kernel_rfl)) k2 hg (fun x hx => by cases hx)) trodAll_mk0))) hg⟩

theorem idents_said : Rows.OpsIdentifiesSaid :=
  OpenClaim.holds_of_wide 7 Try.f7 rfl rfl rfl rfl rfl rfl rfl ⟨rfl, rfl, rfl, rfl, rfl⟩ rfl rfl rfl rfl rfl (by kernel_rfl) Try.func7 (by kernel_rfl)
    (of_decide_eq_true (by kernel_rfl)) (by unfold Func.isWrapper; first | (rw [if_pos (by decide +kernel)]; kernel_rfl) | (rw [if_neg (by decide +kernel)]; exact ⟨rfl, rfl⟩))
    (fun os started H enc _ => idents_lifted os started H enc)
#print axioms idents_said
end Go.Proofs.Ytflegdijmkacdaa
