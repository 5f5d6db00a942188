/- BoxIsCanonical: for all bytes, the law 'the container of the sections that were read from bytes consists of these bytes' returns true, and its arguments read as before. No condition. -/
import Derived.Test.YtdamijicombmkaaL15Lx
import Derived.Test.YtdamijicombmkaaL15Op
import Derived.SizedLaws
import Derived.Test.YtdamijicombmkaaLaw
namespace Go.Proofs.Ytdamijicombmkaa
open Go.ChangeShapes Go.WideShapes Go.ChangeAt Go.RowKit


set_option maxRecDepth 100000 in
theorem can_lifted (os : Os) (started : os.Started) (H : Type) (enc : TypeId × Value → H) :
    ReturnsInHanded {} Try.checked os 6 .any (Rows.boxIsCanonicalSpec.pre6 enc Try.prog Try.f6 Rows.boxIsCanonicalRow.domain false) (Rows.boxIsCanonicalSpec.post enc Try.prog Try.f6 false true false false) := by
  refine returnsInHanded_of_change (C := Try.checked) own started (by kernel_rfl) Try.func6
    (ChangeSpec.witness6 (enc := enc) (C := Try.checked) false ⟨#[], #[.slice none 0 0], []⟩ 8 (by kernel_rfl) (by kernel_rfl) (by kernel_rfl) (by kernel_rfl)) ?_
  intro W base args ds gs before hval0 hW _ _
  have hval : ∀ (j : Nat) t v, Try.f6.params[j]? = some t → args[j]? = some v → Value.okWide Try.prog W .any base t v := hval0
  have hW' := hW
  obtain ⟨p, q, hA0, hV, rfl, hfz, hnd⟩ := hW
  have hA : DataW.TrodAll enc Try.prog W 0 (fun _ => true) true Try.f6.params.toList args.toList ds p := hA0
  rw [Try.params6] at hA hval
  obtain ⟨v0, vs0, d0, ds0, p0, q0, hargs, rfl, rfl, h0, r0⟩ := trodAll_cons hA
  obtain ⟨rfl, rfl, rfl⟩ := trodAll_nil r0
  obtain rfl : args = #[v0] := by cases args; simp_all
  obtain ⟨rfl, rfl⟩ := trodVars_none hV
  have k0 := h0
  obtain ⟨g0, hp0⟩ := L14.open_bs (hval 0 25 v0 rfl rfl) h0
  clear hA0 hval0
  simp only [List.append_nil] at hW'
  have l0 : ∀ x ∈ p0, x.block < W.heap.size := fun x hx => by simpa using hW'.lt x (by simp [hx])
  refine (L15.canon_walk _ g0 W hp0).mono fun e W' ⟨he, hg⟩ => ?_
  subst he
  have hTA : DataW.TrodAll enc Try.prog W' 0 (fun b => decide (b < W.heap.size)) true [25] [v0] [d0] (p0) := by
    simpa only [List.append_nil, List.nil_append] using (trodAll_cons_mk (Below.trod laidOut (by kernel_rfl) (of_decide_eq_true (by kernel_rfl)) k0 hg l0) trodAll_mk0)
  exact ⟨_, rfl, law_post_at hW' rfl rfl Try.underlying4 rfl hTA hg⟩

theorem can_said : Rows.BoxIsCanonicalSaid :=
  OpenClaim.holds_of_wide 6 Try.f6 rfl rfl rfl rfl rfl rfl rfl ⟨rfl, rfl, rfl, rfl, rfl⟩ rfl rfl rfl rfl rfl (by kernel_rfl) Try.func6 (by kernel_rfl)
    (of_decide_eq_true (by kernel_rfl)) (by unfold Func.isWrapper; first | (rw [if_pos (by decide +kernel)]; kernel_rfl) | (rw [if_neg (by decide +kernel)]; exact ⟨rfl, rfl⟩))
    (fun os started H enc _ => can_lifted os started H enc)
#print axioms can_said
end Go.Proofs.Ytdamijicombmkaa
