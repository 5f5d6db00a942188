/- OpsFinds: for every text, the law 'Find returns the operation with this name, or none' returns true, and its argument reads as before. No condition. -/
import Derived.Test.YtflegdijmkacdaaRnm
import Derived.Test.YtflegdijmkacdaaRid
import Derived.Test.YtflegdijmkacdaaLaw
namespace Go.Proofs.Ytflegdijmkacdaa
open Go.ChangeShapes Go.WideShapes Go.ChangeAt Go.RowKit

set_option maxHeartbeats 4000000 in
set_option maxRecDepth 100000 in
theorem finds_walk (s : ByteArray) (hs : s.size ≤ maxLen) (w : World) :
    Calls Try.prog 4 #[.string s] w fun e w' => e = .returned (.bool true) ∧ Below w.heap.size w w' := by
  obtain ⟨n, hn⟩ : ∃ n, (fnd s 86).1 = n := ⟨_, rfl⟩
  obtain ⟨r, hr⟩ : ∃ r, (fnd s 86).2 = r := ⟨_, rfl⟩
  have HN := Lib.hid hn
  have HR := Lib.hid hr
  clear hn hr
  go_enter Try.func4, Try.ntmps4
  go_wp2_with (first | (go_at_call 16; ((with_reducible refine (find_at s hs _ _ _ HN.out HR.out).mono ?_); rintro e w1 ⟨rfl, hb1⟩)))
  go_loopw [13, 5, 6] (fun i a b wr => ∃ k : Nat, k ≤ 86 ∧ i = .int .i64 k ∧ a = .int .i64 (fnd s k).1 ∧ b = .bool (fnd s k).2 ∧ Below w.heap.size w wr) (fun i _ _ _ => 86 - (intOf i).toNat)
  case atStart => exact ⟨0, Nat.zero_le _, rfl, rfl, rfl, hb1⟩
  case round =>
    obtain ⟨k, hk, rfl, rfl, rfl, hnx⟩ := hrel
    by_cases hlt : k < 86
    · obtain ⟨t, ht⟩ : ∃ t, nm k = t := ⟨_, rfl⟩
      have HT : Hid (nm (ix (k : Int)) = t) := Lib.hid (by rw [ix_nat hlt]; exact ht)
      have HL := Lib.hid hlt
      by_cases he : t = s
      · have e2 := L2.txt_eq he
        have H1 : Hid (fnd s (k + 1) = ((k : Int), true)) := Lib.hid (by rw [fnd, if_pos (by rw [ht]; exact he)])
        clear he ht
        go_wp2_with (first | (go_at_call 11; ((with_reducible refine (rname_at _ _ _ HT.out).mono ?_); rintro e w2 ⟨rfl, hb2⟩)))
        go_roundw
        case rel => exact ⟨k + 1, HL.out, by go_num, by rw [H1.out], by rw [H1.out], bch hnx hb2⟩
        case measure => simp [intOf]; omega
      · have e2 := L2.txt_ne he
        have H1 : Hid (fnd s (k + 1) = fnd s k) := Lib.hid (by rw [fnd, if_neg (by rw [ht]; exact he)])
        clear he ht
        go_wp2_with (first | (go_at_call 11; ((with_reducible refine (rname_at _ _ _ HT.out).mono ?_); rintro e w2 ⟨rfl, hb2⟩)))
        go_roundw
        case rel => exact ⟨k + 1, HL.out, by go_num, by rw [H1.out], by rw [H1.out], bch hnx hb2⟩
        case measure => simp [intOf]; omega
    · obtain rfl : k = 86 := by omega
      rw [HN.out, HR.out]
      go_wp2_with (first | (go_at_call 9; ((with_reducible refine (alive_any _).mono ?_); rintro e wa ⟨rfl, hba⟩)))
      go_ret
      exact ⟨rfl, bch hnx hba⟩

set_option maxRecDepth 100000 in
theorem finds_lifted (os : Os) (started : os.Started) (H : Type) (enc : TypeId × Value → H) :
    ReturnsInHanded {} Try.checked os 4 .any (Rows.opsFindsSpec.pre6 enc Try.prog Try.f4 Rows.opsFindsRow.domain false) (Rows.opsFindsSpec.post enc Try.prog Try.f4 false true false false) := by
  refine returnsInHanded_of_change (C := Try.checked) own started (by kernel_rfl) Try.func4
    (ChangeSpec.witness6 (enc := enc) (C := Try.checked) false ⟨#[], #[.string ⟨#[]⟩], []⟩ 8 (by kernel_rfl) (by kernel_rfl) (by kernel_rfl) (by kernel_rfl)) ?_
  intro W base args ds gs before hval0 hW _ _
  have hval : ∀ (j : Nat) t v, Try.f4.params[j]? = some t → args[j]? = some v → Value.okWide Try.prog W .any base t v := hval0
  have hW' := hW
  obtain ⟨p, q, hA0, hV, rfl, hfz, hnd⟩ := hW
  have hA : DataW.TrodAll enc Try.prog W 0 (fun _ => true) true Try.f4.params.toList args.toList ds p := hA0
  rw [Try.params4] at hA hval
  obtain ⟨v0, vs0, d0, ds0, p0, q0, hargs, rfl, rfl, h0, r0⟩ := trodAll_cons hA
  obtain ⟨rfl, rfl, rfl⟩ := trodAll_nil r0
  obtain rfl : args = #[v0] := by cases args; simp_all
  obtain ⟨rfl, rfl⟩ := trodVars_none hV
  obtain ⟨a0, rfl, rfl, rfl, w0⟩ := Go.ChangeMaps.open_string Try.underlying9 (hval 0 9 v0 rfl rfl) h0
  clear hA0 hval0
  simp only [List.append_nil] at hW'
  refine (finds_walk a0 w0 W).mono fun e W' ⟨he, hg⟩ => ?_
  subst he
  exact ⟨_, rfl, law_post hW' rfl rfl Try.underlying4 rfl (fun sp _ => (trodAll_cons_mk (Go.ChangeMaps.shut_string Try.underlying9 w0) trodAll_mk0)) hg⟩

theorem finds_said : Rows.OpsFindsSaid :=
  OpenClaim.holds_of_wide 4 Try.f4 rfl rfl rfl rfl rfl rfl rfl ⟨rfl, rfl, rfl, rfl, rfl⟩ rfl rfl rfl rfl rfl (by kernel_rfl) Try.func4 (by kernel_rfl)
    (of_decide_eq_true (by kernel_rfl)) (by unfold Func.isWrapper; first | (rw [if_pos (by decide +kernel)]; kernel_rfl) | (rw [if_neg (by decide +kernel)]; exact ⟨rfl, rfl⟩))
    (fun os started H enc _ => finds_lifted os started H enc)
#print axioms finds_said
end Go.Proofs.Ytflegdijmkacdaa
