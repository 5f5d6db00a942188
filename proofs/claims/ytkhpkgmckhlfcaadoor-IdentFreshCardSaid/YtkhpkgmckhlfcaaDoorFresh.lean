/- IdentFresh: for all numbers, the law 'Fresh returns the text of the reference, an identifier if it is not empty, and different ones for different numbers' returns true, and its arguments read as before; the row's listed variables are tied to the program's text. No other condition. -/
import Derived.Test.YtkhpkgmckhlfcaaDoorFacts
import Derived.Test.YtkhpkgmckhlfcaaDoorLaw
import Derived.Test.YtkhpkgmckhlfcaaDoorCards
import Derived.Test.YtkhpkgmckhlfcaaDoorTie
import Derived.SevenTiedAt
namespace Go.Proofs.YtkhpkgmckhlfcaaDoor
open Go.ChangeShapes Go.WideShapes Go.ChangeAt Go.RowKit

set_option maxHeartbeats 2000000 in
set_option maxRecDepth 100000 in
theorem fresh_walk (n : Int) (_ : (Lit.int .i64 n).wf = true) (m : Int) (_ : (Lit.int .i64 m).wf = true) (w : World) (ht : Tabs w) :
    Calls Tryd.prog 5 #[.int .i64 n, .int .i64 m] w fun e w' => e = .returned (.bool true) ∧ Below w.heap.size w w' := by
  obtain ⟨s, hs⟩ : ∃ s : ByteArray, frS n = s := ⟨_, rfl⟩
  obtain ⟨t, htx⟩ : ∃ t : ByteArray, frS m = t := ⟨_, rfl⟩
  have HS := Lib.hid hs
  have HT := Lib.hid htx
  by_cases hin : 0 ≤ n ∧ n ≤ 2147483648
  · have HV : Hid (vd s = true) := Lib.hid (by rw [← hs]; exact fresh_valid n hin.1 hin.2)
    have hne : ¬ s = ⟨#[]⟩ := by rw [← hs]; exact fresh_ne n hin.1 hin.2
    have e1 := txt_ne hne
    have e2 : s.toList.isEmpty = false := by
      rw [Lib.toList_data]
      cases hh : s.data.toList with
      | nil =>
        exfalso; apply hne
        cases s
        simp only [ByteArray.mk.injEq]
        exact Array.toList_inj.1 hh
      | cons a b => rfl
    cases hd : (n == m) with
    | true =>
      obtain rfl : n = m := by simpa using hd
      obtain rfl : s = t := hs.symm.trans htx
      clear hs htx hin hne
      go_enter Tryd.func5, Tryd.ntmps5
      go_wp2_with (first | (go_at_call 16; ((with_reducible refine (fresh_at n s _ ht HS.out).mono ?_); rintro e w1 ⟨rfl, hb1⟩)))
      have ht1 := ht.below hb1
      go_wp2_with (first | (go_at_call 16; ((with_reducible refine (fresh_at n s _ ht1 HS.out).mono ?_); rintro e w2 ⟨rfl, hb2⟩)))
      have ht2 := ht1.below hb2
      go_wp2_with (go_at_call 9; ((with_reducible refine (alive_any _ ht2).mono ?_); rintro e w3 ⟨rfl, hb3⟩))
      have ht3 := ht2.below hb3
      go_wp2_with (first | (go_at_call 17; ((with_reducible refine (rfresh_at n s _ HS.out).mono ?_); rintro e w' ⟨rfl, rfl⟩)) | (go_at_call 10; ((with_reducible refine (valid_at s true _ ht3.reg HV.out).mono ?_); rintro e w4 ⟨rfl, hb4⟩)))
      go_ret
      exact ⟨rfl, bch (bch (bch hb1 hb2) hb3) hb4⟩
    | false =>
      have hst : ¬ s = t := by
        intro e
        have := fresh_inj n m hin.1 hin.2 (hs.trans (e.trans htx.symm))
        rw [beq_eq_false_iff_ne] at hd
        exact hd this
      have e3 := txt_ne hst
      clear hs htx hin hne hst
      go_enter Tryd.func5, Tryd.ntmps5
      go_wp2_with (first | (go_at_call 16; ((with_reducible refine (fresh_at n s _ ht HS.out).mono ?_); rintro e w1 ⟨rfl, hb1⟩)))
      have ht1 := ht.below hb1
      go_wp2_with (first | (go_at_call 16; ((with_reducible refine (fresh_at m t _ ht1 HT.out).mono ?_); rintro e w2 ⟨rfl, hb2⟩)))
      have ht2 := ht1.below hb2
      go_wp2_with (go_at_call 9; ((with_reducible refine (alive_any _ ht2).mono ?_); rintro e w3 ⟨rfl, hb3⟩))
      have ht3 := ht2.below hb3
      go_wp2_with (first | (go_at_call 17; ((with_reducible refine (rfresh_at n s _ HS.out).mono ?_); rintro e w' ⟨rfl, rfl⟩)) | (go_at_call 10; ((with_reducible refine (valid_at s true _ ht3.reg HV.out).mono ?_); rintro e w4 ⟨rfl, hb4⟩)))
      go_ret
      exact ⟨rfl, bch (bch (bch hb1 hb2) hb3) hb4⟩
  · obtain rfl : s = ⟨#[]⟩ := by rw [← hs]; exact frS_out n hin
    clear hs htx hin
    go_enter Tryd.func5, Tryd.ntmps5
    go_wp2_with (first | (go_at_call 16; ((with_reducible refine (fresh_at n _ _ ht HS.out).mono ?_); rintro e w1 ⟨rfl, hb1⟩)))
    have ht1 := ht.below hb1
    go_wp2_with (first | (go_at_call 16; ((with_reducible refine (fresh_at m t _ ht1 HT.out).mono ?_); rintro e w2 ⟨rfl, hb2⟩)))
    have ht2 := ht1.below hb2
    go_wp2_with (go_at_call 9; ((with_reducible refine (alive_any _ ht2).mono ?_); rintro e w3 ⟨rfl, hb3⟩))
    have ht3 := ht2.below hb3
    go_wp2_with (first | (go_at_call 17; ((with_reducible refine (rfresh_at n _ _ HS.out).mono ?_); rintro e w' ⟨rfl, rfl⟩)))
    go_ret
    exact ⟨rfl, bch (bch hb1 hb2) hb3⟩

set_option maxRecDepth 100000 in
theorem fresh_lifted (os : Os) (started : os.Started) (H : Type) (enc : TypeId × Value → H) :
    ReturnsInHanded {} Tryd.checked os 5 .any (fun w args => (Rows.identFreshSpec.pre enc Tryd.prog Tryd.f5 [] false w args ∧ laidMetH Tryd.prog laid4 w) ∧ sizedMet enc Tryd.prog Tryd.f5 (OpenSpec.ofChange Rows.identFreshSpec) false w args)
      (Rows.identFreshSpec.post enc Tryd.prog Tryd.f5 false true false false) := by
  refine returnsInHanded_of_change_and (C := Tryd.checked) (X := fun w _ => laidMetH Tryd.prog laid4 w) (fun _ _ _ hh h => h.of_heap hh) own started (by kernel_rfl) Tryd.func5
    (ChangeSpec.witness_shaped (enc := enc) (C := Tryd.checked) (os := os) (X := fun w _ => laidMetH Tryd.prog laid4 w) false (World.doorLaid Tryd.prog 4000 os) #[.int .i64 0, .int .i64 0] 8 rfl (World.shaped_of_RefB (by kernel_rfl) (by kernel_rfl)) (by kernel_rfl) (by kernel_rfl) (by kernel_rfl) (door_met os _)) ?_
  intro W base args ds gs before hval0 hW _ _ hL _
  have hval : ∀ (j : Nat) t v, Tryd.f5.params[j]? = some t → args[j]? = some v → Value.okWide Tryd.prog W .any base t v := hval0
  have hW' := hW
  obtain ⟨p, q, hA0, hV, rfl, hfz, hnd⟩ := hW
  have hA : DataW.TrodAll enc Tryd.prog W 0 (fun _ => true) true Tryd.f5.params.toList args.toList ds p := hA0
  rw [Tryd.params5] at hA hval
  obtain ⟨v0, vs0, d0, ds0, p0, q0, hargs, rfl, rfl, h0, r0⟩ := trodAll_cons hA
  obtain ⟨v1, vs1, d1, ds1, p1, q1, rfl, rfl, rfl, h1, r1⟩ := trodAll_cons r0
  obtain ⟨rfl, rfl, rfl⟩ := trodAll_nil r1
  obtain rfl : args = #[v0, v1] := by cases args; simp_all
  obtain ⟨rfl, rfl⟩ := trodVars_none hV
  obtain ⟨a0, rfl, rfl, rfl, w0⟩ := open_int Tryd.underlying3 (hval 0 3 v0 rfl rfl) h0
  obtain ⟨a1, rfl, rfl, rfl, w1⟩ := open_int Tryd.underlying3 (hval 1 3 v1 rfl rfl) h1
  clear hA0 hval0
  simp only [List.append_nil] at hW'
  refine (fresh_walk a0 w0 a1 w1 W (tabs_of hL)).mono fun e W' ⟨he, hg⟩ => ?_
  subst he
  exact ⟨_, rfl, law_post hW' rfl rfl Tryd.underlying4 rfl (fun sp _ => (trodAll_cons_mk (shut_int Tryd.underlying3 w0) (trodAll_cons_mk (shut_int Tryd.underlying3 w1) trodAll_mk0))) hg⟩

theorem fresh_said : Rows.IdentFreshSaid :=
  OpenClaim.holds_of_wide 5 Tryd.f5 rfl rfl rfl rfl rfl rfl rfl ⟨rfl, rfl, rfl, rfl, rfl⟩ rfl rfl rfl rfl rfl (by kernel_rfl) Tryd.func5 (by kernel_rfl)
    (of_decide_eq_true (by kernel_rfl)) (by unfold Func.isWrapper; first | (rw [if_pos (by decide +kernel)]; kernel_rfl) | (rw [if_neg (by decide +kernel)]; exact ⟨rfl, rfl⟩))
    (fun os started H enc _ => fresh_lifted os started H enc)

/-- The card: the row's listed variables are tied to the program's text. -/
theorem fresh_card : Rows.IdentFreshCardSaid :=
  Claim7.holds_tied_plain_at .later [] [.data, .data, .data, .data] true (true, "102f28e580703f50a6d860e014890d5bce379d68c1190104418c6b987d1903a3") false
    fresh_said (fun _ h => by cases h) (by kernel_rfl) (fun _ h => by cases h) identFresh_row_tie rfl ⟨rfl, rfl⟩ (by kernel_rfl) rfl
    (fun f fn hf hfn => by
      obtain rfl : f = 5 := Option.some.inj ((show Tryd.prog.funcNamed "slotcode/slotcodelaw02.IdentFresh" = some 5 by kernel_rfl).symm.trans hf) |>.symm
      obtain rfl : fn = Tryd.f5 := (Option.some.inj (Tryd.func5.symm.trans hfn)).symm
      exact ⟨by kernel_rfl, fun j t ht => by
        rw [Tryd.params5] at ht
        have hm : t ∈ [3, 3] := by simpa using Array.mem_of_getElem? ht
        have hall : ([3, 3].all fun u => !Tryd.prog.wantsStandIn u) = true := by kernel_rfl
        exact (show Tryd.prog.wantsStandIn t = false by simpa using List.all_eq_true.1 hall t hm)⟩)
    (by kernel_rfl)
#print axioms fresh_card
end Go.Proofs.YtkhpkgmckhlfcaaDoor
