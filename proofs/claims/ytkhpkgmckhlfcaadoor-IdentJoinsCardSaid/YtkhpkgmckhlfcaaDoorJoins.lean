/- IdentJoins: for all pairs of texts, the law 'a text has the same word whatever follows a blank behind it, and an identifier is one word' returns true, and its arguments read as before; the row's listed variables are tied to the program's text. No other condition. -/
import Derived.Test.YtkhpkgmckhlfcaaDoorFacts
import Derived.Test.YtkhpkgmckhlfcaaDoorLaw
import Derived.Test.YtkhpkgmckhlfcaaDoorCards
import Derived.Test.YtkhpkgmckhlfcaaDoorTie
import Derived.SevenTiedAt
namespace Go.Proofs.YtkhpkgmckhlfcaaDoor
open Go.ChangeShapes Go.WideShapes Go.ChangeAt Go.RowKit

set_option maxHeartbeats 2000000 in
set_option maxRecDepth 100000 in
theorem joins_walk (s : ByteArray) (_ : s.size ≤ maxLen) (t : ByteArray) (_ : t.size ≤ maxLen) (w : World) (ht : Tabs w) :
    Calls Tryd.prog 8 #[.string s, .string t] w fun e w' => e = .returned (.bool true) ∧ Below w.heap.size w w' := by
  by_cases hbig : 2000 < s.size ∨ 2000 < t.size
  · rcases hbig with h1 | h1
    · have f1 : decide ((2000 : Int) < (s.size : Int)) = true := by rw [decide_eq_true_iff]; omega
      go_enter Tryd.func8, Tryd.ntmps8
      go_wp2_with (go_at_call 9; ((with_reducible refine (alive_any _ ht).mono ?_); rintro e w1 ⟨rfl, hb1⟩))
      go_ret
      exact ⟨rfl, hb1⟩
    · have f1 : decide ((2000 : Int) < (t.size : Int)) = true := by rw [decide_eq_true_iff]; omega
      cases f2 : decide ((2000 : Int) < (s.size : Int))
      all_goals
        go_enter Tryd.func8, Tryd.ntmps8
        go_wp2_with (go_at_call 9; ((with_reducible refine (alive_any _ ht).mono ?_); rintro e w1 ⟨rfl, hb1⟩))
        go_ret
        exact ⟨rfl, hb1⟩
  · have f1 : decide ((2000 : Int) < (s.size : Int)) = false := by rw [decide_eq_false_iff_not]; omega
    have f2 : decide ((2000 : Int) < (t.size : Int)) = false := by rw [decide_eq_false_iff_not]; omega
    have hl1 : s.size ≤ 2000 := by omega
    have hl2 : t.size ≤ 2000 := by omega
    obtain ⟨n, hn⟩ : ∃ n : Nat, n = wn s.data.toList := ⟨_, rfl⟩
    have HN : Hid ((wn s.data.toList : Int) = n) := Lib.hid (by rw [hn])
    have H1 : Hid ((wn ((s ++ ⟨#[32]⟩) ++ t).data.toList : Int) = n) := Lib.hid (by
      rw [join_list, wn_join, hn])
    have hm1 : s.size + 1 ≤ maxLen := by unfold maxLen; omega
    have hm2 : s.size + 1 ≤ 9223372036854775807 := by omega
    have hm3 : (s ++ ⟨#[32]⟩).size + t.size ≤ maxLen := by unfold maxLen; rw [size_join]; omega
    have hm4 : (s ++ ⟨#[32]⟩).size + t.size ≤ 9223372036854775807 := by rw [size_join]; omega
    have hm5 : s.size + 1 + t.size ≤ 9223372036854775807 := by omega
    have hm6 : s.size + 1 + t.size ≤ maxLen := by unfold maxLen; omega
    cases hv : vd s with
    | true =>
      have HV := Lib.hid hv
      have hnn : n = s.size := by
        rw [vd] at hv
        simp only [Bool.and_eq_true, decide_eq_true_eq] at hv
        rw [hn]; exact hv.2
      have f3 : ((n : Int) == (s.size : Int)) = true := by rw [hnn]; exact beq_self_eq_true _
      have f4 : ((n : Int) != (s.size : Int)) = false := by rw [bne, f3]; rfl
      clear hn hv hbig hnn
      go_enter Tryd.func8, Tryd.ntmps8
      go_wp2_with (go_at_call 10; ((with_reducible refine (valid_at s true _ ht.reg HV.out).mono ?_); rintro e w1 ⟨rfl, hb1⟩))
      have ht1 := ht.below hb1
      go_wp2_with (go_at_call 20; ((with_reducible refine (word_at s n _ HN.out).mono ?_); rintro e w2 ⟨rfl, hb2⟩))
      have ht2 := ht1.below hb2
      go_wp2_with (go_at_call 9; ((with_reducible refine (alive_any _ ht2).mono ?_); rintro e w3 ⟨rfl, hb3⟩))
      go_wp2_with (go_at_call 20; ((with_reducible refine (word_at _ n _ H1.out).mono ?_); rintro e w4 ⟨rfl, hb4⟩))
      go_wp2_with (go_at_call 20; ((with_reducible refine (word_at s n _ HN.out).mono ?_); rintro e w5 ⟨rfl, hb5⟩))
      go_ret
      exact ⟨rfl, bch (bch (bch (bch hb1 hb2) hb3) hb4) hb5⟩
    | false =>
      have HV := Lib.hid hv
      clear hn hv hbig
      go_enter Tryd.func8, Tryd.ntmps8
      go_wp2_with (go_at_call 10; ((with_reducible refine (valid_at s false _ ht.reg HV.out).mono ?_); rintro e w1 ⟨rfl, hb1⟩))
      have ht1 := ht.below hb1
      go_wp2_with (go_at_call 9; ((with_reducible refine (alive_any _ ht1).mono ?_); rintro e w3 ⟨rfl, hb3⟩))
      go_wp2_with (go_at_call 20; ((with_reducible refine (word_at _ n _ H1.out).mono ?_); rintro e w4 ⟨rfl, hb4⟩))
      go_wp2_with (go_at_call 20; ((with_reducible refine (word_at s n _ HN.out).mono ?_); rintro e w5 ⟨rfl, hb5⟩))
      go_ret
      exact ⟨rfl, bch (bch (bch hb1 hb3) hb4) hb5⟩

set_option maxRecDepth 100000 in
theorem joins_lifted (os : Os) (started : os.Started) (H : Type) (enc : TypeId × Value → H) :
    ReturnsInHanded {} Tryd.checked os 8 .any (fun w args => (Rows.identJoinsSpec.pre enc Tryd.prog Tryd.f8 [] false w args ∧ laidMetH Tryd.prog laid4 w) ∧ sizedMet enc Tryd.prog Tryd.f8 (OpenSpec.ofChange Rows.identJoinsSpec) false w args)
      (Rows.identJoinsSpec.post enc Tryd.prog Tryd.f8 false true false false) := by
  refine returnsInHanded_of_change_and (C := Tryd.checked) (X := fun w _ => laidMetH Tryd.prog laid4 w) (fun _ _ _ hh h => h.of_heap hh) own started (by kernel_rfl) Tryd.func8
    (ChangeSpec.witness_shaped (enc := enc) (C := Tryd.checked) (os := os) (X := fun w _ => laidMetH Tryd.prog laid4 w) false (World.doorLaid Tryd.prog 4000 os) #[.string ⟨#[]⟩, .string ⟨#[]⟩] 8 rfl (World.shaped_of_RefB (by kernel_rfl) (by kernel_rfl)) (by kernel_rfl) (by kernel_rfl) (by kernel_rfl) (door_met os _)) ?_
  intro W base args ds gs before hval0 hW _ _ hL _
  have hval : ∀ (j : Nat) t v, Tryd.f8.params[j]? = some t → args[j]? = some v → Value.okWide Tryd.prog W .any base t v := hval0
  have hW' := hW
  obtain ⟨p, q, hA0, hV, rfl, hfz, hnd⟩ := hW
  have hA : DataW.TrodAll enc Tryd.prog W 0 (fun _ => true) true Tryd.f8.params.toList args.toList ds p := hA0
  rw [Tryd.params8] at hA hval
  obtain ⟨v0, vs0, d0, ds0, p0, q0, hargs, rfl, rfl, h0, r0⟩ := trodAll_cons hA
  obtain ⟨v1, vs1, d1, ds1, p1, q1, rfl, rfl, rfl, h1, r1⟩ := trodAll_cons r0
  obtain ⟨rfl, rfl, rfl⟩ := trodAll_nil r1
  obtain rfl : args = #[v0, v1] := by cases args; simp_all
  obtain ⟨rfl, rfl⟩ := trodVars_none hV
  obtain ⟨a0, rfl, rfl, rfl, w0⟩ := Go.ChangeMaps.open_string Tryd.underlying9 (hval 0 9 v0 rfl rfl) h0
  obtain ⟨a1, rfl, rfl, rfl, w1⟩ := Go.ChangeMaps.open_string Tryd.underlying9 (hval 1 9 v1 rfl rfl) h1
  clear hA0 hval0
  simp only [List.append_nil] at hW'
  refine (joins_walk a0 w0 a1 w1 W (tabs_of hL)).mono fun e W' ⟨he, hg⟩ => ?_
  subst he
  exact ⟨_, rfl, law_post hW' rfl rfl Tryd.underlying4 rfl (fun sp _ => (trodAll_cons_mk (Go.ChangeMaps.shut_string Tryd.underlying9 w0) (trodAll_cons_mk (Go.ChangeMaps.shut_string Tryd.underlying9 w1) trodAll_mk0))) hg⟩

theorem joins_said : Rows.IdentJoinsSaid :=
  OpenClaim.holds_of_wide 8 Tryd.f8 rfl rfl rfl rfl rfl rfl rfl ⟨rfl, rfl, rfl, rfl, rfl⟩ rfl rfl rfl rfl rfl (by kernel_rfl) Tryd.func8 (by kernel_rfl)
    (of_decide_eq_true (by kernel_rfl)) (by unfold Func.isWrapper; first | (rw [if_pos (by decide +kernel)]; kernel_rfl) | (rw [if_neg (by decide +kernel)]; exact ⟨rfl, rfl⟩))
    (fun os started H enc _ => joins_lifted os started H enc)

/-- The card: the row's listed variables are tied to the program's text. -/
theorem joins_card : Rows.IdentJoinsCardSaid :=
  Claim7.holds_tied_plain_at .later [] [.data, .data, .data, .data] true (true, "102f28e580703f50a6d860e014890d5bce379d68c1190104418c6b987d1903a3") false
    joins_said (fun _ h => by cases h) (by kernel_rfl) (fun _ h => by cases h) identJoins_row_tie rfl ⟨rfl, rfl⟩ (by kernel_rfl) rfl
    (fun f fn hf hfn => by
      obtain rfl : f = 8 := Option.some.inj ((show Tryd.prog.funcNamed "slotcode/slotcodelaw02.IdentJoins" = some 8 by kernel_rfl).symm.trans hf) |>.symm
      obtain rfl : fn = Tryd.f8 := (Option.some.inj (Tryd.func8.symm.trans hfn)).symm
      exact ⟨by kernel_rfl, fun j t ht => by
        rw [Tryd.params8] at ht
        have hm : t ∈ [9, 9] := by simpa using Array.mem_of_getElem? ht
        have hall : ([9, 9].all fun u => !Tryd.prog.wantsStandIn u) = true := by kernel_rfl
        exact (show Tryd.prog.wantsStandIn t = false by simpa using List.all_eq_true.1 hall t hm)⟩)
    (by kernel_rfl)
#print axioms joins_card
end Go.Proofs.YtkhpkgmckhlfcaaDoor
