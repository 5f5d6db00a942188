/- IdentWords: for every text, the law 'Word returns the number of the reference, and the rest begins with no word character' returns true, and its argument reads as before; the row's listed variables are tied to the program's text. No other condition. -/
import Derived.Test.YtkhpkgmckhlfcaaDoorFacts
import Derived.Test.YtkhpkgmckhlfcaaDoorLaw
import Derived.Test.YtkhpkgmckhlfcaaDoorCards
import Derived.Test.YtkhpkgmckhlfcaaDoorTie
import Derived.SevenTiedAt
namespace Go.Proofs.YtkhpkgmckhlfcaaDoor
open Go.ChangeShapes Go.WideShapes Go.ChangeAt Go.RowKit

set_option maxHeartbeats 2000000 in
set_option maxRecDepth 100000 in
theorem words_walk (s : ByteArray) (hs : s.size ≤ maxLen) (w : World) (ht : Tabs w) :
    Calls Tryd.prog 7 #[.string s] w fun e w' => e = .returned (.bool true) ∧ Below w.heap.size w w' := by
  obtain ⟨n, hn⟩ : ∃ n : Nat, n = wn s.data.toList := ⟨_, rfl⟩
  have hns : n ≤ s.size := by rw [hn, size_list]; exact wn_le _
  have HN : Hid ((wn s.data.toList : Int) = n) := Lib.hid (by rw [hn])
  have hs2 : s.size ≤ 9223372036854775807 := by unfold maxLen at hs; omega
  have H1 : Hid ((wn (s.extract n s.size).data.toList : Int) = 0) := Lib.hid (by
    have e : (s.extract n s.size).data.toList = s.data.toList.drop n := by
      rw [extract_list]
      rw [List.take_of_length_le (by rw [List.length_drop, ← size_list]; omega)]
    rw [e, hn, wn_drop]; rfl)
  have H2 : Hid ((wn (s.extract 0 n).data.toList : Int) = n) := Lib.hid (by
    have e : (s.extract 0 n).data.toList = s.data.toList.take n := by
      rw [extract_list, List.drop_zero, Nat.sub_zero]
    rw [e, hn, wn_take])
  clear hn hs
  go_enter Tryd.func7, Tryd.ntmps7
  go_wp2_with (first | (go_at_call 20; ((with_reducible refine (word_at s n _ HN.out).mono ?_); rintro e w1 ⟨rfl, hb1⟩)) | (go_at_call 21; ((with_reducible refine (rword_at s n _ hs2 HN.out).mono ?_); rintro e w' ⟨rfl, rfl⟩)))
  have ht1 := ht.below hb1
  go_wp2_with (go_at_call 9; ((with_reducible refine (alive_any _ ht1).mono ?_); rintro e w2 ⟨rfl, hb2⟩))
  go_wp2_with (go_at_call 20; ((with_reducible refine (word_at _ 0 _ H1.out).mono ?_); rintro e w3 ⟨rfl, hb3⟩))
  go_wp2_with (go_at_call 20; ((with_reducible refine (word_at _ n _ H2.out).mono ?_); rintro e w4 ⟨rfl, hb4⟩))
  go_ret
  exact ⟨rfl, bch (bch (bch hb1 hb2) hb3) hb4⟩

set_option maxRecDepth 100000 in
theorem words_lifted (os : Os) (started : os.Started) (H : Type) (enc : TypeId × Value → H) :
    ReturnsInHanded {} Tryd.checked os 7 .any (fun w args => (Rows.identWordsSpec.pre enc Tryd.prog Tryd.f7 [] false w args ∧ laidMetH Tryd.prog laid4 w) ∧ sizedMet enc Tryd.prog Tryd.f7 (OpenSpec.ofChange Rows.identWordsSpec) false w args)
      (Rows.identWordsSpec.post enc Tryd.prog Tryd.f7 false true false false) := by
  refine returnsInHanded_of_change_and (C := Tryd.checked) (X := fun w _ => laidMetH Tryd.prog laid4 w) (fun _ _ _ hh h => h.of_heap hh) own started (by kernel_rfl) Tryd.func7
    (ChangeSpec.witness_shaped (enc := enc) (C := Tryd.checked) (os := os) (X := fun w _ => laidMetH Tryd.prog laid4 w) false (World.doorLaid Tryd.prog 4000 os) #[.string ⟨#[]⟩] 8 rfl (World.shaped_of_RefB (by kernel_rfl) (by kernel_rfl)) (by kernel_rfl) (by kernel_rfl) (by kernel_rfl) (door_met os _)) ?_
  intro W base args ds gs before hval0 hW _ _ hL _
  have hval : ∀ (j : Nat) t v, Tryd.f7.params[j]? = some t → args[j]? = some v → Value.okWide Tryd.prog W .any base t v := hval0
  have hW' := hW
  obtain ⟨p, q, hA0, hV, rfl, hfz, hnd⟩ := hW
  have hA : DataW.TrodAll enc Tryd.prog W 0 (fun _ => true) true Tryd.f7.params.toList args.toList ds p := hA0
  rw [Tryd.params7] at hA hval
  obtain ⟨v0, vs0, d0, ds0, p0, q0, hargs, rfl, rfl, h0, r0⟩ := trodAll_cons hA
  obtain ⟨rfl, rfl, rfl⟩ := trodAll_nil r0
  obtain rfl : args = #[v0] := by cases args; simp_all
  obtain ⟨rfl, rfl⟩ := trodVars_none hV
  obtain ⟨a0, rfl, rfl, rfl, w0⟩ := Go.ChangeMaps.open_string Tryd.underlying9 (hval 0 9 v0 rfl rfl) h0
  clear hA0 hval0
  simp only [List.append_nil] at hW'
  refine (words_walk a0 w0 W (tabs_of hL)).mono fun e W' ⟨he, hg⟩ => ?_
  subst he
  exact ⟨_, rfl, law_post hW' rfl rfl Tryd.underlying4 rfl (fun sp _ => (trodAll_cons_mk (Go.ChangeMaps.shut_string Tryd.underlying9 w0) trodAll_mk0)) hg⟩

theorem words_said : Rows.IdentWordsSaid :=
  OpenClaim.holds_of_wide 7 Tryd.f7 rfl rfl rfl rfl rfl rfl rfl ⟨rfl, rfl, rfl, rfl, rfl⟩ rfl rfl rfl rfl rfl (by kernel_rfl) Tryd.func7 (by kernel_rfl)
    (of_decide_eq_true (by kernel_rfl)) (by unfold Func.isWrapper; first | (rw [if_pos (by decide +kernel)]; kernel_rfl) | (rw [if_neg (by decide +kernel)]; exact ⟨rfl, rfl⟩))
    (fun os started H enc _ => words_lifted os started H enc)

/-- The card: the row's listed variables are tied to the program's text. -/
theorem words_card : Rows.IdentWordsCardSaid :=
  Claim7.holds_tied_plain_at .later [] [.data, .data, .data, .data] true (true, "102f28e580703f50a6d860e014890d5bce379d68c1190104418c6b987d1903a3") false
    words_said (fun _ h => by cases h) (by kernel_rfl) (fun _ h => by cases h) identWords_row_tie rfl ⟨rfl, rfl⟩ (by kernel_rfl) rfl
    (fun f fn hf hfn => by
      obtain rfl : f = 7 := Option.some.inj ((show Tryd.prog.funcNamed "slotcode/slotcodelaw02.IdentWords" = some 7 by kernel_rfl).symm.trans hf) |>.symm
      obtain rfl : fn = Tryd.f7 := (Option.some.inj (Tryd.func7.symm.trans hfn)).symm
      exact ⟨by kernel_rfl, fun j t ht => by
        rw [Tryd.params7] at ht
        have hm : t ∈ [9] := by simpa using Array.mem_of_getElem? ht
        have hall : ([9].all fun u => !Tryd.prog.wantsStandIn u) = true := by kernel_rfl
        exact (show Tryd.prog.wantsStandIn t = false by simpa using List.all_eq_true.1 hall t hm)⟩)
    (by kernel_rfl)
#print axioms words_card
end Go.Proofs.YtkhpkgmckhlfcaaDoor
