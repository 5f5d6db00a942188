/- IdentRepeated: for every list of texts, the law 'Repeated returns the index of the reference' returns true, and its argument reads as before; the row's listed variables are tied to the program's text. No other condition. -/
import Derived.SliceStrings
import Derived.Test.YtkhpkgmckhlfcaaDoorLaw
import Derived.Test.YtkhpkgmckhlfcaaDoorCards
import Derived.Test.YtkhpkgmckhlfcaaDoorTie
import Derived.SevenTiedAt
namespace Go.Proofs.YtkhpkgmckhlfcaaDoor
open Go.ChangeShapes Go.WideShapes Go.ChangeAt Go.RowKit

set_option maxHeartbeats 2000000 in
set_option maxRecDepth 100000 in
theorem reps_walk (a : Option Addr) (n cap : Nat) (ss : List ByteArray) (hl : ss.length = n) (hsz : ∀ s ∈ ss, s.size ≤ maxLen) (w : World) (hv : TextsAt w (.slice a n cap) ss) (ht : Tabs w) :
    Calls Tryd.prog 6 #[.slice a n cap] w fun e w' => e = .returned (.bool true) ∧ Below w.heap.size w w' := by
  by_cases hbig : 300 < n
  · have f1 : decide ((300 : Int) < (n : Int)) = true := by rw [decide_eq_true_iff]; omega
    clear hv
    go_enter Tryd.func6, Tryd.ntmps6
    go_wp2_with (go_at_call 9; ((with_reducible refine (alive_any _ ht).mono ?_); rintro e w1 ⟨rfl, hb1⟩))
    go_ret
    exact ⟨rfl, hb1⟩
  · have f1 : decide ((300 : Int) < (n : Int)) = false := by rw [decide_eq_false_iff_not]; omega
    have hn : ss.length ≤ 1000 := by omega
    go_enter Tryd.func6, Tryd.ntmps6
    go_wp2_with (go_at_call 9; ((with_reducible refine (alive_any _ ht).mono ?_); rintro e w1 ⟨rfl, hb1⟩))
    have hv1 := hv.below hb1
    go_wp2_with (go_at_call 18; ((with_reducible refine (rep_any _ ss _ hn hv1 hsz).mono ?_); rintro e w2 ⟨rfl, hb2⟩))
    have hv2 := hv1.below hb2
    go_wp2_with (go_at_call 19; ((with_reducible refine (rrep_any _ ss _ hn hv2).mono ?_); rintro e w3 ⟨rfl, m, rfl⟩))
    go_ret
    exact ⟨rfl, below_drewN (bch hb1 hb2) m⟩

theorem cells9 : Tryd.prog.cellsOf 9 = 1 := by kernel_rfl

set_option maxRecDepth 100000 in
theorem reps_lifted (os : Os) (started : os.Started) (H : Type) (enc : TypeId × Value → H) :
    ReturnsInHanded {} Tryd.checked os 6 .any (fun w args => (Rows.identRepeatedSpec.pre enc Tryd.prog Tryd.f6 [] false w args ∧ laidMetH Tryd.prog laid4 w) ∧ sizedMet enc Tryd.prog Tryd.f6 (OpenSpec.ofChange Rows.identRepeatedSpec) false w args)
      (Rows.identRepeatedSpec.post enc Tryd.prog Tryd.f6 false true false false) := by
  refine returnsInHanded_of_change_and (C := Tryd.checked) (X := fun w _ => laidMetH Tryd.prog laid4 w) (fun _ _ _ hh h => h.of_heap hh) own started (by kernel_rfl) Tryd.func6
    (ChangeSpec.witness_shaped (enc := enc) (C := Tryd.checked) (os := os) (X := fun w _ => laidMetH Tryd.prog laid4 w) false (World.doorLaid Tryd.prog 4000 os) #[.slice none 0 0] 8 rfl (World.shaped_of_RefB (by kernel_rfl) (by kernel_rfl)) (by kernel_rfl) (by kernel_rfl) (by kernel_rfl) (door_met os _)) ?_
  intro W base args ds gs before hval0 hW _ _ hL _
  have hval : ∀ (j : Nat) t v, Tryd.f6.params[j]? = some t → args[j]? = some v → Value.okWide Tryd.prog W .any base t v := hval0
  have hW' := hW
  obtain ⟨p, q, hA0, hV, rfl, hfz, hnd⟩ := hW
  have hA : DataW.TrodAll enc Tryd.prog W 0 (fun _ => true) true Tryd.f6.params.toList args.toList ds p := hA0
  rw [Tryd.params6] at hA hval
  obtain ⟨v0, d0, rfl, rfl, h0⟩ := trodAll_one hA
  obtain ⟨rfl, rfl⟩ := trodVars_none hV
  obtain ⟨a0, len, cap, rfl⟩ := okWide_slice Tryd.underlying29 (hval 0 29 v0 rfl rfl)
  have h0k := h0
  obtain ⟨fuel, hf⟩ := h0
  clear hA0 hval0
  simp only [List.append_nil] at hW'
  have hlt : ∀ x ∈ p, x.block < W.heap.size := fun x hx => by simpa using hW'.lt x hx
  have hargs : ∀ (W' : World), Below W.heap.size W W' → DataW.Trod enc Tryd.prog W' 0 (fun b => decide (b < W.heap.size)) true 29 (.slice a0 len cap) d0 p :=
    fun W' hn => Below.trod laidOut (by kernel_rfl) (of_decide_eq_true (by kernel_rfl)) h0k hn hlt
  rcases open_strings Tryd.underlying29 Tryd.underlying9 cells9 hf with ⟨hcs, hx⟩ | ⟨a, len', cap', ss, hcs, _, hl, hm, hz, hx, hcell, hws⟩
  · simp [Value.cells] at hcs
    obtain ⟨rfl, rfl, rfl⟩ := hcs
    refine (reps_walk none 0 0 [] rfl (fun s hs => by cases hs) W (Or.inr ⟨rfl, none, 0, rfl⟩) (tabs_of hL)).mono fun e W' ⟨he, hg⟩ => ?_
    subst he
    exact ⟨_, rfl, law_post_at hW' rfl rfl Tryd.underlying4 rfl (trodAll_mk1 (hargs _ hg)) hg⟩
  · simp [Value.cells] at hcs
    obtain ⟨rfl, rfl, rfl⟩ := hcs
    simp only [Prod.mk.injEq] at hx
    obtain ⟨hd, hp⟩ := hx
    simp only [if_true] at hz
    have hll : (ss.take len).length = len := by rw [List.length_take]; omega
    have hV1 : TextsAt W (.slice (some a) len cap) (ss.take len) := by
      by_cases hl0 : len = 0
      · exact Or.inr ⟨List.eq_nil_of_length_eq_zero (by omega), some a, cap, by rw [hl0]⟩
      · obtain ⟨b, off, spot⟩ := a
        have hspot : spot = none := by simpa [Addr.add] using World.cell?_spot (hcell 0 (by omega))
        subst hspot
        have hbW : b < W.heap.size := hlt (.cell b off) (by rw [hp]; exact MemPlace.mem_row.2 ⟨0, by omega, by simp⟩)
        exact Or.inl ⟨b, off, cap, by rw [hll], hbW, fun j hj => by
          rw [hll] at hj
          have e : (ss.take len).getD j ByteArray.empty = ss.getD j ByteArray.empty := by simp [List.getD, hj]
          rw [e, ← add_plain]
          exact hcell j (by omega)⟩
    refine (reps_walk (some a) len cap (ss.take len) hll (fun s hs => hws s (List.mem_of_mem_take hs)) W hV1 (tabs_of hL)).mono fun e W' ⟨he, hg⟩ => ?_
    subst he
    exact ⟨_, rfl, law_post_at hW' rfl rfl Tryd.underlying4 rfl (trodAll_mk1 (hargs _ hg)) hg⟩

theorem reps_said : Rows.IdentRepeatedSaid :=
  OpenClaim.holds_of_wide 6 Tryd.f6 rfl rfl rfl rfl rfl rfl rfl ⟨rfl, rfl, rfl, rfl, rfl⟩ rfl rfl rfl rfl rfl (by kernel_rfl) Tryd.func6 (by kernel_rfl)
    (of_decide_eq_true (by kernel_rfl)) (by unfold Func.isWrapper; first | (rw [if_pos (by decide +kernel)]; kernel_rfl) | (rw [if_neg (by decide +kernel)]; exact ⟨rfl, rfl⟩))
    (fun os started H enc _ => reps_lifted os started H enc)

/-- The card: the row's listed variables are tied to the program's text. -/
theorem reps_card : Rows.IdentRepeatedCardSaid :=
  Claim7.holds_tied_plain_at .later [] [.data, .data, .data, .data] true (true, "102f28e580703f50a6d860e014890d5bce379d68c1190104418c6b987d1903a3") false
    reps_said (fun _ h => by cases h) (by kernel_rfl) (fun _ h => by cases h) identRepeated_row_tie rfl ⟨rfl, rfl⟩ (by kernel_rfl) rfl
    (fun f fn hf hfn => by
      obtain rfl : f = 6 := Option.some.inj ((show Tryd.prog.funcNamed "slotcode/slotcodelaw02.IdentRepeated" = some 6 by kernel_rfl).symm.trans hf) |>.symm
      obtain rfl : fn = Tryd.f6 := (Option.some.inj (Tryd.func6.symm.trans hfn)).symm
      exact ⟨by kernel_rfl, fun j t ht => by
        rw [Tryd.params6] at ht
        have hm : t ∈ [29] := by simpa using Array.mem_of_getElem? ht
        have hall : ([29].all fun u => !Tryd.prog.wantsStandIn u) = true := by kernel_rfl
        exact (show Tryd.prog.wantsStandIn t = false by simpa using List.all_eq_true.1 hall t hm)⟩)
    (by kernel_rfl)
#print axioms reps_card
end Go.Proofs.YtkhpkgmckhlfcaaDoor
