/- NumUnhexes: for every text, the law 'Unhex returns the bytes of the reference, or ErrNumber' returns true, and its argument reads as before; the row's listed variables are tied to the program's text. No other condition. -/
import Derived.Test.YthkkdkccadomkaaDoorRunhex
import Derived.Test.YthkkdkccadomkaaDoorBytes
import Derived.Test.YthkkdkccadomkaaDoorLaw
import Derived.Test.YthkkdkccadomkaaDoorCards
import Derived.Test.YthkkdkccadomkaaDoorTie
import Derived.SevenTiedAt
namespace Go.Proofs.YthkkdkccadomkaaDoor
open Go.ChangeShapes Go.WideShapes Go.ChangeAt Go.RowKit

theorem runhex_none (s : ByteArray) (w : World) (hs : s.size ≤ 6000) (h : unh s.data.toList = none) :
    Calls Tryd.prog 18 #[.string s] w fun e w' => e = .returned (.tuple #[.slice none 0 0, .bool false]) ∧ Below w.heap.size w w' := by
  have := runhex_any s w hs
  rwa [h] at this
theorem runhex_some (s : ByteArray) (w : World) (xs : List UInt8) (hs : s.size ≤ 6000) (h : unh s.data.toList = some xs) :
    Calls Tryd.prog 18 #[.string s] w fun e w' => (∃ v, e = .returned (.tuple #[v, .bool true]) ∧ BytesAt w' v xs) ∧ Below w.heap.size w w' := by
  have := runhex_any s w hs
  rwa [h] at this

theorem unh_len (n : Nat) : ∀ l : List UInt8, l.length ≤ n → ∀ xs, unh l = some xs → xs.length ≤ l.length := by
  induction n with
  | zero =>
    intro l hl xs h
    obtain rfl : l = [] := List.eq_nil_of_length_eq_zero (by omega)
    simp only [unh, Option.some.injEq] at h
    subst h
    exact Nat.le_refl _
  | succ n ih =>
    intro l hl xs h
    match l, hl, h with
    | [], _, h =>
      simp only [unh, Option.some.injEq] at h
      subst h
      exact Nat.le_refl _
    | [a], _, h => simp [unh] at h
    | a :: b :: r, hl, h =>
      simp only [unh] at h
      split at h
      · cases h
      · obtain ⟨ys, hy, rfl⟩ := Option.map_eq_some_iff.1 h
        have := ih r (by simp at hl; omega) ys hy
        simp
        omega

set_option maxHeartbeats 2000000 in
set_option maxRecDepth 100000 in
theorem unhexes_walk (s : ByteArray) (_ : s.size ≤ maxLen) (w : World) (ht : Tabs w) :
    Calls Tryd.prog 6 #[.string s] w fun e w' => e = .returned (.bool true) ∧ Below w.heap.size w w' := by
  by_cases hl : 6000 < s.size
  · go_enter Tryd.func6, Tryd.ntmps6
    go_wp2_with (go_at_call 9; ((with_reducible refine (alive_any _ ht).mono ?_); rintro e w1 ⟨rfl, hb1⟩))
    go_ret
    exact ⟨rfl, hb1⟩
  · have hs : s.size ≤ 6000 := by omega
    cases hu : unh s.data.toList with
    | none =>
      have HU := Lib.hid hu
      clear hu
      go_enter Tryd.func6, Tryd.ntmps6
      go_wp2_with (first | (go_at_call 15; refine (unhex_none _ _ hs HU.out).mono ?_; rintro e w1 ⟨rfl, hb1⟩) | (go_at_call 18; refine (runhex_none _ _ hs HU.out).mono ?_; rintro e w2 ⟨rfl, hb2⟩))
      have ht2 := (ht.below hb1).below hb2
      go_wp2_with (go_at_call 9; ((with_reducible refine (alive_any _ ht2).mono ?_); rintro e w3 ⟨rfl, hb3⟩))
      go_ret
      exact ⟨rfl, bch (bch hb1 hb2) hb3⟩
    | some xs =>
      have hxl : xs.length ≤ 6000 := by
        have h1 := unh_len _ _ (Nat.le_refl _) xs hu
        rw [Array.length_toList] at h1
        exact Nat.le_trans h1 hs
      have HU := Lib.hid hu
      clear hu
      go_enter Tryd.func6, Tryd.ntmps6
      go_wp2_with (first | (go_at_call 15; refine (unhex_some _ _ xs hs HU.out).mono ?_; rintro e w1 ⟨⟨v1, rfl, hv1⟩, hb1⟩) | (go_at_call 18; refine (runhex_some _ _ xs hs HU.out).mono ?_; rintro e w2 ⟨⟨v2, rfl, hv2⟩, hb2⟩))
      have ht2 := (ht.below hb1).below hb2
      go_wp2_with (go_at_call 9; ((with_reducible refine (alive_any _ ht2).mono ?_); rintro e w3 ⟨rfl, hb3⟩))
      have hv1' := bytes_below (bytes_below hv1 hb2) hb3
      have hv2' := bytes_below hv2 hb3
      go_wp2_with (go_at_call 17; refine (same_any _ _ xs _ (by omega) hv1' hv2').mono ?_; rintro e w4 ⟨rfl, m, rfl⟩)
      go_ret
      exact ⟨rfl, below_drewN (bch (bch hb1 hb2) hb3) m⟩

set_option maxRecDepth 100000 in
theorem unhexes_lifted (os : Os) (started : os.Started) (H : Type) (enc : TypeId × Value → H) :
    ReturnsInHanded {} Tryd.checked os 6 .any (fun w args => (Rows.numUnhexesSpec.pre enc Tryd.prog Tryd.f6 [] false w args ∧ laidMetH Tryd.prog laid4 w) ∧ sizedMet enc Tryd.prog Tryd.f6 (OpenSpec.ofChange Rows.numUnhexesSpec) false w args)
      (Rows.numUnhexesSpec.post enc Tryd.prog Tryd.f6 false true false false) := by
  refine returnsInHanded_of_change_and (C := Tryd.checked) (X := fun w _ => laidMetH Tryd.prog laid4 w) (fun _ _ _ hh h => h.of_heap hh) own started (by kernel_rfl) Tryd.func6
    (ChangeSpec.witness_shaped (enc := enc) (C := Tryd.checked) (os := os) (X := fun w _ => laidMetH Tryd.prog laid4 w) false (World.doorLaid Tryd.prog 4000 os) #[.string ⟨#[]⟩] 8 rfl (World.shaped_of_RefB (by kernel_rfl) (by kernel_rfl)) (by kernel_rfl) (by kernel_rfl) (by kernel_rfl) (door_met os _)) ?_
  intro W base args ds gs before hval0 hW _ _ hL _
  have hval : ∀ (j : Nat) t v, Tryd.f6.params[j]? = some t → args[j]? = some v → Value.okWide Tryd.prog W .any base t v := hval0
  have hW' := hW
  obtain ⟨p, q, hA0, hV, rfl, hfz, hnd⟩ := hW
  have hA : DataW.TrodAll enc Tryd.prog W 0 (fun _ => true) true Tryd.f6.params.toList args.toList ds p := hA0
  rw [Tryd.params6] at hA hval
  obtain ⟨v0, vs0, d0, ds0, p0, q0, hargs, rfl, rfl, h0, r0⟩ := trodAll_cons hA
  obtain ⟨rfl, rfl, rfl⟩ := trodAll_nil r0
  obtain rfl : args = #[v0] := by cases args; simp_all
  obtain ⟨rfl, rfl⟩ := trodVars_none hV
  obtain ⟨a0, rfl, rfl, rfl, w0⟩ := Go.ChangeMaps.open_string Tryd.underlying9 (hval 0 9 v0 rfl rfl) h0
  clear hA0 hval0
  simp only [List.append_nil] at hW'
  refine (unhexes_walk a0 w0 W (tabs_of hL)).mono fun e W' ⟨he, hg⟩ => ?_
  subst he
  exact ⟨_, rfl, law_post hW' rfl rfl Tryd.underlying4 rfl (fun sp _ => (trodAll_cons_mk (Go.ChangeMaps.shut_string Tryd.underlying9 w0) trodAll_mk0)) hg⟩

theorem unhexes_said : Rows.NumUnhexesSaid :=
  OpenClaim.holds_of_wide 6 Tryd.f6 rfl rfl rfl rfl rfl rfl rfl ⟨rfl, rfl, rfl, rfl, rfl⟩ rfl rfl rfl rfl rfl (by kernel_rfl) Tryd.func6 (by kernel_rfl)
    (of_decide_eq_true (by kernel_rfl)) (by unfold Func.isWrapper; first | (rw [if_pos (by decide +kernel)]; kernel_rfl) | (rw [if_neg (by decide +kernel)]; exact ⟨rfl, rfl⟩))
    (fun os started H enc _ => unhexes_lifted os started H enc)

/-- The card: the row's listed variables are tied to the program's text. -/
theorem unhexes_card : Rows.NumUnhexesCardSaid :=
  Claim7.holds_tied_plain_at .later [] [.data, .data, .data, .data] true (true, "d95971b17b25aad7ef13338073ce59aea5934288314a033331a65b3218f77ede") false
    unhexes_said (fun _ h => by cases h) (by kernel_rfl) (fun _ h => by cases h) numUnhexes_row_tie rfl ⟨rfl, rfl⟩ (by kernel_rfl) rfl
    (fun f fn hf hfn => by
      obtain rfl : f = 6 := Option.some.inj ((show Tryd.prog.funcNamed "slotcode/slotcodelaw01.NumUnhexes" = some 6 by kernel_rfl).symm.trans hf) |>.symm
      obtain rfl : fn = Tryd.f6 := (Option.some.inj (Tryd.func6.symm.trans hfn)).symm
      exact ⟨by kernel_rfl, fun j t ht => by
        rw [Tryd.params6] at ht
        have hm : t ∈ [9] := by simpa using Array.mem_of_getElem? ht
        have hall : ([9].all fun u => !Tryd.prog.wantsStandIn u) = true := by kernel_rfl
        exact (show Tryd.prog.wantsStandIn t = false by simpa using List.all_eq_true.1 hall t hm)⟩)
    (by kernel_rfl)
#print axioms unhexes_card
end Go.Proofs.YthkkdkccadomkaaDoor
