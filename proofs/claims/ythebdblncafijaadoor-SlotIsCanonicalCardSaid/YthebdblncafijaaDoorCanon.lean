/- SlotIsCanonical: for all bytes, the law 'the instruction that bytes begin with is encoded to these bytes' returns true, and its argument reads as before; the row's listed variable is tied to the program's text. No other condition. -/
import Derived.Test.YthebdblncafijaaDoorLaw
import Derived.Test.YthebdblncafijaaDoorCards
import Derived.Test.YthebdblncafijaaDoorTie
import Derived.SevenTiedAt
namespace Go.Proofs.YthebdblncafijaaDoor
open Go.ChangeShapes Go.WideShapes Go.ChangeAt Go.RowKit

open L3 L1 L4

theorem eql_zero (w : World) : (binOp .eql 23 (.agg #[.int .i64 0, .bool false, .int .i64 0, .int .i64 0, .int .i64 0, .int .i64 0]) (.agg #[.int .i64 0, .bool false, .int .i64 0, .int .i64 0, .int .i64 0, .int .i64 0])).run Tryd.prog w = .ok (.bool true) w := by kernel_rfl
theorem decz_is (v : Value) (l : List UInt8) (er : Int) (w : World) (hw : Wid w) (hv : BsAt w v l) (hd : decF l = (.z, 0, er)) :
    Calls Tryd.prog 14 #[v] w fun e w' => e = .returned (.tuple #[.agg #[.int .i64 0, .bool false, .int .i64 0, .int .i64 0, .int .i64 0, .int .i64 0], .int .i64 0, .int .i64 er]) ∧ Below w.heap.size w w' := dec_is v l .z 0 er w hw hv hd

set_option maxHeartbeats 4000000 in
set_option maxRecDepth 100000 in
theorem canon_walk (v : Value) (l : List UInt8) (w : World) (hv : BsAt w v l) (hw : Wid w) : Calls Tryd.prog 6 #[v] w fun e w' => e = .returned (.bool true) ∧ Below w.heap.size w w' := by
  have HW := Lib.hid hw
  have HV := Lib.hid hv
  obtain ⟨ad, cap, rfl, hc1, hc2, hc3⟩ := hv
  clear hw
  by_cases he : (decF l).2.2 = 0
  · obtain ⟨s, hs, s1, s2, s8, herr, hfit, hby⟩ := dec_good l he
    obtain ⟨⟨x, sl, er⟩, hd⟩ : ∃ d, decF l = d := ⟨_, rfl⟩
    rw [hd] at he hs herr hfit hby
    obtain rfl : er = 0 := he
    obtain rfl : sl = (s : Int) := hs
    obtain ⟨k, o, rfl, hB⟩ : ∃ k o, ad = some ⟨k, o, none⟩ ∧ Bytes w k o l := by
      rcases hc3 with rfl | h
      · simp at s8; omega
      · exact h
    have hlen : (l.take (8 * s)).length = 8 * s := by rw [List.length_take]; omega
    have HD := Lib.hid (fun w hw hv => dec_is (.slice (some ⟨k, o, none⟩) l.length cap) l x s 0 w hw hv hd)
    have HE := Lib.hid (fun w hw => enc_is x _ _ w hw hfit herr hby hlen)
    have HS := Lib.hid (fun (W : World) (a : Value) (hb : Below w.heap.size w W) (ha : BsV W a (l.take (8 * s))) => same_at a (.slice (some ⟨k, o, none⟩) (8 * s) cap) (l.take (8 * s)) W (by omega) ha ⟨_, _, by rw [hlen], .inr ⟨k, o, rfl, (hB.take _).up hb⟩⟩)
    have hsl := sl_to k o l.length cap (8 * s) (by omega)
    have e1 : ((8 * s : Nat) : Int) = 8 * (s : Int) := by omega
    rw [e1] at hsl
    have hle : 8 * (s : Int) ≤ (l.length : Int) := by omega
    have hs0 : 0 ≤ (s : Int) := by omega
    have hs2 : (s : Int) ≤ 2 := by omega
    clear hd herr hfit hby hlen hB hc3 e1 s8
    go_enter Tryd.func6, Tryd.ntmps6
    go_upto_region 2 with (go_at_call 14; ((with_reducible refine (HD.out _ HW.out HV.out).mono ?_); rintro e w1 ⟨rfl, b1⟩))
    have B1 := bch b1 (bnew w1 (.cells x.cs 23))
    obtain ⟨x0, x1, x2, x3, x4, x5⟩ := cells6 (heap_alloc_last w1 (.cells x.cs 23))
    go_wp2_with (first | (go_at_call 9; ((with_reducible refine (HE.out _ (wid_below HW.out B1)).mono ?_); rintro e w2 ⟨k2, hk2, rfl, h2, b2⟩)) | (go_at_call 11; ((with_reducible refine (alive_any _ (wid_below HW.out (bch B1 b2))).mono ?_); rintro e w3 ⟨rfl, b3⟩)) | (go_at_call 12; ((with_reducible refine (HS.out _ _ (bch (bch B1 b2) b3) ((row_bytes (row_up h2 b3) (by rw [List.length_take]; omega) (by unfold maxLen; omega)).v)).mono ?_); rintro e w4 ⟨rfl, b4⟩)))
    go_ret
    exact ⟨rfl, bch (bch (bch B1 b2) b3) b4⟩
  · have hne : ((decF l).2.2 != 0) = true := by simpa using he
    have HD := Lib.hid (fun w hw hv => decz_is (.slice ad l.length cap) l _ w hw hv (dec_err l he))
    have hq := eql_zero
    generalize (decF l).2.2 = er at hne HD
    clear he hc3
    go_enter Tryd.func6, Tryd.ntmps6
    go_upto_region 2 with (go_at_call 14; ((with_reducible refine (HD.out _ HW.out HV.out).mono ?_); rintro e w1 ⟨rfl, b1⟩))
    have B1 := bch b1 (bnew w1 (.cells #[.int .i64 0, .bool false, .int .i64 0, .int .i64 0, .int .i64 0, .int .i64 0] 23))
    have hx := heap_alloc_last w1 (.cells #[.int .i64 0, .bool false, .int .i64 0, .int .i64 0, .int .i64 0, .int .i64 0] 23)
    go_wp2_with (go_at_call 11; ((with_reducible refine (alive_any _ (wid_below HW.out B1)).mono ?_); rintro e w3 ⟨rfl, b3⟩; obtain ⟨x0, x1, x2, x3, x4, x5⟩ := cells6 (row_up hx b3)))
    go_ret
    exact ⟨rfl, bch B1 b3⟩

set_option maxRecDepth 100000 in
theorem canon_lifted (os : Os) (started : os.Started) (H : Type) (enc : TypeId × Value → H) :
    ReturnsInHanded {} Tryd.checked os 6 .any (fun w args => (Rows.slotIsCanonicalSpec.pre enc Tryd.prog Tryd.f6 [] false w args ∧ laidMetH Tryd.prog laid4 w) ∧ sizedMet enc Tryd.prog Tryd.f6 (OpenSpec.ofChange Rows.slotIsCanonicalSpec) false w args)
      (Rows.slotIsCanonicalSpec.post enc Tryd.prog Tryd.f6 false true false false) := by
  refine returnsInHanded_of_change_and (C := Tryd.checked) (X := fun w _ => laidMetH Tryd.prog laid4 w) (fun _ _ _ hh h => h.of_heap hh) own started (by kernel_rfl) Tryd.func6
    (ChangeSpec.witness_shaped (enc := enc) (C := Tryd.checked) (os := os) (X := fun w _ => laidMetH Tryd.prog laid4 w) false (World.doorLaid Tryd.prog 4000 os) #[.slice none 0 0] 8 rfl (World.shaped_of_RefB (by kernel_rfl) (by kernel_rfl)) (by kernel_rfl) (by kernel_rfl) (by kernel_rfl) (door_met os _)) ?_
  intro W base args ds gs before hval0 hW _ _ hL _
  have hval : ∀ (j : Nat) t v, Tryd.f6.params[j]? = some t → args[j]? = some v → Value.okWide Tryd.prog W .any base t v := hval0
  have hW' := hW
  obtain ⟨p, q, hA0, hV, rfl, hfz, hnd⟩ := hW
  have hA : DataW.TrodAll enc Tryd.prog W 0 (fun _ => true) true Tryd.f6.params.toList args.toList ds p := hA0
  rw [Tryd.params6] at hA hval
  obtain ⟨v0, vs0, d0, ds0, p0, q0, hargs, rfl, rfl, h0, r0⟩ := trodAll_cons hA
  obtain ⟨rfl, rfl, rfl⟩ := trodAll_nil r0
  obtain rfl : args = #[v0] := by cases args; simp_all
  obtain ⟨rfl, rfl⟩ := trodVars_none hV
  clear hA0 hval0
  simp only [List.append_nil] at hW'
  obtain ⟨l0, hl0⟩ := open_bytes (hval 0 24 v0 rfl rfl) h0
  have hlt0 : ∀ x ∈ p0, x.block < W.heap.size := fun x hx => by simpa using hW'.lt x (by simp [hx])
  refine (canon_walk v0 l0 W hl0 (tabs_of hL)).mono fun e W' ⟨he, hg⟩ => ?_
  subst he
  exact ⟨_, rfl, law_post_at hW' rfl rfl Tryd.underlying4 rfl (trodAll_mk1 (Below.trod laidOut (by kernel_rfl) (of_decide_eq_true (by kernel_rfl)) h0 hg hlt0)) hg⟩

theorem canon_said : Rows.SlotIsCanonicalSaid :=
  OpenClaim.holds_of_wide 6 Tryd.f6 rfl rfl rfl rfl rfl rfl rfl ⟨rfl, rfl, rfl, rfl, rfl⟩ rfl rfl rfl rfl rfl (by kernel_rfl) Tryd.func6 (by kernel_rfl)
    (of_decide_eq_true (by kernel_rfl)) (by unfold Func.isWrapper; first | (rw [if_pos (by decide +kernel)]; kernel_rfl) | (rw [if_neg (by decide +kernel)]; exact ⟨rfl, rfl⟩))
    (fun os started H enc _ => canon_lifted os started H enc)

/-- The card: the row's listed variables are tied to the program's text. -/
theorem canon_card : Rows.SlotIsCanonicalCardSaid :=
  Claim7.holds_tied_plain_at .later [] [.data] true (true, "7370c7ef35dfd77f2708cd0bf30d598406eb0cdf23cc79e1c137fbfec0eccda5") false
    canon_said (fun _ h => by cases h) (by kernel_rfl) (fun _ h => by cases h) slotIsCanonical_row_tie rfl ⟨rfl, rfl⟩ (by kernel_rfl) rfl
    (fun f fn hf hfn => by
      obtain rfl : f = 6 := Option.some.inj ((show Tryd.prog.funcNamed "slotcode/slotcodelaw05.SlotIsCanonical" = some 6 by kernel_rfl).symm.trans hf) |>.symm
      obtain rfl : fn = Tryd.f6 := (Option.some.inj (Tryd.func6.symm.trans hfn)).symm
      exact ⟨by kernel_rfl, fun j t ht => by
        rw [Tryd.params6] at ht
        have hm : t ∈ [24] := by simpa using Array.mem_of_getElem? ht
        have hall : ([24].all fun u => !Tryd.prog.wantsStandIn u) = true := by kernel_rfl
        exact (show Tryd.prog.wantsStandIn t = false by simpa using List.all_eq_true.1 hall t hm)⟩)
    (by kernel_rfl)
#print axioms canon_card
end Go.Proofs.YthebdblncafijaaDoor
