/- PrintDefs: for every declaration, the law 'Def returns the text of the reference' returns true, and its arguments read as before. Condition: the listed variables read as the program's text lays them (tied by the card). -/
import Derived.Test.YtbneaihpnfkcdaaGreatDoorL11Ld
import Derived.Test.YtbneaihpnfkcdaaGreatDoorL11Law
import Derived.Test.YtbneaihpnfkcdaaGreatDoorCards
import Derived.Test.YtbneaihpnfkcdaaGreatDoorTie
import Derived.SevenTiedAt
namespace Go.Proofs.YtbneaihpnfkcdaaGreatDoor
open Go.ChangeShapes Go.WideShapes Go.ChangeAt Go.RowKit

theorem def11_walk (w : World) (g0 : L9.Df) (hf0 : L10.DfFit g0) (hT : L11.Tb w) : Calls Tryz.prog 3 #[.agg #[.string g0.nm, .int .i64 g0.key, .int .i64 g0.val, .int .i64 g0.ent]] w fun e w' => e = .returned (.bool true) ∧ Below w.heap.size w w' :=
  L11.defs_walk g0 w hT hf0
set_option maxRecDepth 100000 in
theorem def11_lifted (os : Os) (started : os.Started) (H : Type) (enc : TypeId × Value → H) :
    ReturnsInHanded {} Tryz.checked os 3 .any (fun w args => (Rows.printDefsSpec.pre enc Tryz.prog Tryz.f3 [] false w args ∧ laidMetH Tryz.prog laid5 w) ∧ sizedMet enc Tryz.prog Tryz.f3 (OpenSpec.ofChange Rows.printDefsSpec) false w args)
      (Rows.printDefsSpec.post enc Tryz.prog Tryz.f3 false true false false) := by
  refine returnsInHanded_of_change_and (C := Tryz.checked) (X := fun w _ => laidMetH Tryz.prog laid5 w) (fun _ _ _ hh h => h.of_heap hh) own started (by kernel_rfl) Tryz.func3
    (ChangeSpec.witness_shaped (enc := enc) (C := Tryz.checked) (os := os) (X := fun w _ => laidMetH Tryz.prog laid5 w) false (World.doorLaid Tryz.prog 4000 os) #[.agg #[.string ⟨#[]⟩, .int .i64 0, .int .i64 0, .int .i64 0]] 8 rfl (World.shaped_of_RefB (by kernel_rfl) (by kernel_rfl)) (by kernel_rfl) (by kernel_rfl) (by kernel_rfl) (door_met os _)) ?_
  intro W base args ds gs before hval0 hW _ _ hL _
  have hval : ∀ (j : Nat) t v, Tryz.f3.params[j]? = some t → args[j]? = some v → Value.okWide Tryz.prog W .any base t v := hval0
  have hW' := hW
  obtain ⟨p, q, hA0, hV, rfl, hfz, hnd⟩ := hW
  have hA : DataW.TrodAll enc Tryz.prog W 0 (fun _ => true) true Tryz.f3.params.toList args.toList ds p := hA0
  rw [Tryz.params3] at hA hval
  obtain ⟨v0, vs0, d0, ds0, p0, q0, hargs, rfl, rfl, h0, r0⟩ := trodAll_cons hA
  obtain ⟨rfl, rfl, rfl⟩ := trodAll_nil r0
  obtain rfl : args = #[v0] := by cases args; simp_all
  obtain ⟨rfl, rfl⟩ := trodVars_none hV
  have k0 := h0
  obtain ⟨g0, rfl, hf0⟩ := open_defv (hval 0 23 v0 rfl rfl) h0
  clear hA0 hval0
  simp only [List.append_nil] at hW'
  have l0 : ∀ x ∈ p0, x.block < W.heap.size := fun x hx => by simpa using hW'.lt x (by simp [hx])
  refine (def11_walk W g0 hf0 (tabs_of hL)).mono fun e W' ⟨he, hg⟩ => ?_
  subst he
  have hTA : DataW.TrodAll enc Tryz.prog W' 0 (fun b => decide (b < W.heap.size)) true [23] [.agg #[.string g0.nm, .int .i64 g0.key, .int .i64 g0.val, .int .i64 g0.ent]] [d0] (p0) := by
    simpa only [List.append_nil, List.nil_append] using (trodAll_cons_mk (Below.trod laidOut (by kernel_rfl) (of_decide_eq_true (by kernel_rfl)) k0 hg l0) trodAll_mk0)
  exact ⟨_, rfl, law_post_at hW' rfl rfl Tryz.underlying4 rfl hTA hg⟩
theorem def11_said : Rows.PrintDefsSaid :=
  OpenClaim.holds_of_wide 3 Tryz.f3 rfl rfl rfl rfl rfl rfl rfl ⟨rfl, rfl, rfl, rfl, rfl⟩ rfl rfl rfl rfl rfl (by kernel_rfl) Tryz.func3 (by kernel_rfl)
    (of_decide_eq_true (by kernel_rfl)) (by unfold Func.isWrapper; first | (rw [if_pos (by decide +kernel)]; kernel_rfl) | (rw [if_neg (by decide +kernel)]; exact ⟨rfl, rfl⟩))
    (fun os started H enc _ => def11_lifted os started H enc)

theorem def11_card : Rows.PrintDefsCardSaid :=
  Claim7.holds_tied_plain_at .later [] [.data, .data, .data, .data, .data] true (true, "1c252df4fc1a819881aa05bb5ac23bdf26c19284add693a81d22313ad5b5543f") true
    def11_said (fun _ h => by cases h) (by kernel_rfl) (fun _ h => by cases h) printDefs_row_tie rfl ⟨rfl, rfl⟩ (by kernel_rfl) rfl
    (fun f fn hf hfn => by
      obtain rfl : f = 3 := Option.some.inj ((show Tryz.prog.funcNamed "slotcode/slotcodelaw11.PrintDefs" = some 3 by kernel_rfl).symm.trans hf) |>.symm
      obtain rfl : fn = Tryz.f3 := (Option.some.inj (Tryz.func3.symm.trans hfn)).symm
      exact ⟨by kernel_rfl, fun j t ht => by
        rw [Tryz.params3] at ht
        have hm : t ∈ [23] := by simpa using Array.mem_of_getElem? ht
        have hall : ([23].all fun u => !Tryz.prog.wantsStandIn u) = true := by kernel_rfl
        exact (show Tryz.prog.wantsStandIn t = false by simpa using List.all_eq_true.1 hall t hm)⟩)
    (by kernel_rfl)
#print axioms def11_card
end Go.Proofs.YtbneaihpnfkcdaaGreatDoor
