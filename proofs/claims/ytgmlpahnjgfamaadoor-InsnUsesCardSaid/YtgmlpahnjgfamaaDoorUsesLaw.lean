/- InsnUses: for every number and kind of operand, the law 'Uses returns the fields of the reference' returns true, and its arguments read as before; the row's listed variable is tied to the program's text. No other condition. -/
import Derived.Test.YtgmlpahnjgfamaaDoorLaw
import Derived.Test.YtgmlpahnjgfamaaDoorCards
import Derived.Test.YtgmlpahnjgfamaaDoorTie
import Derived.SevenTiedAt
namespace Go.Proofs.YtgmlpahnjgfamaaDoor
open Go.ChangeShapes Go.WideShapes Go.ChangeAt Go.RowKit

open L3 L1

/-- What the region keeps: what was there, and the cells that it reads. -/
theorem keep4D {B w : World} {g : Nat} {v0 v1 v2 v3 : Value} (hB : Below B.heap.size B w) (h0 : w.cell? ⟨g, 0, none⟩ = some v0) (h1 : w.cell? ⟨g, 1, none⟩ = some v1) (h2 : w.cell? ⟨g, 2, none⟩ = some v2) (h3 : w.cell? ⟨g, 3, none⟩ = some v3) :
    Below B.heap.size B w.drew ∧ w.drew.cell? ⟨g, 0, none⟩ = some v0 ∧ w.drew.cell? ⟨g, 1, none⟩ = some v1 ∧ w.drew.cell? ⟨g, 2, none⟩ = some v2 ∧ w.drew.cell? ⟨g, 3, none⟩ = some v3 :=
  ⟨below_drewN hB 1, h0, h1, h2, h3⟩
theorem keep4B {B w w' : World} {g : Nat} {v0 v1 v2 v3 : Value} (hb : Below w.heap.size w w') (h : Below B.heap.size B w ∧ w.cell? ⟨g, 0, none⟩ = some v0 ∧ w.cell? ⟨g, 1, none⟩ = some v1 ∧ w.cell? ⟨g, 2, none⟩ = some v2 ∧ w.cell? ⟨g, 3, none⟩ = some v3) :
    Below B.heap.size B w' ∧ w'.cell? ⟨g, 0, none⟩ = some v0 ∧ w'.cell? ⟨g, 1, none⟩ = some v1 ∧ w'.cell? ⟨g, 2, none⟩ = some v2 ∧ w'.cell? ⟨g, 3, none⟩ = some v3 := by
  obtain ⟨hB, h0, h1, h2, h3⟩ := h
  have hlt : g < w.heap.size := World.block_lt_of_cell? w _ h0
  exact ⟨bch hB hb, (hb.cell hlt).trans h0, (hb.cell hlt).trans h1, (hb.cell hlt).trans h2, (hb.cell hlt).trans h3⟩

set_option maxHeartbeats 4000000 in
set_option maxRecDepth 100000 in
theorem useslaw_walk (op : Int) (_ : (Lit.int .i64 op).wf = true) (reg : Bool) (w : World) (hw : Wid w) :
    Calls Tryd.prog 3 #[.int .i64 op, .bool reg] w fun e w' => e = .returned (.bool true) ∧ Below w.heap.size w w' := by
  obtain ⟨f, hf⟩ : ∃ f, frm (ix op) = f := ⟨_, rfl⟩
  obtain ⟨vD, hD⟩ : ∃ v, uD f = v := ⟨_, rfl⟩
  obtain ⟨vS, hS⟩ : ∃ v, uS f reg = v := ⟨_, rfl⟩
  obtain ⟨vO, hO⟩ : ∃ v, uO f = v := ⟨_, rfl⟩
  obtain ⟨vI, hI⟩ : ∃ v, uI f reg = v := ⟨_, rfl⟩
  have HF := Lib.hid hf
  have HD := Lib.hid hD
  have HS := Lib.hid hS
  have HO := Lib.hid hO
  have HI := Lib.hid hI
  have HW := Lib.hid hw
  clear hf hD hS hO hI hw
  go_enter Tryd.func3, Tryd.ntmps3
  go_wp2_with (first | (go_at_call 9; ((with_reducible refine (uses_is op f reg vD vS vO vI _ HF.out HD.out HS.out HO.out HI.out).mono ?_); rintro e w1 ⟨rfl, hb1⟩)))
  have hx0 : (w1.alloc (.cells #[.bool vD, .bool vS, .bool vO, .bool vI] 23)).heap[w1.heap.size]? = some (.cells #[.bool vD, .bool vS, .bool vO, .bool vI] 23) := heap_alloc_last w1 _
  obtain ⟨x0, x1, x2, x3, -⟩ := cells4 hx0
  have hb0 : Below w.heap.size w (w1.alloc (.cells #[.bool vD, .bool vS, .bool vO, .bool vI] 23)) := bch hb1 (bnew w1 _)
  have hA := Lib.hid (fun (w2 : World) (hb : Below (w1.alloc (.cells #[.bool vD, .bool vS, .bool vO, .bool vI] 23)).heap.size (w1.alloc (.cells #[.bool vD, .bool vS, .bool vO, .bool vI] 23)) w2) => alive_any w2 (wid_below HW.out (bch hb0 hb)))
  clear HW hx0
  generalize (w1.alloc (.cells #[.bool vD, .bool vS, .bool vO, .bool vI] 23)) = W at x0 x1 x2 x3 hb0 hA ⊢
  generalize w1.heap.size = g at x0 x1 x2 x3 hb1 ⊢
  clear hb1
  have hbW : Below W.heap.size W W := Below.refl _ _
  go_region_held3 (fun w' => Below W.heap.size W w' ∧ w'.cell? ⟨g, 0, none⟩ = some (.bool vD) ∧ w'.cell? ⟨g, 1, none⟩ = some (.bool vS) ∧ w'.cell? ⟨g, 2, none⟩ = some (.bool vO) ∧ w'.cell? ⟨g, 3, none⟩ = some (.bool vI))
    (first | exact keep4D hbW x0 x1 x2 x3 | exact keep4B hb9 (by assumption) | assumption)
    (first | (go_at_call 10; ((with_reducible refine (hA.out _ (And.left (by assumption))).mono ?_); rintro e w9 ⟨rfl, hb9⟩)) | (go_at_call 11; ((with_reducible refine (rdst_at op f vD _ HF.out HD.out).mono ?_); rintro e w9 ⟨rfl, hb9⟩)) | (go_at_call 12; ((with_reducible refine (rsrc_at op f reg vS _ HF.out HS.out).mono ?_); rintro e w9 ⟨rfl, hb9⟩)) | (go_at_call 13; ((with_reducible refine (roff_at op f vO _ HF.out HO.out).mono ?_); rintro e w9 ⟨rfl, hb9⟩)) | (go_at_call 14; ((with_reducible refine (rimm_at op f reg vI _ HF.out HI.out).mono ?_); rintro e w9 ⟨rfl, hb9⟩)))
  all_goals
    rename_i hh
    have hbf := bch hb0 hh.1
    go_wp2
    go_ret
    exact ⟨rfl, hbf⟩

set_option maxRecDepth 100000 in
theorem useslaw_lifted (os : Os) (started : os.Started) (H : Type) (enc : TypeId × Value → H) :
    ReturnsInHanded {} Tryd.checked os 3 .any (fun w args => (Rows.insnUsesSpec.pre enc Tryd.prog Tryd.f3 [] false w args ∧ laidMetH Tryd.prog laid4 w) ∧ sizedMet enc Tryd.prog Tryd.f3 (OpenSpec.ofChange Rows.insnUsesSpec) false w args)
      (Rows.insnUsesSpec.post enc Tryd.prog Tryd.f3 false true false false) := by
  refine returnsInHanded_of_change_and (C := Tryd.checked) (X := fun w _ => laidMetH Tryd.prog laid4 w) (fun _ _ _ hh h => h.of_heap hh) own started (by kernel_rfl) Tryd.func3
    (ChangeSpec.witness_shaped (enc := enc) (C := Tryd.checked) (os := os) (X := fun w _ => laidMetH Tryd.prog laid4 w) false (World.doorLaid Tryd.prog 4000 os) #[.int .i64 0, .bool false] 8 rfl (World.shaped_of_RefB (by kernel_rfl) (by kernel_rfl)) (by kernel_rfl) (by kernel_rfl) (by kernel_rfl) (door_met os _)) ?_
  intro W base args ds gs before hval0 hW _ _ hL _
  have hval : ∀ (j : Nat) t v, Tryd.f3.params[j]? = some t → args[j]? = some v → Value.okWide Tryd.prog W .any base t v := hval0
  have hW' := hW
  obtain ⟨p, q, hA0, hV, rfl, hfz, hnd⟩ := hW
  have hA : DataW.TrodAll enc Tryd.prog W 0 (fun _ => true) true Tryd.f3.params.toList args.toList ds p := hA0
  rw [Tryd.params3] at hA hval
  obtain ⟨v0, vs0, d0, ds0, p0, q0, hargs, rfl, rfl, h0, r0⟩ := trodAll_cons hA
  obtain ⟨v1, vs1, d1, ds1, p1, q1, rfl, rfl, rfl, h1, r1⟩ := trodAll_cons r0
  obtain ⟨rfl, rfl, rfl⟩ := trodAll_nil r1
  obtain rfl : args = #[v0, v1] := by cases args; simp_all
  obtain ⟨rfl, rfl⟩ := trodVars_none hV
  obtain ⟨a0, rfl, rfl, rfl, w0⟩ := open_int Tryd.underlying3 (hval 0 3 v0 rfl rfl) h0
  obtain ⟨a1, rfl, rfl, rfl⟩ := open_bool Tryd.underlying4 (hval 1 4 v1 rfl rfl) h1
  clear hA0 hval0
  simp only [List.append_nil] at hW'
  refine (useslaw_walk a0 w0 a1 W (tabs_of hL)).mono fun e W' ⟨he, hg⟩ => ?_
  subst he
  exact ⟨_, rfl, law_post hW' rfl rfl Tryd.underlying4 rfl (fun sp _ => (trodAll_cons_mk (shut_int Tryd.underlying3 w0) (trodAll_cons_mk (shut_bool Tryd.underlying4 a1) trodAll_mk0))) hg⟩

theorem useslaw_said : Rows.InsnUsesSaid :=
  OpenClaim.holds_of_wide 3 Tryd.f3 rfl rfl rfl rfl rfl rfl rfl ⟨rfl, rfl, rfl, rfl, rfl⟩ rfl rfl rfl rfl rfl (by kernel_rfl) Tryd.func3 (by kernel_rfl)
    (of_decide_eq_true (by kernel_rfl)) (by unfold Func.isWrapper; first | (rw [if_pos (by decide +kernel)]; kernel_rfl) | (rw [if_neg (by decide +kernel)]; exact ⟨rfl, rfl⟩))
    (fun os started H enc _ => useslaw_lifted os started H enc)

/-- The card: the row's listed variables are tied to the program's text. -/
theorem useslaw_card : Rows.InsnUsesCardSaid :=
  Claim7.holds_tied_plain_at .later [] [.data] true (true, "b08d110b0b5bc7c2f0445ceb3778c24914d474e45514bf8d7beb638b62b76804") false
    useslaw_said (fun _ h => by cases h) (by kernel_rfl) (fun _ h => by cases h) insnUses_row_tie rfl ⟨rfl, rfl⟩ (by kernel_rfl) rfl
    (fun f fn hf hfn => by
      obtain rfl : f = 3 := Option.some.inj ((show Tryd.prog.funcNamed "slotcode/slotcodelaw04.InsnUses" = some 3 by kernel_rfl).symm.trans hf) |>.symm
      obtain rfl : fn = Tryd.f3 := (Option.some.inj (Tryd.func3.symm.trans hfn)).symm
      exact ⟨by kernel_rfl, fun j t ht => by
        rw [Tryd.params3] at ht
        have hm : t ∈ [3, 4] := by simpa using Array.mem_of_getElem? ht
        have hall : ([3, 4].all fun u => !Tryd.prog.wantsStandIn u) = true := by kernel_rfl
        exact (show Tryd.prog.wantsStandIn t = false by simpa using List.all_eq_true.1 hall t hm)⟩)
    (by kernel_rfl)
#print axioms useslaw_card
end Go.Proofs.YtgmlpahnjgfamaaDoor
