/- InsnSlots: for every instruction, the law 'Slots and Writes return the results of the reference' returns true, and its arguments read as before; the row's listed variable is tied to the program's text. No other condition. -/
import Derived.Test.YtgmlpahnjgfamaaDoorLaw
import Derived.Test.YtgmlpahnjgfamaaDoorCards
import Derived.Test.YtgmlpahnjgfamaaDoorTie
import Derived.SevenTiedAt
namespace Go.Proofs.YtgmlpahnjgfamaaDoor
open Go.ChangeShapes Go.WideShapes Go.ChangeAt Go.RowKit

open L3 L1

/-- What the region keeps: what was there, and the instruction's six cells. -/
theorem keepD {B w : World} {g : Nat} {v0 v1 v2 v3 v4 v5 : Value} (hB : Below B.heap.size B w) (h0 : w.cell? ⟨g, 0, none⟩ = some v0) (h1 : w.cell? ⟨g, 1, none⟩ = some v1) (h2 : w.cell? ⟨g, 2, none⟩ = some v2) (h3 : w.cell? ⟨g, 3, none⟩ = some v3) (h4 : w.cell? ⟨g, 4, none⟩ = some v4) (h5 : w.cell? ⟨g, 5, none⟩ = some v5) :
    Below B.heap.size B w.drew ∧ w.drew.cell? ⟨g, 0, none⟩ = some v0 ∧ w.drew.cell? ⟨g, 1, none⟩ = some v1 ∧ w.drew.cell? ⟨g, 2, none⟩ = some v2 ∧ w.drew.cell? ⟨g, 3, none⟩ = some v3 ∧ w.drew.cell? ⟨g, 4, none⟩ = some v4 ∧ w.drew.cell? ⟨g, 5, none⟩ = some v5 :=
  ⟨below_drewN hB 1, h0, h1, h2, h3, h4, h5⟩
theorem keepB {B w w' : World} {g : Nat} {v0 v1 v2 v3 v4 v5 : Value} (hb : Below w.heap.size w w') (h : Below B.heap.size B w ∧ w.cell? ⟨g, 0, none⟩ = some v0 ∧ w.cell? ⟨g, 1, none⟩ = some v1 ∧ w.cell? ⟨g, 2, none⟩ = some v2 ∧ w.cell? ⟨g, 3, none⟩ = some v3 ∧ w.cell? ⟨g, 4, none⟩ = some v4 ∧ w.cell? ⟨g, 5, none⟩ = some v5) :
    Below B.heap.size B w' ∧ w'.cell? ⟨g, 0, none⟩ = some v0 ∧ w'.cell? ⟨g, 1, none⟩ = some v1 ∧ w'.cell? ⟨g, 2, none⟩ = some v2 ∧ w'.cell? ⟨g, 3, none⟩ = some v3 ∧ w'.cell? ⟨g, 4, none⟩ = some v4 ∧ w'.cell? ⟨g, 5, none⟩ = some v5 := by
  obtain ⟨hB, h0, h1, h2, h3, h4, h5⟩ := h
  have hlt : g < w.heap.size := World.block_lt_of_cell? w _ h0
  exact ⟨bch hB hb, (hb.cell hlt).trans h0, (hb.cell hlt).trans h1, (hb.cell hlt).trans h2, (hb.cell hlt).trans h3, (hb.cell hlt).trans h4, (hb.cell hlt).trans h5⟩

set_option maxHeartbeats 4000000 in
set_option maxRecDepth 100000 in
theorem slots_walk (op : Int) (reg : Bool) (dst src off imm : Int) (_ : (Lit.int .i64 imm).wf = true) (w : World) (hw : Wid w) :
    Calls Tryd.prog 5 #[.agg #[.int .i64 op, .bool reg, .int .i64 dst, .int .i64 src, .int .i64 off, .int .i64 imm]] w fun e w' => e = .returned (.bool true) ∧ Below w.heap.size w w' := by
  have hx0 : (w.alloc (.cells #[.int .i64 op, .bool reg, .int .i64 dst, .int .i64 src, .int .i64 off, .int .i64 imm] 29)).heap[w.heap.size]? = some (.cells #[.int .i64 op, .bool reg, .int .i64 dst, .int .i64 src, .int .i64 off, .int .i64 imm] 29) := heap_alloc_last w _
  have hT0 := Lib.hid (wid_below hw (bnew w (.cells #[.int .i64 op, .bool reg, .int .i64 dst, .int .i64 src, .int .i64 off, .int .i64 imm] 29)))
  clear hw
  obtain ⟨f, hf⟩ : ∃ f, frm (ix op) = f := ⟨_, rfl⟩
  obtain ⟨s, hs⟩ : ∃ s, slo f = s := ⟨_, rfl⟩
  obtain ⟨r, hr⟩ : ∃ r, wri f dst = r := ⟨_, rfl⟩
  have HF := Lib.hid hf
  have HS := Lib.hid hs
  have HR := Lib.hid hr
  clear hf hs hr
  obtain ⟨x0, x1, x2, x3, x4, x5⟩ := cells6 hx0
  go_enter Tryd.func5, Tryd.ntmps5
  go_wp2
  have hb0 : Below w.heap.size w (w.alloc (.cells #[.int .i64 op, .bool reg, .int .i64 dst, .int .i64 src, .int .i64 off, .int .i64 imm] 29)) := bnew w _
  have hA := Lib.hid (fun (w1 : World) (hb : Below (w.alloc (.cells #[.int .i64 op, .bool reg, .int .i64 dst, .int .i64 src, .int .i64 off, .int .i64 imm] 29)).heap.size (w.alloc (.cells #[.int .i64 op, .bool reg, .int .i64 dst, .int .i64 src, .int .i64 off, .int .i64 imm] 29)) w1) => alive_any w1 (wid_below hT0.out hb))
  clear hT0 hx0
  generalize (w.alloc (.cells #[.int .i64 op, .bool reg, .int .i64 dst, .int .i64 src, .int .i64 off, .int .i64 imm] 29)) = W at x0 x1 x2 x3 x4 x5 hb0 hA ⊢
  obtain ⟨g, hg⟩ : ∃ g, g = w.heap.size := ⟨_, rfl⟩
  rw [← hg] at x0 x1 x2 x3 x4 x5 ⊢
  have hbW : Below W.heap.size W W := Below.refl _ _
  clear hg
  go_region_held3 (fun w' => Below W.heap.size W w' ∧ w'.cell? ⟨g, 0, none⟩ = some (.int .i64 op) ∧ w'.cell? ⟨g, 1, none⟩ = some (.bool reg) ∧ w'.cell? ⟨g, 2, none⟩ = some (.int .i64 dst) ∧ w'.cell? ⟨g, 3, none⟩ = some (.int .i64 src) ∧ w'.cell? ⟨g, 4, none⟩ = some (.int .i64 off) ∧ w'.cell? ⟨g, 5, none⟩ = some (.int .i64 imm))
    (first | exact keepD hbW x0 x1 x2 x3 x4 x5 | exact keepB hb9 (by assumption) | assumption)
    (first | (go_at_call 10; ((with_reducible refine (hA.out _ (And.left (by assumption))).mono ?_); rintro e w9 ⟨rfl, hb9⟩)) | (go_at_call 17; ((with_reducible refine (slots_at op f s _ HF.out HS.out).mono ?_); rintro e w9 ⟨rfl, hb9⟩)) | (go_at_call 18; ((with_reducible refine (rslots_at op f s _ HF.out HS.out).mono ?_); rintro e w9 ⟨rfl, rfl⟩)) | (go_at_call 19; ((with_reducible refine (writes_at op reg dst src off imm f r _ HF.out HR.out).mono ?_); rintro e w9 ⟨rfl, hb9⟩)) | (go_at_call 20; ((with_reducible refine (rwrites_at op reg dst src off imm f r _ HF.out HR.out).mono ?_); rintro e w9 ⟨rfl, hb9⟩)))
  all_goals
    rename_i hh
    have hbf := bch hb0 hh.1
    go_wp2
    go_ret
    exact ⟨rfl, hbf⟩

set_option maxRecDepth 100000 in
theorem slots_lifted (os : Os) (started : os.Started) (H : Type) (enc : TypeId × Value → H) :
    ReturnsInHanded {} Tryd.checked os 5 .any (fun w args => (Rows.insnSlotsSpec.pre enc Tryd.prog Tryd.f5 [] false w args ∧ laidMetH Tryd.prog laid4 w) ∧ sizedMet enc Tryd.prog Tryd.f5 (OpenSpec.ofChange Rows.insnSlotsSpec) false w args)
      (Rows.insnSlotsSpec.post enc Tryd.prog Tryd.f5 false true false false) := by
  refine returnsInHanded_of_change_and (C := Tryd.checked) (X := fun w _ => laidMetH Tryd.prog laid4 w) (fun _ _ _ hh h => h.of_heap hh) own started (by kernel_rfl) Tryd.func5
    (ChangeSpec.witness_shaped (enc := enc) (C := Tryd.checked) (os := os) (X := fun w _ => laidMetH Tryd.prog laid4 w) false (World.doorLaid Tryd.prog 4000 os) #[.agg #[.int .i64 0, .bool false, .int .i64 0, .int .i64 0, .int .i64 0, .int .i64 0]] 8 rfl (World.shaped_of_RefB (by kernel_rfl) (by kernel_rfl)) (by kernel_rfl) (by kernel_rfl) (by kernel_rfl) (door_met os _)) ?_
  intro W base args ds gs before hval0 hW _ _ hL _
  have hval : ∀ (j : Nat) t v, Tryd.f5.params[j]? = some t → args[j]? = some v → Value.okWide Tryd.prog W .any base t v := hval0
  have hW' := hW
  obtain ⟨p, q, hA0, hV, rfl, hfz, hnd⟩ := hW
  have hA : DataW.TrodAll enc Tryd.prog W 0 (fun _ => true) true Tryd.f5.params.toList args.toList ds p := hA0
  rw [Tryd.params5] at hA hval
  obtain ⟨v0, vs0, d0, ds0, p0, q0, hargs, rfl, rfl, h0, r0⟩ := trodAll_cons hA
  obtain ⟨rfl, rfl, rfl⟩ := trodAll_nil r0
  obtain rfl : args = #[v0] := by cases args; simp_all
  obtain ⟨rfl, rfl⟩ := trodVars_none hV
  obtain ⟨op, reg, dst, src, off, imm, rfl, rfl, rfl, k0, k2, k3, k4, k5⟩ := open_ins (hval 0 29 v0 rfl rfl) h0
  clear hA0 hval0
  simp only [List.append_nil] at hW'
  refine (slots_walk op reg dst src off imm k5 W (tabs_of hL)).mono fun e W' ⟨he, hg⟩ => ?_
  subst he
  exact ⟨_, rfl, law_post hW' rfl rfl Tryd.underlying4 rfl (fun sp _ => (trodAll_cons_mk (shut_ins k0 k2 k3 k4 k5) trodAll_mk0)) hg⟩

theorem slots_said : Rows.InsnSlotsSaid :=
  OpenClaim.holds_of_wide 5 Tryd.f5 rfl rfl rfl rfl rfl rfl rfl ⟨rfl, rfl, rfl, rfl, rfl⟩ rfl rfl rfl rfl rfl (by kernel_rfl) Tryd.func5 (by kernel_rfl)
    (of_decide_eq_true (by kernel_rfl)) (by unfold Func.isWrapper; first | (rw [if_pos (by decide +kernel)]; kernel_rfl) | (rw [if_neg (by decide +kernel)]; exact ⟨rfl, rfl⟩))
    (fun os started H enc _ => slots_lifted os started H enc)

/-- The card: the row's listed variables are tied to the program's text. -/
theorem slots_card : Rows.InsnSlotsCardSaid :=
  Claim7.holds_tied_plain_at .later [] [.data] true (true, "b08d110b0b5bc7c2f0445ceb3778c24914d474e45514bf8d7beb638b62b76804") false
    slots_said (fun _ h => by cases h) (by kernel_rfl) (fun _ h => by cases h) insnSlots_row_tie rfl ⟨rfl, rfl⟩ (by kernel_rfl) rfl
    (fun f fn hf hfn => by
      obtain rfl : f = 5 := Option.some.inj ((show Tryd.prog.funcNamed "slotcode/slotcodelaw04.InsnSlots" = some 5 by kernel_rfl).symm.trans hf) |>.symm
      obtain rfl : fn = Tryd.f5 := (Option.some.inj (Tryd.func5.symm.trans hfn)).symm
      exact ⟨by kernel_rfl, fun j t ht => by
        rw [Tryd.params5] at ht
        have hm : t ∈ [29] := by simpa using Array.mem_of_getElem? ht
        have hall : ([29].all fun u => !Tryd.prog.wantsStandIn u) = true := by kernel_rfl
        exact (show Tryd.prog.wantsStandIn t = false by simpa using List.all_eq_true.1 hall t hm)⟩)
    (by kernel_rfl)
#print axioms slots_card
end Go.Proofs.YtgmlpahnjgfamaaDoor
