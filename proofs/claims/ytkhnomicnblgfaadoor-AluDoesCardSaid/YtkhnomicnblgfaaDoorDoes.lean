/- AluDoes: for every instruction and values, the law 'Do returns the result of the reference' returns true, and its arguments read as before; the row's listed variable is tied to the program's text. No other condition. -/
import Derived.Test.YtkhnomicnblgfaaDoorAlive
import Derived.Test.YtkhnomicnblgfaaDoorLaw
import Derived.Test.YtkhnomicnblgfaaDoorCards
import Derived.Test.YtkhnomicnblgfaaDoorTie
import Derived.SevenTiedAt
namespace Go.Proofs.YtkhnomicnblgfaaDoor
open Go.ChangeShapes Go.WideShapes Go.ChangeAt Go.RowKit

open L3 L1

theorem cells8 {w : World} {k : Nat} {a b c d e f g h : Value} {t : TypeId} (hk : w.heap[k]? = some (.cells #[a, b, c, d, e, f, g, h] t)) :
    w.cell? ⟨k, 0, none⟩ = some a ∧ w.cell? ⟨k, 1, none⟩ = some b ∧ w.cell? ⟨k, 2, none⟩ = some c ∧ w.cell? ⟨k, 3, none⟩ = some d ∧ w.cell? ⟨k, 4, none⟩ = some e ∧ w.cell? ⟨k, 5, none⟩ = some f ∧ w.cell? ⟨k, 6, none⟩ = some g ∧ w.cell? ⟨k, 7, none⟩ = some h := by
  simp [World.cell?, hk]
set_option maxHeartbeats 4000000 in
set_option maxRecDepth 100000 in
theorem does_walk (op : Int) (reg : Bool) (dst src off imm a s : Int) (ha : 0 ≤ a ∧ a < 18446744073709551616) (hs : 0 ≤ s ∧ s < 18446744073709551616) (w : World) (hw : Wid w) :
    Calls Tryd.prog 3 #[.agg #[.int .i64 op, .bool reg, .int .i64 dst, .int .i64 src, .int .i64 off, .int .i64 imm, .int .u64 a, .int .u64 s]] w fun e w' => e = .returned (.bool true) ∧ Below w.heap.size w w' := by
  have HW := Lib.hid hw
  have hx := heap_alloc_last w (.cells #[.int .i64 op, .bool reg, .int .i64 dst, .int .i64 src, .int .i64 off, .int .i64 imm, .int .u64 a, .int .u64 s] 26)
  have b0 := bnew w (.cells #[.int .i64 op, .bool reg, .int .i64 dst, .int .i64 src, .int .i64 off, .int .i64 imm, .int .u64 a, .int .u64 s] 26)
  obtain ⟨x0, x1, x2, x3, x4, x5, x6, x7⟩ := cells8 hx
  obtain ⟨R, hR⟩ : ∃ R, doV op reg imm a s = R := ⟨_, rfl⟩
  obtain ⟨ok, hok⟩ : ∃ ok, doB op = ok := ⟨_, rfl⟩
  have HD := Lib.hid (fun w hw => do_any op reg dst src off imm a s R ok w hw ha.1 ha.2 hs.1 hs.2 hR hok)
  have HR := Lib.hid (fun w => rdo_any op reg dst src off imm a s R ok w ha.1 ha.2 hs.1 hs.2 hR hok)
  clear hw hR hok ha hs
  cases ok
  all_goals
    go_enter Tryd.func3, Tryd.ntmps3
    go_wp2_with (first | (go_at_call 9; ((with_reducible refine (HD.out _ (wid_below HW.out b0)).mono ?_); rintro e w1 ⟨rfl, b1⟩; have B1 := bch b0 b1; have hx1 := row_up hx b1; clear x0 x1 x2 x3 x4 x5 x6 x7; obtain ⟨x0, x1, x2, x3, x4, x5, x6, x7⟩ := cells8 hx1)) | (go_at_call 10; ((with_reducible refine (HR.out _).mono ?_); rintro e w2 ⟨rfl, b2⟩; have B2 := bch B1 b2)) | (go_at_call 11; ((with_reducible refine (alive_any _ (wid_below HW.out B2)).mono ?_); rintro e w3 ⟨rfl, b3⟩)))
    go_ret
    exact ⟨rfl, bch B2 b3⟩

set_option maxRecDepth 100000 in
theorem does_lifted (os : Os) (started : os.Started) (H : Type) (enc : TypeId × Value → H) :
    ReturnsInHanded {} Tryd.checked os 3 .any (fun w args => (Rows.aluDoesSpec.pre enc Tryd.prog Tryd.f3 [] false w args ∧ laidMetH Tryd.prog laid4 w) ∧ sizedMet enc Tryd.prog Tryd.f3 (OpenSpec.ofChange Rows.aluDoesSpec) false w args)
      (Rows.aluDoesSpec.post enc Tryd.prog Tryd.f3 false true false false) := by
  refine returnsInHanded_of_change_and (C := Tryd.checked) (X := fun w _ => laidMetH Tryd.prog laid4 w) (fun _ _ _ hh h => h.of_heap hh) own started (by kernel_rfl) Tryd.func3
    (ChangeSpec.witness_shaped (enc := enc) (C := Tryd.checked) (os := os) (X := fun w _ => laidMetH Tryd.prog laid4 w) false (World.doorLaid Tryd.prog 4000 os) #[.agg #[.int .i64 0, .bool false, .int .i64 0, .int .i64 0, .int .i64 0, .int .i64 0, .int .u64 0, .int .u64 0]] 8 rfl (World.shaped_of_RefB (by kernel_rfl) (by kernel_rfl)) (by kernel_rfl) (by kernel_rfl) (by kernel_rfl) (door_met os _)) ?_
  intro W base args ds gs before hval0 hW _ _ hL _
  have hval : ∀ (j : Nat) t v, Tryd.f3.params[j]? = some t → args[j]? = some v → Value.okWide Tryd.prog W .any base t v := hval0
  have hW' := hW
  obtain ⟨p, q, hA0, hV, rfl, hfz, hnd⟩ := hW
  have hA : DataW.TrodAll enc Tryd.prog W 0 (fun _ => true) true Tryd.f3.params.toList args.toList ds p := hA0
  rw [Tryd.params3] at hA hval
  obtain ⟨v0, vs0, d0, ds0, p0, q0, hargs, rfl, rfl, h0, r0⟩ := trodAll_cons hA
  obtain ⟨rfl, rfl, rfl⟩ := trodAll_nil r0
  obtain rfl : args = #[v0] := by cases args; simp_all
  obtain ⟨rfl, rfl⟩ := trodVars_none hV
  obtain ⟨op, reg, dst, src, off, imm, ca, cs, rfl, rfl, rfl, k0, k6, k7⟩ := open_case (hval 0 26 v0 rfl rfl) h0
  clear hA0 hval0
  simp only [List.append_nil] at hW'
  refine (does_walk op reg dst src off imm ca cs (bu64 k6) (bu64 k7) W (tabs_of hL)).mono fun e W' ⟨he, hg⟩ => ?_
  subst he
  exact ⟨_, rfl, law_post hW' rfl rfl Tryd.underlying4 rfl (fun sp _ => (trodAll_cons_mk (shut_case k0 k6 k7) trodAll_mk0)) hg⟩

theorem does_said : Rows.AluDoesSaid :=
  OpenClaim.holds_of_wide 3 Tryd.f3 rfl rfl rfl rfl rfl rfl rfl ⟨rfl, rfl, rfl, rfl, rfl⟩ rfl rfl rfl rfl rfl (by kernel_rfl) Tryd.func3 (by kernel_rfl)
    (of_decide_eq_true (by kernel_rfl)) (by unfold Func.isWrapper; first | (rw [if_pos (by decide +kernel)]; kernel_rfl) | (rw [if_neg (by decide +kernel)]; exact ⟨rfl, rfl⟩))
    (fun os started H enc _ => does_lifted os started H enc)

/-- The card: the row's listed variables are tied to the program's text. -/
theorem does_card : Rows.AluDoesCardSaid :=
  Claim7.holds_tied_plain_at .later [] [.data] true (true, "c4b0f213e8293d4ec68ba40c0ca6da894c6e3496a9363ffa585d4e111ac11d0f") false
    does_said (fun _ h => by cases h) (by kernel_rfl) (fun _ h => by cases h) aluDoes_row_tie rfl ⟨rfl, rfl⟩ (by kernel_rfl) rfl
    (fun f fn hf hfn => by
      obtain rfl : f = 3 := Option.some.inj ((show Tryd.prog.funcNamed "slotcode/slotcodelaw06.AluDoes" = some 3 by kernel_rfl).symm.trans hf) |>.symm
      obtain rfl : fn = Tryd.f3 := (Option.some.inj (Tryd.func3.symm.trans hfn)).symm
      exact ⟨by kernel_rfl, fun j t ht => by
        rw [Tryd.params3] at ht
        have hm : t ∈ [26] := by simpa using Array.mem_of_getElem? ht
        have hall : ([26].all fun u => !Tryd.prog.wantsStandIn u) = true := by kernel_rfl
        exact (show Tryd.prog.wantsStandIn t = false by simpa using List.all_eq_true.1 hall t hm)⟩)
    (by kernel_rfl)
#print axioms does_card
end Go.Proofs.YtkhnomicnblgfaaDoor
