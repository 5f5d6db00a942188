/- InsnZero: for every instruction and number, the law 'another value in a field that is not used makes a correct instruction incorrect' returns true, and its arguments read as before; the row's listed variable is tied to the program's text. No other condition. -/
import Derived.Test.YtgmlpahnjgfamaaDoorFacts
import Derived.Test.YtgmlpahnjgfamaaDoorLaw
import Derived.Test.YtgmlpahnjgfamaaDoorCards
import Derived.Test.YtgmlpahnjgfamaaDoorTie
import Derived.SevenTiedAt
namespace Go.Proofs.YtgmlpahnjgfamaaDoor
open Go.ChangeShapes Go.WideShapes Go.ChangeAt Go.RowKit

open L3 L1

/-- A correct instruction has a form. -/
theorem has_form {f : Int} {reg : Bool} {dst src off imm : Int} (h : rchF f reg dst src off imm = 0) : (f != -1) = true := by
  unfold rchF rchk at h
  by_cases hn : f < 0
  · rw [if_pos (by simpa using hn)] at h
    cases h
  · simp only [bne_iff_ne]
    omega
theorem first12 (b2 b3 b4 b5 b6 b7 : Bool) (h : (b2 && b3 && b4) = false) : firstBad [(true, 6), (b2, 12), (b3, 12), (b4, 12), (b5, 5), (b6, 4), (b7, 4)] = 12 := by
  cases b2 <;> cases b3 <;> cases b4 <;> first | rfl | cases h
theorem zero_D {f : Int} {reg : Bool} {n src off imm : Int} (hv : uD f = false) (hf : (f != -1) = true) (hn : (n == 0) = false) : chkF f reg n src off imm = 12 := by
  unfold chkF
  rw [hf, hv, hn]
  exact first12 _ _ _ _ _ _ (by simp)
theorem zero_S {f : Int} {reg : Bool} {dst n off imm : Int} (hv : uS f reg = false) (hf : (f != -1) = true) (hn : (n == 0) = false) : chkF f reg dst n off imm = 12 := by
  unfold chkF
  rw [hf, hv, hn]
  exact first12 _ _ _ _ _ _ (by simp)
theorem zero_O {f : Int} {reg : Bool} {dst src n imm : Int} (hv : uO f = false) (hf : (f != -1) = true) (hn : (n == 0) = false) : chkF f reg dst src n imm = 12 := by
  unfold chkF
  rw [hf, hv, hn]
  exact first12 _ _ _ _ _ _ (by simp)
theorem zero_I {f : Int} {reg : Bool} {dst src off n : Int} (hv : uI f reg = false) (hf : (f != -1) = true) (hn : (n == 0) = false) : chkF f reg dst src off n = 12 := by
  unfold chkF
  rw [hf, hv, hn]
  exact first12 _ _ _ _ _ _ (by simp)

theorem index_0 (a b c d : Bool) (w : World) : (Instr.index 35 (.agg #[.bool a, .bool b, .bool c, .bool d]) (.int .i64 0)).run Tryd.prog w = .ok (.bool a) w := by kernel_rfl
theorem index_1 (a b c d : Bool) (w : World) : (Instr.index 35 (.agg #[.bool a, .bool b, .bool c, .bool d]) (.int .i64 1)).run Tryd.prog w = .ok (.bool b) w := by kernel_rfl
theorem index_2 (a b c d : Bool) (w : World) : (Instr.index 35 (.agg #[.bool a, .bool b, .bool c, .bool d]) (.int .i64 2)).run Tryd.prog w = .ok (.bool c) w := by kernel_rfl
theorem index_3 (a b c d : Bool) (w : World) : (Instr.index 35 (.agg #[.bool a, .bool b, .bool c, .bool d]) (.int .i64 3)).run Tryd.prog w = .ok (.bool d) w := by kernel_rfl

set_option maxHeartbeats 8000000 in
set_option maxRecDepth 100000 in
theorem zero_walk (op : Int) (reg : Bool) (dst src off imm : Int) (_ : (Lit.int .i64 imm).wf = true) (n : Int) (hn : (Lit.int .i32 n).wf = true) (w : World) (hw : Wid w) :
    Calls Tryd.prog 7 #[.agg #[.int .i64 op, .bool reg, .int .i64 dst, .int .i64 src, .int .i64 off, .int .i64 imm], .int .i32 n] w fun e w' => e = .returned (.bool true) ∧ Below w.heap.size w w' := by
  have hx0 : (w.alloc (.cells #[.int .i64 op, .bool reg, .int .i64 dst, .int .i64 src, .int .i64 off, .int .i64 imm] 29)).heap[w.heap.size]? = some (.cells #[.int .i64 op, .bool reg, .int .i64 dst, .int .i64 src, .int .i64 off, .int .i64 imm] 29) := heap_alloc_last w _
  have hT0 := Lib.hid (wid_below hw (bnew w (.cells #[.int .i64 op, .bool reg, .int .i64 dst, .int .i64 src, .int .i64 off, .int .i64 imm] 29)))
  clear hw
  obtain ⟨f, hf⟩ : ∃ f, frm (ix op) = f := ⟨_, rfl⟩
  obtain ⟨R, hR⟩ : ∃ R, rchF f reg dst src off imm = R := ⟨_, rfl⟩
  obtain ⟨vD, hD⟩ : ∃ v, uD f = v := ⟨_, rfl⟩
  obtain ⟨vS, hS⟩ : ∃ v, uS f reg = v := ⟨_, rfl⟩
  obtain ⟨vO, hO⟩ : ∃ v, uO f = v := ⟨_, rfl⟩
  obtain ⟨vI, hI⟩ : ∃ v, uI f reg = v := ⟨_, rfl⟩
  have HF := Lib.hid hf
  have HR := Lib.hid hR
  have HD := Lib.hid hD
  have HS := Lib.hid hS
  have HO := Lib.hid hO
  have HI := Lib.hid hI
  clear hD hS hO hI hf
  cases e0 : (R != 0)
  · obtain rfl : R = 0 := by simpa using e0
    have HM := Lib.hid (has_form hR)
    have hwr : IntKind.i64.wrap n = n := by
      have := bounds_i32 hn
      rw [IntKind.wrap_i64]
      omega
    clear e0 hR hn
    cases en : (n == 0)
    · have HE := Lib.hid en
      go_enter Tryd.func7, Tryd.ntmps7
      go_wp2_with (first | (go_at_call 16; ((with_reducible refine (rcheck_is op reg dst src off imm f _ _ HF.out HR.out).mono ?_); rintro e w1 ⟨rfl, hb1⟩; have hx1 := (hb1.block _ (lt_of_block hx0)).trans hx0; have hT1 := Lib.hid (wid_below hT0.out hb1); obtain ⟨x0, x1, x2, x3, x4, x5⟩ := cells6 hx1)) | (go_at_call 9; ((with_reducible refine (uses_is op f reg vD vS vO vI _ HF.out HD.out HS.out HO.out HI.out).mono ?_); rintro e w2 ⟨rfl, hb2⟩; have hx2 := (hb2.block _ (lt_of_block hx1)).trans hx1; have hT2 := Lib.hid (wid_below hT1.out hb2); obtain ⟨x0, x1, x2, x3, x4, x5⟩ := cells6 hx2)))
      have hbb : Below w.heap.size w (w2.alloc (.cells #[.bool vD, .bool vS, .bool vO, .bool vI] 23)) := bch (bch (bch (bnew w _) hb1) hb2) (bnew w2 _)
      have HX2 := Lib.hid (And.intro (((bnew w2 (.cells #[.bool vD, .bool vS, .bool vO, .bool vI] 23)).block _ (lt_of_block hx2)).trans hx2) (wid_below hT2.out (bnew w2 (.cells #[.bool vD, .bool vS, .bool vO, .bool vI] 23))))
      go_loopw [31] (fun i wr => ∃ k : Nat, k ≤ 4 ∧ i = .int .i64 k ∧ Below w.heap.size w wr ∧ Hid (wr.heap[w.heap.size]? = some (.cells #[.int .i64 op, .bool reg, .int .i64 dst, .int .i64 src, .int .i64 off, .int .i64 imm] 29) ∧ Wid wr)) (fun i _ => 4 - (intOf i).toNat)
      case atStart => exact ⟨0, by decide, rfl, hbb, HX2⟩
      case round =>
        clear hbb HX2 hx2 hT2 x0 x1 x2 x3 x4 x5 hx1 hT1 hx0 hT0 hb1 hb2
        obtain ⟨k, hk, rfl, hb, HG⟩ := hrel
        rename_i wr
        have HN := Lib.hid (fun o => wid_below HG.out.2 (bnew wr o))
        have hgl := lt_of_block HG.out.1
        have hne := HE.out
        have hfm := HM.out
        have hi0 := index_0
        have hi1 := index_1
        have hi2 := index_2
        have hi3 := index_3
        obtain ⟨x0, x1, x2, x3, x4, x5⟩ := cells6 HG.out.1
        rcases (show k = 0 ∨ k = 1 ∨ k = 2 ∨ k = 3 ∨ k = 4 by omega) with rfl | rfl | rfl | rfl | rfl
        · cases vD
          · have HC := Lib.hid (zero_D HD.out hfm hne : chkF f reg n src off imm = 12)
            go_wp2_with (first | (go_at_call 15; ((with_reducible refine (check_is op reg n src off imm f 12 _ (HN.out _) HF.out HC.out).mono ?_); rintro e w3 ⟨rfl, hb3⟩)))
            go_roundw
            case rel => exact ⟨1, by decide, by go_num, bch hb (bch (bnew _ _) hb3), Lib.hid ⟨(hb3.block _ (Nat.lt_trans hgl (by simp))).trans (((bnew wr _).block _ hgl).trans HG.out.1), wid_below (HN.out _) hb3⟩⟩
            case measure => simp [intOf]
          · go_wp2
            go_roundw
            case rel => exact ⟨1, by decide, by go_num, bch hb (bnew _ _), Lib.hid ⟨((bnew wr _).block _ hgl).trans HG.out.1, HN.out _⟩⟩
            case measure => simp [intOf]
        · cases vS
          · have HC := Lib.hid (zero_S HS.out hfm hne : chkF f reg dst n off imm = 12)
            go_wp2_with (first | (go_at_call 15; ((with_reducible refine (check_is op reg dst n off imm f 12 _ (HN.out _) HF.out HC.out).mono ?_); rintro e w3 ⟨rfl, hb3⟩)))
            go_roundw
            case rel => exact ⟨2, by decide, by go_num, bch hb (bch (bnew _ _) hb3), Lib.hid ⟨(hb3.block _ (Nat.lt_trans hgl (by simp))).trans (((bnew wr _).block _ hgl).trans HG.out.1), wid_below (HN.out _) hb3⟩⟩
            case measure => simp [intOf]
          · go_wp2
            go_roundw
            case rel => exact ⟨2, by decide, by go_num, bch hb (bnew _ _), Lib.hid ⟨((bnew wr _).block _ hgl).trans HG.out.1, HN.out _⟩⟩
            case measure => simp [intOf]
        · cases vO
          · have HC := Lib.hid (zero_O HO.out hfm hne : chkF f reg dst src n imm = 12)
            go_wp2_with (first | (go_at_call 15; ((with_reducible refine (check_is op reg dst src n imm f 12 _ (HN.out _) HF.out HC.out).mono ?_); rintro e w3 ⟨rfl, hb3⟩)))
            go_roundw
            case rel => exact ⟨3, by decide, by go_num, bch hb (bch (bnew _ _) hb3), Lib.hid ⟨(hb3.block _ (Nat.lt_trans hgl (by simp))).trans (((bnew wr _).block _ hgl).trans HG.out.1), wid_below (HN.out _) hb3⟩⟩
            case measure => simp [intOf]
          · go_wp2
            go_roundw
            case rel => exact ⟨3, by decide, by go_num, bch hb (bnew _ _), Lib.hid ⟨((bnew wr _).block _ hgl).trans HG.out.1, HN.out _⟩⟩
            case measure => simp [intOf]
        · cases vI
          · have HC := Lib.hid (zero_I HI.out hfm hne : chkF f reg dst src off n = 12)
            go_wp2_with (first | (go_at_call 15; ((with_reducible refine (check_is op reg dst src off n f 12 _ (HN.out _) HF.out HC.out).mono ?_); rintro e w3 ⟨rfl, hb3⟩)))
            go_roundw
            case rel => exact ⟨4, by decide, by go_num, bch hb (bch (bnew _ _) hb3), Lib.hid ⟨(hb3.block _ (Nat.lt_trans hgl (by simp))).trans (((bnew wr _).block _ hgl).trans HG.out.1), wid_below (HN.out _) hb3⟩⟩
            case measure => simp [intOf]
          · go_wp2
            go_roundw
            case rel => exact ⟨4, by decide, by go_num, bch hb (bnew _ _), Lib.hid ⟨((bnew wr _).block _ hgl).trans HG.out.1, HN.out _⟩⟩
            case measure => simp [intOf]
        · have hA := alive_any wr HG.out.2
          go_wp2_with (first | (go_at_call 10; ((with_reducible refine hA.mono ?_); rintro e w9 ⟨rfl, hb9⟩)))
          go_ret
          exact ⟨rfl, bch hb hb9⟩
    · go_enter Tryd.func7, Tryd.ntmps7
      go_wp2_with (first | (go_at_call 16; ((with_reducible refine (rcheck_is op reg dst src off imm f _ _ HF.out HR.out).mono ?_); rintro e w1 ⟨rfl, hb1⟩; have hx1 := (hb1.block _ (lt_of_block hx0)).trans hx0; have hT1 := Lib.hid (wid_below hT0.out hb1); obtain ⟨x0, x1, x2, x3, x4, x5⟩ := cells6 hx1)) | (go_at_call 10; ((with_reducible refine (alive_any _ hT1.out).mono ?_); rintro e w2 ⟨rfl, hb2⟩; have hx2 := (hb2.block _ (lt_of_block hx1)).trans hx1; have hT2 := Lib.hid (wid_below hT1.out hb2); obtain ⟨x0, x1, x2, x3, x4, x5⟩ := cells6 hx2)))
      go_ret
      exact ⟨rfl, bch (bch (bnew w _) hb1) hb2⟩
  · clear hR hn
    go_enter Tryd.func7, Tryd.ntmps7
    go_wp2_with (first | (go_at_call 16; ((with_reducible refine (rcheck_is op reg dst src off imm f _ _ HF.out HR.out).mono ?_); rintro e w1 ⟨rfl, hb1⟩; have hx1 := (hb1.block _ (lt_of_block hx0)).trans hx0; have hT1 := Lib.hid (wid_below hT0.out hb1); obtain ⟨x0, x1, x2, x3, x4, x5⟩ := cells6 hx1)) | (go_at_call 10; ((with_reducible refine (alive_any _ hT1.out).mono ?_); rintro e w2 ⟨rfl, hb2⟩; have hx2 := (hb2.block _ (lt_of_block hx1)).trans hx1; have hT2 := Lib.hid (wid_below hT1.out hb2); obtain ⟨x0, x1, x2, x3, x4, x5⟩ := cells6 hx2)))
    go_ret
    exact ⟨rfl, bch (bch (bnew w _) hb1) hb2⟩

set_option maxRecDepth 100000 in
theorem zero_lifted (os : Os) (started : os.Started) (H : Type) (enc : TypeId × Value → H) :
    ReturnsInHanded {} Tryd.checked os 7 .any (fun w args => (Rows.insnZeroSpec.pre enc Tryd.prog Tryd.f7 [] false w args ∧ laidMetH Tryd.prog laid4 w) ∧ sizedMet enc Tryd.prog Tryd.f7 (OpenSpec.ofChange Rows.insnZeroSpec) false w args)
      (Rows.insnZeroSpec.post enc Tryd.prog Tryd.f7 false true false false) := by
  refine returnsInHanded_of_change_and (C := Tryd.checked) (X := fun w _ => laidMetH Tryd.prog laid4 w) (fun _ _ _ hh h => h.of_heap hh) own started (by kernel_rfl) Tryd.func7
    (ChangeSpec.witness_shaped (enc := enc) (C := Tryd.checked) (os := os) (X := fun w _ => laidMetH Tryd.prog laid4 w) false (World.doorLaid Tryd.prog 4000 os) #[.agg #[.int .i64 0, .bool false, .int .i64 0, .int .i64 0, .int .i64 0, .int .i64 0], .int .i32 0] 8 rfl (World.shaped_of_RefB (by kernel_rfl) (by kernel_rfl)) (by kernel_rfl) (by kernel_rfl) (by kernel_rfl) (door_met os _)) ?_
  intro W base args ds gs before hval0 hW _ _ hL _
  have hval : ∀ (j : Nat) t v, Tryd.f7.params[j]? = some t → args[j]? = some v → Value.okWide Tryd.prog W .any base t v := hval0
  have hW' := hW
  obtain ⟨p, q, hA0, hV, rfl, hfz, hnd⟩ := hW
  have hA : DataW.TrodAll enc Tryd.prog W 0 (fun _ => true) true Tryd.f7.params.toList args.toList ds p := hA0
  rw [Tryd.params7] at hA hval
  obtain ⟨v0, vs0, d0, ds0, p0, q0, hargs, rfl, rfl, h0, r0⟩ := trodAll_cons hA
  obtain ⟨v1, vs1, d1, ds1, p1, q1, rfl, rfl, rfl, h1, r1⟩ := trodAll_cons r0
  obtain ⟨rfl, rfl, rfl⟩ := trodAll_nil r1
  obtain rfl : args = #[v0, v1] := by cases args; simp_all
  obtain ⟨rfl, rfl⟩ := trodVars_none hV
  obtain ⟨op, reg, dst, src, off, imm, rfl, rfl, rfl, k0, k2, k3, k4, k5⟩ := open_ins (hval 0 29 v0 rfl rfl) h0
  obtain ⟨a1, rfl, rfl, rfl, w1⟩ := open_int Tryd.underlying21 (hval 1 21 v1 rfl rfl) h1
  clear hA0 hval0
  simp only [List.append_nil] at hW'
  refine (zero_walk op reg dst src off imm k5 a1 w1 W (tabs_of hL)).mono fun e W' ⟨he, hg⟩ => ?_
  subst he
  exact ⟨_, rfl, law_post hW' rfl rfl Tryd.underlying4 rfl (fun sp _ => (trodAll_cons_mk (shut_ins k0 k2 k3 k4 k5) (trodAll_cons_mk (shut_int Tryd.underlying21 w1) trodAll_mk0))) hg⟩

theorem zero_said : Rows.InsnZeroSaid :=
  OpenClaim.holds_of_wide 7 Tryd.f7 rfl rfl rfl rfl rfl rfl rfl ⟨rfl, rfl, rfl, rfl, rfl⟩ rfl rfl rfl rfl rfl (by kernel_rfl) Tryd.func7 (by kernel_rfl)
    (of_decide_eq_true (by kernel_rfl)) (by unfold Func.isWrapper; first | (rw [if_pos (by decide +kernel)]; kernel_rfl) | (rw [if_neg (by decide +kernel)]; exact ⟨rfl, rfl⟩))
    (fun os started H enc _ => zero_lifted os started H enc)

/-- The card: the row's listed variables are tied to the program's text. -/
theorem zero_card : Rows.InsnZeroCardSaid :=
  Claim7.holds_tied_plain_at .later [] [.data] true (true, "b08d110b0b5bc7c2f0445ceb3778c24914d474e45514bf8d7beb638b62b76804") false
    zero_said (fun _ h => by cases h) (by kernel_rfl) (fun _ h => by cases h) insnZero_row_tie rfl ⟨rfl, rfl⟩ (by kernel_rfl) rfl
    (fun f fn hf hfn => by
      obtain rfl : f = 7 := Option.some.inj ((show Tryd.prog.funcNamed "slotcode/slotcodelaw04.InsnZero" = some 7 by kernel_rfl).symm.trans hf) |>.symm
      obtain rfl : fn = Tryd.f7 := (Option.some.inj (Tryd.func7.symm.trans hfn)).symm
      exact ⟨by kernel_rfl, fun j t ht => by
        rw [Tryd.params7] at ht
        have hm : t ∈ [29, 21] := by simpa using Array.mem_of_getElem? ht
        have hall : ([29, 21].all fun u => !Tryd.prog.wantsStandIn u) = true := by kernel_rfl
        exact (show Tryd.prog.wantsStandIn t = false by simpa using List.all_eq_true.1 hall t hm)⟩)
    (by kernel_rfl)
#print axioms zero_card
end Go.Proofs.YtgmlpahnjgfamaaDoor
