/- NumExtends: for every number of 64 bits and number of bits, the law 'Extend returns the number of the reference, which fits' returns true, and its arguments read as before; the row's listed variables are tied to the program's text. No other condition. -/
import Derived.Test.YthkkdkccadomkaaDoorLaw
import Derived.Test.YthkkdkccadomkaaDoorCards
import Derived.Test.YthkkdkccadomkaaDoorTie
import Derived.SevenTiedAt
namespace Go.Proofs.YthkkdkccadomkaaDoor
open Go.ChangeShapes Go.WideShapes Go.ChangeAt Go.RowKit

theorem sx_idem (b x : Int) (h : b = 8 ∨ b = 16 ∨ b = 32 ∨ b = 64) : (sx b (sx b x) == sx b x) = true := by
  rw [beq_iff_eq]
  rcases h with rfl | rfl | rfl | rfl <;> (simp only [sx]; simp; try omega)

theorem extend_at (x b y : Int) (w : World) (h0 : 0 ≤ x) (h1 : x < 18446744073709551616) (hw : Wid w) (h : b = 8 ∨ b = 16 ∨ b = 32 ∨ b = 64) (hy : y = sx b x) :
    Calls Tryd.prog 19 #[.int .u64 x, .int .i64 b] w fun e w' => e = .returned (.int .i64 y) ∧ w = w' := by
  subst hy; exact extend_yes x b w h0 h1 hw h

theorem rextend_is (x b y : Int) (w : World) (h0 : 0 ≤ x) (h1 : x < 18446744073709551616) (h : b = 8 ∨ b = 16 ∨ b = 32 ∨ b = 64) (hy : y = sx b x) :
    Calls Tryd.prog 20 #[.int .u64 x, .int .i64 b] w fun e w' => e = .returned (.int .i64 y) ∧ w = w' := by
  subst hy; exact rextend_yes x b w h0 h1 h

theorem fits_is (x b : Int) (A : Bool) (w : World) (hw : Wid w) (h : b = 8 ∨ b = 16 ∨ b = 32 ∨ b = 64) (hA : (sx b x == x) = A) :
    Calls Tryd.prog 21 #[.int .i64 x, .int .i64 b] w fun e w' => e = .returned (.bool A) ∧ w = w' := by
  subst hA; exact fits_yes x b w hw h

set_option maxHeartbeats 1000000 in
set_option maxRecDepth 100000 in
theorem extends_walk (x : Int) (w0 : (Lit.int .u64 x).wf = true) (b : Int) (_ : (Lit.int .i64 b).wf = true) (w : World) (ht : Tabs w) :
    Calls Tryd.prog 7 #[.int .u64 x, .int .i64 b] w fun e w' => e = .returned (.bool true) ∧ Below w.heap.size w w' := by
  obtain ⟨hx0, hx1'⟩ := bounds_u64 w0
  have hx1 : x < 18446744073709551616 := by omega
  clear hx1'
  clear w0
  cases hb : isW b with
  | true =>
    have hb' := isW_cases hb
    obtain ⟨y, hy⟩ : ∃ y, y = sx b x := ⟨_, rfl⟩
    have HY := Lib.hid hy
    have HB := Lib.hid hb
    have HI : Hid ((sx b y == y) = true) := Lib.hid (by rw [hy]; exact sx_idem b x hb')
    clear hb hy
    go_enter Tryd.func7, Tryd.ntmps7
    go_wp2_with (first | (go_at_call 19; refine (extend_at _ _ y _ hx0 hx1 ht.wid hb' HY.out).mono ?_; rintro e w' ⟨rfl, rfl⟩) | (go_at_call 9; ((with_reducible refine (alive_any _ ht).mono ?_); rintro e w1 ⟨rfl, hb1⟩)))
    have ht1 := ht.below hb1
    go_wp2_with (first | (go_at_call 20; refine (rextend_is _ _ y _ hx0 hx1 hb' HY.out).mono ?_; rintro e w' ⟨rfl, rfl⟩) | (go_at_call 21; refine (fits_is _ _ true _ ht1.wid hb' HI.out).mono ?_; rintro e w' ⟨rfl, rfl⟩) | (go_at_call 22; refine (width_is _ _ true HB.out).mono ?_; rintro e w' ⟨rfl, rfl⟩))
    go_ret
    exact ⟨rfl, hb1⟩
  | false =>
    have H := Lib.hid hb
    clear hb
    go_enter Tryd.func7, Tryd.ntmps7
    go_wp2_with (first | (go_at_call 19; refine (extend_no _ _ _ ht.wid H.out).mono ?_; rintro e w' ⟨rfl, rfl⟩) | (go_at_call 9; ((with_reducible refine (alive_any _ ht).mono ?_); rintro e w1 ⟨rfl, hb1⟩)))
    have ht1 := ht.below hb1
    go_wp2_with (first | (go_at_call 20; refine (rextend_no _ _ _ H.out).mono ?_; rintro e w' ⟨rfl, rfl⟩) | (go_at_call 21; refine (fits_no _ _ _ ht1.wid H.out).mono ?_; rintro e w' ⟨rfl, rfl⟩) | (go_at_call 22; refine (width_is _ _ false H.out).mono ?_; rintro e w' ⟨rfl, rfl⟩))
    go_ret
    exact ⟨rfl, hb1⟩

set_option maxRecDepth 100000 in
theorem extends_lifted (os : Os) (started : os.Started) (H : Type) (enc : TypeId × Value → H) :
    ReturnsInHanded {} Tryd.checked os 7 .any (fun w args => (Rows.numExtendsSpec.pre enc Tryd.prog Tryd.f7 [] false w args ∧ laidMetH Tryd.prog laid4 w) ∧ sizedMet enc Tryd.prog Tryd.f7 (OpenSpec.ofChange Rows.numExtendsSpec) false w args)
      (Rows.numExtendsSpec.post enc Tryd.prog Tryd.f7 false true false false) := by
  refine returnsInHanded_of_change_and (C := Tryd.checked) (X := fun w _ => laidMetH Tryd.prog laid4 w) (fun _ _ _ hh h => h.of_heap hh) own started (by kernel_rfl) Tryd.func7
    (ChangeSpec.witness_shaped (enc := enc) (C := Tryd.checked) (os := os) (X := fun w _ => laidMetH Tryd.prog laid4 w) false (World.doorLaid Tryd.prog 4000 os) #[.int .u64 0, .int .i64 0] 8 rfl (World.shaped_of_RefB (by kernel_rfl) (by kernel_rfl)) (by kernel_rfl) (by kernel_rfl) (by kernel_rfl) (door_met os _)) ?_
  intro W base args ds gs before hval0 hW _ _ hL _
  have hval : ∀ (j : Nat) t v, Tryd.f7.params[j]? = some t → args[j]? = some v → Value.okWide Tryd.prog W .any base t v := hval0
  have hW' := hW
  obtain ⟨p, q, hA0, hV, rfl, hfz, hnd⟩ := hW
  have hA : DataW.TrodAll enc Tryd.prog W 0 (fun _ => true) true Tryd.f7.params.toList args.toList ds p := hA0
  rw [Tryd.params7] at hA hval
  obtain ⟨v0, vs0, d0, ds0, p0, q0, hargs, rfl, rfl, h0, r0⟩ := trodAll_cons hA
  obtain ⟨v1, vs1, d1, ds1, p1, q1, rfl, rfl, rfl, h1, r1⟩ := trodAll_cons r0
  obtain ⟨rfl, rfl, rfl⟩ := trodAll_nil r1
  obtain rfl : args = #[v0, v1] := by cases args; simp_all
  obtain ⟨rfl, rfl⟩ := trodVars_none hV
  obtain ⟨a0, rfl, rfl, rfl, w0⟩ := open_int Tryd.underlying40 (hval 0 40 v0 rfl rfl) h0
  obtain ⟨a1, rfl, rfl, rfl, w1⟩ := open_int Tryd.underlying3 (hval 1 3 v1 rfl rfl) h1
  clear hA0 hval0
  simp only [List.append_nil] at hW'
  refine (extends_walk a0 w0 a1 w1 W (tabs_of hL)).mono fun e W' ⟨he, hg⟩ => ?_
  subst he
  exact ⟨_, rfl, law_post hW' rfl rfl Tryd.underlying4 rfl (fun sp _ => (trodAll_cons_mk (shut_int Tryd.underlying40 w0) (trodAll_cons_mk (shut_int Tryd.underlying3 w1) trodAll_mk0))) hg⟩

theorem extends_said : Rows.NumExtendsSaid :=
  OpenClaim.holds_of_wide 7 Tryd.f7 rfl rfl rfl rfl rfl rfl rfl ⟨rfl, rfl, rfl, rfl, rfl⟩ rfl rfl rfl rfl rfl (by kernel_rfl) Tryd.func7 (by kernel_rfl)
    (of_decide_eq_true (by kernel_rfl)) (by unfold Func.isWrapper; first | (rw [if_pos (by decide +kernel)]; kernel_rfl) | (rw [if_neg (by decide +kernel)]; exact ⟨rfl, rfl⟩))
    (fun os started H enc _ => extends_lifted os started H enc)

/-- The card: the row's listed variables are tied to the program's text. -/
theorem extends_card : Rows.NumExtendsCardSaid :=
  Claim7.holds_tied_plain_at .later [] [.data, .data, .data, .data] true (true, "d95971b17b25aad7ef13338073ce59aea5934288314a033331a65b3218f77ede") false
    extends_said (fun _ h => by cases h) (by kernel_rfl) (fun _ h => by cases h) numExtends_row_tie rfl ⟨rfl, rfl⟩ (by kernel_rfl) rfl
    (fun f fn hf hfn => by
      obtain rfl : f = 7 := Option.some.inj ((show Tryd.prog.funcNamed "slotcode/slotcodelaw01.NumExtends" = some 7 by kernel_rfl).symm.trans hf) |>.symm
      obtain rfl : fn = Tryd.f7 := (Option.some.inj (Tryd.func7.symm.trans hfn)).symm
      exact ⟨by kernel_rfl, fun j t ht => by
        rw [Tryd.params7] at ht
        have hm : t ∈ [40, 3] := by simpa using Array.mem_of_getElem? ht
        have hall : ([40, 3].all fun u => !Tryd.prog.wantsStandIn u) = true := by kernel_rfl
        exact (show Tryd.prog.wantsStandIn t = false by simpa using List.all_eq_true.1 hall t hm)⟩)
    (by kernel_rfl)
#print axioms extends_card
end Go.Proofs.YthkkdkccadomkaaDoor
