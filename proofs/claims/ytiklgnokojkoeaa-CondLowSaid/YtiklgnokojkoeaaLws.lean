/- CondLow: for every instruction, values and upper bits, the law 'a condition of 32 bits depends on the last 32 bits only' returns true, and its arguments read as before. No condition. -/
import Derived.Test.YtiklgnokojkoeaaFacts
import Derived.Test.YtiklgnokojkoeaaLaw
namespace Go.Proofs.Ytiklgnokojkoeaa
open Go.ChangeShapes Go.WideShapes Go.ChangeAt Go.RowKit

open L3
open L6 (opd cells6 row_up)

set_option maxHeartbeats 4000000 in
set_option maxRecDepth 100000 in
theorem lows_no (op : Int) (reg : Bool) (dst src off imm a s p q : Int) (w : World) (h : ¬ (frm (ix op) = 4 ∧ bt (ix op) = 32)) :
    Calls Try.prog 8 #[.agg #[.int .i64 op, .bool reg, .int .i64 dst, .int .i64 src, .int .i64 off, .int .i64 imm, .int .u64 a, .int .u64 s], .int .u32 p, .int .u32 q] w fun e w' => e = .returned (.bool true) ∧ Below w.heap.size w w' := by
  have hx := heap_alloc_last w (.cells #[.int .i64 op, .bool reg, .int .i64 dst, .int .i64 src, .int .i64 off, .int .i64 imm, .int .u64 a, .int .u64 s] 26)
  have b0 := bnew w (.cells #[.int .i64 op, .bool reg, .int .i64 dst, .int .i64 src, .int .i64 off, .int .i64 imm, .int .u64 a, .int .u64 s] 26)
  obtain ⟨x0, x1, x2, x3, x4, x5, x6, x7⟩ := cells8 hx
  obtain ⟨f, hf⟩ : ∃ f, frm (ix op) = f := ⟨_, rfl⟩
  obtain ⟨n, hn⟩ : ∃ n, bt (ix op) = n := ⟨_, rfl⟩
  rw [hf, hn] at h
  have HF := Lib.hid (fun w => rform_at op f w hf)
  have HB := Lib.hid (fun w => rbits_at op n w hn)
  clear hf hn
  cases t1 : f != 4
  · have t2 : (n != 32) = true := by
      simp only [bne, Bool.not_eq_false', beq_iff_eq] at t1
      simp only [bne, Bool.not_eq_true', beq_eq_false_iff_ne]
      exact fun e => h ⟨t1, e⟩
    clear h
    go_enter Try.func8, Try.ntmps8
    go_wp2_with (first | (go_at_call 16; ((with_reducible refine (HF.out _).mono ?_); rintro e w1 ⟨rfl, rfl⟩)) | (go_at_call 17; ((with_reducible refine (HB.out _).mono ?_); rintro e w2 ⟨rfl, b2⟩; have B2 := bch b0 b2)) | (go_at_call 9; ((with_reducible refine (alive_any _).mono ?_); rintro e w3 ⟨rfl, b3⟩)))
    go_ret
    exact ⟨rfl, bch B2 b3⟩
  · clear h
    go_enter Try.func8, Try.ntmps8
    go_wp2_with (first | (go_at_call 16; ((with_reducible refine (HF.out _).mono ?_); rintro e w1 ⟨rfl, rfl⟩)) | (go_at_call 9; ((with_reducible refine (alive_any _).mono ?_); rintro e w3 ⟨rfl, b3⟩)))
    go_ret
    exact ⟨rfl, bch b0 b3⟩
set_option maxHeartbeats 4000000 in
set_option maxRecDepth 100000 in
theorem lows_yes (op : Int) (reg : Bool) (dst src off imm a s p q : Int) (ha : 0 ≤ a ∧ a < 18446744073709551616) (hs : 0 ≤ s ∧ s < 18446744073709551616) (hp : 0 ≤ p ∧ p < 4294967296) (hq : 0 ≤ q ∧ q < 4294967296) (w : World) (hf : frm (ix op) = 4) (hn : bt (ix op) = 32) :
    Calls Try.prog 8 #[.agg #[.int .i64 op, .bool reg, .int .i64 dst, .int .i64 src, .int .i64 off, .int .i64 imm, .int .u64 a, .int .u64 s], .int .u32 p, .int .u32 q] w fun e w' => e = .returned (.bool true) ∧ Below w.heap.size w w' := by
  have hx := heap_alloc_last w (.cells #[.int .i64 op, .bool reg, .int .i64 dst, .int .i64 src, .int .i64 off, .int .i64 imm, .int .u64 a, .int .u64 s] 26)
  have b0 := bnew w (.cells #[.int .i64 op, .bool reg, .int .i64 dst, .int .i64 src, .int .i64 off, .int .i64 imm, .int .u64 a, .int .u64 s] 26)
  obtain ⟨x0, x1, x2, x3, x4, x5, x6, x7⟩ := cells8 hx
  have HF := Lib.hid (fun w => rform_at op 4 w hf)
  have HB := Lib.hid (fun w => rbits_at op 32 w hn)
  have g2 := low_hoV hf hn reg imm a s p q
  obtain ⟨R, hR⟩ : ∃ R, hoV op reg imm a s = R := ⟨_, rfl⟩
  rw [hR] at g2
  have hu := up_b a p hp
  have hv := up_b s q hq
  have HD := Lib.hid (fun w => holds_any op reg dst src off imm a s R w ha.1 ha.2 hs.1 hs.2 hR)
  have HE := Lib.hid (fun w => holds_any op reg dst src off imm (a % 4294967296 + p * 4294967296) (s % 4294967296 + q * 4294967296) R w hu.1 hu.2 hv.1 hv.2 g2)
  obtain ⟨a0, a1⟩ := ha
  obtain ⟨s0, s1⟩ := hs
  obtain ⟨p0, p1⟩ := hp
  obtain ⟨q0, q1⟩ := hq
  have p2 : 0 ≤ p * 4294967296 := by omega
  have q2 : 0 ≤ q * 4294967296 := by omega
  have m1 : a.tmod 4294967296 = a % 4294967296 := Int.tmod_eq_emod_of_nonneg a0
  have m2 : s.tmod 4294967296 = s % 4294967296 := Int.tmod_eq_emod_of_nonneg s0
  have k5 : IntKind.u64.wrap p = p := by rw [IntKind.wrap_u64]; omega
  have k6 : IntKind.u64.wrap q = q := by rw [IntKind.wrap_u64]; omega
  have k1 : IntKind.u64.wrap (p * 4294967296) = p * 4294967296 := by rw [IntKind.wrap_u64]; omega
  have k2 : IntKind.u64.wrap (q * 4294967296) = q * 4294967296 := by rw [IntKind.wrap_u64]; omega
  have k3 : IntKind.u64.wrap (a % 4294967296 + p * 4294967296) = a % 4294967296 + p * 4294967296 := by rw [IntKind.wrap_u64]; omega
  have k4 : IntKind.u64.wrap (s % 4294967296 + q * 4294967296) = s % 4294967296 + q * 4294967296 := by rw [IntKind.wrap_u64]; omega
  clear hf hn g2 hR hu hv
  go_enter Try.func8, Try.ntmps8
  go_upto_region 3 with (first | (go_at_call 16; ((with_reducible refine (HF.out _).mono ?_); rintro e w1 ⟨rfl, rfl⟩)) | (go_at_call 17; ((with_reducible refine (HB.out _).mono ?_); rintro e w2 ⟨rfl, b2⟩)))
  have X : By w w2 w.heap.size #[.int .i64 op, .bool reg, .int .i64 dst, .int .i64 src, .int .i64 off, .int .i64 imm, .int .u64 a, .int .u64 s] := ⟨bch b0 b2, row_up hx b2⟩
  clear x0 x1 x2 x3 x4 x5 x6 x7 hx b0 b2
  obtain ⟨g, hg⟩ : ∃ g, g = w.heap.size := ⟨_, rfl⟩
  rw [← hg] at X ⊢
  clear hg
  cases R
  all_goals
    go_region_held3 (fun W => By w W g #[.int .i64 op, .bool reg, .int .i64 dst, .int .i64 src, .int .i64 off, .int .i64 imm, .int .u64 a, .int .u64 s] ∧ W.cell? ⟨g, 0, none⟩ = some (.int .i64 op) ∧ W.cell? ⟨g, 1, none⟩ = some (.bool reg) ∧ W.cell? ⟨g, 2, none⟩ = some (.int .i64 dst) ∧ W.cell? ⟨g, 3, none⟩ = some (.int .i64 src) ∧ W.cell? ⟨g, 4, none⟩ = some (.int .i64 off) ∧ W.cell? ⟨g, 5, none⟩ = some (.int .i64 imm) ∧ W.cell? ⟨g, 6, none⟩ = some (.int .u64 a) ∧ W.cell? ⟨g, 7, none⟩ = some (.int .u64 s))
      (first | exact keep8B (Below.refl _ _).drew X | exact keep8C hb9 (by assumption) | assumption)
      (first | (go_at_call 9; ((with_reducible refine (alive_any _).mono ?_); rintro e w9 ⟨rfl, hb9⟩)) | (go_at_call 10; ((with_reducible refine (HD.out _).mono ?_); rintro e w9 ⟨rfl, hb9⟩)) | (go_at_call 10; ((with_reducible refine (HE.out _).mono ?_); rintro e w9 ⟨rfl, hb9⟩)))
    all_goals
      rename_i hh
      go_wp2
      go_ret
      exact ⟨rfl, hh.1.1⟩
theorem lows_walk (op : Int) (reg : Bool) (dst src off imm a s : Int) (_ : (Lit.int .i64 op).wf = true) (ha : 0 ≤ a ∧ a < 18446744073709551616) (hs : 0 ≤ s ∧ s < 18446744073709551616) (p : Int) (hp : 0 ≤ p ∧ p < 4294967296) (q : Int) (hq : 0 ≤ q ∧ q < 4294967296) (w : World) :
    Calls Try.prog 8 #[.agg #[.int .i64 op, .bool reg, .int .i64 dst, .int .i64 src, .int .i64 off, .int .i64 imm, .int .u64 a, .int .u64 s], .int .u32 p, .int .u32 q] w fun e w' => e = .returned (.bool true) ∧ Below w.heap.size w w' := by
  by_cases h : frm (ix op) = 4 ∧ bt (ix op) = 32
  · exact lows_yes op reg dst src off imm a s p q ha hs hp hq w h.1 h.2
  · exact lows_no op reg dst src off imm a s p q w h

set_option maxRecDepth 100000 in
theorem lows_lifted (os : Os) (started : os.Started) (H : Type) (enc : TypeId × Value → H) :
    ReturnsInHanded {} Try.checked os 8 .any (Rows.condLowSpec.pre6 enc Try.prog Try.f8 Rows.condLowRow.domain false) (Rows.condLowSpec.post enc Try.prog Try.f8 false true false false) := by
  refine returnsInHanded_of_change (C := Try.checked) own started (by kernel_rfl) Try.func8
    (ChangeSpec.witness6 (enc := enc) (C := Try.checked) false ⟨#[], #[.agg #[.int .i64 0, .bool false, .int .i64 0, .int .i64 0, .int .i64 0, .int .i64 0, .int .u64 0, .int .u64 0], .int .u32 0, .int .u32 0], []⟩ 8 (by kernel_rfl) (by kernel_rfl) (by kernel_rfl) (by kernel_rfl)) ?_
  intro W base args ds gs before hval0 hW _ _
  have hval : ∀ (j : Nat) t v, Try.f8.params[j]? = some t → args[j]? = some v → Value.okWide Try.prog W .any base t v := hval0
  have hW' := hW
  obtain ⟨p, q, hA0, hV, rfl, hfz, hnd⟩ := hW
  have hA : DataW.TrodAll enc Try.prog W 0 (fun _ => true) true Try.f8.params.toList args.toList ds p := hA0
  rw [Try.params8] at hA hval
  obtain ⟨v0, vs0, d0, ds0, p0, q0, hargs, rfl, rfl, h0, r0⟩ := trodAll_cons hA
  obtain ⟨v1, vs1, d1, ds1, p1, q1, rfl, rfl, rfl, h1, r1⟩ := trodAll_cons r0
  obtain ⟨v2, vs2, d2, ds2, p2, q2, rfl, rfl, rfl, h2, r2⟩ := trodAll_cons r1
  obtain ⟨rfl, rfl, rfl⟩ := trodAll_nil r2
  obtain rfl : args = #[v0, v1, v2] := by cases args; simp_all
  obtain ⟨rfl, rfl⟩ := trodVars_none hV
  obtain ⟨op, reg, dst, src, off, imm, ca, cs, rfl, rfl, rfl, k0, k6, k7⟩ := open_case (hval 0 26 v0 rfl rfl) h0
  obtain ⟨a1, rfl, rfl, rfl, w1⟩ := open_int Try.underlying35 (hval 1 35 v1 rfl rfl) h1
  obtain ⟨a2, rfl, rfl, rfl, w2⟩ := open_int Try.underlying35 (hval 2 35 v2 rfl rfl) h2
  clear hA0 hval0
  simp only [List.append_nil] at hW'
  refine (lows_walk op reg dst src off imm ca cs k0.1 (bu64 k6) (bu64 k7) a1 (bu32 w1) a2 (bu32 w2) W).mono fun e W' ⟨he, hg⟩ => ?_
  subst he
  exact ⟨_, rfl, law_post hW' rfl rfl Try.underlying4 rfl (fun sp _ => (trodAll_cons_mk (shut_case k0 k6 k7) (trodAll_cons_mk (shut_int Try.underlying35 w1) (trodAll_cons_mk (shut_int Try.underlying35 w2) trodAll_mk0)))) hg⟩

theorem lows_said : Rows.CondLowSaid :=
  OpenClaim.holds_of_wide 8 Try.f8 rfl rfl rfl rfl rfl rfl rfl ⟨rfl, rfl, rfl, rfl, rfl⟩ rfl rfl rfl rfl rfl (by kernel_rfl) Try.func8 (by kernel_rfl)
    (of_decide_eq_true (by kernel_rfl)) (by unfold Func.isWrapper; first | (rw [if_pos (by decide +kernel)]; kernel_rfl) | (rw [if_neg (by decide +kernel)]; exact ⟨rfl, rfl⟩))
    (fun os started H enc _ => lows_lifted os started H enc)
#print axioms lows_said
end Go.Proofs.Ytiklgnokojkoeaa
