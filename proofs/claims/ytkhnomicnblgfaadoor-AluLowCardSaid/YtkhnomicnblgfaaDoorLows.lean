/- AluLow: for every instruction, values and upper bits, the law 'an operation of 32 bits depends on the last 32 bits only' returns true, and its arguments read as before; the row's listed variable is tied to the program's text. No other condition. -/
import Derived.Test.YtkhnomicnblgfaaDoorAlive
import Derived.Test.YtkhnomicnblgfaaDoorLaw
import Derived.Test.YtkhnomicnblgfaaDoorCards
import Derived.Test.YtkhnomicnblgfaaDoorTie
import Derived.SevenTiedAt
namespace Go.Proofs.YtkhnomicnblgfaaDoor
open Go.ChangeShapes Go.WideShapes Go.ChangeAt Go.RowKit

open L3 L1

theorem cells8 {w : World} {k : Nat} {a b c d e f g h : Value} {t : TypeId} (hk : w.heap[k]? = some (.cells #[a, b, c, d, e, f, g, h] t)) :
    w.cell? ⟨k, 0, none⟩ = some a ∧ w.cell? ⟨k, 1, none⟩ = some b ∧ w.cell? ⟨k, 2, none⟩ = some c ∧ w.cell? ⟨k, 3, none⟩ = some d ∧ w.cell? ⟨k, 4, none⟩ = some e ∧ w.cell? ⟨k, 5, none⟩ = some f ∧ w.cell? ⟨k, 6, none⟩ = some g ∧ w.cell? ⟨k, 7, none⟩ = some h := by
  simp [World.cell?, hk]
theorem mo32_b (x : Int) : mo 32 x < 4294967296 := by
  show x % 4294967296 < 4294967296; omega
theorem aluL_b (i : Nat) (hi : i < 14) (a b : Int) (h0 : 0 ≤ a) (h1 : a < 4294967296) (k0 : 0 ≤ b) (k1 : b < 4294967296) : aluL i 32 a b < 4294967296 := by
  rw [← (biV_low i hi a b h0 h1 k0 k1).1]
  omega
theorem aluV_32 (k : Nat) (h : 14 ≤ k ∧ k < 28) (a b : Int) : aluV k a b = aluL (k - 14) 32 (a % 4294967296) (b % 4294967296) :=
  match k, h with
  | 14, _ => rfl
  | 15, _ => rfl
  | 16, _ => rfl
  | 17, _ => rfl
  | 18, _ => rfl
  | 19, _ => rfl
  | 20, _ => rfl
  | 21, _ => rfl
  | 22, _ => rfl
  | 23, _ => rfl
  | 24, _ => rfl
  | 25, _ => rfl
  | 26, _ => rfl
  | 27, _ => rfl
  | 0, h | 1, h | 2, h | 3, h | 4, h | 5, h | 6, h | 7, h | 8, h | 9, h | 10, h | 11, h | 12, h | 13, h => absurd h (by decide)
  | k + 28, h => absurd h (by omega)
theorem alu32 : ∀ k, k < 86 → fm k = 0 → bt k = 32 → 14 ≤ k ∧ k < 28 := by decide +kernel
theorem low_up (d a : Int) : (d % 4294967296 + a * 4294967296) % 4294967296 = d % 4294967296 := by omega
theorem opd_low (reg : Bool) (f imm s a : Int) : opd reg f imm (s % 4294967296 + a * 4294967296) % 4294967296 = opd reg f imm s % 4294967296 := by
  unfold opd
  split
  · exact low_up s a
  · rfl
theorem doV_low (op : Int) (reg : Bool) (imm d s a b : Int) (hf : frm (ix op) = 0) (hb : bt (ix op) = 32) (k0 : 0 ≤ s) (k1 : s < 18446744073709551616) :
    doB op = true ∧ doV op reg imm (d % 4294967296 + a * 4294967296) (s % 4294967296 + b * 4294967296) = doV op reg imm d s ∧ doV op reg imm d s < 4294967296 := by
  have hB := (doB_form op).2 (.inl hf)
  obtain ⟨k, hk, rfl⟩ := op_of hf (.inl rfl)
  have hi : ix (k : Int) = k := ix_nat (by omega)
  rw [hi] at hb
  have hfm : fm k = 0 := by rw [hi] at hf; unfold frm at hf; rw [if_pos (by omega)] at hf; exact hf
  have h := alu32 k (by omega) hfm hb
  have e : ∀ x y, doV (k : Int) reg imm x y = aluL (k - 14) 32 (x % 4294967296) (opd reg (frm (ix (k : Int))) imm y % 4294967296) := fun x y => by
    unfold doV
    rw [hB, if_pos rfl]
    exact aluV_32 k h _ _
  refine ⟨hB, ?_, ?_⟩
  · rw [e, e, low_up, opd_low]
  · rw [e]
    have := opd_b reg (frm (ix (k : Int))) imm s k0 k1
    exact aluL_b (k - 14) (by omega) _ _ (by omega) (by omega) (by omega) (by omega)
theorem up_b (d a : Int) (ha : 0 ≤ a ∧ a < 4294967296) : 0 ≤ d % 4294967296 + a * 4294967296 ∧ d % 4294967296 + a * 4294967296 < 18446744073709551616 := by omega

set_option maxHeartbeats 4000000 in
set_option maxRecDepth 100000 in
theorem lows_no (op : Int) (reg : Bool) (dst src off imm a s p q : Int) (w : World) (hw : Wid w) (h : ¬ (frm (ix op) = 0 ∧ bt (ix op) = 32)) :
    Calls Tryd.prog 7 #[.agg #[.int .i64 op, .bool reg, .int .i64 dst, .int .i64 src, .int .i64 off, .int .i64 imm, .int .u64 a, .int .u64 s], .int .u32 p, .int .u32 q] w fun e w' => e = .returned (.bool true) ∧ Below w.heap.size w w' := by
  have HW := Lib.hid hw
  have hx := heap_alloc_last w (.cells #[.int .i64 op, .bool reg, .int .i64 dst, .int .i64 src, .int .i64 off, .int .i64 imm, .int .u64 a, .int .u64 s] 26)
  have b0 := bnew w (.cells #[.int .i64 op, .bool reg, .int .i64 dst, .int .i64 src, .int .i64 off, .int .i64 imm, .int .u64 a, .int .u64 s] 26)
  obtain ⟨x0, x1, x2, x3, x4, x5, x6, x7⟩ := cells8 hx
  obtain ⟨f, hf⟩ : ∃ f, frm (ix op) = f := ⟨_, rfl⟩
  obtain ⟨n, hn⟩ : ∃ n, bt (ix op) = n := ⟨_, rfl⟩
  rw [hf, hn] at h
  have HF := Lib.hid (fun w => rform_at op f w hf)
  have HB := Lib.hid (fun w => rbits_at op n w hn)
  clear hw hf hn
  cases t1 : f != 0
  · have t2 : (n != 32) = true := by
      simp only [bne, Bool.not_eq_false', beq_iff_eq] at t1
      simp only [bne, Bool.not_eq_true', beq_eq_false_iff_ne]
      exact fun e => h ⟨t1, e⟩
    clear h
    go_enter Tryd.func7, Tryd.ntmps7
    go_wp2_with (first | (go_at_call 19; ((with_reducible refine (HF.out _).mono ?_); rintro e w1 ⟨rfl, rfl⟩)) | (go_at_call 20; ((with_reducible refine (HB.out _).mono ?_); rintro e w2 ⟨rfl, b2⟩; have B2 := bch b0 b2)) | (go_at_call 11; ((with_reducible refine (alive_any _ (wid_below HW.out B2)).mono ?_); rintro e w3 ⟨rfl, b3⟩)))
    go_ret
    exact ⟨rfl, bch B2 b3⟩
  · clear h
    go_enter Tryd.func7, Tryd.ntmps7
    go_wp2_with (first | (go_at_call 19; ((with_reducible refine (HF.out _).mono ?_); rintro e w1 ⟨rfl, rfl⟩)) | (go_at_call 11; ((with_reducible refine (alive_any _ (wid_below HW.out b0)).mono ?_); rintro e w3 ⟨rfl, b3⟩)))
    go_ret
    exact ⟨rfl, bch b0 b3⟩
set_option maxHeartbeats 4000000 in
set_option maxRecDepth 100000 in
theorem lows_yes (op : Int) (reg : Bool) (dst src off imm a s p q : Int) (ha : 0 ≤ a ∧ a < 18446744073709551616) (hs : 0 ≤ s ∧ s < 18446744073709551616) (hp : 0 ≤ p ∧ p < 4294967296) (hq : 0 ≤ q ∧ q < 4294967296) (w : World) (hw : Wid w) (hf : frm (ix op) = 0) (hn : bt (ix op) = 32) :
    Calls Tryd.prog 7 #[.agg #[.int .i64 op, .bool reg, .int .i64 dst, .int .i64 src, .int .i64 off, .int .i64 imm, .int .u64 a, .int .u64 s], .int .u32 p, .int .u32 q] w fun e w' => e = .returned (.bool true) ∧ Below w.heap.size w w' := by
  have HW := Lib.hid hw
  have hx := heap_alloc_last w (.cells #[.int .i64 op, .bool reg, .int .i64 dst, .int .i64 src, .int .i64 off, .int .i64 imm, .int .u64 a, .int .u64 s] 26)
  have b0 := bnew w (.cells #[.int .i64 op, .bool reg, .int .i64 dst, .int .i64 src, .int .i64 off, .int .i64 imm, .int .u64 a, .int .u64 s] 26)
  obtain ⟨x0, x1, x2, x3, x4, x5, x6, x7⟩ := cells8 hx
  have HF := Lib.hid (fun w => rform_at op 0 w hf)
  have HB := Lib.hid (fun w => rbits_at op 32 w hn)
  obtain ⟨g1, g2, g3⟩ := doV_low op reg imm a s p q hf hn hs.1 hs.2
  obtain ⟨R, hR⟩ : ∃ R, doV op reg imm a s = R := ⟨_, rfl⟩
  rw [hR] at g2 g3
  have hu := up_b a p hp
  have hv := up_b s q hq
  have HD := Lib.hid (fun w hw => do_any op reg dst src off imm a s R true w hw ha.1 ha.2 hs.1 hs.2 hR g1)
  have HE := Lib.hid (fun w hw => do_any op reg dst src off imm (a % 4294967296 + p * 4294967296) (s % 4294967296 + q * 4294967296) R true w hw hu.1 hu.2 hv.1 hv.2 g2 g1)
  obtain ⟨a0, a1⟩ := ha
  obtain ⟨s0, s1⟩ := hs
  obtain ⟨p0, p1⟩ := hp
  obtain ⟨q0, q1⟩ := hq
  have p2 : 0 ≤ p * 4294967296 := by omega
  have q2 : 0 ≤ q * 4294967296 := by omega
  clear hw hf hn g1 g2 hR hu hv
  go_enter Tryd.func7, Tryd.ntmps7
  go_wp2_with (first | (go_at_call 19; ((with_reducible refine (HF.out _).mono ?_); rintro e w1 ⟨rfl, rfl⟩)) | (go_at_call 20; ((with_reducible refine (HB.out _).mono ?_); rintro e w2 ⟨rfl, b2⟩; have B2 := bch b0 b2; have hx2 := row_up hx b2; clear x0 x1 x2 x3 x4 x5 x6 x7; obtain ⟨x0, x1, x2, x3, x4, x5, x6, x7⟩ := cells8 hx2)) | (go_at_call 9; ((with_reducible refine (HD.out _ (wid_below HW.out B2)).mono ?_); rintro e w4 ⟨rfl, b4⟩; have B4 := bch B2 b4; have hx4 := row_up hx2 b4; clear x0 x1 x2 x3 x4 x5 x6 x7; obtain ⟨x0, x1, x2, x3, x4, x5, x6, x7⟩ := cells8 hx4)) | (go_at_call 9; ((with_reducible refine (HE.out _ (wid_below HW.out B4)).mono ?_); rintro e w5 ⟨rfl, b5⟩; have B5 := bch B4 b5)) | (go_at_call 11; ((with_reducible refine (alive_any _ (wid_below HW.out B5)).mono ?_); rintro e w6 ⟨rfl, b6⟩)))
  go_ret
  exact ⟨rfl, bch B5 b6⟩
theorem lows_walk (op : Int) (reg : Bool) (dst src off imm a s : Int) (ha : 0 ≤ a ∧ a < 18446744073709551616) (hs : 0 ≤ s ∧ s < 18446744073709551616) (p : Int) (hp : 0 ≤ p ∧ p < 4294967296) (q : Int) (hq : 0 ≤ q ∧ q < 4294967296) (w : World) (hw : Wid w) :
    Calls Tryd.prog 7 #[.agg #[.int .i64 op, .bool reg, .int .i64 dst, .int .i64 src, .int .i64 off, .int .i64 imm, .int .u64 a, .int .u64 s], .int .u32 p, .int .u32 q] w fun e w' => e = .returned (.bool true) ∧ Below w.heap.size w w' := by
  by_cases h : frm (ix op) = 0 ∧ bt (ix op) = 32
  · exact lows_yes op reg dst src off imm a s p q ha hs hp hq w hw h.1 h.2
  · exact lows_no op reg dst src off imm a s p q w hw h

set_option maxRecDepth 100000 in
theorem lows_lifted (os : Os) (started : os.Started) (H : Type) (enc : TypeId × Value → H) :
    ReturnsInHanded {} Tryd.checked os 7 .any (fun w args => (Rows.aluLowSpec.pre enc Tryd.prog Tryd.f7 [] false w args ∧ laidMetH Tryd.prog laid4 w) ∧ sizedMet enc Tryd.prog Tryd.f7 (OpenSpec.ofChange Rows.aluLowSpec) false w args)
      (Rows.aluLowSpec.post enc Tryd.prog Tryd.f7 false true false false) := by
  refine returnsInHanded_of_change_and (C := Tryd.checked) (X := fun w _ => laidMetH Tryd.prog laid4 w) (fun _ _ _ hh h => h.of_heap hh) own started (by kernel_rfl) Tryd.func7
    (ChangeSpec.witness_shaped (enc := enc) (C := Tryd.checked) (os := os) (X := fun w _ => laidMetH Tryd.prog laid4 w) false (World.doorLaid Tryd.prog 4000 os) #[.agg #[.int .i64 0, .bool false, .int .i64 0, .int .i64 0, .int .i64 0, .int .i64 0, .int .u64 0, .int .u64 0], .int .u32 0, .int .u32 0] 8 rfl (World.shaped_of_RefB (by kernel_rfl) (by kernel_rfl)) (by kernel_rfl) (by kernel_rfl) (by kernel_rfl) (door_met os _)) ?_
  intro W base args ds gs before hval0 hW _ _ hL _
  have hval : ∀ (j : Nat) t v, Tryd.f7.params[j]? = some t → args[j]? = some v → Value.okWide Tryd.prog W .any base t v := hval0
  have hW' := hW
  obtain ⟨p, q, hA0, hV, rfl, hfz, hnd⟩ := hW
  have hA : DataW.TrodAll enc Tryd.prog W 0 (fun _ => true) true Tryd.f7.params.toList args.toList ds p := hA0
  rw [Tryd.params7] at hA hval
  obtain ⟨v0, vs0, d0, ds0, p0, q0, hargs, rfl, rfl, h0, r0⟩ := trodAll_cons hA
  obtain ⟨v1, vs1, d1, ds1, p1, q1, rfl, rfl, rfl, h1, r1⟩ := trodAll_cons r0
  obtain ⟨v2, vs2, d2, ds2, p2, q2, rfl, rfl, rfl, h2, r2⟩ := trodAll_cons r1
  obtain ⟨rfl, rfl, rfl⟩ := trodAll_nil r2
  obtain rfl : args = #[v0, v1, v2] := by cases args; simp_all
  obtain ⟨rfl, rfl⟩ := trodVars_none hV
  obtain ⟨op, reg, dst, src, off, imm, ca, cs, rfl, rfl, rfl, k0, k6, k7⟩ := open_case (hval 0 26 v0 rfl rfl) h0
  obtain ⟨a1, rfl, rfl, rfl, w1⟩ := open_int Tryd.underlying39 (hval 1 39 v1 rfl rfl) h1
  obtain ⟨a2, rfl, rfl, rfl, w2⟩ := open_int Tryd.underlying39 (hval 2 39 v2 rfl rfl) h2
  clear hA0 hval0
  simp only [List.append_nil] at hW'
  refine (lows_walk op reg dst src off imm ca cs (bu64 k6) (bu64 k7) a1 (bu32 w1) a2 (bu32 w2) W (tabs_of hL)).mono fun e W' ⟨he, hg⟩ => ?_
  subst he
  exact ⟨_, rfl, law_post hW' rfl rfl Tryd.underlying4 rfl (fun sp _ => (trodAll_cons_mk (shut_case k0 k6 k7) (trodAll_cons_mk (shut_int Tryd.underlying39 w1) (trodAll_cons_mk (shut_int Tryd.underlying39 w2) trodAll_mk0)))) hg⟩

theorem lows_said : Rows.AluLowSaid :=
  OpenClaim.holds_of_wide 7 Tryd.f7 rfl rfl rfl rfl rfl rfl rfl ⟨rfl, rfl, rfl, rfl, rfl⟩ rfl rfl rfl rfl rfl (by kernel_rfl) Tryd.func7 (by kernel_rfl)
    (of_decide_eq_true (by kernel_rfl)) (by unfold Func.isWrapper; first | (rw [if_pos (by decide +kernel)]; kernel_rfl) | (rw [if_neg (by decide +kernel)]; exact ⟨rfl, rfl⟩))
    (fun os started H enc _ => lows_lifted os started H enc)

/-- The card: the row's listed variables are tied to the program's text. -/
theorem lows_card : Rows.AluLowCardSaid :=
  Claim7.holds_tied_plain_at .later [] [.data] true (true, "c4b0f213e8293d4ec68ba40c0ca6da894c6e3496a9363ffa585d4e111ac11d0f") false
    lows_said (fun _ h => by cases h) (by kernel_rfl) (fun _ h => by cases h) aluLow_row_tie rfl ⟨rfl, rfl⟩ (by kernel_rfl) rfl
    (fun f fn hf hfn => by
      obtain rfl : f = 7 := Option.some.inj ((show Tryd.prog.funcNamed "slotcode/slotcodelaw06.AluLow" = some 7 by kernel_rfl).symm.trans hf) |>.symm
      obtain rfl : fn = Tryd.f7 := (Option.some.inj (Tryd.func7.symm.trans hfn)).symm
      exact ⟨by kernel_rfl, fun j t ht => by
        rw [Tryd.params7] at ht
        have hm : t ∈ [26, 39, 39] := by simpa using Array.mem_of_getElem? ht
        have hall : ([26, 39, 39].all fun u => !Tryd.prog.wantsStandIn u) = true := by kernel_rfl
        exact (show Tryd.prog.wantsStandIn t = false by simpa using List.all_eq_true.1 hall t hm)⟩)
    (by kernel_rfl)
#print axioms lows_card
end Go.Proofs.YtkhnomicnblgfaaDoor
