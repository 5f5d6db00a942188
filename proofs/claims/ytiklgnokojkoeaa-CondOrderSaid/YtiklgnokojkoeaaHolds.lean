/- What the program's Holds returns for every instruction and values: 'hoV'. No condition but the numbers' bounds. -/
import Derived.Test.YtiklgnokojkoeaaHold
namespace Go.Proofs.Ytiklgnokojkoeaa
open Go.RowKit L3
open L6 (an opd cells6 row_up operand_any)

/-- Whether the condition of an instruction holds. -/
def hoV (op : Int) (reg : Bool) (imm dst src : Int) : Bool :=
  if op = 44 then true else if 45 ≤ op ∧ op < 56 then cnd 64 (op - 45).toNat dst (opd reg 4 imm src)
  else if 56 ≤ op ∧ op < 67 then cnd 32 (op - 56).toNat (dst % 4294967296) (opd reg 4 imm src % 4294967296) else false
theorem kinds_dec : ∀ k, k < 86 → (k = 44 ∧ fm k = 3) ∨ ((45 ≤ k ∧ k < 56) ∧ fm k = 4 ∧ bt k = 64) ∨ ((56 ≤ k ∧ k < 67) ∧ fm k = 4 ∧ bt k = 32) ∨ (k ≠ 44 ∧ ¬ (45 ≤ k ∧ k < 67) ∧ fm k ≠ 3 ∧ fm k ≠ 4) := by decide +kernel
theorem kinds (op : Int) : (op = 44 ∧ frm (ix op) = 3) ∨ (∃ i : Nat, i < 11 ∧ op = 45 + (i : Int) ∧ frm (ix op) = 4 ∧ bt (ix op) = 64) ∨ (∃ i : Nat, i < 11 ∧ op = 56 + (i : Int) ∧ frm (ix op) = 4 ∧ bt (ix op) = 32) ∨
    (op ≠ 44 ∧ ¬ (45 ≤ op ∧ op < 67) ∧ frm (ix op) ≠ 3 ∧ frm (ix op) ≠ 4) := by
  by_cases h : 0 ≤ op ∧ op < 86
  · obtain ⟨k, rfl⟩ : ∃ k : Nat, op = k := ⟨op.toNat, by omega⟩
    have hk : k < 86 := by omega
    rw [ix_nat hk]
    have e : frm k = fm k := by unfold frm; rw [if_pos hk]
    rw [e]
    rcases kinds_dec k hk with h | h | h | h
    · exact .inl ⟨by omega, h.2⟩
    · exact .inr (.inl ⟨k - 45, by omega, by omega, h.2⟩)
    · exact .inr (.inr (.inl ⟨k - 56, by omega, by omega, h.2⟩))
    · exact .inr (.inr (.inr ⟨by omega, by omega, h.2.2⟩))
  · have e : ix op = 86 := ix_out h
    rw [e]
    exact .inr (.inr (.inr ⟨by omega, by omega, by decide, by decide⟩))
theorem opd_b (reg : Bool) (f imm s : Int) (h0 : 0 ≤ s) (h1 : s < 18446744073709551616) : 0 ≤ opd reg f imm s ∧ opd reg f imm s < 18446744073709551616 := by
  unfold opd
  split
  · exact ⟨h0, h1⟩
  · omega
theorem hoV_44 (reg : Bool) (imm a s : Int) : hoV 44 reg imm a s = true := rfl
theorem hoV_64 (i : Nat) (h : i < 11) (reg : Bool) (imm a s : Int) : hoV (45 + (i : Int)) reg imm a s = cnd 64 i a (opd reg 4 imm s) := by
  unfold hoV
  rw [if_neg (by omega), if_pos (by omega)]
  have e : (45 + (i : Int) - 45).toNat = i := by omega
  rw [e]
theorem hoV_32 (i : Nat) (h : i < 11) (reg : Bool) (imm a s : Int) : hoV (56 + (i : Int)) reg imm a s = cnd 32 i (a % 4294967296) (opd reg 4 imm s % 4294967296) := by
  unfold hoV
  rw [if_neg (by omega), if_neg (by omega), if_pos (by omega)]
  have e : (56 + (i : Int) - 56).toNat = i := by omega
  rw [e]
theorem hoV_no {op : Int} (h : op ≠ 44) (k : ¬ (45 ≤ op ∧ op < 67)) (reg : Bool) (imm a s : Int) : hoV op reg imm a s = false := by
  unfold hoV
  rw [if_neg h, if_neg (by omega), if_neg (by omega)]

set_option maxHeartbeats 4000000 in
set_option maxRecDepth 100000 in
theorem holds_go (op f : Int) (hf : frm (ix op) = f) (reg : Bool) (dst sr off imm a s : Int) (v : Bool) (hv : (f = 3 ∧ v = true) ∨ (f ≠ 3 ∧ f ≠ 4 ∧ v = false)) (w : World) :
    Calls Try.prog 10 #[.agg #[.int .i64 op, .bool reg, .int .i64 dst, .int .i64 sr, .int .i64 off, .int .i64 imm], .int .u64 a, .int .u64 s] w fun e w' => e = .returned (.bool v) ∧ Below w.heap.size w w' := by
  have HF := Lib.hid (fun w => form_any op w)
  rw [hf] at HF
  have b0 := bnew w (.cells #[.int .i64 op, .bool reg, .int .i64 dst, .int .i64 sr, .int .i64 off, .int .i64 imm] 23)
  clear hf
  rcases hv with ⟨rfl, rfl⟩ | ⟨h3, h4, rfl⟩
  · go_enter Try.func10, Try.ntmps10
    go_wp2_with (go_at_call 18; ((with_reducible refine (HF.out _).mono ?_); rintro e w1 ⟨rfl, b1⟩))
    go_ret
    exact ⟨rfl, bch b0 b1⟩
  · have k3 : (f == 3) = false := by simpa using h3
    have k4 : (f == 4) = false := by simpa using h4
    clear h3 h4
    go_enter Try.func10, Try.ntmps10
    go_wp2_with (go_at_call 18; ((with_reducible refine (HF.out _).mono ?_); rintro e w1 ⟨rfl, b1⟩))
    go_ret
    exact ⟨rfl, bch b0 b1⟩
set_option maxHeartbeats 4000000 in
set_option maxRecDepth 100000 in
theorem holds_64 (op : Int) (i : Nat) (hi : i < 11) (hop : op = 45 + (i : Int)) (hf : frm (ix op) = 4) (hb : bt (ix op) = 64) (reg : Bool) (dst sr off imm a s : Int) (a0 : 0 ≤ a) (a1 : a < 18446744073709551616) (s0 : 0 ≤ s) (s1 : s < 18446744073709551616) (v : Bool) (hv : hoV op reg imm a s = v) (w : World) :
    Calls Try.prog 10 #[.agg #[.int .i64 op, .bool reg, .int .i64 dst, .int .i64 sr, .int .i64 off, .int .i64 imm], .int .u64 a, .int .u64 s] w fun e w' => e = .returned (.bool v) ∧ Below w.heap.size w w' := by
  have HF := Lib.hid (fun w => form_any op w)
  have HB := Lib.hid (fun w => bits_any op w)
  rw [hf] at HF
  rw [hb] at HB
  obtain ⟨o0, o1⟩ := opd_b reg 4 imm s s0 s1
  obtain ⟨o, ho⟩ : ∃ o, opd reg 4 imm s = o := ⟨_, rfl⟩
  have HO := Lib.hid (fun w => operand_any op reg dst sr off imm s o w (by rw [hf]; exact ho))
  rw [hop, hoV_64 i hi, ho] at hv
  rw [ho] at o0 o1
  have HH : Hid (∀ w, Calls Try.prog 22 #[.int .i64 op, .int .u64 a, .int .u64 o] w fun e w' => e = .returned (.bool v) ∧ w = w') := Lib.hid (fun w => by rw [hop, ← hv]; exact ho64 i hi a o a0 a1 o0 o1 w)
  have hx := heap_alloc_last w (.cells #[.int .i64 op, .bool reg, .int .i64 dst, .int .i64 sr, .int .i64 off, .int .i64 imm] 23)
  have b0 := bnew w (.cells #[.int .i64 op, .bool reg, .int .i64 dst, .int .i64 sr, .int .i64 off, .int .i64 imm] 23)
  obtain ⟨x0, x1, x2, x3, x4, x5⟩ := cells6 hx
  clear hv ho hop hf hb
  go_enter Try.func10, Try.ntmps10
  go_wp2_with (first
    | (go_at_call 18; ((with_reducible refine (HF.out _).mono ?_); rintro e w1 ⟨rfl, b1⟩; have B1 := bch b0 b1; have hx1 := row_up hx b1; clear x0 x1 x2 x3 x4 x5; obtain ⟨x0, x1, x2, x3, x4, x5⟩ := cells6 hx1))
    | (go_at_call 19; ((with_reducible refine (HO.out _).mono ?_); rintro e w2 ⟨rfl, b2⟩; have B2 := bch B1 b2; have hx2 := row_up hx1 b2; clear x0 x1 x2 x3 x4 x5; obtain ⟨x0, x1, x2, x3, x4, x5⟩ := cells6 hx2))
    | (go_at_call 20; ((with_reducible refine (HB.out _).mono ?_); rintro e w3 ⟨rfl, b3⟩; have B3 := bch B2 b3; have hx3 := row_up hx2 b3; clear x0 x1 x2 x3 x4 x5; obtain ⟨x0, x1, x2, x3, x4, x5⟩ := cells6 hx3))
    | (go_at_call 22; ((with_reducible refine (HH.out _).mono ?_); rintro e w4 ⟨rfl, rfl⟩)))
  go_ret
  exact ⟨rfl, B3⟩
set_option maxHeartbeats 4000000 in
set_option maxRecDepth 100000 in
theorem holds_32 (op : Int) (i : Nat) (hi : i < 11) (hop : op = 56 + (i : Int)) (hf : frm (ix op) = 4) (hb : bt (ix op) = 32) (reg : Bool) (dst sr off imm a s : Int) (v : Bool) (hv : hoV op reg imm a s = v) (w : World) :
    Calls Try.prog 10 #[.agg #[.int .i64 op, .bool reg, .int .i64 dst, .int .i64 sr, .int .i64 off, .int .i64 imm], .int .u64 a, .int .u64 s] w fun e w' => e = .returned (.bool v) ∧ Below w.heap.size w w' := by
  have HF := Lib.hid (fun w => form_any op w)
  have HB := Lib.hid (fun w => bits_any op w)
  rw [hf] at HF
  rw [hb] at HB
  obtain ⟨o, ho⟩ : ∃ o, opd reg 4 imm s = o := ⟨_, rfl⟩
  have HO := Lib.hid (fun w => operand_any op reg dst sr off imm s o w (by rw [hf]; exact ho))
  rw [hop, hoV_32 i hi, ho] at hv
  have hop' : op - 11 = 45 + (i : Int) := by omega
  have HH : Hid (∀ w, Calls Try.prog 21 #[.int .i64 (op - 11), .int .u64 a, .int .u64 o] w fun e w' => e = .returned (.bool v) ∧ w = w') := Lib.hid (fun w => by rw [hop', ← hv]; exact ho32 i hi a o w)
  have hx := heap_alloc_last w (.cells #[.int .i64 op, .bool reg, .int .i64 dst, .int .i64 sr, .int .i64 off, .int .i64 imm] 23)
  have b0 := bnew w (.cells #[.int .i64 op, .bool reg, .int .i64 dst, .int .i64 sr, .int .i64 off, .int .i64 imm] 23)
  obtain ⟨x0, x1, x2, x3, x4, x5⟩ := cells6 hx
  have q0 : 56 ≤ op := by omega
  have q1 : op < 67 := by omega
  clear hv ho hop hf hb hop'
  go_enter Try.func10, Try.ntmps10
  go_wp2_with (first
    | (go_at_call 18; ((with_reducible refine (HF.out _).mono ?_); rintro e w1 ⟨rfl, b1⟩; have B1 := bch b0 b1; have hx1 := row_up hx b1; clear x0 x1 x2 x3 x4 x5; obtain ⟨x0, x1, x2, x3, x4, x5⟩ := cells6 hx1))
    | (go_at_call 19; ((with_reducible refine (HO.out _).mono ?_); rintro e w2 ⟨rfl, b2⟩; have B2 := bch B1 b2; have hx2 := row_up hx1 b2; clear x0 x1 x2 x3 x4 x5; obtain ⟨x0, x1, x2, x3, x4, x5⟩ := cells6 hx2))
    | (go_at_call 20; ((with_reducible refine (HB.out _).mono ?_); rintro e w3 ⟨rfl, b3⟩; have B3 := bch B2 b3; have hx3 := row_up hx2 b3; clear x0 x1 x2 x3 x4 x5; obtain ⟨x0, x1, x2, x3, x4, x5⟩ := cells6 hx3))
    | (go_at_call 21; ((with_reducible refine (HH.out _).mono ?_); rintro e w4 ⟨rfl, rfl⟩)))
  go_ret
  exact ⟨rfl, B3⟩
theorem holds_any (op : Int) (reg : Bool) (dst sr off imm a s : Int) (v : Bool) (w : World) (a0 : 0 ≤ a) (a1 : a < 18446744073709551616) (s0 : 0 ≤ s) (s1 : s < 18446744073709551616) (hv : hoV op reg imm a s = v) :
    Calls Try.prog 10 #[.agg #[.int .i64 op, .bool reg, .int .i64 dst, .int .i64 sr, .int .i64 off, .int .i64 imm], .int .u64 a, .int .u64 s] w fun e w' => e = .returned (.bool v) ∧ Below w.heap.size w w' := by
  rcases kinds op with ⟨rfl, hf⟩ | ⟨i, hi, hop, hf, hb⟩ | ⟨i, hi, hop, hf, hb⟩ | ⟨h, k, h3, h4⟩
  · exact holds_go 44 3 hf reg dst sr off imm a s v (.inl ⟨rfl, by rw [← hv]; rfl⟩) w
  · exact holds_64 op i hi hop hf hb reg dst sr off imm a s a0 a1 s0 s1 v hv w
  · exact holds_32 op i hi hop hf hb reg dst sr off imm a s v hv w
  · exact holds_go op _ rfl reg dst sr off imm a s v (.inr ⟨h3, h4, by rw [← hv, hoV_no h k]⟩) w
end Go.Proofs.Ytiklgnokojkoeaa
