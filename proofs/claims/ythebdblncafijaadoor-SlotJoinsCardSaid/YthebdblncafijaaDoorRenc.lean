/- What the reference's Encode returns for a correct instruction: the bytes that Encode returns. No condition but that the immediate is one of 64 bits. -/
import Derived.Test.YthebdblncafijaaDoorRput
namespace Go.Proofs.YthebdblncafijaaDoor
open Go.RowKit L3 L1 L4

theorem own_mono {w : World} {base base' e : TypeId} {size : Nat} {v : Value} {n : Nat} {xs : List Value} (h : w.ownsRow base e size v n xs) (hb : base' ≤ base) : w.ownsRow base' e size v n xs := by
  refine ⟨h.1, ?_⟩
  rcases h.2 with h | ⟨g, cap, cur, hv, hg, r⟩
  · exact .inl h
  · exact .inr ⟨g, cap, cur, hv, Nat.le_trans hb hg, r⟩
theorem own_two (w : World) (base : Nat) (hb : base ≤ w.heap.size) (a b : UInt8) : (w.alloc (.cells #[.int .u8 (a.toNat : Int), .int .u8 (b.toNat : Int)] 5)).ownsRow base 5 1 (.slice (some ⟨w.heap.size, 0, none⟩) 2 2) 2 (byL [a, b]) :=
  ⟨by simp [byL], .inr ⟨w.heap.size, 2, _, rfl, hb, heap_alloc_last w _, by omega, by unfold maxLen; omega, rfl, by simp [byL]⟩⟩

/-- A stage of the reference's Encode. -/
structure RenS (w W : World) (X : Array Value) : Prop where
  hb : Below (w.heap.size + 1) (w.alloc (.cells X 23)) W
theorem RenS.cell {w W : World} {X : Array Value} (h : RenS w W X) : W.heap[w.heap.size]? = some (.cells X 23) := (h.hb.block _ (by omega)).trans (heap_alloc_last w _)
theorem RenS.start (w : World) (X : Array Value) : RenS w (w.alloc (.cells X 23)) X := ⟨Below.refl _ _⟩
theorem RenS.size {w W : World} {X : Array Value} (h : RenS w W X) : w.heap.size + 1 ≤ W.heap.size := by have := h.hb.size; simpa using this
theorem RenS.low {w W W' : World} {X : Array Value} (h : RenS w W X) (hb : Below (w.heap.size + 1) W W') : RenS w W' X := ⟨h.hb.trans hb⟩
theorem RenS.below {w W W' : World} {X : Array Value} (h : RenS w W X) (hb : Below W.heap.size W W') : RenS w W' X := h.low (hb.mono h.size)
theorem RenS.fin {w W : World} {X : Array Value} (h : RenS w W X) : Below w.heap.size w W := (bnew w _).trans (h.hb.mono (by omega))

theorem le2_u64 (z : Int) : le 2 (IntKind.u64.wrap z) = le 2 z := le_mod (by rw [IntKind.wrap_u64]; omega)
theorem le4_u64 (a b : Int) : le 4 (IntKind.u64.wrap (IntKind.u64.wrap a + IntKind.u64.wrap b)) = le 4 (b + a) := le_mod (by rw [IntKind.wrap_u64, IntKind.wrap_u64, IntKind.wrap_u64]; omega)
theorem le4_hi (z : Int) : le 4 (IntKind.u64.wrap z / 4294967296) = le 4 (z / 4294967296) := le_mod (by rw [IntKind.wrap_u64]; omega)
theorem le4_zero : le 4 0 = [0, 0, 0, 0] := rfl

theorem rput2 (base m : Nat) (l : List UInt8) (v : Value) (z : Int) (w : World) (hown : w.ownsRow base 5 1 v m (byL l)) (hb : base ≤ w.heap.size) (h0 : 0 ≤ z) (h1 : z < 18446744073709551616) (hm : m ≤ 10000000) :
    Calls Tryd.prog 37 #[v, .int .u64 z, .int .i64 2] w fun e w' => ∃ v', e = .returned v' ∧ w'.ownsRow base 5 1 v' (m + 2) (byL (l ++ le 2 z)) ∧ Below base w w' := rput_at base m l v z 2 w hown hb h0 h1 (by omega) hm
theorem rput4 (base m : Nat) (l : List UInt8) (v : Value) (z : Int) (w : World) (hown : w.ownsRow base 5 1 v m (byL l)) (hb : base ≤ w.heap.size) (h0 : 0 ≤ z) (h1 : z < 18446744073709551616) (hm : m ≤ 10000000) :
    Calls Tryd.prog 37 #[v, .int .u64 z, .int .i64 4] w fun e w' => ∃ v', e = .returned v' ∧ w'.ownsRow base 5 1 v' (m + 4) (byL (l ++ le 4 z)) ∧ Below base w w' := rput_at base m l v z 4 w hown hb h0 h1 (by omega) hm
theorem w64_byte (b : UInt8) : wrap64 (b.toNat : Int) = (b.toNat : Int) := by
  have := b.toNat_lt
  unfold wrap64
  omega
theorem mod_byte (b : UInt8) : (b.toNat : Int) % 256 = (b.toNat : Int) := by
  have := b.toNat_lt
  omega
theorem u64_b (z : Int) : 0 ≤ IntKind.u64.wrap z ∧ IntKind.u64.wrap z < 18446744073709551616 := by rw [IntKind.wrap_u64]; omega
theorem u64_h (z : Int) : 0 ≤ IntKind.u64.wrap z / 4294967296 ∧ IntKind.u64.wrap z / 4294967296 < 18446744073709551616 := by rw [IntKind.wrap_u64]; omega

set_option maxHeartbeats 4000000 in
set_option maxRecDepth 100000 in
theorem renc_1 (op : Int) (reg : Bool) (dst src off imm f : Int) (w : World) (hf : frm (ix op) = f) (hs : slo f = 1) (r o i : Int) (k0 : Bool) (a b : UInt8) (hV : cdV (ix op) reg = (a.toNat : Int)) (hK : cdB (ix op) reg = k0) (hr : sr (ix op) = r) (ho : of (ix op) = o) (hi : im (ix op) = i)
    (hbb : 16 * (r + src) + dst = (b.toNat : Int)) (hs0 : 0 ≤ r + src) (hs1 : r + src ≤ 15) (_ : -100000 ≤ o + off) (_ : o + off ≤ 100000) :
    Calls Tryd.prog 13 #[.agg #[.int .i64 op, .bool reg, .int .i64 dst, .int .i64 src, .int .i64 off, .int .i64 imm]] w fun e w' => ∃ v, e = .returned v ∧ w'.ownsRow w.heap.size 5 1 v 8 (byL ([a, b] ++ le 2 (off + o) ++ le 4 (imm + i))) ∧ Below w.heap.size w w' := by
  have HC := Lib.hid (fun w => rcode_at op reg _ k0 w hV hK)
  have HX := Lib.hid (fun w => rfixed_at op r o i w hr ho hi)
  have HS := Lib.hid (fun w => rslots_at op f 1 w hf hs)
  have S := RenS.start w #[.int .i64 op, .bool reg, .int .i64 dst, .int .i64 src, .int .i64 off, .int .i64 imm]

  have hw1 := w64_byte b
  have hm1 := mod_byte b
  have hu0 := (u64_b imm).1
  have hu1 := (u64_b imm).2
  clear hf hs hV hK hr ho hi
  go_enter Tryd.func13, Tryd.ntmps13
  obtain ⟨x0, x1, x2, x3, x4, x5⟩ := cells6 S.cell
  go_upto_region 4 with (first | (go_at_call 35; ((with_reducible refine (HC.out _).mono ?_); rintro e w1 ⟨rfl, hb1⟩; replace S := S.below hb1; clear x0 x1 x2 x3 x4 x5; obtain ⟨x0, x1, x2, x3, x4, x5⟩ := cells6 S.cell)) | (go_at_call 36; ((with_reducible refine (HX.out _).mono ?_); rintro e w2 ⟨rfl, hb2⟩; replace S := S.below hb2; clear x0 x1 x2 x3 x4 x5; obtain ⟨x0, x1, x2, x3, x4, x5⟩ := cells6 S.cell)))
  have hown := own_two w2 (w.heap.size + 1) S.size a b
  replace S := S.below (bnew w2 (.cells #[.int .u8 (a.toNat : Int), .int .u8 (b.toNat : Int)] 5))
  clear x0 x1 x2 x3 x4 x5 hw1 hm1 hbb
  obtain ⟨x0, x1, x2, x3, x4, x5⟩ := cells6 S.cell
  generalize w2.alloc _ = W at S hown x0 x1 x2 x3 x4 x5 ⊢
  go_wp2_with (first | (go_at_call 37; ((with_reducible refine (rput2 _ _ _ _ _ _ hown S.size (u64_b _).1 (u64_b _).2 (by omega)).mono ?_); rintro e w3 ⟨v3, rfl, hown3, hb3⟩; replace S := S.low hb3; clear x0 x1 x2 x3 x4 x5; obtain ⟨x0, x1, x2, x3, x4, x5⟩ := cells6 S.cell)) | (go_at_call 37; ((with_reducible refine (rput4 _ _ _ _ _ _ hown3 S.size (u64_b _).1 (u64_b _).2 (by omega)).mono ?_); rintro e w4 ⟨v4, rfl, hown4, hb4⟩; replace S := S.low hb4; clear x0 x1 x2 x3 x4 x5; obtain ⟨x0, x1, x2, x3, x4, x5⟩ := cells6 S.cell)) | (go_at_call 38; ((with_reducible refine (HS.out _).mono ?_); rintro e w5 ⟨rfl, rfl⟩)))
  go_ret
  refine ⟨_, rfl, ?_, S.fin⟩
  have hh := own_mono hown4 (Nat.le_succ w.heap.size)
  rw [le2_u64, le4_u64, Int.add_comm o off] at hh
  exact hh

set_option maxHeartbeats 4000000 in
set_option maxRecDepth 100000 in
theorem renc_2 (op : Int) (reg : Bool) (dst src off imm f : Int) (w : World) (hf : frm (ix op) = f) (hs : slo f = 2) (r o i : Int) (k0 : Bool) (a b : UInt8) (hV : cdV (ix op) reg = (a.toNat : Int)) (hK : cdB (ix op) reg = k0) (hr : sr (ix op) = r) (ho : of (ix op) = o) (hi : im (ix op) = i)
    (hbb : 16 * (r + src) + dst = (b.toNat : Int)) (hs0 : 0 ≤ r + src) (hs1 : r + src ≤ 15) (_ : -100000 ≤ o + off) (_ : o + off ≤ 100000) :
    Calls Tryd.prog 13 #[.agg #[.int .i64 op, .bool reg, .int .i64 dst, .int .i64 src, .int .i64 off, .int .i64 imm]] w fun e w' => ∃ v, e = .returned v ∧ w'.ownsRow w.heap.size 5 1 v 16 (byL ([a, b] ++ le 2 (off + o) ++ le 4 (imm + i) ++ le 4 0 ++ le 4 (imm / 4294967296))) ∧ Below w.heap.size w w' := by
  have HC := Lib.hid (fun w => rcode_at op reg _ k0 w hV hK)
  have HX := Lib.hid (fun w => rfixed_at op r o i w hr ho hi)
  have HS := Lib.hid (fun w => rslots_at op f 2 w hf hs)
  have S := RenS.start w #[.int .i64 op, .bool reg, .int .i64 dst, .int .i64 src, .int .i64 off, .int .i64 imm]

  have hw1 := w64_byte b
  have hm1 := mod_byte b
  have hu0 := (u64_b imm).1
  have hu1 := (u64_b imm).2
  clear hf hs hV hK hr ho hi
  go_enter Tryd.func13, Tryd.ntmps13
  obtain ⟨x0, x1, x2, x3, x4, x5⟩ := cells6 S.cell
  go_upto_region 4 with (first | (go_at_call 35; ((with_reducible refine (HC.out _).mono ?_); rintro e w1 ⟨rfl, hb1⟩; replace S := S.below hb1; clear x0 x1 x2 x3 x4 x5; obtain ⟨x0, x1, x2, x3, x4, x5⟩ := cells6 S.cell)) | (go_at_call 36; ((with_reducible refine (HX.out _).mono ?_); rintro e w2 ⟨rfl, hb2⟩; replace S := S.below hb2; clear x0 x1 x2 x3 x4 x5; obtain ⟨x0, x1, x2, x3, x4, x5⟩ := cells6 S.cell)))
  have hown := own_two w2 (w.heap.size + 1) S.size a b
  replace S := S.below (bnew w2 (.cells #[.int .u8 (a.toNat : Int), .int .u8 (b.toNat : Int)] 5))
  clear x0 x1 x2 x3 x4 x5 hw1 hm1 hbb
  obtain ⟨x0, x1, x2, x3, x4, x5⟩ := cells6 S.cell
  generalize w2.alloc _ = W at S hown x0 x1 x2 x3 x4 x5 ⊢
  go_wp2_with (first | (go_at_call 37; ((with_reducible refine (rput2 _ _ _ _ _ _ hown S.size (u64_b _).1 (u64_b _).2 (by omega)).mono ?_); rintro e w3 ⟨v3, rfl, hown3, hb3⟩; replace S := S.low hb3; clear x0 x1 x2 x3 x4 x5; obtain ⟨x0, x1, x2, x3, x4, x5⟩ := cells6 S.cell)) | (go_at_call 37; ((with_reducible refine (rput4 _ _ _ _ _ _ hown3 S.size (u64_b _).1 (u64_b _).2 (by omega)).mono ?_); rintro e w4 ⟨v4, rfl, hown4, hb4⟩; replace S := S.low hb4; clear x0 x1 x2 x3 x4 x5; obtain ⟨x0, x1, x2, x3, x4, x5⟩ := cells6 S.cell)) | (go_at_call 38; ((with_reducible refine (HS.out _).mono ?_); rintro e w5 ⟨rfl, rfl⟩)) | (go_at_call 37; ((with_reducible refine (rput4 _ _ _ _ _ _ hown4 S.size (by decide) (by decide) (by omega)).mono ?_); rintro e w6 ⟨v6, rfl, hown6, hb6⟩; replace S := S.low hb6; clear x0 x1 x2 x3 x4 x5; obtain ⟨x0, x1, x2, x3, x4, x5⟩ := cells6 S.cell)) | (go_at_call 37; ((with_reducible refine (rput4 _ _ _ _ _ _ hown6 S.size (u64_h _).1 (u64_h _).2 (by omega)).mono ?_); rintro e w7 ⟨v7, rfl, hown7, hb7⟩; replace S := S.low hb7; clear x0 x1 x2 x3 x4 x5; obtain ⟨x0, x1, x2, x3, x4, x5⟩ := cells6 S.cell)))
  go_ret
  refine ⟨_, rfl, ?_, S.fin⟩
  have hh := own_mono hown7 (Nat.le_succ w.heap.size)
  rw [le2_u64, le4_u64, Int.add_comm o off, le4_hi imm] at hh
  exact hh
end Go.Proofs.YthebdblncafijaaDoor
