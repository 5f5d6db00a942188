/- What the reference's Do returns: what the program's does. Condition: the numbers have 64 bits. -/
import Derived.Test.YtkhnomicnblgfaaDoorRbin
namespace Go.Proofs.YtkhnomicnblgfaaDoor
open Go.RowKit L1 L3

theorem turn6 {P : Program} {f : FuncId} {args : Array Value} {w : World} {x : Ending} (h : Calls P f args w fun e w' => e = x ∧ w = w') : Calls P f args w fun e w' => e = x ∧ w' = w := h.mono fun _ _ h => ⟨h.1, h.2.symm⟩

theorem ret_do {a b : Int} {o : Bool} (h : a = b) : Ending.returned (.tuple #[.int .u64 a, .bool o]) = Ending.returned (.tuple #[.int .u64 b, .bool o]) := by rw [h]
theorem forms28 : ∀ k, k < 28 → frm k = 0 := by decide +kernel

set_option maxHeartbeats 4000000 in
set_option maxRecDepth 100000 in
theorem rdo_alu64 (k : Nat) (reg : Bool) (dst sr off imm a s f v : Int) (w : World) (hk : 0 ≤ k ∧ k < 14) (hf : frm (ix ((k : Int))) = f) (hv : opd reg f imm s = v) (h0 : 0 ≤ a) (h1 : a < 18446744073709551616) (k0 : 0 ≤ v) (k1 : v < 18446744073709551616) :
    Calls Tryd.prog 10 #[.agg #[.int .i64 (k : Int), .bool reg, .int .i64 dst, .int .i64 sr, .int .i64 off, .int .i64 imm], .int .u64 a, .int .u64 s] w fun e w' => e = .returned (.tuple #[.int .u64 (aluL k 64 a v), .bool true]) ∧ Below w.heap.size w w' := by
  have hx := heap_alloc_last w (.cells #[.int .i64 (k : Int), .bool reg, .int .i64 dst, .int .i64 sr, .int .i64 off, .int .i64 imm] 23)
  have b0 := bnew w (.cells #[.int .i64 (k : Int), .bool reg, .int .i64 dst, .int .i64 sr, .int .i64 off, .int .i64 imm] 23)
  obtain ⟨x0, x1, x2, x3, x4, x5⟩ := cells6 hx
  have HO := Lib.hid (fun w => roperand_any ((k : Int)) reg dst sr off imm s v w (by rw [hf]; exact hv))
  have hbt : bt (ix (k : Int)) = 64 := by rw [ix_nat (by omega)]; exact (bits_vals k (by omega)).1 (.inl (by omega))
  have hfm : f = 0 := by rw [← hf, ix_nat (by omega)]; exact forms28 k (by omega)
  subst hfm
  have HB := Lib.hid (fun w => rbits_at (k : Int) 64 w hbt)
  have HF := Lib.hid (fun w => rform_at (k : Int) 0 w hf)
  have km : (k : Int) % 14 = ((k : Nat) : Int) := by omega
  have kn : 0 ≤ (k : Int) := by omega
  have HR := Lib.hid (fun w => rbin64 k (by omega) a v ((k : Int) % 14) km w h0 h1 k0 k1)
  generalize aluL k 64 a v = R at HR ⊢
  clear hf hv hbt km hk
  go_enter Tryd.func10, Tryd.ntmps10
  go_upto_region 5 with (first | (go_at_call 13; ((with_reducible refine (HO.out _).mono ?_); rintro e w1 ⟨rfl, b1⟩; have B1 := bch b0 b1; have hx1 := row_up hx b1; clear x0 x1 x2 x3 x4 x5; obtain ⟨x0, x1, x2, x3, x4, x5⟩ := cells6 hx1)) | (go_at_call 20; ((with_reducible refine (HB.out _).mono ?_); rintro e w2 ⟨rfl, b2⟩; have B2 := bch B1 b2; clear x0 x1 x2 x3 x4 x5; obtain ⟨x0, x1, x2, x3, x4, x5⟩ := cells6 (row_up hx1 b2); have hz := lt_of_block (row_up hx1 b2))) | (go_at_call 19; ((with_reducible refine (HF.out _).mono ?_); rintro e w3 ⟨rfl, rfl⟩)))
  go_quiet (first | (go_at_call 23; exact Calls.quiet_of_same (turn6 (rlow64 _ _))) | (go_at_call 24; exact Calls.quiet_of_same (turn6 (HR.out _))))
  go_wp2
  go_ret2
  exact ⟨rfl, below_drewN B2 nq⟩

set_option maxHeartbeats 4000000 in
set_option maxRecDepth 100000 in
theorem rdo_alu32 (k : Nat) (reg : Bool) (dst sr off imm a s f v : Int) (w : World) (hk : 14 ≤ k ∧ k < 28) (hf : frm (ix ((k : Int))) = f) (hv : opd reg f imm s = v) (h0 : 0 ≤ a) (_h1 : a < 18446744073709551616) (k0 : 0 ≤ v) (_k1 : v < 18446744073709551616) :
    Calls Tryd.prog 10 #[.agg #[.int .i64 (k : Int), .bool reg, .int .i64 dst, .int .i64 sr, .int .i64 off, .int .i64 imm], .int .u64 a, .int .u64 s] w fun e w' => e = .returned (.tuple #[.int .u64 (aluL (k - 14) 32 (a % 4294967296) (v % 4294967296)), .bool true]) ∧ Below w.heap.size w w' := by
  have hx := heap_alloc_last w (.cells #[.int .i64 (k : Int), .bool reg, .int .i64 dst, .int .i64 sr, .int .i64 off, .int .i64 imm] 23)
  have b0 := bnew w (.cells #[.int .i64 (k : Int), .bool reg, .int .i64 dst, .int .i64 sr, .int .i64 off, .int .i64 imm] 23)
  obtain ⟨x0, x1, x2, x3, x4, x5⟩ := cells6 hx
  have HO := Lib.hid (fun w => roperand_any ((k : Int)) reg dst sr off imm s v w (by rw [hf]; exact hv))
  have hbt : bt (ix (k : Int)) = 32 := by rw [ix_nat (by omega)]; exact (bits_vals k (by omega)).2 (.inl (by omega))
  have hfm : f = 0 := by rw [← hf, ix_nat (by omega)]; exact forms28 k (by omega)
  subst hfm
  have HB := Lib.hid (fun w => rbits_at (k : Int) 32 w hbt)
  have HF := Lib.hid (fun w => rform_at (k : Int) 0 w hf)
  have km : (k : Int) % 14 = (((k - 14) : Nat) : Int) := by omega
  have kn : 0 ≤ (k : Int) := by omega
  have a0 : 0 ≤ a % 4294967296 := by omega
  have a1 : a % 4294967296 < 4294967296 := by omega
  have v0 : 0 ≤ v % 4294967296 := by omega
  have v1 : v % 4294967296 < 4294967296 := by omega
  obtain ⟨l1, l2⟩ := biV_low (k - 14) (by omega) (a % 4294967296) (v % 4294967296) a0 a1 v0 v1
  have HR := Lib.hid (fun w => rbin32 (k - 14) (by omega) (a % 4294967296) (v % 4294967296) ((k : Int) % 14) km w a0 a1 v0 v1)
  rw [← l1]
  generalize biV (k - 14) (a % 4294967296) (v % 4294967296) = R at HR l2 ⊢
  clear l1 a1 v1
  clear hf hv hbt km hk
  go_enter Tryd.func10, Tryd.ntmps10
  go_upto_region 5 with (first | (go_at_call 13; ((with_reducible refine (HO.out _).mono ?_); rintro e w1 ⟨rfl, b1⟩; have B1 := bch b0 b1; have hx1 := row_up hx b1; clear x0 x1 x2 x3 x4 x5; obtain ⟨x0, x1, x2, x3, x4, x5⟩ := cells6 hx1)) | (go_at_call 20; ((with_reducible refine (HB.out _).mono ?_); rintro e w2 ⟨rfl, b2⟩; have B2 := bch B1 b2; clear x0 x1 x2 x3 x4 x5; obtain ⟨x0, x1, x2, x3, x4, x5⟩ := cells6 (row_up hx1 b2); have hz := lt_of_block (row_up hx1 b2))) | (go_at_call 19; ((with_reducible refine (HF.out _).mono ?_); rintro e w3 ⟨rfl, rfl⟩)))
  go_quiet (first | (go_at_call 23; exact Calls.quiet_of_same (turn6 (rlow32 _ _ (by assumption)))) | (go_at_call 24; exact Calls.quiet_of_same (turn6 (HR.out _))))
  go_wp2
  go_ret2
  exact ⟨rfl, below_drewN B2 nq⟩

set_option maxHeartbeats 4000000 in
set_option maxRecDepth 100000 in
theorem rdo_28 (reg : Bool) (dst sr off imm a s f v : Int) (w : World) (hf : frm (ix (28)) = f) (hv : opd reg f imm s = v) (_h0 : 0 ≤ a) (_h1 : a < 18446744073709551616) (_k0 : 0 ≤ v) (_k1 : v < 18446744073709551616) :
    Calls Tryd.prog 10 #[.agg #[.int .i64 28, .bool reg, .int .i64 dst, .int .i64 sr, .int .i64 off, .int .i64 imm], .int .u64 a, .int .u64 s] w fun e w' => e = .returned (.tuple #[.int .u64 (mo 64 (-a)), .bool true]) ∧ Below w.heap.size w w' := by
  have hx := heap_alloc_last w (.cells #[.int .i64 28, .bool reg, .int .i64 dst, .int .i64 sr, .int .i64 off, .int .i64 imm] 23)
  have b0 := bnew w (.cells #[.int .i64 28, .bool reg, .int .i64 dst, .int .i64 sr, .int .i64 off, .int .i64 imm] 23)
  obtain ⟨x0, x1, x2, x3, x4, x5⟩ := cells6 hx
  have HO := Lib.hid (fun w => roperand_any (28) reg dst sr off imm s v w (by rw [hf]; exact hv))
  have hbt : bt (ix 28) = 64 := by decide +kernel
  have hfm : f = 1 := by rw [← hf]; decide +kernel
  subst hfm
  have HB := Lib.hid (fun w => rbits_at 28 64 w hbt)
  have HF := Lib.hid (fun w => rform_at 28 1 w hf)
  have n0 : 0 ≤ IntKind.u64.wrap (-a) := by rw [IntKind.wrap_u64]; omega
  clear hf hv hbt
  go_enter Tryd.func10, Tryd.ntmps10
  go_wp2_with (first | (go_at_call 13; ((with_reducible refine (HO.out _).mono ?_); rintro e w1 ⟨rfl, b1⟩; have B1 := bch b0 b1; have hx1 := row_up hx b1; clear x0 x1 x2 x3 x4 x5; obtain ⟨x0, x1, x2, x3, x4, x5⟩ := cells6 hx1)) | (go_at_call 20; ((with_reducible refine (HB.out _).mono ?_); rintro e w2 ⟨rfl, b2⟩; have B2 := bch B1 b2; clear x0 x1 x2 x3 x4 x5; obtain ⟨x0, x1, x2, x3, x4, x5⟩ := cells6 (row_up hx1 b2); have hz := lt_of_block (row_up hx1 b2))) | (go_at_call 19; ((with_reducible refine (HF.out _).mono ?_); rintro e w3 ⟨rfl, rfl⟩)) | (go_at_call 23; ((with_reducible refine (rlow64 _ _).mono ?_); rintro e w4 ⟨rfl, rfl⟩)))
  go_ret2
  exact ⟨ret_do (by first | rfl | (show IntKind.u64.wrap (-a) % 4294967296 = -a % 4294967296; rw [IntKind.wrap_u64]; omega)), B2⟩

set_option maxHeartbeats 4000000 in
set_option maxRecDepth 100000 in
theorem rdo_29 (reg : Bool) (dst sr off imm a s f v : Int) (w : World) (hf : frm (ix (29)) = f) (hv : opd reg f imm s = v) (_h0 : 0 ≤ a) (_h1 : a < 18446744073709551616) (_k0 : 0 ≤ v) (_k1 : v < 18446744073709551616) :
    Calls Tryd.prog 10 #[.agg #[.int .i64 29, .bool reg, .int .i64 dst, .int .i64 sr, .int .i64 off, .int .i64 imm], .int .u64 a, .int .u64 s] w fun e w' => e = .returned (.tuple #[.int .u64 (mo 32 (-a)), .bool true]) ∧ Below w.heap.size w w' := by
  have hx := heap_alloc_last w (.cells #[.int .i64 29, .bool reg, .int .i64 dst, .int .i64 sr, .int .i64 off, .int .i64 imm] 23)
  have b0 := bnew w (.cells #[.int .i64 29, .bool reg, .int .i64 dst, .int .i64 sr, .int .i64 off, .int .i64 imm] 23)
  obtain ⟨x0, x1, x2, x3, x4, x5⟩ := cells6 hx
  have HO := Lib.hid (fun w => roperand_any (29) reg dst sr off imm s v w (by rw [hf]; exact hv))
  have hbt : bt (ix 29) = 32 := by decide +kernel
  have hfm : f = 1 := by rw [← hf]; decide +kernel
  subst hfm
  have HB := Lib.hid (fun w => rbits_at 29 32 w hbt)
  have HF := Lib.hid (fun w => rform_at 29 1 w hf)
  have n0 : 0 ≤ IntKind.u64.wrap (-a) := by rw [IntKind.wrap_u64]; omega
  clear hf hv hbt
  go_enter Tryd.func10, Tryd.ntmps10
  go_wp2_with (first | (go_at_call 13; ((with_reducible refine (HO.out _).mono ?_); rintro e w1 ⟨rfl, b1⟩; have B1 := bch b0 b1; have hx1 := row_up hx b1; clear x0 x1 x2 x3 x4 x5; obtain ⟨x0, x1, x2, x3, x4, x5⟩ := cells6 hx1)) | (go_at_call 20; ((with_reducible refine (HB.out _).mono ?_); rintro e w2 ⟨rfl, b2⟩; have B2 := bch B1 b2; clear x0 x1 x2 x3 x4 x5; obtain ⟨x0, x1, x2, x3, x4, x5⟩ := cells6 (row_up hx1 b2); have hz := lt_of_block (row_up hx1 b2))) | (go_at_call 19; ((with_reducible refine (HF.out _).mono ?_); rintro e w3 ⟨rfl, rfl⟩)) | (go_at_call 23; ((with_reducible refine (rlow32 _ _ (by assumption)).mono ?_); rintro e w4 ⟨rfl, rfl⟩)))
  go_ret2
  exact ⟨ret_do (by first | rfl | (show IntKind.u64.wrap (-a) % 4294967296 = -a % 4294967296; rw [IntKind.wrap_u64]; omega)), B2⟩

set_option maxHeartbeats 4000000 in
set_option maxRecDepth 100000 in
theorem rdo_35 (reg : Bool) (dst sr off imm a s f v : Int) (w : World) (hf : frm (ix (35)) = f) (hv : opd reg f imm s = v) (h0 : 0 ≤ a) (_h1 : a < 18446744073709551616) (_k0 : 0 ≤ v) (_k1 : v < 18446744073709551616) :
    Calls Tryd.prog 10 #[.agg #[.int .i64 35, .bool reg, .int .i64 dst, .int .i64 sr, .int .i64 off, .int .i64 imm], .int .u64 a, .int .u64 s] w fun e w' => e = .returned (.tuple #[.int .u64 (a % 65536), .bool true]) ∧ Below w.heap.size w w' := by
  have hx := heap_alloc_last w (.cells #[.int .i64 35, .bool reg, .int .i64 dst, .int .i64 sr, .int .i64 off, .int .i64 imm] 23)
  have b0 := bnew w (.cells #[.int .i64 35, .bool reg, .int .i64 dst, .int .i64 sr, .int .i64 off, .int .i64 imm] 23)
  obtain ⟨x0, x1, x2, x3, x4, x5⟩ := cells6 hx
  have HO := Lib.hid (fun w => roperand_any (35) reg dst sr off imm s v w (by rw [hf]; exact hv))
  have hbt : bt (ix 35) = 16 := by decide +kernel
  have hfm : f = 1 := by rw [← hf]; decide +kernel
  subst hfm
  have HB := Lib.hid (fun w => rbits_at 35 16 w hbt)
  have HF := Lib.hid (fun w => rform_at 35 1 w hf)
  clear hf hv hbt
  go_enter Tryd.func10, Tryd.ntmps10
  go_wp2_with (first | (go_at_call 13; ((with_reducible refine (HO.out _).mono ?_); rintro e w1 ⟨rfl, b1⟩; have B1 := bch b0 b1; have hx1 := row_up hx b1; clear x0 x1 x2 x3 x4 x5; obtain ⟨x0, x1, x2, x3, x4, x5⟩ := cells6 hx1)) | (go_at_call 20; ((with_reducible refine (HB.out _).mono ?_); rintro e w2 ⟨rfl, b2⟩; have B2 := bch B1 b2; clear x0 x1 x2 x3 x4 x5; obtain ⟨x0, x1, x2, x3, x4, x5⟩ := cells6 (row_up hx1 b2); have hz := lt_of_block (row_up hx1 b2))) | (go_at_call 19; ((with_reducible refine (HF.out _).mono ?_); rintro e w3 ⟨rfl, rfl⟩)) | (go_at_call 23; ((with_reducible refine (rlow16 _ _ (by assumption)).mono ?_); rintro e w4 ⟨rfl, rfl⟩)))
  go_ret2
  exact ⟨ret_do (by rfl), B2⟩

set_option maxHeartbeats 4000000 in
set_option maxRecDepth 100000 in
theorem rdo_36 (reg : Bool) (dst sr off imm a s f v : Int) (w : World) (hf : frm (ix (36)) = f) (hv : opd reg f imm s = v) (h0 : 0 ≤ a) (_h1 : a < 18446744073709551616) (_k0 : 0 ≤ v) (_k1 : v < 18446744073709551616) :
    Calls Tryd.prog 10 #[.agg #[.int .i64 36, .bool reg, .int .i64 dst, .int .i64 sr, .int .i64 off, .int .i64 imm], .int .u64 a, .int .u64 s] w fun e w' => e = .returned (.tuple #[.int .u64 (a % 4294967296), .bool true]) ∧ Below w.heap.size w w' := by
  have hx := heap_alloc_last w (.cells #[.int .i64 36, .bool reg, .int .i64 dst, .int .i64 sr, .int .i64 off, .int .i64 imm] 23)
  have b0 := bnew w (.cells #[.int .i64 36, .bool reg, .int .i64 dst, .int .i64 sr, .int .i64 off, .int .i64 imm] 23)
  obtain ⟨x0, x1, x2, x3, x4, x5⟩ := cells6 hx
  have HO := Lib.hid (fun w => roperand_any (36) reg dst sr off imm s v w (by rw [hf]; exact hv))
  have hbt : bt (ix 36) = 32 := by decide +kernel
  have hfm : f = 1 := by rw [← hf]; decide +kernel
  subst hfm
  have HB := Lib.hid (fun w => rbits_at 36 32 w hbt)
  have HF := Lib.hid (fun w => rform_at 36 1 w hf)
  clear hf hv hbt
  go_enter Tryd.func10, Tryd.ntmps10
  go_wp2_with (first | (go_at_call 13; ((with_reducible refine (HO.out _).mono ?_); rintro e w1 ⟨rfl, b1⟩; have B1 := bch b0 b1; have hx1 := row_up hx b1; clear x0 x1 x2 x3 x4 x5; obtain ⟨x0, x1, x2, x3, x4, x5⟩ := cells6 hx1)) | (go_at_call 20; ((with_reducible refine (HB.out _).mono ?_); rintro e w2 ⟨rfl, b2⟩; have B2 := bch B1 b2; clear x0 x1 x2 x3 x4 x5; obtain ⟨x0, x1, x2, x3, x4, x5⟩ := cells6 (row_up hx1 b2); have hz := lt_of_block (row_up hx1 b2))) | (go_at_call 19; ((with_reducible refine (HF.out _).mono ?_); rintro e w3 ⟨rfl, rfl⟩)) | (go_at_call 23; ((with_reducible refine (rlow32 _ _ (by assumption)).mono ?_); rintro e w4 ⟨rfl, rfl⟩)))
  go_ret2
  exact ⟨ret_do (by rfl), B2⟩

set_option maxHeartbeats 4000000 in
set_option maxRecDepth 100000 in
theorem rdo_37 (reg : Bool) (dst sr off imm a s f v : Int) (w : World) (hf : frm (ix (37)) = f) (hv : opd reg f imm s = v) (_h0 : 0 ≤ a) (_h1 : a < 18446744073709551616) (_k0 : 0 ≤ v) (_k1 : v < 18446744073709551616) :
    Calls Tryd.prog 10 #[.agg #[.int .i64 37, .bool reg, .int .i64 dst, .int .i64 sr, .int .i64 off, .int .i64 imm], .int .u64 a, .int .u64 s] w fun e w' => e = .returned (.tuple #[.int .u64 (a), .bool true]) ∧ Below w.heap.size w w' := by
  have hx := heap_alloc_last w (.cells #[.int .i64 37, .bool reg, .int .i64 dst, .int .i64 sr, .int .i64 off, .int .i64 imm] 23)
  have b0 := bnew w (.cells #[.int .i64 37, .bool reg, .int .i64 dst, .int .i64 sr, .int .i64 off, .int .i64 imm] 23)
  obtain ⟨x0, x1, x2, x3, x4, x5⟩ := cells6 hx
  have HO := Lib.hid (fun w => roperand_any (37) reg dst sr off imm s v w (by rw [hf]; exact hv))
  have hbt : bt (ix 37) = 64 := by decide +kernel
  have hfm : f = 1 := by rw [← hf]; decide +kernel
  subst hfm
  have HB := Lib.hid (fun w => rbits_at 37 64 w hbt)
  have HF := Lib.hid (fun w => rform_at 37 1 w hf)
  clear hf hv hbt
  go_enter Tryd.func10, Tryd.ntmps10
  go_wp2_with (first | (go_at_call 13; ((with_reducible refine (HO.out _).mono ?_); rintro e w1 ⟨rfl, b1⟩; have B1 := bch b0 b1; have hx1 := row_up hx b1; clear x0 x1 x2 x3 x4 x5; obtain ⟨x0, x1, x2, x3, x4, x5⟩ := cells6 hx1)) | (go_at_call 20; ((with_reducible refine (HB.out _).mono ?_); rintro e w2 ⟨rfl, b2⟩; have B2 := bch B1 b2; clear x0 x1 x2 x3 x4 x5; obtain ⟨x0, x1, x2, x3, x4, x5⟩ := cells6 (row_up hx1 b2); have hz := lt_of_block (row_up hx1 b2))) | (go_at_call 19; ((with_reducible refine (HF.out _).mono ?_); rintro e w3 ⟨rfl, rfl⟩)) | (go_at_call 23; ((with_reducible refine (rlow64 _ _).mono ?_); rintro e w4 ⟨rfl, rfl⟩)))
  go_ret2
  exact ⟨ret_do (by rfl), B2⟩

set_option maxHeartbeats 4000000 in
set_option maxRecDepth 100000 in
theorem rdo_38 (reg : Bool) (dst sr off imm a s f v : Int) (w : World) (hf : frm (ix (38)) = f) (hv : opd reg f imm s = v) (h0 : 0 ≤ a) (h1 : a < 18446744073709551616) (_k0 : 0 ≤ v) (_k1 : v < 18446744073709551616) :
    Calls Tryd.prog 10 #[.agg #[.int .i64 38, .bool reg, .int .i64 dst, .int .i64 sr, .int .i64 off, .int .i64 imm], .int .u64 a, .int .u64 s] w fun e w' => e = .returned (.tuple #[.int .u64 (sw 16 a), .bool true]) ∧ Below w.heap.size w w' := by
  have hx := heap_alloc_last w (.cells #[.int .i64 38, .bool reg, .int .i64 dst, .int .i64 sr, .int .i64 off, .int .i64 imm] 23)
  have b0 := bnew w (.cells #[.int .i64 38, .bool reg, .int .i64 dst, .int .i64 sr, .int .i64 off, .int .i64 imm] 23)
  obtain ⟨x0, x1, x2, x3, x4, x5⟩ := cells6 hx
  have HO := Lib.hid (fun w => roperand_any (38) reg dst sr off imm s v w (by rw [hf]; exact hv))
  have hbt : bt (ix 38) = 16 := by decide +kernel
  have hfm : f = 1 := by rw [← hf]; decide +kernel
  subst hfm
  have HB := Lib.hid (fun w => rbits_at 38 16 w hbt)
  have HF := Lib.hid (fun w => rform_at 38 1 w hf)
  have HS := Lib.hid (fun w => rswap_is a 16 w h0 h1 (by decide))
  clear hf hv hbt
  go_enter Tryd.func10, Tryd.ntmps10
  go_wp2_with (first | (go_at_call 13; ((with_reducible refine (HO.out _).mono ?_); rintro e w1 ⟨rfl, b1⟩; have B1 := bch b0 b1; have hx1 := row_up hx b1; clear x0 x1 x2 x3 x4 x5; obtain ⟨x0, x1, x2, x3, x4, x5⟩ := cells6 hx1)) | (go_at_call 20; ((with_reducible refine (HB.out _).mono ?_); rintro e w2 ⟨rfl, b2⟩; have B2 := bch B1 b2; clear x0 x1 x2 x3 x4 x5; obtain ⟨x0, x1, x2, x3, x4, x5⟩ := cells6 (row_up hx1 b2); have hz := lt_of_block (row_up hx1 b2))) | (go_at_call 19; ((with_reducible refine (HF.out _).mono ?_); rintro e w3 ⟨rfl, rfl⟩)) | (go_at_call 15; ((with_reducible refine (HS.out _).mono ?_); rintro e w4 ⟨rfl, rfl⟩)))
  go_ret2
  exact ⟨ret_do (by rfl), B2⟩

set_option maxHeartbeats 4000000 in
set_option maxRecDepth 100000 in
theorem rdo_39 (reg : Bool) (dst sr off imm a s f v : Int) (w : World) (hf : frm (ix (39)) = f) (hv : opd reg f imm s = v) (h0 : 0 ≤ a) (h1 : a < 18446744073709551616) (_k0 : 0 ≤ v) (_k1 : v < 18446744073709551616) :
    Calls Tryd.prog 10 #[.agg #[.int .i64 39, .bool reg, .int .i64 dst, .int .i64 sr, .int .i64 off, .int .i64 imm], .int .u64 a, .int .u64 s] w fun e w' => e = .returned (.tuple #[.int .u64 (sw 32 a), .bool true]) ∧ Below w.heap.size w w' := by
  have hx := heap_alloc_last w (.cells #[.int .i64 39, .bool reg, .int .i64 dst, .int .i64 sr, .int .i64 off, .int .i64 imm] 23)
  have b0 := bnew w (.cells #[.int .i64 39, .bool reg, .int .i64 dst, .int .i64 sr, .int .i64 off, .int .i64 imm] 23)
  obtain ⟨x0, x1, x2, x3, x4, x5⟩ := cells6 hx
  have HO := Lib.hid (fun w => roperand_any (39) reg dst sr off imm s v w (by rw [hf]; exact hv))
  have hbt : bt (ix 39) = 32 := by decide +kernel
  have hfm : f = 1 := by rw [← hf]; decide +kernel
  subst hfm
  have HB := Lib.hid (fun w => rbits_at 39 32 w hbt)
  have HF := Lib.hid (fun w => rform_at 39 1 w hf)
  have HS := Lib.hid (fun w => rswap_is a 32 w h0 h1 (by decide))
  clear hf hv hbt
  go_enter Tryd.func10, Tryd.ntmps10
  go_wp2_with (first | (go_at_call 13; ((with_reducible refine (HO.out _).mono ?_); rintro e w1 ⟨rfl, b1⟩; have B1 := bch b0 b1; have hx1 := row_up hx b1; clear x0 x1 x2 x3 x4 x5; obtain ⟨x0, x1, x2, x3, x4, x5⟩ := cells6 hx1)) | (go_at_call 20; ((with_reducible refine (HB.out _).mono ?_); rintro e w2 ⟨rfl, b2⟩; have B2 := bch B1 b2; clear x0 x1 x2 x3 x4 x5; obtain ⟨x0, x1, x2, x3, x4, x5⟩ := cells6 (row_up hx1 b2); have hz := lt_of_block (row_up hx1 b2))) | (go_at_call 19; ((with_reducible refine (HF.out _).mono ?_); rintro e w3 ⟨rfl, rfl⟩)) | (go_at_call 15; ((with_reducible refine (HS.out _).mono ?_); rintro e w4 ⟨rfl, rfl⟩)))
  go_ret2
  exact ⟨ret_do (by rfl), B2⟩

set_option maxHeartbeats 4000000 in
set_option maxRecDepth 100000 in
theorem rdo_40 (reg : Bool) (dst sr off imm a s f v : Int) (w : World) (hf : frm (ix (40)) = f) (hv : opd reg f imm s = v) (h0 : 0 ≤ a) (h1 : a < 18446744073709551616) (_k0 : 0 ≤ v) (_k1 : v < 18446744073709551616) :
    Calls Tryd.prog 10 #[.agg #[.int .i64 40, .bool reg, .int .i64 dst, .int .i64 sr, .int .i64 off, .int .i64 imm], .int .u64 a, .int .u64 s] w fun e w' => e = .returned (.tuple #[.int .u64 (sw 64 a), .bool true]) ∧ Below w.heap.size w w' := by
  have hx := heap_alloc_last w (.cells #[.int .i64 40, .bool reg, .int .i64 dst, .int .i64 sr, .int .i64 off, .int .i64 imm] 23)
  have b0 := bnew w (.cells #[.int .i64 40, .bool reg, .int .i64 dst, .int .i64 sr, .int .i64 off, .int .i64 imm] 23)
  obtain ⟨x0, x1, x2, x3, x4, x5⟩ := cells6 hx
  have HO := Lib.hid (fun w => roperand_any (40) reg dst sr off imm s v w (by rw [hf]; exact hv))
  have hbt : bt (ix 40) = 64 := by decide +kernel
  have hfm : f = 1 := by rw [← hf]; decide +kernel
  subst hfm
  have HB := Lib.hid (fun w => rbits_at 40 64 w hbt)
  have HF := Lib.hid (fun w => rform_at 40 1 w hf)
  have HS := Lib.hid (fun w => rswap_is a 64 w h0 h1 (by decide))
  clear hf hv hbt
  go_enter Tryd.func10, Tryd.ntmps10
  go_wp2_with (first | (go_at_call 13; ((with_reducible refine (HO.out _).mono ?_); rintro e w1 ⟨rfl, b1⟩; have B1 := bch b0 b1; have hx1 := row_up hx b1; clear x0 x1 x2 x3 x4 x5; obtain ⟨x0, x1, x2, x3, x4, x5⟩ := cells6 hx1)) | (go_at_call 20; ((with_reducible refine (HB.out _).mono ?_); rintro e w2 ⟨rfl, b2⟩; have B2 := bch B1 b2; clear x0 x1 x2 x3 x4 x5; obtain ⟨x0, x1, x2, x3, x4, x5⟩ := cells6 (row_up hx1 b2); have hz := lt_of_block (row_up hx1 b2))) | (go_at_call 19; ((with_reducible refine (HF.out _).mono ?_); rintro e w3 ⟨rfl, rfl⟩)) | (go_at_call 15; ((with_reducible refine (HS.out _).mono ?_); rintro e w4 ⟨rfl, rfl⟩)))
  go_ret2
  exact ⟨ret_do (by rfl), B2⟩

set_option maxHeartbeats 4000000 in
set_option maxRecDepth 100000 in
theorem rdo_41 (reg : Bool) (dst sr off imm a s f v : Int) (w : World) (hf : frm (ix (41)) = f) (hv : opd reg f imm s = v) (h0 : 0 ≤ a) (h1 : a < 18446744073709551616) (_k0 : 0 ≤ v) (_k1 : v < 18446744073709551616) :
    Calls Tryd.prog 10 #[.agg #[.int .i64 41, .bool reg, .int .i64 dst, .int .i64 sr, .int .i64 off, .int .i64 imm], .int .u64 a, .int .u64 s] w fun e w' => e = .returned (.tuple #[.int .u64 (sw 16 a), .bool true]) ∧ Below w.heap.size w w' := by
  have hx := heap_alloc_last w (.cells #[.int .i64 41, .bool reg, .int .i64 dst, .int .i64 sr, .int .i64 off, .int .i64 imm] 23)
  have b0 := bnew w (.cells #[.int .i64 41, .bool reg, .int .i64 dst, .int .i64 sr, .int .i64 off, .int .i64 imm] 23)
  obtain ⟨x0, x1, x2, x3, x4, x5⟩ := cells6 hx
  have HO := Lib.hid (fun w => roperand_any (41) reg dst sr off imm s v w (by rw [hf]; exact hv))
  have hbt : bt (ix 41) = 16 := by decide +kernel
  have hfm : f = 1 := by rw [← hf]; decide +kernel
  subst hfm
  have HB := Lib.hid (fun w => rbits_at 41 16 w hbt)
  have HF := Lib.hid (fun w => rform_at 41 1 w hf)
  have HS := Lib.hid (fun w => rswap_is a 16 w h0 h1 (by decide))
  clear hf hv hbt
  go_enter Tryd.func10, Tryd.ntmps10
  go_wp2_with (first | (go_at_call 13; ((with_reducible refine (HO.out _).mono ?_); rintro e w1 ⟨rfl, b1⟩; have B1 := bch b0 b1; have hx1 := row_up hx b1; clear x0 x1 x2 x3 x4 x5; obtain ⟨x0, x1, x2, x3, x4, x5⟩ := cells6 hx1)) | (go_at_call 20; ((with_reducible refine (HB.out _).mono ?_); rintro e w2 ⟨rfl, b2⟩; have B2 := bch B1 b2; clear x0 x1 x2 x3 x4 x5; obtain ⟨x0, x1, x2, x3, x4, x5⟩ := cells6 (row_up hx1 b2); have hz := lt_of_block (row_up hx1 b2))) | (go_at_call 19; ((with_reducible refine (HF.out _).mono ?_); rintro e w3 ⟨rfl, rfl⟩)) | (go_at_call 15; ((with_reducible refine (HS.out _).mono ?_); rintro e w4 ⟨rfl, rfl⟩)))
  go_ret2
  exact ⟨ret_do (by rfl), B2⟩

set_option maxHeartbeats 4000000 in
set_option maxRecDepth 100000 in
theorem rdo_42 (reg : Bool) (dst sr off imm a s f v : Int) (w : World) (hf : frm (ix (42)) = f) (hv : opd reg f imm s = v) (h0 : 0 ≤ a) (h1 : a < 18446744073709551616) (_k0 : 0 ≤ v) (_k1 : v < 18446744073709551616) :
    Calls Tryd.prog 10 #[.agg #[.int .i64 42, .bool reg, .int .i64 dst, .int .i64 sr, .int .i64 off, .int .i64 imm], .int .u64 a, .int .u64 s] w fun e w' => e = .returned (.tuple #[.int .u64 (sw 32 a), .bool true]) ∧ Below w.heap.size w w' := by
  have hx := heap_alloc_last w (.cells #[.int .i64 42, .bool reg, .int .i64 dst, .int .i64 sr, .int .i64 off, .int .i64 imm] 23)
  have b0 := bnew w (.cells #[.int .i64 42, .bool reg, .int .i64 dst, .int .i64 sr, .int .i64 off, .int .i64 imm] 23)
  obtain ⟨x0, x1, x2, x3, x4, x5⟩ := cells6 hx
  have HO := Lib.hid (fun w => roperand_any (42) reg dst sr off imm s v w (by rw [hf]; exact hv))
  have hbt : bt (ix 42) = 32 := by decide +kernel
  have hfm : f = 1 := by rw [← hf]; decide +kernel
  subst hfm
  have HB := Lib.hid (fun w => rbits_at 42 32 w hbt)
  have HF := Lib.hid (fun w => rform_at 42 1 w hf)
  have HS := Lib.hid (fun w => rswap_is a 32 w h0 h1 (by decide))
  clear hf hv hbt
  go_enter Tryd.func10, Tryd.ntmps10
  go_wp2_with (first | (go_at_call 13; ((with_reducible refine (HO.out _).mono ?_); rintro e w1 ⟨rfl, b1⟩; have B1 := bch b0 b1; have hx1 := row_up hx b1; clear x0 x1 x2 x3 x4 x5; obtain ⟨x0, x1, x2, x3, x4, x5⟩ := cells6 hx1)) | (go_at_call 20; ((with_reducible refine (HB.out _).mono ?_); rintro e w2 ⟨rfl, b2⟩; have B2 := bch B1 b2; clear x0 x1 x2 x3 x4 x5; obtain ⟨x0, x1, x2, x3, x4, x5⟩ := cells6 (row_up hx1 b2); have hz := lt_of_block (row_up hx1 b2))) | (go_at_call 19; ((with_reducible refine (HF.out _).mono ?_); rintro e w3 ⟨rfl, rfl⟩)) | (go_at_call 15; ((with_reducible refine (HS.out _).mono ?_); rintro e w4 ⟨rfl, rfl⟩)))
  go_ret2
  exact ⟨ret_do (by rfl), B2⟩

set_option maxHeartbeats 4000000 in
set_option maxRecDepth 100000 in
theorem rdo_43 (reg : Bool) (dst sr off imm a s f v : Int) (w : World) (hf : frm (ix (43)) = f) (hv : opd reg f imm s = v) (h0 : 0 ≤ a) (h1 : a < 18446744073709551616) (_k0 : 0 ≤ v) (_k1 : v < 18446744073709551616) :
    Calls Tryd.prog 10 #[.agg #[.int .i64 43, .bool reg, .int .i64 dst, .int .i64 sr, .int .i64 off, .int .i64 imm], .int .u64 a, .int .u64 s] w fun e w' => e = .returned (.tuple #[.int .u64 (sw 64 a), .bool true]) ∧ Below w.heap.size w w' := by
  have hx := heap_alloc_last w (.cells #[.int .i64 43, .bool reg, .int .i64 dst, .int .i64 sr, .int .i64 off, .int .i64 imm] 23)
  have b0 := bnew w (.cells #[.int .i64 43, .bool reg, .int .i64 dst, .int .i64 sr, .int .i64 off, .int .i64 imm] 23)
  obtain ⟨x0, x1, x2, x3, x4, x5⟩ := cells6 hx
  have HO := Lib.hid (fun w => roperand_any (43) reg dst sr off imm s v w (by rw [hf]; exact hv))
  have hbt : bt (ix 43) = 64 := by decide +kernel
  have hfm : f = 1 := by rw [← hf]; decide +kernel
  subst hfm
  have HB := Lib.hid (fun w => rbits_at 43 64 w hbt)
  have HF := Lib.hid (fun w => rform_at 43 1 w hf)
  have HS := Lib.hid (fun w => rswap_is a 64 w h0 h1 (by decide))
  clear hf hv hbt
  go_enter Tryd.func10, Tryd.ntmps10
  go_wp2_with (first | (go_at_call 13; ((with_reducible refine (HO.out _).mono ?_); rintro e w1 ⟨rfl, b1⟩; have B1 := bch b0 b1; have hx1 := row_up hx b1; clear x0 x1 x2 x3 x4 x5; obtain ⟨x0, x1, x2, x3, x4, x5⟩ := cells6 hx1)) | (go_at_call 20; ((with_reducible refine (HB.out _).mono ?_); rintro e w2 ⟨rfl, b2⟩; have B2 := bch B1 b2; clear x0 x1 x2 x3 x4 x5; obtain ⟨x0, x1, x2, x3, x4, x5⟩ := cells6 (row_up hx1 b2); have hz := lt_of_block (row_up hx1 b2))) | (go_at_call 19; ((with_reducible refine (HF.out _).mono ?_); rintro e w3 ⟨rfl, rfl⟩)) | (go_at_call 15; ((with_reducible refine (HS.out _).mono ?_); rintro e w4 ⟨rfl, rfl⟩)))
  go_ret2
  exact ⟨ret_do (by rfl), B2⟩

set_option maxHeartbeats 4000000 in
set_option maxRecDepth 100000 in
theorem rdo_30 (reg : Bool) (dst sr off imm a s f v : Int) (w : World) (hf : frm (ix (30)) = f) (hv : opd reg f imm s = v) (_h0 : 0 ≤ a) (_h1 : a < 18446744073709551616) (k0 : 0 ≤ v) (k1 : v < 18446744073709551616) :
    Calls Tryd.prog 10 #[.agg #[.int .i64 30, .bool reg, .int .i64 dst, .int .i64 sr, .int .i64 off, .int .i64 imm], .int .u64 a, .int .u64 s] w fun e w' => e = .returned (.tuple #[.int .u64 (mo 64 (sx 8 v)), .bool true]) ∧ Below w.heap.size w w' := by
  have hx := heap_alloc_last w (.cells #[.int .i64 30, .bool reg, .int .i64 dst, .int .i64 sr, .int .i64 off, .int .i64 imm] 23)
  have b0 := bnew w (.cells #[.int .i64 30, .bool reg, .int .i64 dst, .int .i64 sr, .int .i64 off, .int .i64 imm] 23)
  obtain ⟨x0, x1, x2, x3, x4, x5⟩ := cells6 hx
  have HO := Lib.hid (fun w => roperand_any (30) reg dst sr off imm s v w (by rw [hf]; exact hv))
  have hbt : bt (ix 30) = 64 := by decide +kernel
  have hfm : f = 2 := by rw [← hf]; decide +kernel
  subst hfm
  have HB := Lib.hid (fun w => rbits_at 30 64 w hbt)
  have HF := Lib.hid (fun w => rform_at 30 2 w hf)
  have HE := Lib.hid (fun w => rextend_yes v 8 w k0 k1 (by decide))
  have n0 : 0 ≤ IntKind.u64.wrap (sx 8 v) := by rw [IntKind.wrap_u64]; omega
  clear hf hv hbt
  go_enter Tryd.func10, Tryd.ntmps10
  go_wp2_with (first | (go_at_call 13; ((with_reducible refine (HO.out _).mono ?_); rintro e w1 ⟨rfl, b1⟩; have B1 := bch b0 b1; have hx1 := row_up hx b1; clear x0 x1 x2 x3 x4 x5; obtain ⟨x0, x1, x2, x3, x4, x5⟩ := cells6 hx1)) | (go_at_call 20; ((with_reducible refine (HB.out _).mono ?_); rintro e w2 ⟨rfl, b2⟩; have B2 := bch B1 b2; clear x0 x1 x2 x3 x4 x5; obtain ⟨x0, x1, x2, x3, x4, x5⟩ := cells6 (row_up hx1 b2); have hz := lt_of_block (row_up hx1 b2))) | (go_at_call 19; ((with_reducible refine (HF.out _).mono ?_); rintro e w3 ⟨rfl, rfl⟩)) | (go_at_call 16; ((with_reducible refine (HE.out _).mono ?_); rintro e w4 ⟨rfl, rfl⟩)) | (go_at_call 23; ((with_reducible refine (rlow64 _ _).mono ?_); rintro e w5 ⟨rfl, rfl⟩)))
  go_ret2
  exact ⟨ret_do (by rfl), bch B2 (bnew _ _)⟩

set_option maxHeartbeats 4000000 in
set_option maxRecDepth 100000 in
theorem rdo_31 (reg : Bool) (dst sr off imm a s f v : Int) (w : World) (hf : frm (ix (31)) = f) (hv : opd reg f imm s = v) (_h0 : 0 ≤ a) (_h1 : a < 18446744073709551616) (k0 : 0 ≤ v) (k1 : v < 18446744073709551616) :
    Calls Tryd.prog 10 #[.agg #[.int .i64 31, .bool reg, .int .i64 dst, .int .i64 sr, .int .i64 off, .int .i64 imm], .int .u64 a, .int .u64 s] w fun e w' => e = .returned (.tuple #[.int .u64 (mo 64 (sx 16 v)), .bool true]) ∧ Below w.heap.size w w' := by
  have hx := heap_alloc_last w (.cells #[.int .i64 31, .bool reg, .int .i64 dst, .int .i64 sr, .int .i64 off, .int .i64 imm] 23)
  have b0 := bnew w (.cells #[.int .i64 31, .bool reg, .int .i64 dst, .int .i64 sr, .int .i64 off, .int .i64 imm] 23)
  obtain ⟨x0, x1, x2, x3, x4, x5⟩ := cells6 hx
  have HO := Lib.hid (fun w => roperand_any (31) reg dst sr off imm s v w (by rw [hf]; exact hv))
  have hbt : bt (ix 31) = 64 := by decide +kernel
  have hfm : f = 2 := by rw [← hf]; decide +kernel
  subst hfm
  have HB := Lib.hid (fun w => rbits_at 31 64 w hbt)
  have HF := Lib.hid (fun w => rform_at 31 2 w hf)
  have HE := Lib.hid (fun w => rextend_yes v 16 w k0 k1 (by decide))
  have n0 : 0 ≤ IntKind.u64.wrap (sx 16 v) := by rw [IntKind.wrap_u64]; omega
  clear hf hv hbt
  go_enter Tryd.func10, Tryd.ntmps10
  go_wp2_with (first | (go_at_call 13; ((with_reducible refine (HO.out _).mono ?_); rintro e w1 ⟨rfl, b1⟩; have B1 := bch b0 b1; have hx1 := row_up hx b1; clear x0 x1 x2 x3 x4 x5; obtain ⟨x0, x1, x2, x3, x4, x5⟩ := cells6 hx1)) | (go_at_call 20; ((with_reducible refine (HB.out _).mono ?_); rintro e w2 ⟨rfl, b2⟩; have B2 := bch B1 b2; clear x0 x1 x2 x3 x4 x5; obtain ⟨x0, x1, x2, x3, x4, x5⟩ := cells6 (row_up hx1 b2); have hz := lt_of_block (row_up hx1 b2))) | (go_at_call 19; ((with_reducible refine (HF.out _).mono ?_); rintro e w3 ⟨rfl, rfl⟩)) | (go_at_call 16; ((with_reducible refine (HE.out _).mono ?_); rintro e w4 ⟨rfl, rfl⟩)) | (go_at_call 23; ((with_reducible refine (rlow64 _ _).mono ?_); rintro e w5 ⟨rfl, rfl⟩)))
  go_ret2
  exact ⟨ret_do (by rfl), bch B2 (bnew _ _)⟩

set_option maxHeartbeats 4000000 in
set_option maxRecDepth 100000 in
theorem rdo_32 (reg : Bool) (dst sr off imm a s f v : Int) (w : World) (hf : frm (ix (32)) = f) (hv : opd reg f imm s = v) (_h0 : 0 ≤ a) (_h1 : a < 18446744073709551616) (k0 : 0 ≤ v) (k1 : v < 18446744073709551616) :
    Calls Tryd.prog 10 #[.agg #[.int .i64 32, .bool reg, .int .i64 dst, .int .i64 sr, .int .i64 off, .int .i64 imm], .int .u64 a, .int .u64 s] w fun e w' => e = .returned (.tuple #[.int .u64 (mo 64 (sx 32 v)), .bool true]) ∧ Below w.heap.size w w' := by
  have hx := heap_alloc_last w (.cells #[.int .i64 32, .bool reg, .int .i64 dst, .int .i64 sr, .int .i64 off, .int .i64 imm] 23)
  have b0 := bnew w (.cells #[.int .i64 32, .bool reg, .int .i64 dst, .int .i64 sr, .int .i64 off, .int .i64 imm] 23)
  obtain ⟨x0, x1, x2, x3, x4, x5⟩ := cells6 hx
  have HO := Lib.hid (fun w => roperand_any (32) reg dst sr off imm s v w (by rw [hf]; exact hv))
  have hbt : bt (ix 32) = 64 := by decide +kernel
  have hfm : f = 2 := by rw [← hf]; decide +kernel
  subst hfm
  have HB := Lib.hid (fun w => rbits_at 32 64 w hbt)
  have HF := Lib.hid (fun w => rform_at 32 2 w hf)
  have HE := Lib.hid (fun w => rextend_yes v 32 w k0 k1 (by decide))
  have n0 : 0 ≤ IntKind.u64.wrap (sx 32 v) := by rw [IntKind.wrap_u64]; omega
  clear hf hv hbt
  go_enter Tryd.func10, Tryd.ntmps10
  go_wp2_with (first | (go_at_call 13; ((with_reducible refine (HO.out _).mono ?_); rintro e w1 ⟨rfl, b1⟩; have B1 := bch b0 b1; have hx1 := row_up hx b1; clear x0 x1 x2 x3 x4 x5; obtain ⟨x0, x1, x2, x3, x4, x5⟩ := cells6 hx1)) | (go_at_call 20; ((with_reducible refine (HB.out _).mono ?_); rintro e w2 ⟨rfl, b2⟩; have B2 := bch B1 b2; clear x0 x1 x2 x3 x4 x5; obtain ⟨x0, x1, x2, x3, x4, x5⟩ := cells6 (row_up hx1 b2); have hz := lt_of_block (row_up hx1 b2))) | (go_at_call 19; ((with_reducible refine (HF.out _).mono ?_); rintro e w3 ⟨rfl, rfl⟩)) | (go_at_call 16; ((with_reducible refine (HE.out _).mono ?_); rintro e w4 ⟨rfl, rfl⟩)) | (go_at_call 23; ((with_reducible refine (rlow64 _ _).mono ?_); rintro e w5 ⟨rfl, rfl⟩)))
  go_ret2
  exact ⟨ret_do (by rfl), bch B2 (bnew _ _)⟩

set_option maxHeartbeats 4000000 in
set_option maxRecDepth 100000 in
theorem rdo_33 (reg : Bool) (dst sr off imm a s f v : Int) (w : World) (hf : frm (ix (33)) = f) (hv : opd reg f imm s = v) (_h0 : 0 ≤ a) (_h1 : a < 18446744073709551616) (k0 : 0 ≤ v) (k1 : v < 18446744073709551616) :
    Calls Tryd.prog 10 #[.agg #[.int .i64 33, .bool reg, .int .i64 dst, .int .i64 sr, .int .i64 off, .int .i64 imm], .int .u64 a, .int .u64 s] w fun e w' => e = .returned (.tuple #[.int .u64 (mo 32 (sx 8 v)), .bool true]) ∧ Below w.heap.size w w' := by
  have hx := heap_alloc_last w (.cells #[.int .i64 33, .bool reg, .int .i64 dst, .int .i64 sr, .int .i64 off, .int .i64 imm] 23)
  have b0 := bnew w (.cells #[.int .i64 33, .bool reg, .int .i64 dst, .int .i64 sr, .int .i64 off, .int .i64 imm] 23)
  obtain ⟨x0, x1, x2, x3, x4, x5⟩ := cells6 hx
  have HO := Lib.hid (fun w => roperand_any (33) reg dst sr off imm s v w (by rw [hf]; exact hv))
  have hbt : bt (ix 33) = 32 := by decide +kernel
  have hfm : f = 2 := by rw [← hf]; decide +kernel
  subst hfm
  have HB := Lib.hid (fun w => rbits_at 33 32 w hbt)
  have HF := Lib.hid (fun w => rform_at 33 2 w hf)
  have HE := Lib.hid (fun w => rextend_yes v 8 w k0 k1 (by decide))
  have n0 : 0 ≤ IntKind.u64.wrap (sx 8 v) := by rw [IntKind.wrap_u64]; omega
  clear hf hv hbt
  go_enter Tryd.func10, Tryd.ntmps10
  go_wp2_with (first | (go_at_call 13; ((with_reducible refine (HO.out _).mono ?_); rintro e w1 ⟨rfl, b1⟩; have B1 := bch b0 b1; have hx1 := row_up hx b1; clear x0 x1 x2 x3 x4 x5; obtain ⟨x0, x1, x2, x3, x4, x5⟩ := cells6 hx1)) | (go_at_call 20; ((with_reducible refine (HB.out _).mono ?_); rintro e w2 ⟨rfl, b2⟩; have B2 := bch B1 b2; clear x0 x1 x2 x3 x4 x5; obtain ⟨x0, x1, x2, x3, x4, x5⟩ := cells6 (row_up hx1 b2); have hz := lt_of_block (row_up hx1 b2))) | (go_at_call 19; ((with_reducible refine (HF.out _).mono ?_); rintro e w3 ⟨rfl, rfl⟩)) | (go_at_call 16; ((with_reducible refine (HE.out _).mono ?_); rintro e w4 ⟨rfl, rfl⟩)) | (go_at_call 23; ((with_reducible refine (rlow32 _ _ (by assumption)).mono ?_); rintro e w5 ⟨rfl, rfl⟩)))
  go_ret2
  exact ⟨ret_do (by show IntKind.u64.wrap (sx 8 v) % 4294967296 = sx 8 v % 4294967296; rw [IntKind.wrap_u64]; omega), bch B2 (bnew _ _)⟩

set_option maxHeartbeats 4000000 in
set_option maxRecDepth 100000 in
theorem rdo_34 (reg : Bool) (dst sr off imm a s f v : Int) (w : World) (hf : frm (ix (34)) = f) (hv : opd reg f imm s = v) (_h0 : 0 ≤ a) (_h1 : a < 18446744073709551616) (k0 : 0 ≤ v) (k1 : v < 18446744073709551616) :
    Calls Tryd.prog 10 #[.agg #[.int .i64 34, .bool reg, .int .i64 dst, .int .i64 sr, .int .i64 off, .int .i64 imm], .int .u64 a, .int .u64 s] w fun e w' => e = .returned (.tuple #[.int .u64 (mo 32 (sx 16 v)), .bool true]) ∧ Below w.heap.size w w' := by
  have hx := heap_alloc_last w (.cells #[.int .i64 34, .bool reg, .int .i64 dst, .int .i64 sr, .int .i64 off, .int .i64 imm] 23)
  have b0 := bnew w (.cells #[.int .i64 34, .bool reg, .int .i64 dst, .int .i64 sr, .int .i64 off, .int .i64 imm] 23)
  obtain ⟨x0, x1, x2, x3, x4, x5⟩ := cells6 hx
  have HO := Lib.hid (fun w => roperand_any (34) reg dst sr off imm s v w (by rw [hf]; exact hv))
  have hbt : bt (ix 34) = 32 := by decide +kernel
  have hfm : f = 2 := by rw [← hf]; decide +kernel
  subst hfm
  have HB := Lib.hid (fun w => rbits_at 34 32 w hbt)
  have HF := Lib.hid (fun w => rform_at 34 2 w hf)
  have HE := Lib.hid (fun w => rextend_yes v 16 w k0 k1 (by decide))
  have n0 : 0 ≤ IntKind.u64.wrap (sx 16 v) := by rw [IntKind.wrap_u64]; omega
  clear hf hv hbt
  go_enter Tryd.func10, Tryd.ntmps10
  go_wp2_with (first | (go_at_call 13; ((with_reducible refine (HO.out _).mono ?_); rintro e w1 ⟨rfl, b1⟩; have B1 := bch b0 b1; have hx1 := row_up hx b1; clear x0 x1 x2 x3 x4 x5; obtain ⟨x0, x1, x2, x3, x4, x5⟩ := cells6 hx1)) | (go_at_call 20; ((with_reducible refine (HB.out _).mono ?_); rintro e w2 ⟨rfl, b2⟩; have B2 := bch B1 b2; clear x0 x1 x2 x3 x4 x5; obtain ⟨x0, x1, x2, x3, x4, x5⟩ := cells6 (row_up hx1 b2); have hz := lt_of_block (row_up hx1 b2))) | (go_at_call 19; ((with_reducible refine (HF.out _).mono ?_); rintro e w3 ⟨rfl, rfl⟩)) | (go_at_call 16; ((with_reducible refine (HE.out _).mono ?_); rintro e w4 ⟨rfl, rfl⟩)) | (go_at_call 23; ((with_reducible refine (rlow32 _ _ (by assumption)).mono ?_); rintro e w5 ⟨rfl, rfl⟩)))
  go_ret2
  exact ⟨ret_do (by show IntKind.u64.wrap (sx 16 v) % 4294967296 = sx 16 v % 4294967296; rw [IntKind.wrap_u64]; omega), bch B2 (bnew _ _)⟩

set_option maxHeartbeats 4000000 in
set_option maxRecDepth 100000 in
theorem rdo_no (op : Int) (reg : Bool) (dst sr off imm a s f v : Int) (w : World) (hf : frm (ix op) = f) (hv : opd reg f imm s = v) (h1 : (f == 0) = false) (h2 : (f == 1) = false) (h3 : (f == 2) = false) :
    Calls Tryd.prog 10 #[.agg #[.int .i64 op, .bool reg, .int .i64 dst, .int .i64 sr, .int .i64 off, .int .i64 imm], .int .u64 a, .int .u64 s] w fun e w' => e = .returned (.tuple #[.int .u64 a, .bool false]) ∧ Below w.heap.size w w' := by
  have hx := heap_alloc_last w (.cells #[.int .i64 op, .bool reg, .int .i64 dst, .int .i64 sr, .int .i64 off, .int .i64 imm] 23)
  have b0 := bnew w (.cells #[.int .i64 op, .bool reg, .int .i64 dst, .int .i64 sr, .int .i64 off, .int .i64 imm] 23)
  obtain ⟨x0, x1, x2, x3, x4, x5⟩ := cells6 hx
  have HO := Lib.hid (fun w => roperand_any op reg dst sr off imm s v w (by rw [hf]; exact hv))
  have HB := Lib.hid (fun w => rbits_at op (bt (ix op)) w rfl)
  have HF := Lib.hid (fun w => rform_at op f w hf)
  generalize bt (ix op) = n at HB
  clear hf hv
  go_enter Tryd.func10, Tryd.ntmps10
  go_wp2_with (first | (go_at_call 13; ((with_reducible refine (HO.out _).mono ?_); rintro e w1 ⟨rfl, b1⟩; have B1 := bch b0 b1; have hx1 := row_up hx b1; clear x0 x1 x2 x3 x4 x5; obtain ⟨x0, x1, x2, x3, x4, x5⟩ := cells6 hx1)) | (go_at_call 20; ((with_reducible refine (HB.out _).mono ?_); rintro e w2 ⟨rfl, b2⟩; have B2 := bch B1 b2; clear x0 x1 x2 x3 x4 x5; obtain ⟨x0, x1, x2, x3, x4, x5⟩ := cells6 (row_up hx1 b2); have hz := lt_of_block (row_up hx1 b2))) | (go_at_call 19; ((with_reducible refine (HF.out _).mono ?_); rintro e w3 ⟨rfl, rfl⟩)))
  go_ret2
  exact ⟨rfl, B2⟩

theorem rdo_yes (k : Nat) (hk : k < 44) (reg : Bool) (dst sr off imm a s f v : Int) (w : World) (hf : frm (ix (k : Int)) = f) (hv : opd reg f imm s = v) (h0 : 0 ≤ a) (h1 : a < 18446744073709551616) (k0 : 0 ≤ v) (k1 : v < 18446744073709551616) :
    Calls Tryd.prog 10 #[.agg #[.int .i64 (k : Int), .bool reg, .int .i64 dst, .int .i64 sr, .int .i64 off, .int .i64 imm], .int .u64 a, .int .u64 s] w fun e w' => e = .returned (.tuple #[.int .u64 (aluV k a v), .bool true]) ∧ Below w.heap.size w w' :=
  match k, hk with
  | 0, _ => rdo_alu64 0 reg dst sr off imm a s f v w (by decide) hf hv h0 h1 k0 k1
  | 1, _ => rdo_alu64 1 reg dst sr off imm a s f v w (by decide) hf hv h0 h1 k0 k1
  | 2, _ => rdo_alu64 2 reg dst sr off imm a s f v w (by decide) hf hv h0 h1 k0 k1
  | 3, _ => rdo_alu64 3 reg dst sr off imm a s f v w (by decide) hf hv h0 h1 k0 k1
  | 4, _ => rdo_alu64 4 reg dst sr off imm a s f v w (by decide) hf hv h0 h1 k0 k1
  | 5, _ => rdo_alu64 5 reg dst sr off imm a s f v w (by decide) hf hv h0 h1 k0 k1
  | 6, _ => rdo_alu64 6 reg dst sr off imm a s f v w (by decide) hf hv h0 h1 k0 k1
  | 7, _ => rdo_alu64 7 reg dst sr off imm a s f v w (by decide) hf hv h0 h1 k0 k1
  | 8, _ => rdo_alu64 8 reg dst sr off imm a s f v w (by decide) hf hv h0 h1 k0 k1
  | 9, _ => rdo_alu64 9 reg dst sr off imm a s f v w (by decide) hf hv h0 h1 k0 k1
  | 10, _ => rdo_alu64 10 reg dst sr off imm a s f v w (by decide) hf hv h0 h1 k0 k1
  | 11, _ => rdo_alu64 11 reg dst sr off imm a s f v w (by decide) hf hv h0 h1 k0 k1
  | 12, _ => rdo_alu64 12 reg dst sr off imm a s f v w (by decide) hf hv h0 h1 k0 k1
  | 13, _ => rdo_alu64 13 reg dst sr off imm a s f v w (by decide) hf hv h0 h1 k0 k1
  | 14, _ => rdo_alu32 14 reg dst sr off imm a s f v w (by decide) hf hv h0 h1 k0 k1
  | 15, _ => rdo_alu32 15 reg dst sr off imm a s f v w (by decide) hf hv h0 h1 k0 k1
  | 16, _ => rdo_alu32 16 reg dst sr off imm a s f v w (by decide) hf hv h0 h1 k0 k1
  | 17, _ => rdo_alu32 17 reg dst sr off imm a s f v w (by decide) hf hv h0 h1 k0 k1
  | 18, _ => rdo_alu32 18 reg dst sr off imm a s f v w (by decide) hf hv h0 h1 k0 k1
  | 19, _ => rdo_alu32 19 reg dst sr off imm a s f v w (by decide) hf hv h0 h1 k0 k1
  | 20, _ => rdo_alu32 20 reg dst sr off imm a s f v w (by decide) hf hv h0 h1 k0 k1
  | 21, _ => rdo_alu32 21 reg dst sr off imm a s f v w (by decide) hf hv h0 h1 k0 k1
  | 22, _ => rdo_alu32 22 reg dst sr off imm a s f v w (by decide) hf hv h0 h1 k0 k1
  | 23, _ => rdo_alu32 23 reg dst sr off imm a s f v w (by decide) hf hv h0 h1 k0 k1
  | 24, _ => rdo_alu32 24 reg dst sr off imm a s f v w (by decide) hf hv h0 h1 k0 k1
  | 25, _ => rdo_alu32 25 reg dst sr off imm a s f v w (by decide) hf hv h0 h1 k0 k1
  | 26, _ => rdo_alu32 26 reg dst sr off imm a s f v w (by decide) hf hv h0 h1 k0 k1
  | 27, _ => rdo_alu32 27 reg dst sr off imm a s f v w (by decide) hf hv h0 h1 k0 k1
  | 28, _ => rdo_28 reg dst sr off imm a s f v w hf hv h0 h1 k0 k1
  | 29, _ => rdo_29 reg dst sr off imm a s f v w hf hv h0 h1 k0 k1
  | 30, _ => rdo_30 reg dst sr off imm a s f v w hf hv h0 h1 k0 k1
  | 31, _ => rdo_31 reg dst sr off imm a s f v w hf hv h0 h1 k0 k1
  | 32, _ => rdo_32 reg dst sr off imm a s f v w hf hv h0 h1 k0 k1
  | 33, _ => rdo_33 reg dst sr off imm a s f v w hf hv h0 h1 k0 k1
  | 34, _ => rdo_34 reg dst sr off imm a s f v w hf hv h0 h1 k0 k1
  | 35, _ => rdo_35 reg dst sr off imm a s f v w hf hv h0 h1 k0 k1
  | 36, _ => rdo_36 reg dst sr off imm a s f v w hf hv h0 h1 k0 k1
  | 37, _ => rdo_37 reg dst sr off imm a s f v w hf hv h0 h1 k0 k1
  | 38, _ => rdo_38 reg dst sr off imm a s f v w hf hv h0 h1 k0 k1
  | 39, _ => rdo_39 reg dst sr off imm a s f v w hf hv h0 h1 k0 k1
  | 40, _ => rdo_40 reg dst sr off imm a s f v w hf hv h0 h1 k0 k1
  | 41, _ => rdo_41 reg dst sr off imm a s f v w hf hv h0 h1 k0 k1
  | 42, _ => rdo_42 reg dst sr off imm a s f v w hf hv h0 h1 k0 k1
  | 43, _ => rdo_43 reg dst sr off imm a s f v w hf hv h0 h1 k0 k1
  | k + 44, hk => absurd hk (by omega)
theorem rdo_any (op : Int) (reg : Bool) (dst sr off imm a s R : Int) (ok : Bool) (w : World) (h0 : 0 ≤ a) (h1 : a < 18446744073709551616) (k0 : 0 ≤ s) (k1 : s < 18446744073709551616) (hR : doV op reg imm a s = R) (hok : doB op = ok) :
    Calls Tryd.prog 10 #[.agg #[.int .i64 op, .bool reg, .int .i64 dst, .int .i64 sr, .int .i64 off, .int .i64 imm], .int .u64 a, .int .u64 s] w fun e w' => e = .returned (.tuple #[.int .u64 R, .bool ok]) ∧ Below w.heap.size w w' := by
  cases ok
  · have hn := mt (doB_form op).2 (by rw [hok]; decide)
    have hRa : R = a := by rw [← hR]; unfold doV; rw [hok]; rfl
    subst hRa
    refine rdo_no op _ _ _ _ _ _ _ (frm (ix op)) _ w rfl rfl ?_ ?_ ?_
    all_goals
      rw [beq_eq_false_iff_ne]
      intro h
      exact hn (by simp [h])
  · have hF := (doB_form op).1 hok
    obtain ⟨k, hk, rfl⟩ := op_of rfl hF
    have hv := opd_b reg (frm (ix (k : Int))) imm s k0 k1
    have hRv : R = aluV k a (opd reg (frm (ix (k : Int))) imm s) := by rw [← hR]; unfold doV; rw [hok, if_pos rfl]; rfl
    rw [hRv]
    exact rdo_yes k hk reg dst sr off imm a s _ _ w rfl rfl h0 h1 hv.1 hv.2
end Go.Proofs.YtkhnomicnblgfaaDoor
