/- What the program computes for each of its 44 operations that compute, and what Do returns. Condition: the numbers have 64 bits, and the table of widths reads as laid. -/
import Derived.Test.YtkhnomicnblgfaaDoorOpd
import Derived.Deep.RegionHeld3
import Derived.Deep.DeepCutAuto
namespace Go.Proofs.YtkhnomicnblgfaaDoor
open Go.RowKit L1 L3

theorem wid_below {w W : World} (h : Wid w) (hb : Below w.heap.size w W) : Wid W := by
  obtain ⟨t, fr, hw⟩ := h
  exact ⟨t, fr, (hb.block _ (lt_of_block hw)).trans hw⟩

/-- The result of an operation by its number. -/
def aluV : Nat → Int → Int → Int
  | 0, a, b => aluL 0 64 a b
  | 1, a, b => aluL 1 64 a b
  | 2, a, b => aluL 2 64 a b
  | 3, a, b => aluL 3 64 a b
  | 4, a, b => aluL 4 64 a b
  | 5, a, b => aluL 5 64 a b
  | 6, a, b => aluL 6 64 a b
  | 7, a, b => aluL 7 64 a b
  | 8, a, b => aluL 8 64 a b
  | 9, a, b => aluL 9 64 a b
  | 10, a, b => aluL 10 64 a b
  | 11, a, b => aluL 11 64 a b
  | 12, a, b => aluL 12 64 a b
  | 13, a, b => aluL 13 64 a b
  | 14, a, b => aluL 0 32 (a % 4294967296) (b % 4294967296)
  | 15, a, b => aluL 1 32 (a % 4294967296) (b % 4294967296)
  | 16, a, b => aluL 2 32 (a % 4294967296) (b % 4294967296)
  | 17, a, b => aluL 3 32 (a % 4294967296) (b % 4294967296)
  | 18, a, b => aluL 4 32 (a % 4294967296) (b % 4294967296)
  | 19, a, b => aluL 5 32 (a % 4294967296) (b % 4294967296)
  | 20, a, b => aluL 6 32 (a % 4294967296) (b % 4294967296)
  | 21, a, b => aluL 7 32 (a % 4294967296) (b % 4294967296)
  | 22, a, b => aluL 8 32 (a % 4294967296) (b % 4294967296)
  | 23, a, b => aluL 9 32 (a % 4294967296) (b % 4294967296)
  | 24, a, b => aluL 10 32 (a % 4294967296) (b % 4294967296)
  | 25, a, b => aluL 11 32 (a % 4294967296) (b % 4294967296)
  | 26, a, b => aluL 12 32 (a % 4294967296) (b % 4294967296)
  | 27, a, b => aluL 13 32 (a % 4294967296) (b % 4294967296)
  | 28, a, _ => mo 64 (-a)
  | 29, a, _ => mo 32 (-a)
  | 30, _, b => mo 64 (sx 8 b)
  | 31, _, b => mo 64 (sx 16 b)
  | 32, _, b => mo 64 (sx 32 b)
  | 33, _, b => mo 32 (sx 8 b)
  | 34, _, b => mo 32 (sx 16 b)
  | 35, a, _ => a % 65536
  | 36, a, _ => a % 4294967296
  | 37, a, _ => a
  | 38, a, _ => sw 16 a
  | 39, a, _ => sw 32 a
  | 40, a, _ => sw 64 a
  | 41, a, _ => sw 16 a
  | 42, a, _ => sw 32 a
  | _, a, _ => sw 64 a
theorem fn_any (k : Nat) (hk : k < 44) (a b : Int) (w : World) (hw : Wid w) (h0 : 0 ≤ a) (h1 : a < 18446744073709551616) (k0 : 0 ≤ b) (k1 : b < 18446744073709551616) :
    Calls Tryd.prog (fnN.getD k 0) #[.int .u64 a, .int .u64 b] w fun e w' => e = .returned (.int .u64 (aluV k a b)) ∧ Below w.heap.size w w' :=
  match k, hk with
  | 0, _ => add64_is a b w h0 h1 k0 k1
  | 1, _ => sub64_is a b w h0 h1 k0 k1
  | 2, _ => mul64_is a b w h0 h1 k0 k1
  | 3, _ => div64_is a b w h0 h1 k0 k1
  | 4, _ => or64_is a b w h0 h1 k0 k1
  | 5, _ => and64_is a b w h0 h1 k0 k1
  | 6, _ => lsh64_is a b w h0 h1 k0 k1
  | 7, _ => rsh64_is a b w h0 h1 k0 k1
  | 8, _ => mod64_is a b w h0 h1 k0 k1
  | 9, _ => xor64_is a b w h0 h1 k0 k1
  | 10, _ => mov64_is a b w h0 h1 k0 k1
  | 11, _ => arsh64_is a b w hw h0 h1 k0 k1
  | 12, _ => sdiv64_is a b w hw h0 h1 k0 k1
  | 13, _ => smod64_is a b w hw h0 h1 k0 k1
  | 14, _ => add32_is a b w h0 h1 k0 k1
  | 15, _ => sub32_is a b w h0 h1 k0 k1
  | 16, _ => mul32_is a b w h0 h1 k0 k1
  | 17, _ => div32_is a b w h0 h1 k0 k1
  | 18, _ => or32_is a b w h0 h1 k0 k1
  | 19, _ => and32_is a b w h0 h1 k0 k1
  | 20, _ => lsh32_is a b w h0 h1 k0 k1
  | 21, _ => rsh32_is a b w h0 h1 k0 k1
  | 22, _ => mod32_is a b w h0 h1 k0 k1
  | 23, _ => xor32_is a b w h0 h1 k0 k1
  | 24, _ => mov32_is a b w h0 h1 k0 k1
  | 25, _ => arsh32_is a b w hw h0 h1 k0 k1
  | 26, _ => sdiv32_is a b w hw h0 h1 k0 k1
  | 27, _ => smod32_is a b w hw h0 h1 k0 k1
  | 28, _ => neg64_is a b w
  | 29, _ => neg32_is a b w
  | 30, _ => movs8_64_is a b w
  | 31, _ => movs16_64_is a b w
  | 32, _ => movs32_64_is a b w
  | 33, _ => movs8_32_is a b w
  | 34, _ => movs16_32_is a b w
  | 35, _ => le16_is a b w h0 h1
  | 36, _ => le32_is a b w h0 h1
  | 37, _ => le64_is a b w h0 h1
  | 38, _ => bswap16_is a b w h0 h1
  | 39, _ => bswap32_is a b w h0 h1
  | 40, _ => bswap64_is a b w h0 h1
  | 41, _ => bswap16_is a b w h0 h1
  | 42, _ => bswap32_is a b w h0 h1
  | 43, _ => bswap64_is a b w h0 h1
  | k + 44, hk => absurd hk (by omega)

theorem forms44 : ∀ k, k < 86 → (fm k = 0 ∨ fm k = 1 ∨ fm k = 2 ↔ k < 44) := by decide +kernel
theorem op_of {op f : Int} (hf : frm (ix op) = f) (h : f = 0 ∨ f = 1 ∨ f = 2) : ∃ k : Nat, k < 44 ∧ op = (k : Int) := by
  subst hf
  have hlt : ix op < 86 := by
    unfold frm at h
    split at h
    · assumption
    · omega
  unfold frm at h
  rw [if_pos hlt] at h
  have h44 := (forms44 _ hlt).1 h
  refine ⟨ix op, h44, ?_⟩
  unfold ix at hlt ⊢
  split at hlt
  · rename_i hh
    rw [if_pos hh]; omega
  · omega

theorem fn_enters (k : Nat) (hk : k < 44) : ∀ (args : Array Value) (w : World), (callFunc (fnN.getD k 0) args).run Tryd.prog w = .ok (.enter (fnN.getD k 0) args) w :=
  match k, hk with
  | 0, _ => Tryd.call31
  | 1, _ => Tryd.call32
  | 2, _ => Tryd.call33
  | 3, _ => Tryd.call34
  | 4, _ => Tryd.call35
  | 5, _ => Tryd.call36
  | 6, _ => Tryd.call37
  | 7, _ => Tryd.call38
  | 8, _ => Tryd.call39
  | 9, _ => Tryd.call40
  | 10, _ => Tryd.call41
  | 11, _ => Tryd.call42
  | 12, _ => Tryd.call43
  | 13, _ => Tryd.call44
  | 14, _ => Tryd.call45
  | 15, _ => Tryd.call46
  | 16, _ => Tryd.call47
  | 17, _ => Tryd.call48
  | 18, _ => Tryd.call49
  | 19, _ => Tryd.call50
  | 20, _ => Tryd.call51
  | 21, _ => Tryd.call52
  | 22, _ => Tryd.call53
  | 23, _ => Tryd.call54
  | 24, _ => Tryd.call55
  | 25, _ => Tryd.call56
  | 26, _ => Tryd.call57
  | 27, _ => Tryd.call58
  | 28, _ => Tryd.call59
  | 29, _ => Tryd.call60
  | 30, _ => Tryd.call61
  | 31, _ => Tryd.call62
  | 32, _ => Tryd.call63
  | 33, _ => Tryd.call64
  | 34, _ => Tryd.call65
  | 35, _ => Tryd.call66
  | 36, _ => Tryd.call67
  | 37, _ => Tryd.call68
  | 38, _ => Tryd.call69
  | 39, _ => Tryd.call70
  | 40, _ => Tryd.call71
  | 41, _ => Tryd.call69
  | 42, _ => Tryd.call70
  | 43, _ => Tryd.call71
  | k + 44, hk => absurd hk (by omega)
theorem operations_b (w : World) : Calls Tryd.prog 22 #[] w fun e w' => e = .returned (.agg funC) ∧ Below w.heap.size w w' :=
  (operations_any w).mono fun _ _ h => ⟨h.1, by rw [h.2]; exact bnew w _⟩

/-- Where the region of Do reads: the instruction lies boxed. -/
def Bx (w W : World) (g : Nat) (cs : Array Value) : Prop := Below w.heap.size w W ∧ W.heap[g]? = some (.cells cs 23)
theorem Bx.below {w W W' : World} {g : Nat} {cs : Array Value} (h : Bx w W g cs) (hb : Below W.heap.size W W') : Bx w W' g cs := ⟨bch h.1 hb, row_up h.2 hb⟩
theorem keepB {w W W' : World} {g : Nat} {a b c d e f : Value} (hb : Below W.heap.size W W') (h : Bx w W g #[a, b, c, d, e, f]) :
    Bx w W' g #[a, b, c, d, e, f] ∧ W'.cell? ⟨g, 0, none⟩ = some a ∧ W'.cell? ⟨g, 1, none⟩ = some b ∧ W'.cell? ⟨g, 2, none⟩ = some c ∧ W'.cell? ⟨g, 3, none⟩ = some d ∧ W'.cell? ⟨g, 4, none⟩ = some e ∧ W'.cell? ⟨g, 5, none⟩ = some f :=
  ⟨h.below hb, cells6 (h.below hb).2⟩
theorem keepC {w W W' : World} {g : Nat} {a b c d e f : Value} (hb : Below W.heap.size W W') (h : Bx w W g #[a, b, c, d, e, f] ∧ W.cell? ⟨g, 0, none⟩ = some a ∧ W.cell? ⟨g, 1, none⟩ = some b ∧ W.cell? ⟨g, 2, none⟩ = some c ∧ W.cell? ⟨g, 3, none⟩ = some d ∧ W.cell? ⟨g, 4, none⟩ = some e ∧ W.cell? ⟨g, 5, none⟩ = some f) :
    Bx w W' g #[a, b, c, d, e, f] ∧ W'.cell? ⟨g, 0, none⟩ = some a ∧ W'.cell? ⟨g, 1, none⟩ = some b ∧ W'.cell? ⟨g, 2, none⟩ = some c ∧ W'.cell? ⟨g, 3, none⟩ = some d ∧ W'.cell? ⟨g, 4, none⟩ = some e ∧ W'.cell? ⟨g, 5, none⟩ = some f := keepB hb h.1

set_option maxHeartbeats 4000000 in
set_option maxRecDepth 100000 in
theorem do_yes (k : Nat) (hk : k < 44) (reg : Bool) (dst sr off imm a s f v R : Int) (w : World) (hw : Wid w) (hf : frm (ix (k : Int)) = f) (hF : f = 0 ∨ f = 1 ∨ f = 2) (hv : opd reg f imm s = v) (hR : aluV k a v = R)
    (h0 : 0 ≤ a) (h1 : a < 18446744073709551616) (k0 : 0 ≤ v) (k1 : v < 18446744073709551616) :
    Calls Tryd.prog 9 #[.agg #[.int .i64 (k : Int), .bool reg, .int .i64 dst, .int .i64 sr, .int .i64 off, .int .i64 imm], .int .u64 a, .int .u64 s] w fun e w' => e = .returned (.tuple #[.int .u64 R, .bool true]) ∧ Below w.heap.size w w' := by
  have hx := heap_alloc_last w (.cells #[.int .i64 (k : Int), .bool reg, .int .i64 dst, .int .i64 sr, .int .i64 off, .int .i64 imm] 23)
  have b0 := bnew w (.cells #[.int .i64 (k : Int), .bool reg, .int .i64 dst, .int .i64 sr, .int .i64 off, .int .i64 imm] 23)
  have HF := Lib.hid (fun w => form_any (k : Int) w)
  have HO := Lib.hid (fun w => operand_any (k : Int) reg dst sr off imm s v w (by rw [hf]; exact hv))
  rw [hf] at HF
  obtain ⟨n, hn⟩ : ∃ n, fnN.getD k 0 = n := ⟨_, rfl⟩
  obtain ⟨g, hg⟩ : ∃ g, g = w.heap.size := ⟨_, rfl⟩
  have HK := Lib.hid (fun (W : World) (hb : Bx w W g #[.int .i64 (k : Int), .bool reg, .int .i64 dst, .int .i64 sr, .int .i64 off, .int .i64 imm] ∧ W.cell? ⟨g, 0, none⟩ = some (.int .i64 (k : Int)) ∧ W.cell? ⟨g, 1, none⟩ = some (.bool reg) ∧ W.cell? ⟨g, 2, none⟩ = some (.int .i64 dst) ∧ W.cell? ⟨g, 3, none⟩ = some (.int .i64 sr) ∧ W.cell? ⟨g, 4, none⟩ = some (.int .i64 off) ∧ W.cell? ⟨g, 5, none⟩ = some (.int .i64 imm)) => (by have := fn_any k hk a v W (wid_below hw hb.1.1) h0 h1 k0 k1; rw [hn, hR] at this; exact this : Calls Tryd.prog n #[.int .u64 a, .int .u64 v] W fun e w' => e = .returned (.int .u64 R) ∧ Below W.heap.size W w'))
  have hix := run_index_fn k hk
  rw [hn] at hix
  have hfd := run_field_fn n
  have hen := fn_enters k hk
  rw [hn] at hen
  clear hf hv hR hn hw
  rcases hF with rfl | rfl | rfl
  · go_enter Tryd.func9, Tryd.ntmps9
    go_upto_region 5 with (go_at_call 21; ((with_reducible refine (HF.out _).mono ?_); rintro e w1 ⟨rfl, b1⟩))
    have X : Bx w w1 w.heap.size #[.int .i64 (k : Int), .bool reg, .int .i64 dst, .int .i64 sr, .int .i64 off, .int .i64 imm] := ⟨bch b0 b1, row_up hx b1⟩
    rw [← hg] at X ⊢
    clear hg b1 b0 hx
    go_region_held3 (fun W => Bx w W g #[.int .i64 (k : Int), .bool reg, .int .i64 dst, .int .i64 sr, .int .i64 off, .int .i64 imm] ∧ W.cell? ⟨g, 0, none⟩ = some (.int .i64 (k : Int)) ∧ W.cell? ⟨g, 1, none⟩ = some (.bool reg) ∧ W.cell? ⟨g, 2, none⟩ = some (.int .i64 dst) ∧ W.cell? ⟨g, 3, none⟩ = some (.int .i64 sr) ∧ W.cell? ⟨g, 4, none⟩ = some (.int .i64 off) ∧ W.cell? ⟨g, 5, none⟩ = some (.int .i64 imm))
      (first | exact keepB (Below.refl _ _).drew X | exact keepC hb9 (by assumption) | assumption)
      (first | (go_at_call 22; ((with_reducible refine (operations_b _).mono ?_); rintro e w9 ⟨rfl, hb9⟩)) | (go_at_call 12; ((with_reducible refine (HO.out _).mono ?_); rintro e w9 ⟨rfl, hb9⟩)) | ((with_reducible refine (HK.out _ (by assumption)).mono ?_); rintro e w9 ⟨rfl, hb9⟩))
    all_goals
      rename_i hh
      go_wp2
      go_ret2
      exact ⟨rfl, hh.1.1⟩
  · go_enter Tryd.func9, Tryd.ntmps9
    go_upto_region 5 with (go_at_call 21; ((with_reducible refine (HF.out _).mono ?_); rintro e w1 ⟨rfl, b1⟩))
    have X : Bx w w1 w.heap.size #[.int .i64 (k : Int), .bool reg, .int .i64 dst, .int .i64 sr, .int .i64 off, .int .i64 imm] := ⟨bch b0 b1, row_up hx b1⟩
    rw [← hg] at X ⊢
    clear hg b1 b0 hx
    go_region_held3 (fun W => Bx w W g #[.int .i64 (k : Int), .bool reg, .int .i64 dst, .int .i64 sr, .int .i64 off, .int .i64 imm] ∧ W.cell? ⟨g, 0, none⟩ = some (.int .i64 (k : Int)) ∧ W.cell? ⟨g, 1, none⟩ = some (.bool reg) ∧ W.cell? ⟨g, 2, none⟩ = some (.int .i64 dst) ∧ W.cell? ⟨g, 3, none⟩ = some (.int .i64 sr) ∧ W.cell? ⟨g, 4, none⟩ = some (.int .i64 off) ∧ W.cell? ⟨g, 5, none⟩ = some (.int .i64 imm))
      (first | exact keepB (Below.refl _ _).drew X | exact keepC hb9 (by assumption) | assumption)
      (first | (go_at_call 22; ((with_reducible refine (operations_b _).mono ?_); rintro e w9 ⟨rfl, hb9⟩)) | (go_at_call 12; ((with_reducible refine (HO.out _).mono ?_); rintro e w9 ⟨rfl, hb9⟩)) | ((with_reducible refine (HK.out _ (by assumption)).mono ?_); rintro e w9 ⟨rfl, hb9⟩))
    all_goals
      rename_i hh
      go_wp2
      go_ret2
      exact ⟨rfl, hh.1.1⟩
  · go_enter Tryd.func9, Tryd.ntmps9
    go_upto_region 5 with (go_at_call 21; ((with_reducible refine (HF.out _).mono ?_); rintro e w1 ⟨rfl, b1⟩))
    have X : Bx w w1 w.heap.size #[.int .i64 (k : Int), .bool reg, .int .i64 dst, .int .i64 sr, .int .i64 off, .int .i64 imm] := ⟨bch b0 b1, row_up hx b1⟩
    rw [← hg] at X ⊢
    clear hg b1 b0 hx
    go_region_held3 (fun W => Bx w W g #[.int .i64 (k : Int), .bool reg, .int .i64 dst, .int .i64 sr, .int .i64 off, .int .i64 imm] ∧ W.cell? ⟨g, 0, none⟩ = some (.int .i64 (k : Int)) ∧ W.cell? ⟨g, 1, none⟩ = some (.bool reg) ∧ W.cell? ⟨g, 2, none⟩ = some (.int .i64 dst) ∧ W.cell? ⟨g, 3, none⟩ = some (.int .i64 sr) ∧ W.cell? ⟨g, 4, none⟩ = some (.int .i64 off) ∧ W.cell? ⟨g, 5, none⟩ = some (.int .i64 imm))
      (first | exact keepB (Below.refl _ _).drew X | exact keepC hb9 (by assumption) | assumption)
      (first | (go_at_call 22; ((with_reducible refine (operations_b _).mono ?_); rintro e w9 ⟨rfl, hb9⟩)) | (go_at_call 12; ((with_reducible refine (HO.out _).mono ?_); rintro e w9 ⟨rfl, hb9⟩)) | ((with_reducible refine (HK.out _ (by assumption)).mono ?_); rintro e w9 ⟨rfl, hb9⟩))
    all_goals
      rename_i hh
      go_wp2
      go_ret2
      exact ⟨rfl, hh.1.1⟩

set_option maxHeartbeats 1000000 in
set_option maxRecDepth 100000 in
theorem do_no (op : Int) (reg : Bool) (dst sr off imm a s f : Int) (w : World) (hf : frm (ix op) = f) (h1 : (f == 0) = false) (h2 : (f == 1) = false) (h3 : (f == 2) = false) :
    Calls Tryd.prog 9 #[.agg #[.int .i64 op, .bool reg, .int .i64 dst, .int .i64 sr, .int .i64 off, .int .i64 imm], .int .u64 a, .int .u64 s] w fun e w' => e = .returned (.tuple #[.int .u64 a, .bool false]) ∧ Below w.heap.size w w' := by
  have b0 := bnew w (.cells #[.int .i64 op, .bool reg, .int .i64 dst, .int .i64 sr, .int .i64 off, .int .i64 imm] 23)
  have HF := Lib.hid (fun w => form_any op w)
  rw [hf] at HF
  clear hf
  go_enter Tryd.func9, Tryd.ntmps9
  go_wp2_with (go_at_call 21; ((with_reducible refine (HF.out _).mono ?_); rintro e w1 ⟨rfl, b1⟩))
  go_ret2
  exact ⟨rfl, bch b0 b1⟩

/-- Whether an operation has a result, and the result. -/
def doB (op : Int) : Bool := decide (0 ≤ op) && decide (op < 44)
def doV (op : Int) (reg : Bool) (imm a s : Int) : Int := if doB op then aluV op.toNat a (opd reg (frm (ix op)) imm s) else a
theorem opd_b (reg : Bool) (f imm s : Int) (h0 : 0 ≤ s) (h1 : s < 18446744073709551616) : 0 ≤ opd reg f imm s ∧ opd reg f imm s < 18446744073709551616 := by
  unfold opd
  split
  · exact ⟨h0, h1⟩
  · omega
theorem doB_form (op : Int) : doB op = true ↔ (frm (ix op) = 0 ∨ frm (ix op) = 1 ∨ frm (ix op) = 2) := by
  constructor
  · intro h
    unfold doB at h
    rw [Bool.and_eq_true, decide_eq_true_iff, decide_eq_true_iff] at h
    have hi : ix op = op.toNat := by unfold ix; rw [if_pos (by omega)]
    have hlt : op.toNat < 86 := by omega
    unfold frm
    rw [hi, if_pos hlt]
    exact (forms44 _ hlt).2 (by omega)
  · intro h
    obtain ⟨k, hk, rfl⟩ := op_of rfl h
    unfold doB
    rw [Bool.and_eq_true, decide_eq_true_iff, decide_eq_true_iff]
    omega
theorem do_any (op : Int) (reg : Bool) (dst sr off imm a s R : Int) (ok : Bool) (w : World) (hw : Wid w) (h0 : 0 ≤ a) (h1 : a < 18446744073709551616) (k0 : 0 ≤ s) (k1 : s < 18446744073709551616) (hR : doV op reg imm a s = R) (hok : doB op = ok) :
    Calls Tryd.prog 9 #[.agg #[.int .i64 op, .bool reg, .int .i64 dst, .int .i64 sr, .int .i64 off, .int .i64 imm], .int .u64 a, .int .u64 s] w fun e w' => e = .returned (.tuple #[.int .u64 R, .bool ok]) ∧ Below w.heap.size w w' := by
  cases ok
  · have hn := mt (doB_form op).2 (by rw [hok]; decide)
    have hRa : R = a := by rw [← hR]; unfold doV; rw [hok]; rfl
    subst hRa
    refine do_no op _ _ _ _ _ _ _ (frm (ix op)) w rfl ?_ ?_ ?_
    all_goals
      rw [beq_eq_false_iff_ne]
      intro h
      exact hn (by simp [h])
  · have hF := (doB_form op).1 hok
    obtain ⟨k, hk, rfl⟩ := op_of rfl hF
    have hv := opd_b reg (frm (ix (k : Int))) imm s k0 k1
    refine do_yes k hk reg dst sr off imm a s _ _ R w hw rfl hF rfl ?_ h0 h1 hv.1 hv.2
    rw [← hR]; unfold doV; rw [hok, if_pos rfl]; rfl
end Go.Proofs.YtkhnomicnblgfaaDoor
