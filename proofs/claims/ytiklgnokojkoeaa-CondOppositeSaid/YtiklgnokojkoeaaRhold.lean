/- What the reference's Holds returns for every instruction and values: 'hoV', as the program's. No condition but the numbers' bounds. -/
import Derived.Test.YtiklgnokojkoeaaHolds
import Derived.Test.YtiklgnokojkoeaaRcnd
import Derived.Deep.RegionHeld3
import Derived.Deep.DeepCutAuto
namespace Go.Proofs.Ytiklgnokojkoeaa
open Go.RowKit L3
open L6 (an opd cells6 row_up roperand_any)

def Bx (w W : World) (g : Nat) (cs : Array Value) : Prop := Below w.heap.size w W ∧ W.heap[g]? = some (.cells cs 23)
theorem Bx.below {w W W' : World} {g : Nat} {cs : Array Value} (h : Bx w W g cs) (hb : Below W.heap.size W W') : Bx w W' g cs := ⟨bch h.1 hb, row_up h.2 hb⟩
theorem keepB {w W W' : World} {g : Nat} {a b c d e f : Value} (hb : Below W.heap.size W W') (h : Bx w W g #[a, b, c, d, e, f]) :
    Bx w W' g #[a, b, c, d, e, f] ∧ W'.cell? ⟨g, 0, none⟩ = some a ∧ W'.cell? ⟨g, 1, none⟩ = some b ∧ W'.cell? ⟨g, 2, none⟩ = some c ∧ W'.cell? ⟨g, 3, none⟩ = some d ∧ W'.cell? ⟨g, 4, none⟩ = some e ∧ W'.cell? ⟨g, 5, none⟩ = some f :=
  ⟨h.below hb, cells6 (h.below hb).2⟩
theorem keepC {w W W' : World} {g : Nat} {a b c d e f : Value} (hb : Below W.heap.size W W') (h : Bx w W g #[a, b, c, d, e, f] ∧ W.cell? ⟨g, 0, none⟩ = some a ∧ W.cell? ⟨g, 1, none⟩ = some b ∧ W.cell? ⟨g, 2, none⟩ = some c ∧ W.cell? ⟨g, 3, none⟩ = some d ∧ W.cell? ⟨g, 4, none⟩ = some e ∧ W.cell? ⟨g, 5, none⟩ = some f) :
    Bx w W' g #[a, b, c, d, e, f] ∧ W'.cell? ⟨g, 0, none⟩ = some a ∧ W'.cell? ⟨g, 1, none⟩ = some b ∧ W'.cell? ⟨g, 2, none⟩ = some c ∧ W'.cell? ⟨g, 3, none⟩ = some d ∧ W'.cell? ⟨g, 4, none⟩ = some e ∧ W'.cell? ⟨g, 5, none⟩ = some f := keepB hb h.1

set_option maxHeartbeats 4000000 in
set_option maxRecDepth 100000 in
theorem rholds_64 (op : Int) (i : Nat) (hi : i < 11) (hop : op = 45 + (i : Int)) (hf : frm (ix op) = 4) (hb : bt (ix op) = 64) (reg : Bool) (dst sr off imm a s : Int) (a0 : 0 ≤ a) (a1 : a < 18446744073709551616) (s0 : 0 ≤ s) (s1 : s < 18446744073709551616) (v : Bool) (hv : hoV op reg imm a s = v) (w : World) :
    Calls Try.prog 11 #[.agg #[.int .i64 op, .bool reg, .int .i64 dst, .int .i64 sr, .int .i64 off, .int .i64 imm], .int .u64 a, .int .u64 s] w fun e w' => e = .returned (.bool v) ∧ Below w.heap.size w w' := by
  have HF := Lib.hid (fun w => rform_at op 4 w hf)
  have HB := Lib.hid (fun w => rbits_at op 64 w hb)
  obtain ⟨o0, o1⟩ := opd_b reg 4 imm s s0 s1
  obtain ⟨o, ho⟩ : ∃ o, opd reg 4 imm s = o := ⟨_, rfl⟩
  have HO := Lib.hid (fun w => roperand_any op reg dst sr off imm s o w (by rw [hf]; exact ho))
  rw [hop, hoV_64 i hi, ho] at hv
  rw [ho] at o0 o1
  have HC : Hid (∀ w, Calls Try.prog 23 #[.int .i64 (i : Int), .int .u64 a, .int .u64 o, .int .i64 64] w fun e w' => e = .returned (.bool v) ∧ w = w') := Lib.hid (fun w => by rw [← hv]; exact rc64 i hi a o a0 a1 o0 o1 w)
  have hx := heap_alloc_last w (.cells #[.int .i64 op, .bool reg, .int .i64 dst, .int .i64 sr, .int .i64 off, .int .i64 imm] 23)
  have b0 := bnew w (.cells #[.int .i64 op, .bool reg, .int .i64 dst, .int .i64 sr, .int .i64 off, .int .i64 imm] 23)
  obtain ⟨x0, x1, x2, x3, x4, x5⟩ := cells6 hx
  have q0 : 45 ≤ op := by omega
  have q1 : op < 56 := by omega
  have q2 : ¬ op = 44 := by omega
  have hw : IntKind.i64.wrap (op - 45) = op - 45 := by
    rw [IntKind.wrap_i64]; omega
  have ht : (op - 45).tmod 11 = (i : Int) := by
    rw [Int.tmod_eq_emod_of_nonneg (by omega)]; omega
  clear hv ho hop hf hb
  go_enter Try.func11, Try.ntmps11
  go_upto_region 6 with (first
    | (go_at_call 16; ((with_reducible refine (HF.out _).mono ?_); rintro e w1 ⟨rfl, rfl⟩))
    | (go_at_call 17; ((with_reducible refine (HB.out _).mono ?_); rintro e w2 ⟨rfl, b2⟩)))
  have X : Bx w w2 w.heap.size #[.int .i64 op, .bool reg, .int .i64 dst, .int .i64 sr, .int .i64 off, .int .i64 imm] := ⟨bch b0 b2, row_up hx b2⟩
  clear x0 x1 x2 x3 x4 x5 hx b0 b2
  obtain ⟨g, hg⟩ : ∃ g, g = w.heap.size := ⟨_, rfl⟩
  rw [← hg] at X ⊢
  clear hg
  go_region_held3 (fun W => Bx w W g #[.int .i64 op, .bool reg, .int .i64 dst, .int .i64 sr, .int .i64 off, .int .i64 imm] ∧ W.cell? ⟨g, 0, none⟩ = some (.int .i64 op) ∧ W.cell? ⟨g, 1, none⟩ = some (.bool reg) ∧ W.cell? ⟨g, 2, none⟩ = some (.int .i64 dst) ∧ W.cell? ⟨g, 3, none⟩ = some (.int .i64 sr) ∧ W.cell? ⟨g, 4, none⟩ = some (.int .i64 off) ∧ W.cell? ⟨g, 5, none⟩ = some (.int .i64 imm))
    (first | exact keepB (Below.refl _ _).drew X | exact keepC hb9 (by assumption) | assumption)
    (first | (go_at_call 24; ((with_reducible refine (rlow64 _ _).mono ?_); rintro e w9 ⟨rfl, rfl⟩)) | (go_at_call 25; ((with_reducible refine (HO.out _).mono ?_); rintro e w9 ⟨rfl, hb9⟩)) | (go_at_call 23; ((with_reducible refine (HC.out _).mono ?_); rintro e w9 ⟨rfl, rfl⟩)))
  all_goals
    rename_i hh
    go_wp2
    go_ret
    exact ⟨rfl, hh.1.1⟩
set_option maxHeartbeats 4000000 in
set_option maxRecDepth 100000 in
theorem rholds_32 (op : Int) (i : Nat) (hi : i < 11) (hop : op = 56 + (i : Int)) (hf : frm (ix op) = 4) (hb : bt (ix op) = 32) (reg : Bool) (dst sr off imm a s : Int) (a0 : 0 ≤ a) (_a1 : a < 18446744073709551616) (s0 : 0 ≤ s) (s1 : s < 18446744073709551616) (v : Bool) (hv : hoV op reg imm a s = v) (w : World) :
    Calls Try.prog 11 #[.agg #[.int .i64 op, .bool reg, .int .i64 dst, .int .i64 sr, .int .i64 off, .int .i64 imm], .int .u64 a, .int .u64 s] w fun e w' => e = .returned (.bool v) ∧ Below w.heap.size w w' := by
  have HF := Lib.hid (fun w => rform_at op 4 w hf)
  have HB := Lib.hid (fun w => rbits_at op 32 w hb)
  obtain ⟨o0, o1⟩ := opd_b reg 4 imm s s0 s1
  obtain ⟨o, ho⟩ : ∃ o, opd reg 4 imm s = o := ⟨_, rfl⟩
  have HO := Lib.hid (fun w => roperand_any op reg dst sr off imm s o w (by rw [hf]; exact ho))
  rw [hop, hoV_32 i hi, ho] at hv
  rw [ho] at o0 o1
  have HC : Hid (∀ w, Calls Try.prog 23 #[.int .i64 (i : Int), .int .u64 (a % 4294967296), .int .u64 (o % 4294967296), .int .i64 32] w fun e w' => e = .returned (.bool v) ∧ w = w') := Lib.hid (fun w => by rw [← hv]; exact rc32 i hi (a % 4294967296) (o % 4294967296) (by omega) (by omega) (by omega) (by omega) w)
  have hx := heap_alloc_last w (.cells #[.int .i64 op, .bool reg, .int .i64 dst, .int .i64 sr, .int .i64 off, .int .i64 imm] 23)
  have b0 := bnew w (.cells #[.int .i64 op, .bool reg, .int .i64 dst, .int .i64 sr, .int .i64 off, .int .i64 imm] 23)
  obtain ⟨x0, x1, x2, x3, x4, x5⟩ := cells6 hx
  have q0 : 56 ≤ op := by omega
  have q1 : op < 67 := by omega
  have q2 : ¬ op = 44 := by omega
  have hw : IntKind.i64.wrap (op - 45) = op - 45 := by
    rw [IntKind.wrap_i64]; omega
  have ht : (op - 45).tmod 11 = (i : Int) := by
    rw [Int.tmod_eq_emod_of_nonneg (by omega)]; omega
  clear hv ho hop hf hb
  go_enter Try.func11, Try.ntmps11
  go_upto_region 6 with (first
    | (go_at_call 16; ((with_reducible refine (HF.out _).mono ?_); rintro e w1 ⟨rfl, rfl⟩))
    | (go_at_call 17; ((with_reducible refine (HB.out _).mono ?_); rintro e w2 ⟨rfl, b2⟩)))
  have X : Bx w w2 w.heap.size #[.int .i64 op, .bool reg, .int .i64 dst, .int .i64 sr, .int .i64 off, .int .i64 imm] := ⟨bch b0 b2, row_up hx b2⟩
  clear x0 x1 x2 x3 x4 x5 hx b0 b2
  obtain ⟨g, hg⟩ : ∃ g, g = w.heap.size := ⟨_, rfl⟩
  rw [← hg] at X ⊢
  clear hg
  go_region_held3 (fun W => Bx w W g #[.int .i64 op, .bool reg, .int .i64 dst, .int .i64 sr, .int .i64 off, .int .i64 imm] ∧ W.cell? ⟨g, 0, none⟩ = some (.int .i64 op) ∧ W.cell? ⟨g, 1, none⟩ = some (.bool reg) ∧ W.cell? ⟨g, 2, none⟩ = some (.int .i64 dst) ∧ W.cell? ⟨g, 3, none⟩ = some (.int .i64 sr) ∧ W.cell? ⟨g, 4, none⟩ = some (.int .i64 off) ∧ W.cell? ⟨g, 5, none⟩ = some (.int .i64 imm))
    (first | exact keepB (Below.refl _ _).drew X | exact keepC hb9 (by assumption) | assumption)
    (first | (go_at_call 24; ((with_reducible refine (rlow32 _ _ (by assumption)).mono ?_); rintro e w9 ⟨rfl, rfl⟩)) | (go_at_call 25; ((with_reducible refine (HO.out _).mono ?_); rintro e w9 ⟨rfl, hb9⟩)) | (go_at_call 23; ((with_reducible refine (HC.out _).mono ?_); rintro e w9 ⟨rfl, rfl⟩)))
  all_goals
    rename_i hh
    go_wp2
    go_ret
    exact ⟨rfl, hh.1.1⟩
set_option maxHeartbeats 4000000 in
set_option maxRecDepth 100000 in
theorem rholds_go (reg : Bool) (dst sr off imm a s : Int) (w : World) :
    Calls Try.prog 11 #[.agg #[.int .i64 44, .bool reg, .int .i64 dst, .int .i64 sr, .int .i64 off, .int .i64 imm], .int .u64 a, .int .u64 s] w fun e w' => e = .returned (.bool true) ∧ Below w.heap.size w w' := by
  have b0 := bnew w (.cells #[.int .i64 44, .bool reg, .int .i64 dst, .int .i64 sr, .int .i64 off, .int .i64 imm] 23)
  go_enter Try.func11, Try.ntmps11
  go_wp2
  go_ret
  exact ⟨rfl, b0⟩
set_option maxHeartbeats 4000000 in
set_option maxRecDepth 100000 in
theorem rholds_no (op f : Int) (hf : frm (ix op) = f) (h : op ≠ 44) (h4 : f ≠ 4) (reg : Bool) (dst sr off imm a s : Int) (w : World) :
    Calls Try.prog 11 #[.agg #[.int .i64 op, .bool reg, .int .i64 dst, .int .i64 sr, .int .i64 off, .int .i64 imm], .int .u64 a, .int .u64 s] w fun e w' => e = .returned (.bool false) ∧ Below w.heap.size w w' := by
  have HF := Lib.hid (fun w => rform_at op f w hf)
  have b0 := bnew w (.cells #[.int .i64 op, .bool reg, .int .i64 dst, .int .i64 sr, .int .i64 off, .int .i64 imm] 23)
  have k1 : (op == 44) = false := by simpa using h
  have k4 : (f == 4) = false := by simpa using h4
  clear hf h h4
  go_enter Try.func11, Try.ntmps11
  go_wp2_with (go_at_call 16; ((with_reducible refine (HF.out _).mono ?_); rintro e w1 ⟨rfl, rfl⟩))
  go_ret
  exact ⟨rfl, b0⟩
theorem rholds_any (op : Int) (reg : Bool) (dst sr off imm a s : Int) (v : Bool) (w : World) (a0 : 0 ≤ a) (a1 : a < 18446744073709551616) (s0 : 0 ≤ s) (s1 : s < 18446744073709551616) (hv : hoV op reg imm a s = v) :
    Calls Try.prog 11 #[.agg #[.int .i64 op, .bool reg, .int .i64 dst, .int .i64 sr, .int .i64 off, .int .i64 imm], .int .u64 a, .int .u64 s] w fun e w' => e = .returned (.bool v) ∧ Below w.heap.size w w' := by
  rcases kinds op with ⟨rfl, _⟩ | ⟨i, hi, hop, hf, hb⟩ | ⟨i, hi, hop, hf, hb⟩ | ⟨h, k, _, h4⟩
  · rw [← hv]; exact rholds_go reg dst sr off imm a s w
  · exact rholds_64 op i hi hop hf hb reg dst sr off imm a s a0 a1 s0 s1 v hv w
  · exact rholds_32 op i hi hop hf hb reg dst sr off imm a s a0 a1 s0 s1 v hv w
  · rw [← hv, hoV_no h k]; exact rholds_no op _ rfl h h4 reg dst sr off imm a s w
end Go.Proofs.Ytiklgnokojkoeaa
