/- What the program's Operand and the reference's return. No condition. -/
import Derived.Test.YtiklgnokojkoeaaL6Math
import Derived.Test.YtiklgnokojkoeaaL1Base
import Derived.Test.YtiklgnokojkoeaaL3Rfn
namespace Go.Proofs.Ytiklgnokojkoeaa.L6
open Go.RowKit L1 L3

/-- The second operand. -/
def opd (reg : Bool) (f imm src : Int) : Int := if reg || f == 2 then src else imm % 18446744073709551616
theorem cells6 {w : World} {k : Nat} {a b c d e f : Value} {t : TypeId} (h : w.heap[k]? = some (.cells #[a, b, c, d, e, f] t)) :
    w.cell? ⟨k, 0, none⟩ = some a ∧ w.cell? ⟨k, 1, none⟩ = some b ∧ w.cell? ⟨k, 2, none⟩ = some c ∧ w.cell? ⟨k, 3, none⟩ = some d ∧ w.cell? ⟨k, 4, none⟩ = some e ∧ w.cell? ⟨k, 5, none⟩ = some f := by
  simp [World.cell?, h]
theorem row_up {w w' : World} {k : Nat} {cs : Array Value} {t : TypeId} (h : w.heap[k]? = some (.cells cs t)) (hb : Below w.heap.size w w') : w'.heap[k]? = some (.cells cs t) := (hb.block _ (lt_of_block h)).trans h

set_option maxRecDepth 100000 in
theorem operand_any (op : Int) (reg : Bool) (dst sr off imm src v : Int) (w : World) (h : opd reg (frm (ix op)) imm src = v) :
    Calls Try.prog 19 #[.agg #[.int .i64 op, .bool reg, .int .i64 dst, .int .i64 sr, .int .i64 off, .int .i64 imm], .int .u64 src] w fun e w' => e = .returned (.int .u64 v) ∧ Below w.heap.size w w' := by
  have b0 := bnew w (.cells #[.int .i64 op, .bool reg, .int .i64 dst, .int .i64 sr, .int .i64 off, .int .i64 imm] 23)
  cases reg
  · have HF := Lib.hid (fun w => form_any op w)
    generalize frm (ix op) = f at h HF
    cases hf : f == 2
    · have hv : v = imm % 18446744073709551616 := by rw [← h]; simp [opd, hf]
      subst hv
      clear h
      have hx := heap_alloc_last w (.cells #[.int .i64 op, .bool false, .int .i64 dst, .int .i64 sr, .int .i64 off, .int .i64 imm] 23)
      go_enter Try.func19, Try.ntmps19
      go_wp2_with (go_at_call 18; ((with_reducible refine (HF.out _).mono ?_); rintro e w1 ⟨rfl, b1⟩; obtain ⟨x0, x1, x2, x3, x4, x5⟩ := cells6 (row_up hx b1)))
      go_ret
      exact ⟨ret_int (by first | rfl | (rw [IntKind.wrap_u64])), bch b0 b1⟩
    · have hv : v = src := by rw [← h]; simp [opd, hf]
      subst hv
      clear h
      go_enter Try.func19, Try.ntmps19
      go_wp2_with (go_at_call 18; ((with_reducible refine (HF.out _).mono ?_); rintro e w1 ⟨rfl, b1⟩))
      go_ret
      exact ⟨rfl, bch b0 b1⟩
  · have hv : v = src := by rw [← h]; simp [opd]
    subst hv
    clear h
    go_enter Try.func19, Try.ntmps19
    go_wp2
    go_ret
    exact ⟨rfl, b0⟩
set_option maxRecDepth 100000 in
theorem roperand_any (op : Int) (reg : Bool) (dst sr off imm src v : Int) (w : World) (h : opd reg (frm (ix op)) imm src = v) :
    Calls Try.prog 25 #[.agg #[.int .i64 op, .bool reg, .int .i64 dst, .int .i64 sr, .int .i64 off, .int .i64 imm], .int .u64 src] w fun e w' => e = .returned (.int .u64 v) ∧ Below w.heap.size w w' := by
  have b0 := bnew w (.cells #[.int .i64 op, .bool reg, .int .i64 dst, .int .i64 sr, .int .i64 off, .int .i64 imm] 23)
  cases reg
  · have HF := Lib.hid (fun w => rform_at op (frm (ix op)) w rfl)
    generalize frm (ix op) = f at h HF
    cases hf : f == 2
    · have hv : v = imm % 18446744073709551616 := by rw [← h]; simp [opd, hf]
      subst hv
      clear h
      go_enter Try.func25, Try.ntmps25
      go_wp2_with (go_at_call 16; ((with_reducible refine (HF.out _).mono ?_); rintro e w1 ⟨rfl, rfl⟩))
      go_ret
      exact ⟨ret_int (by first | rfl | (rw [IntKind.wrap_u64])), b0⟩
    · have hv : v = src := by rw [← h]; simp [opd, hf]
      subst hv
      clear h
      go_enter Try.func25, Try.ntmps25
      go_wp2_with (go_at_call 16; ((with_reducible refine (HF.out _).mono ?_); rintro e w1 ⟨rfl, rfl⟩))
      go_ret
      exact ⟨rfl, b0⟩
  · have hv : v = src := by rw [← h]; simp [opd]
    subst hv
    clear h
    go_enter Try.func25, Try.ntmps25
    go_wp2
    go_ret
    exact ⟨rfl, b0⟩
end Go.Proofs.Ytiklgnokojkoeaa.L6
