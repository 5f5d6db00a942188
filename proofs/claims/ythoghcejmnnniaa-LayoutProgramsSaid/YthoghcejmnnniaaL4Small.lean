/- What Slots, Writes, Ends and Jumps return, the program's and the reference's, and which fields the reference says are used. No condition. -/
import Derived.Test.YthoghcejmnnniaaL4Uses
namespace Go.Proofs.Ythoghcejmnnniaa.L4
open Go.RowKit L3

/-- An instruction's six cells. -/
abbrev insA (op : Int) (reg : Bool) (dst src off imm : Int) : Array Value := #[.int .i64 op, .bool reg, .int .i64 dst, .int .i64 src, .int .i64 off, .int .i64 imm]

set_option maxHeartbeats 2000000 in
set_option maxRecDepth 100000 in
theorem slots_at (op f v : Int) (w : World) (hf : frm (ix op) = f) (hv : slo f = v) : Calls Try.prog 33 #[.int .i64 op] w fun e w' => e = .returned (.int .i64 v) ∧ Below w.heap.size w w' := by
  subst hv
  have hF := frm_isF op
  rw [hf] at hF
  rcases hF with rfl | rfl | rfl | rfl | rfl | rfl | rfl | rfl | rfl | rfl | rfl | rfl | rfl
  all_goals
    have HF := Lib.hid hf
    clear hf
    go_enter Try.func33, Try.ntmps33
    go_wp2_with (first | (go_at_call 30; ((with_reducible refine (form_at op _ _ HF.out).mono ?_); rintro e w1 ⟨rfl, hb1⟩)))
    go_ret
    exact ⟨rfl, hb1⟩

/-- Nothing behind it is reached directly; it may continue at a target. -/
def endF (f : Int) : Bool := f == 3 || f == 6
def jmpF (f : Int) : Bool := f == 3 || f == 4

/-! ### the reference -/
theorem rslots_at (op f v : Int) (w : World) (hf : frm (ix op) = f) (hv : slo f = v) : Calls Try.prog 17 #[.int .i64 op] w fun e w' => e = .returned (.int .i64 v) ∧ w = w' := by
  subst hv
  have hF := frm_isF op
  rw [hf] at hF
  rcases hF with rfl | rfl | rfl | rfl | rfl | rfl | rfl | rfl | rfl | rfl | rfl | rfl | rfl
  all_goals
    have HF := Lib.hid hf
    clear hf
    go_enter Try.func17, Try.ntmps17
    go_wp2_with (first | (go_at_call 29; ((with_reducible refine (rform_at op _ _ HF.out).mono ?_); rintro e w1 ⟨rfl, rfl⟩)))
    go_ret
    exact ⟨rfl, rfl⟩

/-- A list of integers in memory. -/
def IntsAt (w : World) (k : Nat) (l : List Int) : Prop := ∃ t, w.heap[k]? = some (.cells (l.map (Value.int .i64)).toArray t)

theorem ints_new (w : World) (l : List Int) (t : TypeId) (c : Array Value) (h : c = (l.map (Value.int .i64)).toArray) : IntsAt (w.alloc (.cells c t)) w.heap.size l := ⟨t, by rw [heap_alloc_last, h]⟩

/-- Is it a register? -/
def isG (n : Int) : Bool := decide (0 ≤ n) && decide (n ≤ 10)
end Go.Proofs.Ythoghcejmnnniaa.L4
