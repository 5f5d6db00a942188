/- What Slots, Writes, Ends and Jumps return, the program's and the reference's, and which fields the reference says are used. No condition. -/
import Derived.Test.YtbneaihpnfkcdaaDoorL4Uses
namespace Go.Proofs.YtbneaihpnfkcdaaDoor.L4
open Go.RowKit L3

/-- An instruction's six cells. -/
abbrev insA (op : Int) (reg : Bool) (dst src off imm : Int) : Array Value := #[.int .i64 op, .bool reg, .int .i64 dst, .int .i64 src, .int .i64 off, .int .i64 imm]

set_option maxHeartbeats 4000000 in
set_option maxRecDepth 100000 in
theorem writes_at (op : Int) (reg : Bool) (dst src off imm f v : Int) (w : World) (hf : frm (ix op) = f) (hv : wri f dst = v) : Calls Tryd.prog 64 #[.agg #[.int .i64 op, .bool reg, .int .i64 dst, .int .i64 src, .int .i64 off, .int .i64 imm]] w fun e w' => e = .returned (.int .i64 v) ∧ Below w.heap.size w w' := by
  have hF := frm_isF op
  rw [hf] at hF
  rcases hF with rfl | rfl | rfl | rfl | rfl | rfl | rfl | rfl | rfl | rfl | rfl | rfl | rfl
  all_goals
    have HF := Lib.hid hf
    simp [wri] at hv
    subst hv
    clear hf
    go_enter Tryd.func64, Tryd.ntmps64
    go_wp2_with (first | (go_at_call 26; ((with_reducible refine (form_at op _ _ HF.out).mono ?_); rintro e w1 ⟨rfl, hb1⟩; have c2 := (hb1.cell (p := ⟨w.heap.size, 2, none⟩) (by simp)).trans (World.cell?_alloc_at _ _ _ _ rfl))))
    go_ret
    exact ⟨rfl, bch (bnew _ _) hb1⟩

/-- Nothing behind it is reached directly; it may continue at a target. -/
def endF (f : Int) : Bool := f == 3 || f == 6
def jmpF (f : Int) : Bool := f == 3 || f == 4

set_option maxHeartbeats 4000000 in
set_option maxRecDepth 100000 in
theorem ends_at (op : Int) (reg : Bool) (dst src off imm f : Int) (v : Bool) (w : World) (hf : frm (ix op) = f) (hv : endF f = v) : Calls Tryd.prog 66 #[.agg #[.int .i64 op, .bool reg, .int .i64 dst, .int .i64 src, .int .i64 off, .int .i64 imm]] w fun e w' => e = .returned (.bool v) ∧ Below w.heap.size w w' := by
  subst hv
  have hF := frm_isF op
  rw [hf] at hF
  rcases hF with rfl | rfl | rfl | rfl | rfl | rfl | rfl | rfl | rfl | rfl | rfl | rfl | rfl
  all_goals
    have HF := Lib.hid hf
    clear hf
    go_enter Tryd.func66, Tryd.ntmps66
    go_wp2_with (first | (go_at_call 26; ((with_reducible refine (form_at op _ _ HF.out).mono ?_); rintro e w1 ⟨rfl, hb1⟩)))
    go_ret
    exact ⟨rfl, bch (bnew _ _) hb1⟩

set_option maxHeartbeats 4000000 in
set_option maxRecDepth 100000 in
theorem jumps_at (op : Int) (reg : Bool) (dst src off imm f : Int) (v : Bool) (w : World) (hf : frm (ix op) = f) (hv : jmpF f = v) : Calls Tryd.prog 79 #[.agg #[.int .i64 op, .bool reg, .int .i64 dst, .int .i64 src, .int .i64 off, .int .i64 imm]] w fun e w' => e = .returned (.bool v) ∧ Below w.heap.size w w' := by
  subst hv
  have hF := frm_isF op
  rw [hf] at hF
  rcases hF with rfl | rfl | rfl | rfl | rfl | rfl | rfl | rfl | rfl | rfl | rfl | rfl | rfl
  all_goals
    have HF := Lib.hid hf
    clear hf
    go_enter Tryd.func79, Tryd.ntmps79
    go_wp2_with (first | (go_at_call 26; ((with_reducible refine (form_at op _ _ HF.out).mono ?_); rintro e w1 ⟨rfl, hb1⟩)))
    go_ret
    exact ⟨rfl, bch (bnew _ _) hb1⟩

/-! ### the reference -/
/-- A list of integers in memory. -/
def IntsAt (w : World) (k : Nat) (l : List Int) : Prop := ∃ t, w.heap[k]? = some (.cells (l.map (Value.int .i64)).toArray t)

theorem ints_new (w : World) (l : List Int) (t : TypeId) (c : Array Value) (h : c = (l.map (Value.int .i64)).toArray) : IntsAt (w.alloc (.cells c t)) w.heap.size l := ⟨t, by rw [heap_alloc_last, h]⟩

/-- Is it a register? -/
def isG (n : Int) : Bool := decide (0 ≤ n) && decide (n ≤ 10)
end Go.Proofs.YtbneaihpnfkcdaaDoor.L4
