/- What the program's functions that read one row return: Name, Form, Bits, Fixed, takesRegister, with, Code. No condition. -/
import Derived.Test.YtbneaihpnfkcdaaDoorL3Base
namespace Go.Proofs.YtbneaihpnfkcdaaDoor.L3
open Go.RowKit

theorem below_drewN {B : Nat} {w w' : World} (h : Below B w w') (m : Nat) : Below B w (w'.drewN m) := ⟨h.1, h.2, h.3, h.4, h.5⟩
theorem bnew (w : World) (o : Obj) : Below w.heap.size w (w.alloc o) := (Below.refl _ _).alloc (Nat.le_refl _) _

set_option maxHeartbeats 1000000 in
set_option maxRecDepth 100000 in
theorem name_any (op : Int) (w : World) : Calls Tryd.prog 24 #[.int .i64 op] w fun e w' => e = .returned (.string (nm (ix op))) ∧ Below w.heap.size w w' := by
  obtain ⟨s, f, b, c, r, o, i, hI⟩ := Is.some (ix op)
  obtain ⟨ok, hok⟩ : ∃ ok, decide (ix op < 86) = ok := ⟨_, rfl⟩
  have HI := Lib.hid hI
  have HK := Lib.hid hok
  rw [HI.out.nm]
  clear hI hok
  go_enter Tryd.func24, Tryd.ntmps24
  go_wp2_with (go_at_call 33; ((with_reducible refine (at_is op _ HI.out HK.out).mono ?_); rintro e w1 ⟨rfl, hb1⟩))
  go_ret
  exact ⟨rfl, hb1.alloc hb1.size _⟩

/-- Form. -/
def frm (j : Nat) : Int := if j < 86 then fm j else -1

set_option maxHeartbeats 1000000 in
set_option maxRecDepth 100000 in
theorem form_any (op : Int) (w : World) : Calls Tryd.prog 26 #[.int .i64 op] w fun e w' => e = .returned (.int .i64 (frm (ix op))) ∧ Below w.heap.size w w' := by
  obtain ⟨s, f, b, c, r, o, i, hI⟩ := Is.some (ix op)
  have HI := Lib.hid hI
  unfold frm
  rw [HI.out.fm]
  clear hI
  by_cases h : ix op < 86
  · rw [if_pos h]
    have HK : Hid (decide (ix op < 86) = true) := Lib.hid (by rw [decide_eq_true_iff]; exact h)
    clear h
    go_enter Tryd.func26, Tryd.ntmps26
    go_wp2_with (go_at_call 33; ((with_reducible refine (at_is op _ HI.out HK.out).mono ?_); rintro e w1 ⟨rfl, hb1⟩))
    go_ret
    exact ⟨rfl, hb1.alloc hb1.size _⟩
  · rw [if_neg h]
    have HK : Hid (decide (ix op < 86) = false) := Lib.hid (by rw [decide_eq_false_iff_not]; exact h)
    clear h
    go_enter Tryd.func26, Tryd.ntmps26
    go_wp2_with (go_at_call 33; ((with_reducible refine (at_is op _ HI.out HK.out).mono ?_); rintro e w1 ⟨rfl, hb1⟩))
    go_ret
    exact ⟨rfl, hb1.alloc hb1.size _⟩

/-- May the second operand be a register? -/
def isR (f : Int) : Bool := f == 0 || f == 4

/-- The fields src, off and imm of a row behind 'with'. -/
def wiR (f src r : Int) : Int := if f == 10 || f == 11 then src else r
def wiO (f off o : Int) : Int := if f == 0 || f == 2 then off else o
def wiI (f imm i : Int) : Int := if f == 1 && i != 0 then imm else i

/-- What the opcode of a register is greater by. -/
def cd8 (j : Nat) : Int := IntKind.u8.wrap (cd j + 8)
/-- Code. -/
def cdB (j : Nat) (reg : Bool) : Bool := decide (j < 86) && (!reg || isR (fm j))
def cdV (j : Nat) (reg : Bool) : Int := if cdB j reg then (if reg then cd8 j else cd j) else 0

end Go.Proofs.YtbneaihpnfkcdaaDoor.L3
