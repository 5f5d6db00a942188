/- What the program's functions that read one row return: Name, Form, Bits, Fixed, takesRegister, with, Code. No condition. -/
import Derived.Test.YthebdblncafijaaDoorL3Base
namespace Go.Proofs.YthebdblncafijaaDoor.L3
open Go.RowKit

theorem below_drewN {B : Nat} {w w' : World} (h : Below B w w') (m : Nat) : Below B w (w'.drewN m) := ⟨h.1, h.2, h.3, h.4, h.5⟩
theorem bnew (w : World) (o : Obj) : Below w.heap.size w (w.alloc o) := (Below.refl _ _).alloc (Nat.le_refl _) _

/-- Form. -/
def frm (j : Nat) : Int := if j < 86 then fm j else -1

set_option maxHeartbeats 1000000 in
set_option maxRecDepth 100000 in
theorem form_any (op : Int) (w : World) : Calls Tryd.prog 48 #[.int .i64 op] w fun e w' => e = .returned (.int .i64 (frm (ix op))) ∧ Below w.heap.size w w' := by
  obtain ⟨s, f, b, c, r, o, i, hI⟩ := Is.some (ix op)
  have HI := Lib.hid hI
  unfold frm
  rw [HI.out.fm]
  clear hI
  by_cases h : ix op < 86
  · rw [if_pos h]
    have HK : Hid (decide (ix op < 86) = true) := Lib.hid (by rw [decide_eq_true_iff]; exact h)
    clear h
    go_enter Tryd.func48, Tryd.ntmps48
    go_wp2_with (go_at_call 49; ((with_reducible refine (at_is op _ HI.out HK.out).mono ?_); rintro e w1 ⟨rfl, hb1⟩))
    go_ret
    exact ⟨rfl, hb1.alloc hb1.size _⟩
  · rw [if_neg h]
    have HK : Hid (decide (ix op < 86) = false) := Lib.hid (by rw [decide_eq_false_iff_not]; exact h)
    clear h
    go_enter Tryd.func48, Tryd.ntmps48
    go_wp2_with (go_at_call 49; ((with_reducible refine (at_is op _ HI.out HK.out).mono ?_); rintro e w1 ⟨rfl, hb1⟩))
    go_ret
    exact ⟨rfl, hb1.alloc hb1.size _⟩

set_option maxHeartbeats 1000000 in
set_option maxRecDepth 100000 in
theorem fixed_any (op : Int) (w : World) : Calls Tryd.prog 25 #[.int .i64 op] w fun e w' => e = .returned (.tuple #[.int .i64 (sr (ix op)), .int .i64 (of (ix op)), .int .i64 (im (ix op))]) ∧ Below w.heap.size w w' := by
  obtain ⟨s, f, b, c, r, o, i, hI⟩ := Is.some (ix op)
  obtain ⟨ok, hok⟩ : ∃ ok, decide (ix op < 86) = ok := ⟨_, rfl⟩
  have HI := Lib.hid hI
  have HK := Lib.hid hok
  rw [HI.out.sr, HI.out.of, HI.out.im]
  clear hI hok
  go_enter Tryd.func25, Tryd.ntmps25
  go_wp2_with (go_at_call 49; ((with_reducible refine (at_is op _ HI.out HK.out).mono ?_); rintro e w1 ⟨rfl, hb1⟩))
  go_quiet (fail)
  go_wp2
  go_ret3
  exact ⟨rfl, below_drewN (hb1.alloc hb1.size _) _⟩

/-- May the second operand be a register? -/
def isR (f : Int) : Bool := f == 0 || f == 4

set_option maxRecDepth 100000 in
theorem takes_at (s : ByteArray) (f b c r o i : Int) (t : Bool) (w : World) (h : isR f = t) : Calls Tryd.prog 50 #[.agg #[.string s, .int .i64 f, .int .i64 b, .int .u8 c, .int .i64 r, .int .i64 o, .int .i64 i]] w fun e w' => e = .returned (.bool t) ∧ w' = w.alloc (.cells #[.string s, .int .i64 f, .int .i64 b, .int .u8 c, .int .i64 r, .int .i64 o, .int .i64 i] 82) := by
  subst h
  unfold isR
  cases h1 : f == 0 <;> cases h2 : f == 4
  all_goals
    go_enter Tryd.func50, Tryd.ntmps50
    go_wp2
    go_ret
    exact ⟨rfl, rfl⟩

/-- The fields src, off and imm of a row behind 'with'. -/
def wiR (f src r : Int) : Int := if f == 10 || f == 11 then src else r
def wiO (f off o : Int) : Int := if f == 0 || f == 2 then off else o
def wiI (f imm i : Int) : Int := if f == 1 && i != 0 then imm else i

set_option maxRecDepth 100000 in
theorem with_at (s : ByteArray) (f b c r o i src off imm r' o' i' : Int) (w : World) (hr : wiR f src r = r') (ho : wiO f off o = o') (hi : wiI f imm i = i') : Calls Tryd.prog 57 #[.agg #[.string s, .int .i64 f, .int .i64 b, .int .u8 c, .int .i64 r, .int .i64 o, .int .i64 i], .int .i64 src, .int .i64 off, .int .i64 imm] w fun e w' =>
    e = .returned (.agg #[.string s, .int .i64 f, .int .i64 b, .int .u8 c, .int .i64 r', .int .i64 o', .int .i64 i']) ∧ Below w.heap.size w w' := by
  cases h0 : f == 0
  · cases h2 : f == 2
    · cases h1 : f == 1
      · cases h10 : f == 10
        · cases h11 : f == 11
          · obtain rfl : r' = r := by rw [← hr, wiR, h10, h11]; rfl
            obtain rfl : o' = o := by rw [← ho, wiO, h0, h2]; rfl
            obtain rfl : i' = i := by rw [← hi, wiI, h1]; rfl
            clear hr ho hi
            go_enter Tryd.func57, Tryd.ntmps57
            go_wp2
            refine bodyPost_ret (v := .agg #[.string s, .int .i64 f, .int .i64 b, .int .u8 c, .int .i64 r', .int .i64 o', .int .i64 i']) (by simp [results, Tryd.results57, go_sem]) rfl ⟨rfl, bch (bnew w _) (bnew _ _)⟩
          · obtain rfl : f = 11 := by simpa using h11
            obtain rfl : r' = src := hr.symm
            obtain rfl : o' = o := ho.symm
            obtain rfl : i' = i := hi.symm
            clear hr ho hi h0 h1 h2 h10 h11
            go_enter Tryd.func57, Tryd.ntmps57
            go_wp2
            refine bodyPost_ret (v := .agg #[.string s, .int .i64 11, .int .i64 b, .int .u8 c, .int .i64 r', .int .i64 o', .int .i64 i']) (by simp [results, Tryd.results57, go_sem]) rfl ⟨rfl, bch (bnew w _) (bnew _ _)⟩
        · obtain rfl : f = 10 := by simpa using h10
          obtain rfl : r' = src := hr.symm
          obtain rfl : o' = o := ho.symm
          obtain rfl : i' = i := hi.symm
          clear hr ho hi h0 h1 h2 h10
          go_enter Tryd.func57, Tryd.ntmps57
          go_wp2
          refine bodyPost_ret (v := .agg #[.string s, .int .i64 10, .int .i64 b, .int .u8 c, .int .i64 r', .int .i64 o', .int .i64 i']) (by simp [results, Tryd.results57, go_sem]) rfl ⟨rfl, bch (bnew w _) (bnew _ _)⟩
      · obtain rfl : f = 1 := by simpa using h1
        obtain rfl : r' = r := hr.symm
        obtain rfl : o' = o := ho.symm
        cases hz : i != 0
        · obtain rfl : i' = i := by rw [← hi, wiI, hz]; rfl
          clear hr ho hi h0 h1 h2
          go_enter Tryd.func57, Tryd.ntmps57
          go_wp2
          refine bodyPost_ret (v := .agg #[.string s, .int .i64 1, .int .i64 b, .int .u8 c, .int .i64 r', .int .i64 o', .int .i64 i']) (by simp [results, Tryd.results57, go_sem]) rfl ⟨rfl, bch (bnew w _) (bnew _ _)⟩
        · obtain rfl : i' = imm := by rw [← hi, wiI, hz]; rfl
          clear hr ho hi h0 h1 h2
          go_enter Tryd.func57, Tryd.ntmps57
          go_wp2
          refine bodyPost_ret (v := .agg #[.string s, .int .i64 1, .int .i64 b, .int .u8 c, .int .i64 r', .int .i64 o', .int .i64 i']) (by simp [results, Tryd.results57, go_sem]) rfl ⟨rfl, bch (bnew w _) (bnew _ _)⟩
    · obtain rfl : f = 2 := by simpa using h2
      obtain rfl : r' = r := hr.symm
      obtain rfl : o' = off := ho.symm
      obtain rfl : i' = i := hi.symm
      clear hr ho hi h0 h2
      go_enter Tryd.func57, Tryd.ntmps57
      go_wp2
      refine bodyPost_ret (v := .agg #[.string s, .int .i64 2, .int .i64 b, .int .u8 c, .int .i64 r', .int .i64 o', .int .i64 i']) (by simp [results, Tryd.results57, go_sem]) rfl ⟨rfl, bch (bnew w _) (bnew _ _)⟩
  · obtain rfl : f = 0 := by simpa using h0
    obtain rfl : r' = r := hr.symm
    obtain rfl : o' = off := ho.symm
    obtain rfl : i' = i := hi.symm
    clear hr ho hi h0
    go_enter Tryd.func57, Tryd.ntmps57
    go_wp2
    refine bodyPost_ret (v := .agg #[.string s, .int .i64 0, .int .i64 b, .int .u8 c, .int .i64 r', .int .i64 o', .int .i64 i']) (by simp [results, Tryd.results57, go_sem]) rfl ⟨rfl, bch (bnew w _) (bnew _ _)⟩

/-- What the opcode of a register is greater by. -/
def cd8 (j : Nat) : Int := IntKind.u8.wrap (cd j + 8)
/-- Code. -/
def cdB (j : Nat) (reg : Bool) : Bool := decide (j < 86) && (!reg || isR (fm j))
def cdV (j : Nat) (reg : Bool) : Int := if cdB j reg then (if reg then cd8 j else cd j) else 0

set_option maxHeartbeats 1000000 in
set_option maxRecDepth 100000 in
theorem code_at (op : Int) (reg : Bool) (v : Int) (ok : Bool) (w : World) (hv : cdV (ix op) reg = v) (hk : cdB (ix op) reg = ok) : Calls Tryd.prog 24 #[.int .i64 op, .bool reg] w fun e w' => e = .returned (.tuple #[.int .u8 v, .bool ok]) ∧ Below w.heap.size w w' := by
  subst hv hk
  obtain ⟨s, f, b, c, r, o, i, hI⟩ := Is.some (ix op)
  obtain ⟨t, ht⟩ : ∃ t, isR f = t := ⟨_, rfl⟩
  obtain ⟨ok, hok⟩ : ∃ ok, decide (ix op < 86) = ok := ⟨_, rfl⟩
  have HI := Lib.hid hI
  have HK := Lib.hid hok
  have HT := Lib.hid ht
  have hB : cdB (ix op) reg = (ok && (!reg || t)) := by rw [cdB, hok, hI.fm, ht]
  have hV : cdV (ix op) reg = if (ok && (!reg || t)) then (if reg then IntKind.u8.wrap (c + 8) else c) else 0 := by rw [cdV, hB, cd8, hI.cd]
  rw [hB, hV]
  clear hI hok ht hB hV
  cases ok
  · go_enter Tryd.func24, Tryd.ntmps24
    go_wp2_with (first | (go_at_call 49; ((with_reducible refine (at_is op _ HI.out HK.out).mono ?_); rintro e w1 ⟨rfl, hb1⟩)) | (go_at_call 50; ((with_reducible refine (takes_at _ _ _ _ _ _ _ _ _ HT.out).mono ?_); rintro e w2 ⟨rfl, rfl⟩)))
    go_ret2
    exact ⟨rfl, hb1.alloc hb1.size _⟩
  cases reg
  · go_enter Tryd.func24, Tryd.ntmps24
    go_wp2_with (first | (go_at_call 49; ((with_reducible refine (at_is op _ HI.out HK.out).mono ?_); rintro e w1 ⟨rfl, hb1⟩)) | (go_at_call 50; ((with_reducible refine (takes_at _ _ _ _ _ _ _ _ _ HT.out).mono ?_); rintro e w2 ⟨rfl, rfl⟩)))
    go_ret2
    exact ⟨rfl, hb1.alloc hb1.size _⟩
  cases t
  · go_enter Tryd.func24, Tryd.ntmps24
    go_wp2_with (first | (go_at_call 49; ((with_reducible refine (at_is op _ HI.out HK.out).mono ?_); rintro e w1 ⟨rfl, hb1⟩)) | (go_at_call 50; ((with_reducible refine (takes_at _ _ _ _ _ _ _ _ _ HT.out).mono ?_); rintro e w2 ⟨rfl, rfl⟩)))
    go_ret2
    exact ⟨rfl, bch (hb1.alloc hb1.size _) (bnew _ _)⟩
  · go_enter Tryd.func24, Tryd.ntmps24
    go_wp2_with (first | (go_at_call 49; ((with_reducible refine (at_is op _ HI.out HK.out).mono ?_); rintro e w1 ⟨rfl, hb1⟩)) | (go_at_call 50; ((with_reducible refine (takes_at _ _ _ _ _ _ _ _ _ HT.out).mono ?_); rintro e w2 ⟨rfl, rfl⟩)))
    go_ret2
    exact ⟨rfl, bch (hb1.alloc hb1.size _) (bnew _ _)⟩
end Go.Proofs.YthebdblncafijaaDoor.L3
