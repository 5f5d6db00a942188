/- What the reference's second and memory return: an instruction with its second operand, a register and an offset. Conditions: the operands are as many as are asked for, and no longer than memory allows. -/
import Derived.Test.YtjcaonbejhdhkaaDoorL9Rsm
import Derived.StillTail
import Derived.StillTactics
namespace Go.Proofs.YtjcaonbejhdhkaaDoor.L9
open Go.RowKit
attribute [local go_sem] Oper.semAt_some

abbrev c6 (op : Int) (reg : Bool) (dst src off imm : Int) : Array Value := #[.int .i64 op, .bool reg, .int .i64 dst, .int .i64 src, .int .i64 off, .int .i64 imm]
set_option maxHeartbeats 1000000 in
set_option maxRecDepth 100000 in
theorem rsecond_reg (op : Int) (reg : Bool) (dst src off imm : Int) (s : ByteArray) (n : Int) (w : World) (h1 : ((L2.rg s).1 : Int) = n) (h2 : (L2.rg s).2 = true) :
    Calls Tryd.prog 64 #[.agg #[.int .i64 op, .bool reg, .int .i64 dst, .int .i64 src, .int .i64 off, .int .i64 imm], .string s] w fun e w' => e = .returned (.tuple #[.agg #[.int .i64 op, .bool true, .int .i64 dst, .int .i64 n, .int .i64 off, .int .i64 imm], .int .i64 0]) ∧ w' = (w.alloc (.cells #[.int .i64 op, .bool true, .int .i64 dst, .int .i64 n, .int .i64 off, .int .i64 imm] 31)).alloc (.cells #[.int .i64 op, .bool true, .int .i64 dst, .int .i64 n, .int .i64 off, .int .i64 imm] 31) := by
  have HP := Lib.hid (fun w => L2.rregister_at s n true w h1 h2)
  clear h1 h2
  go_enter Tryd.func64, Tryd.ntmps64
  go_wp2_with (go_at_call 46; ((with_reducible refine (HP.out _).mono ?_); rintro e w1 ⟨rfl, rfl⟩))
  exact bodyPost_ret (v := .tuple #[.agg #[.int .i64 op, .bool true, .int .i64 dst, .int .i64 n, .int .i64 off, .int .i64 imm], .int .i64 0]) (by simp [results, Tryd.results64, go_sem]) rfl ⟨rfl, rfl⟩
set_option maxHeartbeats 1000000 in
set_option maxRecDepth 100000 in
theorem rsecond_imm (op : Int) (reg : Bool) (dst src off imm : Int) (s : ByteArray) (v x : Int) (w : World) (hs : s.size ≤ maxLen) (h2 : (L2.rg s).2 = false) (h3 : (nuV s 32).1 = v) (h4 : (nuV s 32).2 = x) :
    Calls Tryd.prog 64 #[.agg #[.int .i64 op, .bool reg, .int .i64 dst, .int .i64 src, .int .i64 off, .int .i64 imm], .string s] w fun e w' => e = .returned (.tuple #[.agg #[.int .i64 op, .bool reg, .int .i64 dst, .int .i64 src, .int .i64 off, .int .i64 v], .int .i64 x]) ∧ w' = (w.alloc (.cells #[.int .i64 op, .bool reg, .int .i64 dst, .int .i64 src, .int .i64 off, .int .i64 v] 31)).alloc (.cells #[.int .i64 op, .bool reg, .int .i64 dst, .int .i64 src, .int .i64 off, .int .i64 v] 31) := by
  obtain ⟨n, hn⟩ : ∃ n : Int, ((L2.rg s).1 : Int) = n := ⟨_, rfl⟩
  have HP := Lib.hid (fun w => L2.rregister_at s n false w hn h2)
  have HQ := Lib.hid (fun w => rnumber_at s 32 v x w hs h3 h4)
  clear h2 h3 h4 hn
  go_enter Tryd.func64, Tryd.ntmps64
  go_wp2_with (first
    | (go_at_call 46; ((with_reducible refine (HP.out _).mono ?_); rintro e w1 ⟨rfl, rfl⟩))
    | (go_at_call 57; ((with_reducible refine (HQ.out _).mono ?_); rintro e w1 ⟨rfl, rfl⟩)))
  exact bodyPost_ret (v := .tuple #[.agg #[.int .i64 op, .bool reg, .int .i64 dst, .int .i64 src, .int .i64 off, .int .i64 v], .int .i64 x]) (by simp [results, Tryd.results64, go_sem]) rfl ⟨rfl, rfl⟩

/-- A part of a slice of texts. -/
theorem st_from (k o n cap a : Nat) (h : a ≤ n) (hc : n ≤ cap) (w : World) :
    (Instr.slice 27 (.slice (some ⟨k, o, none⟩) n cap) (some (.int .i64 (a : Int))) none none).run Tryd.prog w = .ok (.slice (some ⟨k, if cap = a then o else o + a, none⟩) (n - a) (cap - a)) w := by
  have h2 : a ≤ cap := by omega
  by_cases hq : cap = a <;> simp [go_sem, Tryd.underlying27, h, hq]
set_option maxHeartbeats 1000000 in
set_option maxRecDepth 100000 in
theorem rmem_1 (k o n cap : Nat) (t0 : ByteArray) (off : Bool) (v x : Int) (w : World) (h1 : 1 ≤ n) (hc : n ≤ cap) (c0 : w.cell? ⟨k, o, none⟩ = some (.string t0)) (hv : (reV t0).1 = v) (hx : (reV t0).2 = x) (hne : ¬ x = 0) :
    Calls Tryd.prog 62 #[.slice (some ⟨k, o, none⟩) n cap, .bool off] w fun e w' => e = .returned (.tuple #[.int .i64 v, .int .i64 0, .slice (some ⟨k, if cap = 1 then o else o + 1, none⟩) (n - 1) (cap - 1), .int .i64 x]) ∧ w' = w.drew := by
  have HP := Lib.hid (fun w => rregister_at t0 v x w hv hx)
  have hsl : ∀ w, (Instr.slice 27 (.slice (some ⟨k, o, none⟩) n cap) (some (.int .i64 1)) none none).run Tryd.prog w = .ok (.slice (some ⟨k, if cap = 1 then o else o + 1, none⟩) (n - 1) (cap - 1)) w := st_from k o n cap 1 h1 hc
  generalize (if cap = 1 then o else o + 1) = o2 at hsl ⊢
  have n0 : 0 < n := by omega
  clear hv hx
  go_enter Tryd.func62, Tryd.ntmps62
  go_upto_region 3 with (go_at_call 63; ((with_reducible refine (HP.out _).mono ?_); rintro e w1 ⟨rfl, rfl⟩))
  go_still (by kernel_rfl)
  go_wp2
  exact bodyPost_ret (v := .tuple #[.int .i64 v, .int .i64 0, .slice (some ⟨k, o2, none⟩) (n - 1) (cap - 1), .int .i64 x]) (by simp [results, Tryd.results62, go_sem]) rfl ⟨rfl, rfl⟩
set_option maxHeartbeats 1000000 in
set_option maxRecDepth 100000 in
theorem rmem_2 (k o n cap : Nat) (t0 : ByteArray) (v : Int) (w : World) (h1 : 1 ≤ n) (hc : n ≤ cap) (c0 : w.cell? ⟨k, o, none⟩ = some (.string t0)) (hv : (reV t0).1 = v) (hx : (reV t0).2 = 0) :
    Calls Tryd.prog 62 #[.slice (some ⟨k, o, none⟩) n cap, .bool false] w fun e w' => e = .returned (.tuple #[.int .i64 v, .int .i64 0, .slice (some ⟨k, if cap = 1 then o else o + 1, none⟩) (n - 1) (cap - 1), .int .i64 0]) ∧ w' = w.drew := by
  have HP := Lib.hid (fun w => rregister_at t0 v 0 w hv hx)
  have hsl : ∀ w, (Instr.slice 27 (.slice (some ⟨k, o, none⟩) n cap) (some (.int .i64 1)) none none).run Tryd.prog w = .ok (.slice (some ⟨k, if cap = 1 then o else o + 1, none⟩) (n - 1) (cap - 1)) w := st_from k o n cap 1 h1 hc
  generalize (if cap = 1 then o else o + 1) = o2 at hsl ⊢
  have n0 : 0 < n := by omega
  clear hv hx
  go_enter Tryd.func62, Tryd.ntmps62
  go_upto_region 3 with (go_at_call 63; ((with_reducible refine (HP.out _).mono ?_); rintro e w1 ⟨rfl, rfl⟩))
  go_still (by kernel_rfl)
  go_wp2
  exact bodyPost_ret (v := .tuple #[.int .i64 v, .int .i64 0, .slice (some ⟨k, o2, none⟩) (n - 1) (cap - 1), .int .i64 0]) (by simp [results, Tryd.results62, go_sem]) rfl ⟨rfl, rfl⟩
set_option maxHeartbeats 1000000 in
set_option maxRecDepth 100000 in
theorem rmem_3 (k o n cap : Nat) (t0 t1 : ByteArray) (v u x : Int) (w : World) (h1 : 2 ≤ n) (hc : n ≤ cap) (c0 : w.cell? ⟨k, o, none⟩ = some (.string t0)) (c1 : w.cell? ⟨k, o + 1, none⟩ = some (.string t1)) (hs : t1.size ≤ maxLen) (hv : (reV t0).1 = v) (hx : (reV t0).2 = 0) (hu : (nuV t1 16).1 = u) (hy : (nuV t1 16).2 = x) :
    Calls Tryd.prog 62 #[.slice (some ⟨k, o, none⟩) n cap, .bool true] w fun e w' => e = .returned (.tuple #[.int .i64 v, .int .i64 u, .slice (some ⟨k, if cap = 2 then o else o + 2, none⟩) (n - 2) (cap - 2), .int .i64 x]) ∧ w' = w.drew := by
  have HP := Lib.hid (fun w => rregister_at t0 v 0 w hv hx)
  have HQ := Lib.hid (fun w => rnumber_at t1 16 u x w hs hu hy)
  have hsl : ∀ w, (Instr.slice 27 (.slice (some ⟨k, o, none⟩) n cap) (some (.int .i64 2)) none none).run Tryd.prog w = .ok (.slice (some ⟨k, if cap = 2 then o else o + 2, none⟩) (n - 2) (cap - 2)) w := st_from k o n cap 2 h1 hc
  generalize (if cap = 2 then o else o + 2) = o2 at hsl ⊢
  have n0 : 0 < n := by omega
  have n1 : 1 < n := by omega
  clear hv hx hu hy
  go_enter Tryd.func62, Tryd.ntmps62
  go_upto_region 5 with (first
    | (go_at_call 63; ((with_reducible refine (HP.out _).mono ?_); rintro e w1 ⟨rfl, rfl⟩))
    | (go_at_call 57; ((with_reducible refine (HQ.out _).mono ?_); rintro e w1 ⟨rfl, rfl⟩)))
  go_still (by kernel_rfl)
  go_wp2
  exact bodyPost_ret (v := .tuple #[.int .i64 v, .int .i64 u, .slice (some ⟨k, o2, none⟩) (n - 2) (cap - 2), .int .i64 x]) (by simp [results, Tryd.results62, go_sem]) rfl ⟨rfl, rfl⟩
end Go.Proofs.YtjcaonbejhdhkaaDoor.L9
