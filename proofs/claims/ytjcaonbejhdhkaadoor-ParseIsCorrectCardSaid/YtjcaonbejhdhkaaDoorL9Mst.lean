/- What the law's must returns, item by item. No condition. -/
import Derived.Test.YtjcaonbejhdhkaaDoorL9Itm
namespace Go.Proofs.YtjcaonbejhdhkaaDoor.L9
open Go.RowKit
attribute [local go_sem] Oper.semAt_some

theorem nq_same (w : World) : (binOp .neq 20 (.iface 24 (.int .i64 2)) (.iface 24 (.int .i64 2))).run Tryd.prog w = .ok (.bool false) w := by kernel_rfl
theorem nq_nil (w : World) : (binOp .neq 20 (.iface 24 (.int .i64 2)) .nilIface).run Tryd.prog w = .ok (.bool true) w := by kernel_rfl
theorem nq_nn (w : World) : (binOp .neq 20 .nilIface .nilIface).run Tryd.prog w = .ok (.bool false) w := by kernel_rfl
theorem must1_panic (p : Addr) (x : Value) (w : World) (hc : w.cell? p = some x) (hz : w.frozen? p = false) :
    CallsD Tryd.prog 37 #[.pointer (some p)] (.panicking [{ v := .iface 24 (.int .i64 2), recovered := false }]) w fun e u' w' => e = .returned (.tuple #[]) ∧ u' = .panicking [{ v := .iface 24 (.int .i64 2), recovered := true }] ∧ w' = w.setCell p (.bool false) := by
  have n1 := nq_same
  have n2 := nq_nil
  refine callsD_of_wpS Tryd.func37 rfl fun c₀ cs hu => ?_
  apply wpS_seq
  apply wpS_region
  simp [wpOpsS, go_sem, recoverD, hu, Tryd.ntmps37, Exit.thenS]
  apply wpS_seq
  apply wpS_region
  simp [wpOpsS, go_sem, Exit.thenS, n2]
  refine wpS_cond (t := true) (by simp [Act.eval, Array.replicate]) ?_
  simp only [if_true]
  apply wpS_region
  simp [wpOpsS, go_sem, hc, hz, bodyPostS, results, Tryd.results37, n1]
theorem must1_idle (p : Addr) (w : World) : CallsD Tryd.prog 37 #[.pointer (some p)] .returning w fun e u' w' => e = .returned (.tuple #[]) ∧ u' = .returning ∧ w' = w := by
  have n3 := nq_nn
  refine callsD_of_wpS Tryd.func37 rfl fun c₀ cs hu => ?_
  apply wpS_seq
  apply wpS_region
  simp [wpOpsS, go_sem, recoverD, hu, Tryd.ntmps37, Exit.thenS]
  apply wpS_seq
  apply wpS_region
  simp [wpOpsS, go_sem, Exit.thenS, n3]
  refine wpS_cond (t := false) (by simp [Act.eval, Array.replicate]) ?_
  simp only [Bool.false_eq_true, if_false]
  refine wpS_of_wp (wp_skip ?_)
  cases c₀
  simp_all [bodyPostS, results, Tryd.results37]
set_option maxHeartbeats 1000000 in
set_option maxRecDepth 100000 in
theorem must_label (v : Value) (w : World) : Calls Tryd.prog 16 #[.iface 73 v] w fun e w' => e = .returned (.tuple #[.agg codZ, .bool false]) ∧ Below w.heap.size w w' := by
  have hmf : ∀ (fn : Fn) (first cap : Array Value) (w : World), (Instr.makeFunc fn first cap).run Tryd.prog w = .ok (.func fn first cap) w := fun _ _ _ _ => rfl
  have hS := row_up (heap_alloc_last w (.cells codZ 39)) (L8.bnew _ (.cells #[.bool false] 4))
  have hZ := heap_alloc_last (w.alloc (.cells codZ 39)) (.cells #[.bool false] 4)
  have hsz : (w.alloc (.cells codZ 39)).heap.size = w.heap.size + 1 := by simp
  rw [hsz] at hZ
  clear hsz
  have HM := Lib.hid (fun W => mustCode_label v W)
  go_enter_defers Tryd.func16, Tryd.ntmps16
  go_wp2_with (go_at_call 36; ((with_reducible refine (HM.out _).mono ?_); rintro e w1 ⟨rfl, b1⟩))
  have hS1 := row_up hS b1
  have hZ1 := row_up hZ b1
  have hc : w1.cell? ⟨w.heap.size + 1, 0, none⟩ = some (.bool false) := by simp [World.cell?, hZ1]
  have hz := frozen_all hZ1 0
  refine leaves_cons (f := 37) (args := #[.pointer (some ⟨w.heap.size + 1, 0, none⟩)]) (by simp) (by simp [go_sem]) ?_
  refine (must1_panic ⟨w.heap.size + 1, 0, none⟩ _ _ hc hz).mono ?_
  rintro e u' w'' ⟨rfl, rfl, rfl⟩
  have hc2 : (w1.setCell ⟨w.heap.size + 1, 0, none⟩ (.bool false)).cell? ⟨w.heap.size + 1, 0, none⟩ = some (.bool false) := by simp [World.cell?, row_set hZ1 0 _]
  obtain ⟨q0, q1, q2, q3, q4, q5, q6, q7⟩ := cells8 (row_other hS1 0 (.bool false) (g := w.heap.size + 1) (by omega))
  simp [Leaves, settle, results, Tryd.results16, go_sem, hc2, q0, q1, q2, q3, q4, q5, q6, q7]
  exact (L2.bch (L2.bch (L8.bnew w _) (L8.bnew _ _)) b1).setCell (p := ⟨w.heap.size + 1, 0, none⟩) (by show w.heap.size ≤ w.heap.size + 1; omega) _
set_option maxHeartbeats 1000000 in
set_option maxRecDepth 100000 in
theorem must_map (v : Value) (w : World) : Calls Tryd.prog 16 #[.iface 76 v] w fun e w' => e = .returned (.tuple #[.agg codZ, .bool false]) ∧ Below w.heap.size w w' := by
  have hmf : ∀ (fn : Fn) (first cap : Array Value) (w : World), (Instr.makeFunc fn first cap).run Tryd.prog w = .ok (.func fn first cap) w := fun _ _ _ _ => rfl
  have hS := row_up (heap_alloc_last w (.cells codZ 39)) (L8.bnew _ (.cells #[.bool false] 4))
  have hZ := heap_alloc_last (w.alloc (.cells codZ 39)) (.cells #[.bool false] 4)
  have hsz : (w.alloc (.cells codZ 39)).heap.size = w.heap.size + 1 := by simp
  rw [hsz] at hZ
  clear hsz
  have HM := Lib.hid (fun W => mustCode_map v W)
  go_enter_defers Tryd.func16, Tryd.ntmps16
  go_wp2_with (go_at_call 36; ((with_reducible refine (HM.out _).mono ?_); rintro e w1 ⟨rfl, b1⟩))
  have hS1 := row_up hS b1
  have hZ1 := row_up hZ b1
  have hc : w1.cell? ⟨w.heap.size + 1, 0, none⟩ = some (.bool false) := by simp [World.cell?, hZ1]
  have hz := frozen_all hZ1 0
  refine leaves_cons (f := 37) (args := #[.pointer (some ⟨w.heap.size + 1, 0, none⟩)]) (by simp) (by simp [go_sem]) ?_
  refine (must1_panic ⟨w.heap.size + 1, 0, none⟩ _ _ hc hz).mono ?_
  rintro e u' w'' ⟨rfl, rfl, rfl⟩
  have hc2 : (w1.setCell ⟨w.heap.size + 1, 0, none⟩ (.bool false)).cell? ⟨w.heap.size + 1, 0, none⟩ = some (.bool false) := by simp [World.cell?, row_set hZ1 0 _]
  obtain ⟨q0, q1, q2, q3, q4, q5, q6, q7⟩ := cells8 (row_other hS1 0 (.bool false) (g := w.heap.size + 1) (by omega))
  simp [Leaves, settle, results, Tryd.results16, go_sem, hc2, q0, q1, q2, q3, q4, q5, q6, q7]
  exact (L2.bch (L2.bch (L8.bnew w _) (L8.bnew _ _)) b1).setCell (p := ⟨w.heap.size + 1, 0, none⟩) (by show w.heap.size ≤ w.heap.size + 1; omega) _
set_option maxHeartbeats 1000000 in
set_option maxRecDepth 100000 in
theorem must_code (x : Ins) (tg mp : ByteArray) (w : World) : Calls Tryd.prog 16 #[.iface 39 (.agg (codA x tg mp))] w fun e w' => e = .returned (.tuple #[.agg (codA x tg mp), .bool true]) ∧ Below w.heap.size w w' := by
  have hmf : ∀ (fn : Fn) (first cap : Array Value) (w : World), (Instr.makeFunc fn first cap).run Tryd.prog w = .ok (.func fn first cap) w := fun _ _ _ _ => rfl
  have hS := row_up (heap_alloc_last w (.cells codZ 39)) (L8.bnew _ (.cells #[.bool false] 4))
  have hZ := heap_alloc_last (w.alloc (.cells codZ 39)) (.cells #[.bool false] 4)
  have hsz : (w.alloc (.cells codZ 39)).heap.size = w.heap.size + 1 := by simp
  rw [hsz] at hZ
  clear hsz
  have HM := Lib.hid (fun W => mustCode_code x tg mp W)
  go_enter_defers Tryd.func16, Tryd.ntmps16
  go_wp2_with (first | (go_at_call 36; ((with_reducible refine (HM.out _).mono ?_); rintro e w1 ⟨rfl, b1⟩; have hS1 := row_up hS b1; have hZ1 := row_up hZ b1)) | (refine wpList_store_row rfl _ _ _ rfl w.heap.size (codA x tg mp) rfl rfl 39 _ hS1 (by kernel_rfl) rfl (by simp [Value.oneCell']) ?_; have hS2 := setRow_heap _ _ _ (codA x tg mp) _ _ hS1; have hZ2 := (setRow_other w1 w.heap.size (w.heap.size + 1) (codA x tg mp) (by omega)).trans hZ1; have B2 := below_setRow (L2.bch (L2.bch (L8.bnew w _) (L8.bnew _ _)) b1) (Nat.le_refl _) (codA x tg mp); generalize (w1.setRow w.heap.size (codA x tg mp)) = w2 at hS2 hZ2 B2 ⊢; clear hS1 hZ1; have hc : w2.cell? ⟨w.heap.size + 1, 0, none⟩ = some (.bool false) := (by simp [World.cell?, hZ2]); have hz := frozen_all hZ2 0))
  refine leaves_cons (f := 37) (args := #[.pointer (some ⟨w.heap.size + 1, 0, none⟩)]) (by simp) (by simp [go_sem]) ?_
  refine (must1_idle ⟨w.heap.size + 1, 0, none⟩ _).mono ?_
  rintro e u' w'' ⟨rfl, rfl, rfl⟩
  have hc2 : (w2.setCell ⟨w.heap.size + 1, 0, none⟩ (.bool true)).cell? ⟨w.heap.size + 1, 0, none⟩ = some (.bool true) := by simp [World.cell?, row_set hZ2 0 _]
  obtain ⟨q0, q1, q2, q3, q4, q5, q6, q7⟩ := cells8 (row_other hS2 0 (.bool true) (g := w.heap.size + 1) (by omega))
  simp [Leaves, settle, results, Tryd.results16, go_sem, hc2, q0, q1, q2, q3, q4, q5, q6, q7]
  exact B2.setCell (p := ⟨w.heap.size + 1, 0, none⟩) (by show w.heap.size ≤ w.heap.size + 1; omega) _
end Go.Proofs.YtjcaonbejhdhkaaDoor.L9
