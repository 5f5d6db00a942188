/- What AsCode, MustCode, Catch, the law's must and the kinds of items return, item by item. No condition. -/
import Derived.Test.YtjcaonbejhdhkaaDoorL9Lin
import Derived.Defers
import Derived.Recover
import Derived.Laws.Pointers
namespace Go.Proofs.YtjcaonbejhdhkaaDoor.L9
open Go.RowKit
attribute [local go_sem] Oper.semAt_some

theorem ta_code (v : Value) (w : World) : (Instr.typeAssert (.iface 39 v) 43 39 true).run Tryd.prog w = .ok (.tuple #[v, .bool true]) w := by
  simp [Instr.typeAssert, go_sem]
theorem ta_label (v : Value) (w : World) : (Instr.typeAssert (.iface 73 v) 43 39 true).run Tryd.prog w = .ok (.tuple #[.agg codZ, .bool false]) w := by
  simp [Instr.typeAssert, go_sem, Tryd.zeroValue39]
theorem ta_map (v : Value) (w : World) : (Instr.typeAssert (.iface 76 v) 43 39 true).run Tryd.prog w = .ok (.tuple #[.agg codZ, .bool false]) w := by
  simp [Instr.typeAssert, go_sem, Tryd.zeroValue39]
theorem ta_nil (w : World) : (Instr.typeAssert .nilIface 43 39 true).run Tryd.prog w = .ok (.tuple #[.agg codZ, .bool false]) w := by
  simp [Instr.typeAssert, go_sem, Tryd.zeroValue39]
theorem tm_map (v : Value) (w : World) : (Instr.typeAssert (.iface 76 v) 43 76 true).run Tryd.prog w = .ok (.tuple #[v, .bool true]) w := by
  simp [Instr.typeAssert, go_sem]
theorem tl_label (v : Value) (w : World) : (Instr.typeAssert (.iface 73 v) 43 73 true).run Tryd.prog w = .ok (.tuple #[v, .bool true]) w := by
  simp [Instr.typeAssert, go_sem]
set_option maxHeartbeats 1000000 in
set_option maxRecDepth 100000 in
theorem asCode_code (x : Ins) (tg mp : ByteArray) (w : World) : Calls Tryd.prog 14 #[.iface 39 (.agg (codA x tg mp))] w fun e w' => e = .returned (.tuple #[.agg (codA x tg mp), .bool true]) ∧ Below w.heap.size w w' := by
  have ta := ta_code (.agg (codA x tg mp))
  have hS := heap_alloc_last w (.cells codZ 39)
  have hT := fun v => row_up hS (L8.bnew (w.alloc (.cells codZ 39)) (.cells v 39))
  go_enter Tryd.func14, Tryd.ntmps14
  go_wp2_with (refine wpList_store_row rfl _ _ _ rfl w.heap.size (codA x tg mp) rfl rfl 39 _ (hT _) (by kernel_rfl) rfl (by simp [Value.oneCell']) ?_)
  have hR := setRow_heap _ _ _ (codA x tg mp) _ _ (hT (codA x tg mp))
  obtain ⟨q0, q1, q2, q3, q4, q5, q6, q7⟩ := cells8 hR
  exact bodyPost_ret (v := .tuple #[.agg (codA x tg mp), .bool true]) (by simp [results, Tryd.results14, go_sem, q0, q1, q2, q3, q4, q5, q6, q7]) rfl ⟨rfl, below_setRow (L2.bch (L8.bnew w _) (L8.bnew _ _)) (Nat.le_refl _) _⟩
set_option maxHeartbeats 1000000 in
set_option maxRecDepth 100000 in
theorem asCode_label (v : Value) (w : World) : Calls Tryd.prog 14 #[.iface 73 v] w fun e w' => e = .returned (.tuple #[.agg codZ, .bool false]) ∧ Below w.heap.size w w' := by
  have ta := ta_label v
  have hS := heap_alloc_last w (.cells codZ 39)
  have hT := fun v => row_up hS (L8.bnew (w.alloc (.cells codZ 39)) (.cells v 39))
  go_enter Tryd.func14, Tryd.ntmps14
  go_wp2_with (refine wpList_store_row rfl _ _ _ rfl w.heap.size codZ rfl rfl 39 _ (hT _) (by kernel_rfl) rfl (by simp [Value.oneCell']) ?_)
  have hR := setRow_heap _ _ _ codZ _ _ (hT codZ)
  obtain ⟨q0, q1, q2, q3, q4, q5, q6, q7⟩ := cells8 hR
  exact bodyPost_ret (v := .tuple #[.agg codZ, .bool false]) (by simp [results, Tryd.results14, go_sem, q0, q1, q2, q3, q4, q5, q6, q7]) rfl ⟨rfl, below_setRow (L2.bch (L8.bnew w _) (L8.bnew _ _)) (Nat.le_refl _) _⟩
set_option maxHeartbeats 1000000 in
set_option maxRecDepth 100000 in
theorem asCode_map (v : Value) (w : World) : Calls Tryd.prog 14 #[.iface 76 v] w fun e w' => e = .returned (.tuple #[.agg codZ, .bool false]) ∧ Below w.heap.size w w' := by
  have ta := ta_map v
  have hS := heap_alloc_last w (.cells codZ 39)
  have hT := fun v => row_up hS (L8.bnew (w.alloc (.cells codZ 39)) (.cells v 39))
  go_enter Tryd.func14, Tryd.ntmps14
  go_wp2_with (refine wpList_store_row rfl _ _ _ rfl w.heap.size codZ rfl rfl 39 _ (hT _) (by kernel_rfl) rfl (by simp [Value.oneCell']) ?_)
  have hR := setRow_heap _ _ _ codZ _ _ (hT codZ)
  obtain ⟨q0, q1, q2, q3, q4, q5, q6, q7⟩ := cells8 hR
  exact bodyPost_ret (v := .tuple #[.agg codZ, .bool false]) (by simp [results, Tryd.results14, go_sem, q0, q1, q2, q3, q4, q5, q6, q7]) rfl ⟨rfl, below_setRow (L2.bch (L8.bnew w _) (L8.bnew _ _)) (Nat.le_refl _) _⟩
set_option maxHeartbeats 1000000 in
set_option maxRecDepth 100000 in
theorem asCode_nil  (w : World) : Calls Tryd.prog 14 #[.nilIface] w fun e w' => e = .returned (.tuple #[.agg codZ, .bool false]) ∧ Below w.heap.size w w' := by
  have ta := ta_nil
  have hS := heap_alloc_last w (.cells codZ 39)
  have hT := fun v => row_up hS (L8.bnew (w.alloc (.cells codZ 39)) (.cells v 39))
  go_enter Tryd.func14, Tryd.ntmps14
  go_wp2_with (refine wpList_store_row rfl _ _ _ rfl w.heap.size codZ rfl rfl 39 _ (hT _) (by kernel_rfl) rfl (by simp [Value.oneCell']) ?_)
  have hR := setRow_heap _ _ _ codZ _ _ (hT codZ)
  obtain ⟨q0, q1, q2, q3, q4, q5, q6, q7⟩ := cells8 hR
  exact bodyPost_ret (v := .tuple #[.agg codZ, .bool false]) (by simp [results, Tryd.results14, go_sem, q0, q1, q2, q3, q4, q5, q6, q7]) rfl ⟨rfl, below_setRow (L2.bch (L8.bnew w _) (L8.bnew _ _)) (Nat.le_refl _) _⟩
set_option maxHeartbeats 1000000 in
set_option maxRecDepth 100000 in
theorem mustCode_label (v : Value) (w : World) : Calls Tryd.prog 36 #[.iface 73 v] w fun e w' => e = .panicked [{ v := .iface 24 (.int .i64 2), recovered := false }] ∧ Below w.heap.size w w' := by
  have ta := ta_label v
  go_enter Tryd.func36, Tryd.ntmps36
  go_wp2
  exact ⟨rfl, rfl, L2.bch (L8.bnew w _) (L8.bnew _ _)⟩
set_option maxHeartbeats 1000000 in
set_option maxRecDepth 100000 in
theorem mustCode_map (v : Value) (w : World) : Calls Tryd.prog 36 #[.iface 76 v] w fun e w' => e = .panicked [{ v := .iface 24 (.int .i64 2), recovered := false }] ∧ Below w.heap.size w w' := by
  have ta := ta_map v
  go_enter Tryd.func36, Tryd.ntmps36
  go_wp2
  exact ⟨rfl, rfl, L2.bch (L8.bnew w _) (L8.bnew _ _)⟩
set_option maxHeartbeats 1000000 in
set_option maxRecDepth 100000 in
theorem mustCode_nil  (w : World) : Calls Tryd.prog 36 #[.nilIface] w fun e w' => e = .panicked [{ v := .iface 24 (.int .i64 2), recovered := false }] ∧ Below w.heap.size w w' := by
  have ta := ta_nil
  go_enter Tryd.func36, Tryd.ntmps36
  go_wp2
  exact ⟨rfl, rfl, L2.bch (L8.bnew w _) (L8.bnew _ _)⟩
set_option maxHeartbeats 1000000 in
set_option maxRecDepth 100000 in
theorem mustCode_code (x : Ins) (tg mp : ByteArray) (w : World) : Calls Tryd.prog 36 #[.iface 39 (.agg (codA x tg mp))] w fun e w' => e = .returned (.agg (codA x tg mp)) ∧ Below w.heap.size w w' := by
  have ta := ta_code (.agg (codA x tg mp))
  have hS := heap_alloc_last w (.cells codZ 39)
  have hT := fun v => row_up hS (L8.bnew (w.alloc (.cells codZ 39)) (.cells v 39))
  go_enter Tryd.func36, Tryd.ntmps36
  go_wp2_with (refine wpList_store_row rfl _ _ _ rfl w.heap.size (codA x tg mp) rfl rfl 39 _ (hT _) (by kernel_rfl) rfl (by simp [Value.oneCell']) ?_)
  have hR := setRow_heap _ _ _ (codA x tg mp) _ _ (hT (codA x tg mp))
  obtain ⟨q0, q1, q2, q3, q4, q5, q6, q7⟩ := cells8 hR
  exact bodyPost_ret (v := .agg (codA x tg mp)) (by simp [results, Tryd.results36, go_sem, q0, q1, q2, q3, q4, q5, q6, q7]) rfl ⟨rfl, below_setRow (L2.bch (L8.bnew w _) (L8.bnew _ _)) (Nat.le_refl _) _⟩

/-! ### the deferred functions -/
theorem te_err (w : World) : (Instr.typeAssert (.iface 24 (.int .i64 2)) 20 24 true).run Tryd.prog w = .ok (.tuple #[.int .i64 2, .bool true]) w := by
  simp [Instr.typeAssert, go_sem]
theorem te_nil (w : World) : (Instr.typeAssert .nilIface 20 24 true).run Tryd.prog w = .ok (.tuple #[.int .i64 0, .bool false]) w := by
  simp [Instr.typeAssert, go_sem, Tryd.zeroValue24]
theorem catch1_panic (p : Addr) (x : Value) (w : World) (hc : w.cell? p = some x) (hz : w.frozen? p = false) :
    CallsD Tryd.prog 35 #[.pointer (some p)] (.panicking [{ v := .iface 24 (.int .i64 2), recovered := false }]) w fun e u' w' => e = .returned (.tuple #[]) ∧ u' = .panicking [{ v := .iface 24 (.int .i64 2), recovered := true }] ∧ w' = w.setCell p (.int .i64 2) := by
  have te := te_err
  refine callsD_of_wpS Tryd.func35 rfl fun c₀ cs hu => ?_
  apply wpS_seq
  apply wpS_region
  simp [wpOpsS, go_sem, recoverD, hu, Tryd.ntmps35, Exit.thenS, te]
  apply wpS_seq
  apply wpS_region
  simp [wpOpsS, go_sem, Exit.thenS]
  refine wpS_cond (t := true) (by simp [Act.eval, Array.replicate]) ?_
  simp only [if_true]
  apply wpS_region
  simp [wpOpsS, go_sem, hc, hz, bodyPostS, results, Tryd.results35]
theorem catch1_idle (p : Addr) (w : World) : CallsD Tryd.prog 35 #[.pointer (some p)] .returning w fun e u' w' => e = .returned (.tuple #[]) ∧ u' = .returning ∧ w' = w := by
  have te := te_nil
  refine callsD_of_wpS Tryd.func35 rfl fun c₀ cs hu => ?_
  apply wpS_seq
  apply wpS_region
  simp [wpOpsS, go_sem, recoverD, hu, Tryd.ntmps35, Exit.thenS, te]
  apply wpS_seq
  apply wpS_region
  simp [wpOpsS, go_sem, Exit.thenS]
  refine wpS_cond (t := false) (by simp [Act.eval, Array.replicate]) ?_
  simp only [Bool.false_eq_true, if_false]
  refine wpS_of_wp (wp_skip ?_)
  cases c₀
  simp_all [bodyPostS, results, Tryd.results35]
set_option maxHeartbeats 1000000 in
set_option maxRecDepth 100000 in
theorem catch_label (v : Value) (w : World) : Calls Tryd.prog 15 #[.iface 73 v] w fun e w' => e = .returned (.int .i64 2) ∧ Below w.heap.size w w' := by
  have hmf : ∀ (fn : Fn) (first cap : Array Value) (w : World), (Instr.makeFunc fn first cap).run Tryd.prog w = .ok (.func fn first cap) w := fun _ _ _ _ => rfl
  have hS := heap_alloc_last w (.cells #[.int .i64 0] 24)
  have HM := Lib.hid (fun W => mustCode_label v W)
  go_enter_defers Tryd.func15, Tryd.ntmps15
  go_wp2_with (go_at_call 36; ((with_reducible refine (HM.out _).mono ?_); rintro e w1 ⟨rfl, b1⟩))
  have hS1 := row_up hS b1
  have hc : w1.cell? ⟨w.heap.size, 0, none⟩ = some (.int .i64 0) := by simp [World.cell?, hS1]
  have hz := frozen_all hS1 0
  refine leaves_cons (f := 35) (args := #[.pointer (some ⟨w.heap.size, 0, none⟩)]) (by simp) (by simp [go_sem]) ?_
  refine (catch1_panic ⟨w.heap.size, 0, none⟩ _ _ hc hz).mono ?_
  rintro e u' w'' ⟨rfl, rfl, rfl⟩
  have hc2 : (w1.setCell ⟨w.heap.size, 0, none⟩ (.int .i64 2)).cell? ⟨w.heap.size, 0, none⟩ = some (.int .i64 2) := by simp [World.cell?, row_set hS1 0 _]
  simp [Leaves, settle, results, Tryd.results15, go_sem, hc2]
  exact (L2.bch (L8.bnew w _) b1).setCell (p := ⟨w.heap.size, 0, none⟩) (Nat.le_refl _) _
set_option maxHeartbeats 1000000 in
set_option maxRecDepth 100000 in
theorem catch_map (v : Value) (w : World) : Calls Tryd.prog 15 #[.iface 76 v] w fun e w' => e = .returned (.int .i64 2) ∧ Below w.heap.size w w' := by
  have hmf : ∀ (fn : Fn) (first cap : Array Value) (w : World), (Instr.makeFunc fn first cap).run Tryd.prog w = .ok (.func fn first cap) w := fun _ _ _ _ => rfl
  have hS := heap_alloc_last w (.cells #[.int .i64 0] 24)
  have HM := Lib.hid (fun W => mustCode_map v W)
  go_enter_defers Tryd.func15, Tryd.ntmps15
  go_wp2_with (go_at_call 36; ((with_reducible refine (HM.out _).mono ?_); rintro e w1 ⟨rfl, b1⟩))
  have hS1 := row_up hS b1
  have hc : w1.cell? ⟨w.heap.size, 0, none⟩ = some (.int .i64 0) := by simp [World.cell?, hS1]
  have hz := frozen_all hS1 0
  refine leaves_cons (f := 35) (args := #[.pointer (some ⟨w.heap.size, 0, none⟩)]) (by simp) (by simp [go_sem]) ?_
  refine (catch1_panic ⟨w.heap.size, 0, none⟩ _ _ hc hz).mono ?_
  rintro e u' w'' ⟨rfl, rfl, rfl⟩
  have hc2 : (w1.setCell ⟨w.heap.size, 0, none⟩ (.int .i64 2)).cell? ⟨w.heap.size, 0, none⟩ = some (.int .i64 2) := by simp [World.cell?, row_set hS1 0 _]
  simp [Leaves, settle, results, Tryd.results15, go_sem, hc2]
  exact (L2.bch (L8.bnew w _) b1).setCell (p := ⟨w.heap.size, 0, none⟩) (Nat.le_refl _) _
set_option maxHeartbeats 1000000 in
set_option maxRecDepth 100000 in
theorem catch_nil  (w : World) : Calls Tryd.prog 15 #[.nilIface] w fun e w' => e = .returned (.int .i64 2) ∧ Below w.heap.size w w' := by
  have hmf : ∀ (fn : Fn) (first cap : Array Value) (w : World), (Instr.makeFunc fn first cap).run Tryd.prog w = .ok (.func fn first cap) w := fun _ _ _ _ => rfl
  have hS := heap_alloc_last w (.cells #[.int .i64 0] 24)
  have HM := Lib.hid (fun W => mustCode_nil W)
  go_enter_defers Tryd.func15, Tryd.ntmps15
  go_wp2_with (go_at_call 36; ((with_reducible refine (HM.out _).mono ?_); rintro e w1 ⟨rfl, b1⟩))
  have hS1 := row_up hS b1
  have hc : w1.cell? ⟨w.heap.size, 0, none⟩ = some (.int .i64 0) := by simp [World.cell?, hS1]
  have hz := frozen_all hS1 0
  refine leaves_cons (f := 35) (args := #[.pointer (some ⟨w.heap.size, 0, none⟩)]) (by simp) (by simp [go_sem]) ?_
  refine (catch1_panic ⟨w.heap.size, 0, none⟩ _ _ hc hz).mono ?_
  rintro e u' w'' ⟨rfl, rfl, rfl⟩
  have hc2 : (w1.setCell ⟨w.heap.size, 0, none⟩ (.int .i64 2)).cell? ⟨w.heap.size, 0, none⟩ = some (.int .i64 2) := by simp [World.cell?, row_set hS1 0 _]
  simp [Leaves, settle, results, Tryd.results15, go_sem, hc2]
  exact (L2.bch (L8.bnew w _) b1).setCell (p := ⟨w.heap.size, 0, none⟩) (Nat.le_refl _) _
set_option maxHeartbeats 1000000 in
set_option maxRecDepth 100000 in
theorem catch_code (x : Ins) (tg mp : ByteArray) (w : World) : Calls Tryd.prog 15 #[.iface 39 (.agg (codA x tg mp))] w fun e w' => e = .returned (.int .i64 0) ∧ Below w.heap.size w w' := by
  have hmf : ∀ (fn : Fn) (first cap : Array Value) (w : World), (Instr.makeFunc fn first cap).run Tryd.prog w = .ok (.func fn first cap) w := fun _ _ _ _ => rfl
  have hS := heap_alloc_last w (.cells #[.int .i64 0] 24)
  have HM := Lib.hid (fun W => mustCode_code x tg mp W)
  go_enter_defers Tryd.func15, Tryd.ntmps15
  go_wp2_with (go_at_call 36; ((with_reducible refine (HM.out _).mono ?_); rintro e w1 ⟨rfl, b1⟩; have hS1 := row_up hS b1; have hc : w1.cell? ⟨w.heap.size, 0, none⟩ = some (.int .i64 0) := (by simp [World.cell?, hS1]); have hz := frozen_all hS1 0))
  refine leaves_cons (f := 35) (args := #[.pointer (some ⟨w.heap.size, 0, none⟩)]) (by simp) (by simp [go_sem]) ?_
  refine (catch1_idle ⟨w.heap.size, 0, none⟩ _).mono ?_
  rintro e u' w'' ⟨rfl, rfl, rfl⟩
  have hc2 : (w1.setCell ⟨w.heap.size, 0, none⟩ (.int .i64 0)).cell? ⟨w.heap.size, 0, none⟩ = some (.int .i64 0) := by simp [World.cell?, row_set hS1 0 _]
  simp [Leaves, settle, results, Tryd.results15, go_sem, hc2]
  exact (L2.bch (L8.bnew w _) b1).setCell (p := ⟨w.heap.size, 0, none⟩) (Nat.le_refl _) _
end Go.Proofs.YtjcaonbejhdhkaaDoor.L9
