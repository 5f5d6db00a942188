/- The program's array of operations, as the function that builds it returns it. No condition. -/
import Derived.Test.YtkhnomicnblgfaaDoorSwap
namespace Go.Proofs.YtkhnomicnblgfaaDoor
open Go.RowKit L1 L3

/-- The number of the function that computes an operation. -/
def fnN : List Nat := [31, 32, 33, 34, 35, 36, 37, 38, 39, 40, 41, 42, 43, 44, 45, 46, 47, 48, 49, 50, 51, 52, 53, 54, 55, 56, 57, 58, 59, 60, 61, 62, 63, 64, 65, 66, 67, 68, 69, 70, 71, 69, 70, 71]
def funC : Array Value := (fnN.map fun n => Value.func (.func n) #[] #[]).toArray

set_option maxHeartbeats 1000000 in
set_option maxRecDepth 100000 in
theorem operations_any (w : World) : Calls Tryd.prog 22 #[] w fun e w' => e = .returned (.agg funC) ∧ w' = w.alloc (.cells funC 47) := by
  go_enter Tryd.func22, Tryd.ntmps22
  generalize hR : Code.region 1 _ false = R
  go_wp2
  rename_i Q1 K1 hK1
  subst hR
  refine wp_region_list ?_
  refine wpList_evTake 45 [⟨none, .store 47 (.tmp 0) (.tmp 45), _, _, _, none⟩]
    ⟨([Value.pointer (some ⟨w.heap.size, 0, none⟩)] ++ (fnN.map fun n => Value.agg #[Value.func (.func n) #[] #[]]) ++ [Value.agg funC]).toArray, []⟩ (by kernel_rfl) rfl ?_
  generalize (List.append _ _).toArray = OPS
  refine wpList_store_row rfl _ _ _ rfl w.heap.size funC (by kernel_rfl) (by kernel_rfl) 47 _ (heap_alloc_last w _) (by kernel_rfl) rfl (by kernel_rfl) ?_
  rw [World.setRow_alloc_new]
  refine wpList_done (hK1 _ _ (wp_ret ?_))
  refine bodyPost_ret (v := .agg funC) ?_ rfl ⟨rfl, rfl⟩
  exact results_cell_row rfl _ _ w.heap.size 47 funC (0, 0) _ (by kernel_rfl) (heap_alloc_last w _) Tryd.underlying47 rfl (by kernel_rfl)
theorem fn_rows : (List.range 44).map (fun k => funC.extract (k * 1) (k * 1 + 1)) = (List.range 44).map (fun k => #[Value.func (.func (fnN.getD k 0)) #[] #[]]) := by kernel_rfl
theorem fn_at (k : Nat) (hk : k < 44) : funC.extract (k * 1) (k * 1 + 1) = #[Value.func (.func (fnN.getD k 0)) #[] #[]] := by
  have h := congrArg (·[k]?) fn_rows
  simpa [hk] using h
theorem run_index_fn (k : Nat) (hk : k < 44) (w : World) : (Instr.index 47 (.agg funC) (.int .i64 (k : Int))).run Tryd.prog w = .ok (.agg #[.func (.func (fnN.getD k 0)) #[] #[]]) w := by
  have hs : (Go.sizeOf 46).run Tryd.prog w = .ok 1 w := by kernel_rfl
  have ha : (Go.isAgg 46).run Tryd.prog w = .ok true w := by kernel_rfl
  have hlt : (0 : Int) ≤ (k : Int) ∧ (k : Int) < ((44 : Nat) : Int) := by omega
  simp only [Instr.index, asIntOf, Sem.run_bind, Sem.run_pure, Result.andThen_ok, run_underlying Tryd.underlying47, if_pos hlt, hs, part, ha, if_true, Int.toNat_natCast, fn_at k hk]
theorem run_field_fn (n : Nat) (w : World) : (Instr.field 46 (.agg #[.func (.func n) #[] #[]]) 0).run Tryd.prog w = .ok (.func (.func n) #[] #[]) w := by
  kernel_rfl
end Go.Proofs.YtkhnomicnblgfaaDoor
