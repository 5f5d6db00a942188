/- What the reference's functions of layer 3 return, in the table's words. No condition. -/
import Derived.Test.YtbneaihpnfkcdaaDoorL3Get
namespace Go.Proofs.YtbneaihpnfkcdaaDoor.L3
open Go.RowKit

theorem ix_dec (op : Int) : decide (ix op < 86) = (decide (0 ≤ op) && decide (op ≤ 85)) := by
  rw [Bool.eq_iff_iff]
  simp only [decide_eq_true_eq, Bool.and_eq_true]
  unfold ix
  split <;> omega

/-! ### the reference's tables -/
theorem wpList_buildSlice {P : Program} {ops : Array Oper} {Q : Exit → Act → World → Prop} {o : Oper} {rest : List Oper} {a : Act} {w w' : World} (hg : o.guard = none) (t : TypeId) (n : Nat) (parts : Array (Nat × Operand)) (ho : o.op = .buildSlice t n parts)
    (ps : List (Nat × Value)) (hps : (parts.toList.map fun p => (p.1, a.eval p.2)) = ps) (v : Value) (h : (Instr.buildSlice t n ps.toArray).run P w = .ok v w') (hK : wpList P ops Q rest (a.put o.dst v) w') : wpList P ops Q (o :: rest) a w := by
  refine wpList_plain hg fun K hK' => ?_
  have e : (parts.map fun (i, x) => (i, a.eval x)) = ps.toArray := by
    rw [← hps, ← Array.toList_map, Array.toArray_toList]
  unfold Oper.wp
  simp only [execOp, ho, Sem.run_bind, e, h, Result.andThen_ok, Sem.run_pure]
  exact hK' _ _ hK

def namesC : Array Value := ((List.range 86).map fun k => Value.string (nm k)).toArray
def codesC : Array Value := ((List.range 86).map fun k => Value.int .u8 (cd k)).toArray

theorem run_names (w : World) : (Instr.buildSlice 28 86 ((List.range 86).map fun k => (k, Value.string (nm k))).toArray).run Tryd.prog w = .ok (.slice (some ⟨w.heap.size, 0, none⟩) 86 86) (w.alloc (.cells namesC 9)) := by kernel_rfl
theorem run_codes (w : World) : (Instr.buildSlice 63 86 ((List.range 86).map fun k => (k, Value.int .u8 (cd k))).toArray).run Tryd.prog w = .ok (.slice (some ⟨w.heap.size, 0, none⟩) 86 86) (w.alloc (.cells codesC 5)) := by kernel_rfl

theorem names_at (k : Nat) (hk : k < 86) : namesC[k]? = some (.string (nm k)) := by simp [namesC, hk]
theorem codes_at (k : Nat) (hk : k < 86) : codesC[k]? = some (.int .u8 (cd k)) := by simp [codesC, hk]

/-- Each number below 86, one by one. -/
theorem lt86 {k : Nat} (h : k < 86) : k = 0 ∨ k = 1 ∨ k = 2 ∨ k = 3 ∨ k = 4 ∨ k = 5 ∨ k = 6 ∨ k = 7 ∨ k = 8 ∨ k = 9 ∨ k = 10 ∨ k = 11 ∨ k = 12 ∨ k = 13 ∨ k = 14 ∨ k = 15 ∨ k = 16 ∨ k = 17 ∨ k = 18 ∨ k = 19 ∨ k = 20 ∨ k = 21 ∨ k = 22 ∨ k = 23 ∨ k = 24 ∨ k = 25 ∨ k = 26 ∨ k = 27 ∨ k = 28 ∨ k = 29 ∨ k = 30 ∨ k = 31 ∨ k = 32 ∨ k = 33 ∨ k = 34 ∨ k = 35 ∨ k = 36 ∨ k = 37 ∨ k = 38 ∨ k = 39 ∨ k = 40 ∨ k = 41 ∨ k = 42 ∨ k = 43 ∨ k = 44 ∨ k = 45 ∨ k = 46 ∨ k = 47 ∨ k = 48 ∨ k = 49 ∨ k = 50 ∨ k = 51 ∨ k = 52 ∨ k = 53 ∨ k = 54 ∨ k = 55 ∨ k = 56 ∨ k = 57 ∨ k = 58 ∨ k = 59 ∨ k = 60 ∨ k = 61 ∨ k = 62 ∨ k = 63 ∨ k = 64 ∨ k = 65 ∨ k = 66 ∨ k = 67 ∨ k = 68 ∨ k = 69 ∨ k = 70 ∨ k = 71 ∨ k = 72 ∨ k = 73 ∨ k = 74 ∨ k = 75 ∨ k = 76 ∨ k = 77 ∨ k = 78 ∨ k = 79 ∨ k = 80 ∨ k = 81 ∨ k = 82 ∨ k = 83 ∨ k = 84 ∨ k = 85 := by omega
end Go.Proofs.YtbneaihpnfkcdaaDoor.L3
