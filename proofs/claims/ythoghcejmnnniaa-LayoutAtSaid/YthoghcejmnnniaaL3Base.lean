/- The table of operations as seven lists, and what the program's function that finds a row returns: the row, or the zero row for numbers of no operation. No condition. -/
import Derived.Test.YthoghcejmnnniaaProg
import Derived.WalkKit
import Derived.Handy
import Derived.KernelRfl
import Derived.Laws.Rows
import Derived.Laws.Tables
import Derived.Lib.Hide
import Derived.Lib.Strings
import Derived.LoopN
import Derived.OneCell
import Derived.Outline
import Derived.Deep.QuietTactic
import Derived.Deep.WholeRow
import Derived.BigQuiet
import Derived.WalkSmall
namespace Go.Proofs.Ythoghcejmnnniaa.L3
open Go.RowKit

theorem bch {w a b : World} (h : Below w.heap.size w a) (k : Below a.heap.size a b) : Below w.heap.size w b := h.trans (k.mono h.size)

def nmL : List (List UInt8) :=
  [[97, 100, 100, 54, 52], [115, 117, 98, 54, 52], [109, 117, 108, 54, 52], [100, 105, 118, 54, 52], [111, 114, 54, 52], [97, 110, 100, 54, 52], [108, 115, 104, 54, 52], [114, 115, 104, 54, 52], [109, 111, 100, 54, 52],
  [120, 111, 114, 54, 52], [109, 111, 118, 54, 52], [97, 114, 115, 104, 54, 52], [115, 100, 105, 118, 54, 52], [115, 109, 111, 100, 54, 52], [97, 100, 100, 51, 50], [115, 117, 98, 51, 50], [109, 117, 108, 51, 50], [100,
  105, 118, 51, 50], [111, 114, 51, 50], [97, 110, 100, 51, 50], [108, 115, 104, 51, 50], [114, 115, 104, 51, 50], [109, 111, 100, 51, 50], [120, 111, 114, 51, 50], [109, 111, 118, 51, 50], [97, 114, 115, 104, 51, 50],
  [115, 100, 105, 118, 51, 50], [115, 109, 111, 100, 51, 50], [110, 101, 103, 54, 52], [110, 101, 103, 51, 50], [109, 111, 118, 115, 98, 54, 52], [109, 111, 118, 115, 104, 54, 52], [109, 111, 118, 115, 119, 54, 52], [109,
  111, 118, 115, 98, 51, 50], [109, 111, 118, 115, 104, 51, 50], [108, 101, 49, 54], [108, 101, 51, 50], [108, 101, 54, 52], [98, 101, 49, 54], [98, 101, 51, 50], [98, 101, 54, 52], [98, 115, 119, 97, 112, 49, 54], [98,
  115, 119, 97, 112, 51, 50], [98, 115, 119, 97, 112, 54, 52], [106, 97], [106, 101, 113], [106, 103, 116], [106, 103, 101], [106, 115, 101, 116], [106, 110, 101], [106, 115, 103, 116], [106, 115, 103, 101], [106, 108,
  116], [106, 108, 101], [106, 115, 108, 116], [106, 115, 108, 101], [106, 101, 113, 51, 50], [106, 103, 116, 51, 50], [106, 103, 101, 51, 50], [106, 115, 101, 116, 51, 50], [106, 110, 101, 51, 50], [106, 115, 103, 116,
  51, 50], [106, 115, 103, 101, 51, 50], [106, 108, 116, 51, 50], [106, 108, 101, 51, 50], [106, 115, 108, 116, 51, 50], [106, 115, 108, 101, 51, 50], [99, 97, 108, 108], [101, 120, 105, 116], [108, 100, 120, 98], [108,
  100, 120, 104], [108, 100, 120, 119], [108, 100, 120, 100, 119], [108, 100, 120, 115, 98], [108, 100, 120, 115, 104], [108, 100, 120, 115, 119], [115, 116, 98], [115, 116, 104], [115, 116, 119], [115, 116, 100, 119],
  [115, 116, 120, 98], [115, 116, 120, 104], [115, 116, 120, 119], [115, 116, 120, 100, 119], [108, 100, 100, 119], [108, 100, 109, 97, 112]]
def fmL : List Nat :=
  [0, 0, 0, 0, 0, 0, 0, 0, 0, 0, 0, 0, 0, 0, 0, 0, 0, 0, 0, 0, 0, 0, 0, 0, 0, 0, 0, 0, 1, 1, 2, 2, 2, 2, 2, 1, 1, 1, 1, 1, 1, 1, 1, 1, 3, 4, 4, 4, 4, 4, 4, 4, 4, 4, 4, 4, 4, 4, 4, 4, 4, 4, 4, 4, 4, 4, 4, 5, 6, 7, 7, 7, 7,
  7, 7, 7, 8, 8, 8, 8, 9, 9, 9, 9, 10, 11]
def btL : List Nat :=
  [64, 64, 64, 64, 64, 64, 64, 64, 64, 64, 64, 64, 64, 64, 32, 32, 32, 32, 32, 32, 32, 32, 32, 32, 32, 32, 32, 32, 64, 32, 64, 64, 64, 32, 32, 16, 32, 64, 16, 32, 64, 16, 32, 64, 0, 64, 64, 64, 64, 64, 64, 64, 64, 64, 64,
  64, 32, 32, 32, 32, 32, 32, 32, 32, 32, 32, 32, 0, 0, 8, 16, 32, 64, 8, 16, 32, 8, 16, 32, 64, 8, 16, 32, 64, 64, 64]
def cdL : List Nat :=
  [7, 23, 39, 55, 71, 87, 103, 119, 151, 167, 183, 199, 55, 151, 4, 20, 36, 52, 68, 84, 100, 116, 148, 164, 180, 196, 52, 148, 135, 132, 191, 191, 191, 188, 188, 212, 212, 212, 220, 220, 220, 215, 215, 215, 5, 21, 37, 53,
  69, 85, 101, 117, 165, 181, 197, 213, 22, 38, 54, 70, 86, 102, 118, 166, 182, 198, 214, 133, 149, 113, 105, 97, 121, 145, 137, 129, 114, 106, 98, 122, 115, 107, 99, 123, 24, 24]
def srL : List Nat :=
  [0, 0, 0, 0, 0, 0, 0, 0, 0, 0, 0, 0, 0, 0, 0, 0, 0, 0, 0, 0, 0, 0, 0, 0, 0, 0, 0, 0, 0, 0, 0, 0, 0, 0, 0, 0, 0, 0, 0, 0, 0, 0, 0, 0, 0, 0, 0, 0, 0, 0, 0, 0, 0, 0, 0, 0, 0, 0, 0, 0, 0, 0, 0, 0, 0, 0, 0, 0, 0, 0, 0, 0, 0,
  0, 0, 0, 0, 0, 0, 0, 0, 0, 0, 0, 0, 1]
def ofL : List Nat :=
  [0, 0, 0, 0, 0, 0, 0, 0, 0, 0, 0, 0, 1, 1, 0, 0, 0, 0, 0, 0, 0, 0, 0, 0, 0, 0, 1, 1, 0, 0, 8, 16, 32, 8, 16, 0, 0, 0, 0, 0, 0, 0, 0, 0, 0, 0, 0, 0, 0, 0, 0, 0, 0, 0, 0, 0, 0, 0, 0, 0, 0, 0, 0, 0, 0, 0, 0, 0, 0, 0, 0, 0,
  0, 0, 0, 0, 0, 0, 0, 0, 0, 0, 0, 0, 0, 0]
def imL : List Nat :=
  [0, 0, 0, 0, 0, 0, 0, 0, 0, 0, 0, 0, 0, 0, 0, 0, 0, 0, 0, 0, 0, 0, 0, 0, 0, 0, 0, 0, 0, 0, 0, 0, 0, 0, 0, 16, 32, 64, 16, 32, 64, 16, 32, 64, 0, 0, 0, 0, 0, 0, 0, 0, 0, 0, 0, 0, 0, 0, 0, 0, 0, 0, 0, 0, 0, 0, 0, 0, 0, 0,
  0, 0, 0, 0, 0, 0, 0, 0, 0, 0, 0, 0, 0, 0, 0, 0]

/-- The row of a number; 86 and more: the zero row. -/
def nm (k : Nat) : ByteArray := ⟨(nmL.getD k []).toArray⟩
def fm (k : Nat) : Int := fmL.getD k 0
def bt (k : Nat) : Int := btL.getD k 0
def cd (k : Nat) : Int := cdL.getD k 0
def sr (k : Nat) : Int := srL.getD k 0
def of (k : Nat) : Int := ofL.getD k 0
def im (k : Nat) : Int := imL.getD k 0

def rowC (k : Nat) : Array Value := #[.string (nm k), .int .i64 (fm k), .int .i64 (bt k), .int .u8 (cd k), .int .i64 (sr k), .int .i64 (of k), .int .i64 (im k)]

/-- All cells of the table. -/
def tabC : Array Value := ((List.range 86).flatMap fun k => (rowC k).toList).toArray

/-- Which row a number has; 86 for numbers of no operation. -/
def ix (op : Int) : Nat := if 0 ≤ op ∧ op < 86 then op.toNat else 86

/-! ### a region that builds many values -/
/-- What an operation without a guard, which only builds a value or hands one on, lays into its slot. -/
def evOp (P : Program) (a : Act) (o : Oper) : Option Value :=
  match o.guard, o.op with
  | none, .move x => some (a.eval x)
  | none, .assign x => some (a.eval x)
  | none, .build t parts => (P.built t (parts.toList.map fun p => (p.1, a.eval p.2))).map Value.agg
  | _, _ => none

/-- The same for several, one after the other. -/
def evOps (P : Program) : List Oper → Act → Option Act
  | [], a => some a
  | o :: r, a => (evOp P a o).bind fun v => evOps P r (a.put o.dst v)

theorem wpList_evOp {P : Program} {ops : Array Oper} {Q : Exit → Act → World → Prop} {o : Oper} {rest : List Oper} {a : Act} {w : World} {v : Value} (h : evOp P a o = some v)
    (hK : wpList P ops Q rest (a.put o.dst v) w) : wpList P ops Q (o :: rest) a w := by
  unfold evOp at h
  split at h
  · rename_i x hg ho
    cases h
    refine wpList_plain hg fun K hK' => ?_
    unfold Oper.wp
    simp only [execOp, ho, Sem.run_pure]
    exact hK' _ _ hK
  · rename_i x hg ho
    cases h
    refine wpList_plain hg fun K hK' => ?_
    unfold Oper.wp
    simp only [execOp, ho, Sem.run_pure]
    exact hK' _ _ hK
  · rename_i t parts hg ho
    have e : (parts.map fun (i, x) => (i, a.eval x)).toList = parts.toList.map fun p => (p.1, a.eval p.2) := by
      rw [Array.toList_map]
    obtain ⟨cs, hc, rfl⟩ := Option.map_eq_some_iff.1 h
    rw [← e] at hc
    refine wpList_build hg t parts ho (by rw [hc]; rfl) ?_
    rw [hc]
    exact hK
  · cases h

theorem wpList_evOps {P : Program} {ops : Array Oper} {Q : Exit → Act → World → Prop} {rest : List Oper} {w : World} {a' : Act} : ∀ {l : List Oper} {a : Act}, evOps P l a = some a' → wpList P ops Q rest a' w → wpList P ops Q (l ++ rest) a w
  | [], a, h, hK => by cases h; exact hK
  | o :: r, a, h, hK => by
    obtain ⟨v, hv, hr⟩ := Option.bind_eq_some_iff.1 h
    exact wpList_evOp hv (wpList_evOps hr hK)

theorem wpList_evTake {P : Program} {ops : Array Oper} {Q : Exit → Act → World → Prop} {w : World} (n : Nat) (rest : List Oper) {l : List Oper} {a : Act} (a' : Act) (h : evOps P (l.take n) a = some a') (hr : l.drop n = rest) (hK : wpList P ops Q rest a' w) : wpList P ops Q l a w := by
  rw [← List.take_append_drop n l, hr]
  exact wpList_evOps h hK

theorem tab_rows : (List.range 86).map (fun k => tabC.extract (k * 7) (k * 7 + 7)) = (List.range 86).map rowC := by kernel_rfl
theorem tab_at (k : Nat) (hk : k < 86) : tabC.extract (k * 7) (k * 7 + 7) = rowC k := by
  have h := congrArg (·[k]?) tab_rows
  simpa [hk] using h

theorem info40 : (Try.prog.info? 63).map (·.size) = some 7 := by kernel_rfl

theorem run_index_tab (k : Nat) (hk : k < 86) (w : World) : (Instr.index 66 (.agg tabC) (.int .i64 (k : Int))).run Try.prog w = .ok (.agg (rowC k)) w := by
  have hs : (Go.sizeOf 63).run Try.prog w = .ok 7 w := by kernel_rfl
  have ha : (Go.isAgg 63).run Try.prog w = .ok true w := by kernel_rfl
  have hlt : (0 : Int) ≤ (k : Int) ∧ (k : Int) < ((86 : Nat) : Int) := by omega
  simp only [Instr.index, asIntOf, Sem.run_bind, Sem.run_pure, Result.andThen_ok, run_underlying Try.underlying66, if_pos hlt, hs, part, ha, if_true, Int.toNat_natCast, tab_at k hk]

theorem wpList_index {P : Program} {ops : Array Oper} {Q : Exit → Act → World → Prop} {o : Oper} {rest : List Oper} {a : Act} {w : World} (hg : o.guard = none) (ty : TypeId) (x y : Operand) (ho : o.op = .index ty x y) (v : Value)
    (h : (Instr.index ty (a.eval x) (a.eval y)).run P w = .ok v w) (hK : wpList P ops Q rest (a.put o.dst v) w) : wpList P ops Q (o :: rest) a w := by
  refine wpList_plain hg fun K hK' => ?_
  unfold Oper.wp
  simp only [execOp, ho, Sem.run_bind, h, Result.andThen_ok, Sem.run_pure]
  exact hK' _ _ hK
theorem wpList_done {P : Program} {ops : Array Oper} {Q : Exit → Act → World → Prop} {a : Act} {w : World} (h : Q .normal a w) : wpList P ops Q [] a w := h

theorem row_cells (k : Nat) : (rowC k).all (·.oneCell') = true := by simp [rowC, Value.oneCell']
theorem load_row (k : Nat) (w : World) : (loadVar 63 ⟨w.heap.size, 0, none⟩).run Try.prog (w.alloc (.cells (rowC k) 63)) = .ok (.agg (rowC k)) (w.alloc (.cells (rowC k) 63)) :=
  run_loadVar_row _ _ 63 63 (rowC k) (0, 0) _ (heap_alloc_last w _) Try.underlying63 rfl info40

/-- The zero row. -/
def zeroC : Array Value := rowC 86

set_option maxHeartbeats 1000000 in
set_option maxRecDepth 100000 in
theorem at_in (k : Nat) (hk : k < 86) (w : World) : Calls Try.prog 35 #[.int .i64 (k : Int)] w fun e w' => e = .returned (.tuple #[.agg (rowC k), .bool true]) ∧ Below w.heap.size w w' := by
  have h1 : decide ((k : Int) < 0) = false := by rw [decide_eq_false_iff_not]; omega
  have h2 : decide ((86 : Int) ≤ (k : Int)) = false := by rw [decide_eq_false_iff_not]; omega
  go_enter Try.func35, Try.ntmps35
  generalize hR : Code.region 3 _ false = R
  go_wp2
  rename_i Q1 K1 hK1
  subst hR
  clear h1 h2
  refine wp_region_list ?_
  refine wpList_evTake 88 [⟨some 99, .index 66 (.tmp 97) (.tmp 98), _, _, _, none⟩, ⟨none, .store 63 (.tmp 2) (.tmp 99), _, _, _, none⟩, ⟨some 3, .assign (.const (.bool true)), _, _, _, none⟩]
    ⟨([.int .i64 (k : Int), undef, .pointer (some ⟨w.heap.size, 0, none⟩), .bool false, .int .i64 (k : Int), .bool false, .bool false, .int .i64 (k : Int), .bool false, .bool false, undef] ++ ((List.range 86).map fun j => Value.agg (rowC j)) ++ [.agg tabC, .int .i64 (k : Int), undef]).toArray, []⟩ (by kernel_rfl) rfl ?_
  generalize (List.append _ _).toArray = OPS
  refine wpList_index rfl _ _ _ rfl (.agg (rowC k)) (run_index_tab k hk _) ?_
  refine wpList_store_row rfl _ _ _ rfl w.heap.size (rowC k) (by kernel_rfl) (by kernel_rfl) 63 zeroC (heap_alloc_last w _) (by kernel_rfl) rfl (row_cells k) ?_
  rw [World.setRow_alloc_new]
  refine wpList_evOp (v := .bool true) rfl (wpList_done (hK1 _ _ (wp_ret ?_)))
  refine bodyPost_ret (v := .tuple #[.agg (rowC k), .bool true]) ?_ rfl ⟨rfl, (Below.refl _ _).alloc (Nat.le_refl _) _⟩
  rw [results_cell_tmp rfl]
  generalize hp : Array.getD _ 2 undef = p
  obtain rfl : p = .pointer (some ⟨w.heap.size, 0, none⟩) := hp.symm.trans (by kernel_rfl)
  generalize hq : Array.getD _ 3 undef = q
  obtain rfl : q = .bool true := hq.symm.trans (by kernel_rfl)
  simp only [asAddr, Sem.run_pure, Result.andThen_ok, load_row]

theorem zero_res (w : World) (t : Array Value) (h2 : t.getD 2 undef = .pointer (some ⟨w.heap.size, 0, none⟩)) (h3 : t.getD 3 undef = .bool false) :
    ((asAddr (t.getD 2 undef)).run Try.prog (w.alloc (.cells zeroC 63))).andThen (fun a w₁ => ((loadVar 63 a).run Try.prog w₁).andThen fun v w₂ => .ok (Value.tuple #[v, t.getD 3 undef]) w₂) = .ok (Value.tuple #[.agg zeroC, .bool false]) (w.alloc (.cells zeroC 63)) := by
  rw [h2, h3]
  simp only [asAddr, Sem.run_pure, Result.andThen_ok, zeroC, load_row]

set_option maxRecDepth 100000 in
theorem at_out (op : Int) (hk : ¬ (0 ≤ op ∧ op < 86)) (w : World) : Calls Try.prog 35 #[.int .i64 op] w fun e w' => e = .returned (.tuple #[.agg zeroC, .bool false]) ∧ Below w.heap.size w w' := by
  cases h1 : decide (op < 0)
  · have h2 : decide ((86 : Int) ≤ op) = true := by rw [decide_eq_true_iff]; rw [decide_eq_false_iff_not] at h1; omega
    go_enter Try.func35, Try.ntmps35
    generalize Code.region 3 _ false = R
    go_wp2
    refine bodyPost_ret (v := .tuple #[.agg zeroC, .bool false]) ?_ rfl ⟨rfl, (Below.refl _ _).alloc (Nat.le_refl _) _⟩
    rw [results_cell_tmp rfl]
    refine zero_res w _ ?_ ?_ <;> kernel_rfl
  · go_enter Try.func35, Try.ntmps35
    generalize Code.region 3 _ false = R
    go_wp2
    refine bodyPost_ret (v := .tuple #[.agg zeroC, .bool false]) ?_ rfl ⟨rfl, (Below.refl _ _).alloc (Nat.le_refl _) _⟩
    rw [results_cell_tmp rfl]
    refine zero_res w _ ?_ ?_ <;> kernel_rfl

theorem ix_in {op : Int} (h : 0 ≤ op ∧ op < 86) : ((ix op : Nat) : Int) = op := by unfold ix; rw [if_pos h]; omega
theorem ix_lt {op : Int} (h : 0 ≤ op ∧ op < 86) : ix op < 86 := by unfold ix; rw [if_pos h]; omega
theorem ix_out {op : Int} (h : ¬ (0 ≤ op ∧ op < 86)) : ix op = 86 := by unfold ix; rw [if_neg h]
theorem ix_nat {k : Nat} (h : k < 86) : ix (k : Int) = k := by unfold ix; rw [if_pos (by omega)]; omega
theorem ix_le (op : Int) : ix op ≤ 86 := by unfold ix; split <;> omega

/-- The function that finds a row, at every number. -/
theorem at_any (op : Int) (w : World) : Calls Try.prog 35 #[.int .i64 op] w fun e w' => e = .returned (.tuple #[.agg (rowC (ix op)), .bool (decide (ix op < 86))]) ∧ Below w.heap.size w w' := by
  by_cases h : 0 ≤ op ∧ op < 86
  · have hl := ix_lt h
    rw [decide_eq_true hl]
    have := at_in (ix op) hl w
    rwa [ix_in h] at this
  · rw [ix_out h]
    exact at_out op h w

/-- The row of the number j is made of these. -/
structure Is (j : Nat) (s : ByteArray) (f b c r o i : Int) : Prop where
  nm : nm j = s
  fm : fm j = f
  bt : bt j = b
  cd : cd j = c
  sr : sr j = r
  of : of j = o
  im : im j = i
theorem Is.some (j : Nat) : ∃ s f b c r o i, Is j s f b c r o i := ⟨_, _, _, _, _, _, _, ⟨rfl, rfl, rfl, rfl, rfl, rfl, rfl⟩⟩

theorem at_is (op : Int) {s : ByteArray} {f b c r o i : Int} {ok : Bool} (w : World) (h : Is (ix op) s f b c r o i) (hk : decide (ix op < 86) = ok) :
    Calls Try.prog 35 #[.int .i64 op] w fun e w' => e = .returned (.tuple #[.agg #[.string s, .int .i64 f, .int .i64 b, .int .u8 c, .int .i64 r, .int .i64 o, .int .i64 i], .bool ok]) ∧ Below w.heap.size w w' := by
  obtain ⟨rfl, rfl, rfl, rfl, rfl, rfl, rfl⟩ := h
  subst hk
  exact at_any op w
end Go.Proofs.Ythoghcejmnnniaa.L3
