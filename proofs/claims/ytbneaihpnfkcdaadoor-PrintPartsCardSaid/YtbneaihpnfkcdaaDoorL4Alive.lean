/- The chapter's examples: the function that all statements call answers true. No condition but that the table of widths reads as laid. -/
import Derived.Test.YtbneaihpnfkcdaaDoorL4Check
import Derived.Deep.DeepCutAuto
namespace Go.Proofs.YtbneaihpnfkcdaaDoor.L4
open Go.RowKit L3 L1

/-- What Check comes to. -/
def chkF (f : Int) (reg : Bool) (dst src off imm : Int) : Int :=
  firstBad [(f != -1, 6), (!reg || f == 0 || f == 4, 12), ((uD f || dst == 0) && (uS f reg || src == 0), 12), ((uO f || off == 0) && (uI f reg || imm == 0), 12), (isG dst && isG src, 5), (sx 16 off == off, 4), (rng f imm, 4)]
theorem check_is (op : Int) (reg : Bool) (dst src off imm f R : Int) (w : World) (hw : Wid w) (hf : frm (ix op) = f) (hR : chkF f reg dst src off imm = R) :
    Calls Tryd.prog 78 #[.agg #[.int .i64 op, .bool reg, .int .i64 dst, .int .i64 src, .int .i64 off, .int .i64 imm]] w fun e w' => e = .returned (.int .i64 R) ∧ Below w.heap.size w w' :=
  check_at op reg dst src off imm f R _ _ _ _ _ _ _ _ _ _ _ w hw hf rfl rfl rfl rfl rfl rfl rfl rfl rfl rfl rfl hR

theorem wid_below {w w' : World} (h : Wid w) (hb : Below w.heap.size w w') : Wid w' := by
  obtain ⟨t, fr, hw⟩ := h
  exact ⟨t, fr, (hb.block _ (lt_of_block hw)).trans hw⟩

/-- Memory holds the three examples. -/
structure Three (w : World) (k1 k2 k3 : Nat) : Prop where
  a : w.heap[k1]? = some (.cells #[.int .i64 0, .bool true, .int .i64 1, .int .i64 2, .int .i64 0, .int .i64 0] 27)
  b : w.heap[k2]? = some (.cells #[.int .i64 0, .bool true, .int .i64 1, .int .i64 2, .int .i64 0, .int .i64 5] 27)
  c : w.heap[k3]? = some (.cells #[.int .i64 0, .bool true, .int .i64 1, .int .i64 11, .int .i64 0, .int .i64 0] 27)
  wid : Wid w
theorem Three.below {w w' : World} {k1 k2 k3 : Nat} (h : Three w k1 k2 k3) (hb : Below w.heap.size w w') : Three w' k1 k2 k3 :=
  ⟨(hb.block _ (lt_of_block h.a)).trans h.a, (hb.block _ (lt_of_block h.b)).trans h.b, (hb.block _ (lt_of_block h.c)).trans h.c, wid_below h.wid hb⟩
theorem Three.cells {w : World} {k1 k2 k3 : Nat} (h : Three w k1 k2 k3) :
    (w.cell? ⟨k1, 0, none⟩ = some (.int .i64 0) ∧ w.cell? ⟨k1, 1, none⟩ = some (.bool true) ∧ w.cell? ⟨k1, 2, none⟩ = some (.int .i64 1) ∧ w.cell? ⟨k1, 3, none⟩ = some (.int .i64 2) ∧ w.cell? ⟨k1, 4, none⟩ = some (.int .i64 0) ∧ w.cell? ⟨k1, 5, none⟩ = some (.int .i64 0)) ∧
    (w.cell? ⟨k2, 0, none⟩ = some (.int .i64 0) ∧ w.cell? ⟨k2, 1, none⟩ = some (.bool true) ∧ w.cell? ⟨k2, 2, none⟩ = some (.int .i64 1) ∧ w.cell? ⟨k2, 3, none⟩ = some (.int .i64 2) ∧ w.cell? ⟨k2, 4, none⟩ = some (.int .i64 0) ∧ w.cell? ⟨k2, 5, none⟩ = some (.int .i64 5)) ∧
    (w.cell? ⟨k3, 0, none⟩ = some (.int .i64 0) ∧ w.cell? ⟨k3, 1, none⟩ = some (.bool true) ∧ w.cell? ⟨k3, 2, none⟩ = some (.int .i64 1) ∧ w.cell? ⟨k3, 3, none⟩ = some (.int .i64 11) ∧ w.cell? ⟨k3, 4, none⟩ = some (.int .i64 0) ∧ w.cell? ⟨k3, 5, none⟩ = some (.int .i64 0)) :=
  ⟨cells6 h.a, cells6 h.b, cells6 h.c⟩

theorem three_new (w : World) (o : Obj) : Below w.heap.size w (((w.alloc o).alloc o).alloc o).drew ∧ (((w.alloc o).alloc o).alloc o).drew.heap[w.heap.size]? = some o ∧ (((w.alloc o).alloc o).alloc o).drew.heap[w.heap.size + 1]? = some o ∧ (((w.alloc o).alloc o).alloc o).drew.heap[w.heap.size + 1 + 1]? = some o := by
  refine ⟨below_drewN (bch (bnew w o) (bch (bnew _ o) (bnew _ o))) 1, ?_, ?_, ?_⟩
  · show (((w.heap.push o).push o).push o)[w.heap.size]? = _
    simp [Array.getElem?_push]
  · show (((w.heap.push o).push o).push o)[w.heap.size + 1]? = _
    simp [Array.getElem_push]
  · show (((w.heap.push o).push o).push o)[w.heap.size + 1 + 1]? = _
    simp [Array.getElem_push]

theorem eql_fields (w : World) : (binOp .eql 125 (.agg #[.bool true, .bool true, .bool false, .bool false]) (.agg #[.bool true, .bool true, .bool false, .bool false])).run Tryd.prog w = .ok (.bool true) w := by
  kernel_rfl

end Go.Proofs.YtbneaihpnfkcdaaDoor.L4
