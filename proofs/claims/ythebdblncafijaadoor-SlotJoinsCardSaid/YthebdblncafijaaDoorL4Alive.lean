/- What Check comes to. No condition but that the table of widths reads as laid. -/
import Derived.Test.YthebdblncafijaaDoorL4Check
namespace Go.Proofs.YthebdblncafijaaDoor.L4
open Go.RowKit L3 L1

/-- What Check comes to. -/
def chkF (f : Int) (reg : Bool) (dst src off imm : Int) : Int :=
  firstBad [(f != -1, 6), (!reg || f == 0 || f == 4, 12), ((uD f || dst == 0) && (uS f reg || src == 0), 12), ((uO f || off == 0) && (uI f reg || imm == 0), 12), (isG dst && isG src, 5), (sx 16 off == off, 4), (rng f imm, 4)]
theorem check_is (op : Int) (reg : Bool) (dst src off imm f R : Int) (w : World) (hw : Wid w) (hf : frm (ix op) = f) (hR : chkF f reg dst src off imm = R) :
    Calls Tryd.prog 22 #[.agg #[.int .i64 op, .bool reg, .int .i64 dst, .int .i64 src, .int .i64 off, .int .i64 imm]] w fun e w' => e = .returned (.int .i64 R) ∧ Below w.heap.size w w' :=
  check_at op reg dst src off imm f R _ _ _ _ _ _ _ _ _ _ _ w hw hf rfl rfl rfl rfl rfl rfl rfl rfl rfl rfl rfl hR

theorem wid_below {w w' : World} (h : Wid w) (hb : Below w.heap.size w w') : Wid w' := by
  obtain ⟨t, fr, hw⟩ := h
  exact ⟨t, fr, (hb.block _ (lt_of_block hw)).trans hw⟩

end Go.Proofs.YthebdblncafijaaDoor.L4
