/- The chapter's examples: the function that all statements call answers true. No condition but that the table of widths reads as laid. -/
import Derived.Test.YtgmlpahnjgfamaaDoorCheck
import Derived.Deep.DeepCutAuto
namespace Go.Proofs.YtgmlpahnjgfamaaDoor
open Go.RowKit L3 L1

/-- What Check comes to. -/
def chkF (f : Int) (reg : Bool) (dst src off imm : Int) : Int :=
  firstBad [(f != -1, 6), (!reg || f == 0 || f == 4, 12), ((uD f || dst == 0) && (uS f reg || src == 0), 12), ((uO f || off == 0) && (uI f reg || imm == 0), 12), (isG dst && isG src, 5), (sx 16 off == off, 4), (rng f imm, 4)]
theorem check_is (op : Int) (reg : Bool) (dst src off imm f R : Int) (w : World) (hw : Wid w) (hf : frm (ix op) = f) (hR : chkF f reg dst src off imm = R) :
    Calls Tryd.prog 15 #[.agg #[.int .i64 op, .bool reg, .int .i64 dst, .int .i64 src, .int .i64 off, .int .i64 imm]] w fun e w' => e = .returned (.int .i64 R) ∧ Below w.heap.size w w' :=
  check_at op reg dst src off imm f R _ _ _ _ _ _ _ _ _ _ _ w hw hf rfl rfl rfl rfl rfl rfl rfl rfl rfl rfl rfl hR

theorem wid_below {w w' : World} (h : Wid w) (hb : Below w.heap.size w w') : Wid w' := by
  obtain ⟨t, fr, hw⟩ := h
  exact ⟨t, fr, (hb.block _ (lt_of_block hw)).trans hw⟩

/-- Memory holds the three examples. -/
structure Three (w : World) (k1 k2 k3 : Nat) : Prop where
  a : w.heap[k1]? = some (.cells #[.int .i64 0, .bool true, .int .i64 1, .int .i64 2, .int .i64 0, .int .i64 0] 29)
  b : w.heap[k2]? = some (.cells #[.int .i64 0, .bool true, .int .i64 1, .int .i64 2, .int .i64 0, .int .i64 5] 29)
  c : w.heap[k3]? = some (.cells #[.int .i64 0, .bool true, .int .i64 1, .int .i64 11, .int .i64 0, .int .i64 0] 29)
  wid : Wid w
theorem Three.below {w w' : World} {k1 k2 k3 : Nat} (h : Three w k1 k2 k3) (hb : Below w.heap.size w w') : Three w' k1 k2 k3 :=
  ⟨(hb.block _ (lt_of_block h.a)).trans h.a, (hb.block _ (lt_of_block h.b)).trans h.b, (hb.block _ (lt_of_block h.c)).trans h.c, wid_below h.wid hb⟩
theorem Three.cells {w : World} {k1 k2 k3 : Nat} (h : Three w k1 k2 k3) :
    (w.cell? ⟨k1, 0, none⟩ = some (.int .i64 0) ∧ w.cell? ⟨k1, 1, none⟩ = some (.bool true) ∧ w.cell? ⟨k1, 2, none⟩ = some (.int .i64 1) ∧ w.cell? ⟨k1, 3, none⟩ = some (.int .i64 2) ∧ w.cell? ⟨k1, 4, none⟩ = some (.int .i64 0) ∧ w.cell? ⟨k1, 5, none⟩ = some (.int .i64 0)) ∧
    (w.cell? ⟨k2, 0, none⟩ = some (.int .i64 0) ∧ w.cell? ⟨k2, 1, none⟩ = some (.bool true) ∧ w.cell? ⟨k2, 2, none⟩ = some (.int .i64 1) ∧ w.cell? ⟨k2, 3, none⟩ = some (.int .i64 2) ∧ w.cell? ⟨k2, 4, none⟩ = some (.int .i64 0) ∧ w.cell? ⟨k2, 5, none⟩ = some (.int .i64 5)) ∧
    (w.cell? ⟨k3, 0, none⟩ = some (.int .i64 0) ∧ w.cell? ⟨k3, 1, none⟩ = some (.bool true) ∧ w.cell? ⟨k3, 2, none⟩ = some (.int .i64 1) ∧ w.cell? ⟨k3, 3, none⟩ = some (.int .i64 11) ∧ w.cell? ⟨k3, 4, none⟩ = some (.int .i64 0) ∧ w.cell? ⟨k3, 5, none⟩ = some (.int .i64 0)) :=
  ⟨cells6 h.a, cells6 h.b, cells6 h.c⟩

theorem three_new (w : World) (o : Obj) : Below w.heap.size w (((w.alloc o).alloc o).alloc o).drew ∧ (((w.alloc o).alloc o).alloc o).drew.heap[w.heap.size]? = some o ∧ (((w.alloc o).alloc o).alloc o).drew.heap[w.heap.size + 1]? = some o ∧ (((w.alloc o).alloc o).alloc o).drew.heap[w.heap.size + 1 + 1]? = some o := by
  refine ⟨below_drewN (bch (bnew w o) (bch (bnew _ o) (bnew _ o))) 1, ?_, ?_, ?_⟩
  · show (((w.heap.push o).push o).push o)[w.heap.size]? = _
    simp [Array.getElem?_push]
  · show (((w.heap.push o).push o).push o)[w.heap.size + 1]? = _
    simp [Array.getElem_push]
  · show (((w.heap.push o).push o).push o)[w.heap.size + 1 + 1]? = _
    simp [Array.getElem_push]

theorem eql_fields (w : World) : (binOp .eql 23 (.agg #[.bool true, .bool true, .bool false, .bool false]) (.agg #[.bool true, .bool true, .bool false, .bool false])).run Tryd.prog w = .ok (.bool true) w := by
  kernel_rfl

set_option maxHeartbeats 4000000 in
set_option maxRecDepth 100000 in
theorem alive_any (w : World) (hw : Wid w) : Calls Tryd.prog 10 #[] w fun e w' => e = .returned (.bool true) ∧ Below w.heap.size w w' := by
  have HW := Lib.hid hw
  clear hw
  go_enter Tryd.func10, Tryd.ntmps10
  go_upto_region 2 with (fail)
  go_cut [2, 3] (fun p2 p3 wx => ∃ k2 k3 : Nat, p2 = .pointer (some ⟨k2, 0, none⟩) ∧ p3 = .pointer (some ⟨k3, 0, none⟩) ∧ Below w.heap.size w wx ∧ w.heap.size ≠ k2 ∧ w.heap.size ≠ k3 ∧ k2 ≠ k3 ∧ w.heap.size ≤ k2 ∧ w.heap.size ≤ k3 ∧ wx.heap[w.heap.size]? = some (.cells #[.int .i64 0, .bool true, .int .i64 1, .int .i64 2, .int .i64 0, .int .i64 0] 29) ∧ wx.heap[k2]? = some (.cells #[.int .i64 0, .bool true, .int .i64 1, .int .i64 2, .int .i64 0, .int .i64 0] 29) ∧ wx.heap[k3]? = some (.cells #[.int .i64 0, .bool true, .int .i64 1, .int .i64 2, .int .i64 0, .int .i64 0] 29))
  case first =>
    go_region
    all_goals
      go_wp2_with (fail)
      go_meet
      obtain ⟨q0, q1, q2, q3⟩ := three_new w (.cells #[.int .i64 0, .bool true, .int .i64 1, .int .i64 2, .int .i64 0, .int .i64 0] 29)
      first
        | exact ⟨_, _, rfl, rfl, q0, by omega, by omega, by omega, by omega, by omega, q1, q2, q3⟩
        | exact ⟨_, _, rfl, rfl, q0, by omega, by omega, by omega, by omega, by omega, q1, q3, q2⟩
  case rest =>
    obtain ⟨k2, k3, rfl, rfl, hb, n12, n13, n23, l2, l3, h1, h2, h3⟩ := hcut
    have hwx := wid_below HW.out hb
    obtain ⟨x0, x1, x2, x3, x4, x5⟩ := cells6 h2
    obtain ⟨y0, y1, y2, y3, y4, y5⟩ := cells6 h3
    have fx : wc.frozen? ⟨k2, 5, none⟩ = false := by simp [World.frozen?, h2]
    have fy : wc.frozen? ⟨k3, 3, none⟩ = false := by simp [World.frozen?, h3]
    go_upto_region 5 with (fail)
    have T0 : Three ((wc.setCell ⟨k2, 5, none⟩ (.int .i64 5)).setCell ⟨k3, 3, none⟩ (.int .i64 11)) w.heap.size k2 k3 := by
      refine ⟨?_, ?_, ?_, ?_⟩
      · rw [Below.heap_setCell _ _ _ _ n13, Below.heap_setCell _ _ _ _ n12, h1]
      · rw [Below.heap_setCell _ _ _ _ n23, heap_setCell_same h2]
        rfl
      · rw [heap_setCell_same ((Below.heap_setCell _ _ _ _ (Ne.symm n23)).trans h3)]
        rfl
      · obtain ⟨t, fr, hw⟩ := HW.out
        have hlt := lt_of_block hw
        exact ⟨t, fr, by rw [Below.heap_setCell _ _ _ _ (by show 0 ≠ k3; omega), Below.heap_setCell _ _ _ _ (by show 0 ≠ k2; omega), hb.block _ hlt, hw]⟩
    have B0 : Below w.heap.size w ((wc.setCell ⟨k2, 5, none⟩ (.int .i64 5)).setCell ⟨k3, 3, none⟩ (.int .i64 11)) := (hb.setCell l2 _).setCell l3 _
    generalize (wc.setCell ⟨k2, 5, none⟩ (.int .i64 5)).setCell ⟨k3, 3, none⟩ (.int .i64 11) = w0 at T0 B0 ⊢
    clear x0 x1 x2 x3 x4 x5 y0 y1 y2 y3 y4 y5 fx fy h1 h2 h3 hwx hb n12 n13 n23 l2 l3 HW
    have hq := eql_fields
    obtain ⟨⟨a0, a1, a2, a3, a4, a5⟩, ⟨d0, d1, d2, d3, d4, d5⟩, ⟨e0, e1, e2, e3, e4, e5⟩⟩ := T0.cells
    have C0 := Lib.hid (fun (w : World) (hw : Wid w) => check_is 0 true 1 2 0 0 0 0  w hw (by decide) (by decide))
    have C1 := Lib.hid (fun (w : World) (hw : Wid w) => check_is 0 true 1 2 0 5 0 12  w hw (by decide) (by decide))
    have C2 := Lib.hid (fun (w : World) (hw : Wid w) => check_is 0 true 1 11 0 0 0 5  w hw (by decide) (by decide))
    have C3 := Lib.hid (fun (w : World) (hw : Wid w) => uses_is 0 0 true true true false false w (by decide) (by decide) (by decide) (by decide) (by decide))
    have C4 := Lib.hid (fun (w : World) (hw : Wid w) => slots_at 84 10 2 w (by decide) (by decide))
    have C5 := Lib.hid (fun (w : World) (hw : Wid w) => writes_at 0 true 1 2 0 0 0 1 w (by decide) (by decide))
    have C6 := Lib.hid (fun (w : World) (hw : Wid w) => ends_at 68 false 0 0 0 0 6 true w (by decide) (by decide))
    have C7 := Lib.hid (fun (w : World) (hw : Wid w) => jumps_at 68 false 0 0 0 0 6 false w (by decide) (by decide))
    have C8 := Lib.hid (fun (w : World) (hw : Wid w) => jumps_at 45 false 0 0 0 0 4 true w (by decide) (by decide))
    go_wp2_with (first | (go_at_call 15; ((with_reducible refine (C0.out _ T0.wid).mono ?_); rintro e w1 ⟨rfl, hb1⟩; have T1 := T0.below hb1; have B1 := bch B0 hb1; clear hb1; obtain ⟨⟨a0, a1, a2, a3, a4, a5⟩, ⟨d0, d1, d2, d3, d4, d5⟩, ⟨e0, e1, e2, e3, e4, e5⟩⟩ := T1.cells)) | (go_at_call 15; ((with_reducible refine (C1.out _ T1.wid).mono ?_); rintro e w2 ⟨rfl, hb2⟩; have T2 := T1.below hb2; have B2 := bch B1 hb2; clear hb2; obtain ⟨⟨a0, a1, a2, a3, a4, a5⟩, ⟨d0, d1, d2, d3, d4, d5⟩, ⟨e0, e1, e2, e3, e4, e5⟩⟩ := T2.cells)) | (go_at_call 15; ((with_reducible refine (C2.out _ T2.wid).mono ?_); rintro e w3 ⟨rfl, hb3⟩; have T3 := T2.below hb3; have B3 := bch B2 hb3; clear hb3; obtain ⟨⟨a0, a1, a2, a3, a4, a5⟩, ⟨d0, d1, d2, d3, d4, d5⟩, ⟨e0, e1, e2, e3, e4, e5⟩⟩ := T3.cells)) | (go_at_call 9; ((with_reducible refine (C3.out _ T3.wid).mono ?_); rintro e w4 ⟨rfl, hb4⟩; have T4 := T3.below hb4; have B4 := bch B3 hb4; clear hb4; obtain ⟨⟨a0, a1, a2, a3, a4, a5⟩, ⟨d0, d1, d2, d3, d4, d5⟩, ⟨e0, e1, e2, e3, e4, e5⟩⟩ := T4.cells)) | (go_at_call 17; ((with_reducible refine (C4.out _ T4.wid).mono ?_); rintro e w5 ⟨rfl, hb5⟩; have T5 := T4.below hb5; have B5 := bch B4 hb5; clear hb5; obtain ⟨⟨a0, a1, a2, a3, a4, a5⟩, ⟨d0, d1, d2, d3, d4, d5⟩, ⟨e0, e1, e2, e3, e4, e5⟩⟩ := T5.cells)) | (go_at_call 19; ((with_reducible refine (C5.out _ T5.wid).mono ?_); rintro e w6 ⟨rfl, hb6⟩; have T6 := T5.below hb6; have B6 := bch B5 hb6; clear hb6; obtain ⟨⟨a0, a1, a2, a3, a4, a5⟩, ⟨d0, d1, d2, d3, d4, d5⟩, ⟨e0, e1, e2, e3, e4, e5⟩⟩ := T6.cells)) | (go_at_call 22; ((with_reducible refine (C6.out _ T6.wid).mono ?_); rintro e w7 ⟨rfl, hb7⟩; have T7 := T6.below hb7; have B7 := bch B6 hb7; clear hb7; obtain ⟨⟨a0, a1, a2, a3, a4, a5⟩, ⟨d0, d1, d2, d3, d4, d5⟩, ⟨e0, e1, e2, e3, e4, e5⟩⟩ := T7.cells)) | (go_at_call 23; ((with_reducible refine (C7.out _ T7.wid).mono ?_); rintro e w8 ⟨rfl, hb8⟩; have T8 := T7.below hb8; have B8 := bch B7 hb8; clear hb8; obtain ⟨⟨a0, a1, a2, a3, a4, a5⟩, ⟨d0, d1, d2, d3, d4, d5⟩, ⟨e0, e1, e2, e3, e4, e5⟩⟩ := T8.cells)) | (go_at_call 23; ((with_reducible refine (C8.out _ T8.wid).mono ?_); rintro e w9 ⟨rfl, hb9⟩; have T9 := T8.below hb9; have B9 := bch B8 hb9; clear hb9; obtain ⟨⟨a0, a1, a2, a3, a4, a5⟩, ⟨d0, d1, d2, d3, d4, d5⟩, ⟨e0, e1, e2, e3, e4, e5⟩⟩ := T9.cells)))
    go_ret
    exact ⟨rfl, B9⟩
end Go.Proofs.YtgmlpahnjgfamaaDoor
