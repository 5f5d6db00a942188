/- What PrintIgnores needs at its row: seven variables are listed, one of them (utf8.first) by a pinned constant; the tables that the walks read are among them. No condition of its own. -/
import Derived.Test.YtbneaihpnfkcdaaGreatDoorL11Law
import Derived.Lay
namespace Go.Proofs.YtbneaihpnfkcdaaGreatDoor
open Go.ChangeShapes Go.WideShapes Go.ChangeAt Go.RowKit

abbrev laid7 : List (String × DataW Unit) := [("math/bits.deBruijn32tab", Rows.laid_math_bits_deBruijn32tab), ("math/bits.deBruijn64tab", Rows.laid_math_bits_deBruijn64tab), ("internal/strconv.uint64pow10", Rows.laid_internal_strconv_uint64pow10), ("unicode/utf8.acceptRanges", Rows.laid_unicode_utf8_acceptRanges), ("slotcode/ident.registers", Rows.laid_slotcode_ident_registers), ("slotcode/num.widths", Rows.laid_slotcode_num_widths), ("unicode/utf8.first", Rows.laid_unicode_utf8_first)]
set_option maxRecDepth 100000 in
/-- What the row's condition on its variables gives the walk. -/
theorem tabs_of7 {W : World} (h : laidMetH Tryz.prog laid7 W) : L11.Tb W := by
  rw [MakeChecks.laidMetH_plain _ _ _ (by kernel_rfl)] at h
  have h2 := h.tail.tail
  have hp : Lib.TabIs Tryz.prog W "internal/strconv.uint64pow10" .u64 Lib.pow10Tab :=
    Lib.tabIs_of_head (rest := [("unicode/utf8.acceptRanges", Rows.laid_unicode_utf8_acceptRanges), ("slotcode/ident.registers", Rows.laid_slotcode_ident_registers), ("slotcode/num.widths", Rows.laid_slotcode_num_widths), ("unicode/utf8.first", Rows.laid_unicode_utf8_first)]) L11.gPow tPow Tryz.underlying202 Tryz.underlying71 (by kernel_rfl) (by kernel_rfl) h2
  have hw : Lib.TabIs Tryz.prog W "slotcode/num.widths" .i64 [8, 16, 32, 64] :=
    Lib.tabIs_of_head (rest := [("unicode/utf8.first", Rows.laid_unicode_utf8_first)]) gWid tWid Tryz.underlying153 Tryz.underlying3 (by kernel_rfl) (by kernel_rfl) h2.tail.tail.tail
  have h3 : laidMet Tryz.prog [("slotcode/ident.registers", regD), ("slotcode/num.widths", Rows.laid_slotcode_num_widths), ("unicode/utf8.first", Rows.laid_unicode_utf8_first)] W := h2.tail.tail
  exact tb_parts hp hw h3
set_option maxRecDepth 100000 in
/-- The world that bears the listed variables meets the condition. -/
theorem door_met7 (os : Os) (args : Array Value) : laidMetH Tryz.prog laid7 ((World.laidAll Tryz.prog os laid7).forCall (fun _ _ => 0) ⟨#[], args, []⟩).memory := by
  rw [MakeChecks.laidMetH_plain _ _ _ (by kernel_rfl)]
  exact laidMet_laidAll _ (by kernel_rfl) (by kernel_rfl)
end Go.Proofs.YtbneaihpnfkcdaaGreatDoor
