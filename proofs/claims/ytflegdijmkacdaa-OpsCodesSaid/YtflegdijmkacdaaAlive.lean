/- The chapter's examples hold, and the facts of the table that the statements lean on. No condition. -/
import Derived.Test.YtflegdijmkacdaaIdf
import Derived.Test.YtflegdijmkacdaaFnd
namespace Go.Proofs.Ytflegdijmkacdaa
open Go.RowKit

theorem name_at (op : Int) (s : ByteArray) (w : World) (h : nm (ix op) = s) : Calls Try.prog 10 #[.int .i64 op] w fun e w' => e = .returned (.string s) ∧ Below w.heap.size w w' := by
  subst h; exact name_any op w
theorem form_at (op v : Int) (w : World) (h : frm (ix op) = v) : Calls Try.prog 12 #[.int .i64 op] w fun e w' => e = .returned (.int .i64 v) ∧ Below w.heap.size w w' := by
  subst h; exact form_any op w
theorem bits_at (op v : Int) (w : World) (h : bt (ix op) = v) : Calls Try.prog 14 #[.int .i64 op] w fun e w' => e = .returned (.int .i64 v) ∧ Below w.heap.size w w' := by
  subst h; exact bits_any op w
theorem fixed_at (op r o i : Int) (w : World) (hr : sr (ix op) = r) (ho : of (ix op) = o) (hi : im (ix op) = i) : Calls Try.prog 19 #[.int .i64 op] w fun e w' => e = .returned (.tuple #[.int .i64 r, .int .i64 o, .int .i64 i]) ∧ Below w.heap.size w w' := by
  subst hr ho hi; exact fixed_any op w
theorem ident_at (code src off imm n : Int) (r ok : Bool) (w : World) (h : idF code src off imm 86 0 = (n, r, ok)) : Calls Try.prog 21 #[.int .u8 code, .int .i64 src, .int .i64 off, .int .i64 imm] w fun e w' =>
    e = .returned (.tuple #[.int .i64 n, .bool r, .bool ok]) ∧ Below w.heap.size w w' := by
  have := ident_any code src off imm w
  rwa [h] at this

theorem count_any (w : World) : Calls Try.prog 24 #[] w fun e w' => e = .returned (.int .i64 86) ∧ w = w' := by
  go_enter Try.func24, Try.ntmps24
  go_wp2
  go_ret
  exact ⟨rfl, rfl⟩

theorem id1 : idF 15 9 0 9 86 0 = (0, true, true) := by decide +kernel
theorem id2 : idF 55 0 1 0 86 0 = (12, false, true) := by decide +kernel
theorem id3 : idF 55 0 2 0 86 0 = (0, false, false) := by decide +kernel
theorem fnd1 : (fnd ⟨#[101, 120, 105, 116]⟩ 86).1 = 68 := by decide +kernel
theorem fnd2 : (fnd ⟨#[101, 120, 105, 116]⟩ 86).2 = true := by decide +kernel
theorem code1 : cdV (ix 68) false = 149 := by decide +kernel
theorem code2 : cdB (ix 68) false = true := by decide +kernel
theorem name1 : nm (ix 85) = ⟨#[108, 100, 109, 97, 112]⟩ := by decide +kernel
theorem form1 : frm (ix 0) = 0 := by decide +kernel
theorem bits1 : bt (ix 71) = 32 := by decide +kernel

set_option maxHeartbeats 4000000 in
set_option maxRecDepth 100000 in
theorem alive_any (w : World) : Calls Try.prog 9 #[] w fun e w' => e = .returned (.bool true) ∧ Below w.heap.size w w' := by
  go_enter Try.func9, Try.ntmps9
  go_wp2_with (first
    | (go_at_call 21; ((with_reducible refine (ident_at _ _ _ _ _ _ _ _ id1).mono ?_); rintro e w1 ⟨rfl, hb1⟩))
    | (go_at_call 21; ((with_reducible refine (ident_at _ _ _ _ _ _ _ _ id2).mono ?_); rintro e w2 ⟨rfl, hb2⟩))
    | (go_at_call 21; ((with_reducible refine (ident_at _ _ _ _ _ _ _ _ id3).mono ?_); rintro e w3 ⟨rfl, hb3⟩))
    | (go_at_call 16; ((with_reducible refine (find_at _ (by decide) _ _ _ fnd1 fnd2).mono ?_); rintro e w4 ⟨rfl, hb4⟩))
    | (go_at_call 17; ((with_reducible refine (code_at _ _ _ _ _ code1 code2).mono ?_); rintro e w5 ⟨rfl, hb5⟩))
    | (go_at_call 24; ((with_reducible refine (count_any _).mono ?_); rintro e w' ⟨rfl, rfl⟩))
    | (go_at_call 10; ((with_reducible refine (name_at _ _ _ name1).mono ?_); rintro e w6 ⟨rfl, hb6⟩))
    | (go_at_call 12; ((with_reducible refine (form_at _ _ _ form1).mono ?_); rintro e w7 ⟨rfl, hb7⟩))
    | (go_at_call 14; ((with_reducible refine (bits_at _ _ _ bits1).mono ?_); rintro e w8 ⟨rfl, hb8⟩)))
  go_ret
  exact ⟨rfl, bch (bch (bch (bch (bch (bch (bch hb1 hb2) hb3) hb4) hb5) hb6) hb7) hb8⟩

/-! ### facts of the table -/
theorem nm_inj : ∀ i, i < 86 → ∀ j, j < 86 → (nm i).data.toList = (nm j).data.toList → i = j := by decide +kernel
theorem fnd_nm : ∀ k, k < 86 → fnd (nm k) 86 = ((k : Int), true) := by decide +kernel
theorem id_inv : ∀ k, k < 86 → ∀ reg : Bool, cdB k reg = true → idF (cdV k reg) (sr k) (of k) (im k) 86 0 = ((k : Int), reg, true) := by decide +kernel
end Go.Proofs.Ytflegdijmkacdaa
