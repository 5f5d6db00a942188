/- What the reference's operands returns, form by form. Conditions: the operands are as many as the form asks for, and no longer than memory allows. -/
import Derived.Test.YtjcaonbejhdhkaaDoorL9Rmem
import Derived.StillTail
import Derived.StillTactics
import Derived.WalkSpells
import Derived.Deep.RegionWith
namespace Go.Proofs.YtjcaonbejhdhkaaDoor.L9
open Go.RowKit
attribute [local go_sem] Oper.semAt_some

theorem bdrb {B : Nat} {w w' : World} (h : Below B w w') : Below B w w'.drew := ⟨h.1, h.2, h.3, h.4, h.5⟩
theorem bdnb {B : Nat} {w w' : World} (h : Below B w w') (m : Nat) : Below B w (w'.drewN m) := ⟨h.1, h.2, h.3, h.4, h.5⟩
set_option maxHeartbeats 2000000 in
set_option maxRecDepth 100000 in
theorem rops_de (op : Int) (k o n cap : Nat) (off : Bool) (w : World) (_ : k < w.heap.size) (f : Int) (hf : L3.frm (L3.ix op) = f) (_ : ¬ f = 3) (_ : ¬ f = 5) (_ : ¬ f = 6) (_ : ¬ f = 8) (_ : ¬ f = 9) (t0 : ByteArray) (_ : 0 < n) (_ : w.cell? ⟨k, o, none⟩ = some (.string t0)) (v : Int) (g1 : (reV t0).1 = v) (x : Int) (_ : ¬ x = 0) (g2 : (reV t0).2 = x) :
    Calls Tryd.prog 33 #[.int .i64 op, .slice (some ⟨k, o, none⟩) n cap, .bool off] w fun e w' => e = .returned (.tuple #[.agg #[.slice none 0 0, .int .i64 2, .string ⟨#[]⟩, .int .i64 0, .int .i64 0, .int .i64 0, .int .i64 op, .bool false, .int .i64 v, .int .i64 0, .int .i64 0, .int .i64 0, .string ⟨#[]⟩, .string ⟨#[]⟩], .int .i64 x]) ∧ Below w.heap.size w w' := by
  have HF := Lib.hid (fun w => L3.rform_at op f w hf)
  have HR := Lib.hid (fun w => rregister_at t0 v x w g1 g2)
  clear hf g1 g2
  go_enter Tryd.func33, Tryd.ntmps33
  go_wp2_with (first | (go_at_call 30; ((with_reducible refine (HF.out _).mono ?_); rintro e w1 ⟨rfl, rfl⟩)) | (go_at_call 63; ((with_reducible refine (HR.out _).mono ?_); rintro e w1 ⟨rfl, rfl⟩)))
  exact bodyPost_ret (v := .tuple #[.agg #[.slice none 0 0, .int .i64 2, .string ⟨#[]⟩, .int .i64 0, .int .i64 0, .int .i64 0, .int .i64 op, .bool false, .int .i64 v, .int .i64 0, .int .i64 0, .int .i64 0, .string ⟨#[]⟩, .string ⟨#[]⟩], .int .i64 x]) (by simp [results, Tryd.results33, go_sem]) rfl ⟨rfl, L2.bch (L8.bnew w _) (L8.bnew _ _)⟩
set_option maxHeartbeats 2000000 in
set_option maxRecDepth 100000 in
theorem rops_1 (op : Int) (k o n cap : Nat) (off : Bool) (w : World) (_ : k < w.heap.size) (hf : L3.frm (L3.ix op) = 1) (t0 : ByteArray) (_ : 0 < n) (_ : w.cell? ⟨k, o, none⟩ = some (.string t0)) (v : Int) (g1 : (reV t0).1 = v) (g2 : (reV t0).2 = 0)  :
    Calls Tryd.prog 33 #[.int .i64 op, .slice (some ⟨k, o, none⟩) n cap, .bool off] w fun e w' => e = .returned (.tuple #[.agg #[.slice none 0 0, .int .i64 2, .string ⟨#[]⟩, .int .i64 0, .int .i64 0, .int .i64 0, .int .i64 op, .bool false, .int .i64 v, .int .i64 0, .int .i64 0, .int .i64 0, .string ⟨#[]⟩, .string ⟨#[]⟩], .int .i64 0]) ∧ Below w.heap.size w w' := by
  have HF := Lib.hid (fun w => L3.rform_at op 1 w hf)
  have HR := Lib.hid (fun w => rregister_at t0 v 0 w g1 g2)
  clear hf g1 g2
  go_enter Tryd.func33, Tryd.ntmps33
  go_wp2_with (first | (go_at_call 30; ((with_reducible refine (HF.out _).mono ?_); rintro e w1 ⟨rfl, rfl⟩)) | (go_at_call 63; ((with_reducible refine (HR.out _).mono ?_); rintro e w1 ⟨rfl, rfl⟩)))
  exact bodyPost_ret (v := .tuple #[.agg #[.slice none 0 0, .int .i64 2, .string ⟨#[]⟩, .int .i64 0, .int .i64 0, .int .i64 0, .int .i64 op, .bool false, .int .i64 v, .int .i64 0, .int .i64 0, .int .i64 0, .string ⟨#[]⟩, .string ⟨#[]⟩], .int .i64 0]) (by simp [results, Tryd.results33, go_sem]) rfl ⟨rfl, L2.bch (L8.bnew w _) (L8.bnew _ _)⟩
set_option maxHeartbeats 2000000 in
set_option maxRecDepth 100000 in
theorem rops_2 (op : Int) (k o n cap : Nat) (off : Bool) (w : World) (_ : k < w.heap.size) (hf : L3.frm (L3.ix op) = 2) (t0 : ByteArray) (_ : 0 < n) (_ : w.cell? ⟨k, o, none⟩ = some (.string t0)) (v : Int) (g1 : (reV t0).1 = v) (g2 : (reV t0).2 = 0) (t1 : ByteArray) (_ : 1 < n) (_ : w.cell? ⟨k, o + 1, none⟩ = some (.string t1)) (y z : Int) (h1 : (reV t1).1 = y) (h2 : (reV t1).2 = z) :
    Calls Tryd.prog 33 #[.int .i64 op, .slice (some ⟨k, o, none⟩) n cap, .bool off] w fun e w' => e = .returned (.tuple #[.agg #[.slice none 0 0, .int .i64 2, .string ⟨#[]⟩, .int .i64 0, .int .i64 0, .int .i64 0, .int .i64 op, .bool false, .int .i64 v, .int .i64 y, .int .i64 0, .int .i64 0, .string ⟨#[]⟩, .string ⟨#[]⟩], .int .i64 z]) ∧ Below w.heap.size w w' := by
  have HF := Lib.hid (fun w => L3.rform_at op 2 w hf)
  have HR := Lib.hid (fun w => rregister_at t0 v 0 w g1 g2)
  have HP := Lib.hid (fun w => rregister_at t1 y z w h1 h2)
  clear hf g1 g2 h1 h2
  go_enter Tryd.func33, Tryd.ntmps33
  go_wp2_with (first | (go_at_call 30; ((with_reducible refine (HF.out _).mono ?_); rintro e w1 ⟨rfl, rfl⟩)) | (go_at_call 63; ((with_reducible refine (HR.out _).mono ?_); rintro e w1 ⟨rfl, rfl⟩)) | (go_at_call 63; ((with_reducible refine (HP.out _).mono ?_); rintro e w1 ⟨rfl, rfl⟩)))
  exact bodyPost_ret (v := .tuple #[.agg #[.slice none 0 0, .int .i64 2, .string ⟨#[]⟩, .int .i64 0, .int .i64 0, .int .i64 0, .int .i64 op, .bool false, .int .i64 v, .int .i64 y, .int .i64 0, .int .i64 0, .string ⟨#[]⟩, .string ⟨#[]⟩], .int .i64 z]) (by simp [results, Tryd.results33, go_sem]) rfl ⟨rfl, L2.bch (L8.bnew w _) (L8.bnew _ _)⟩
set_option maxHeartbeats 2000000 in
set_option maxRecDepth 100000 in
theorem rops_7 (op : Int) (k o n cap : Nat) (off : Bool) (w : World) (_ : k < w.heap.size) (hf : L3.frm (L3.ix op) = 7) (t0 : ByteArray) (_ : 0 < n) (_ : w.cell? ⟨k, o, none⟩ = some (.string t0)) (v : Int) (g1 : (reV t0).1 = v) (g2 : (reV t0).2 = 0) (s u x : Int) (o1 n1 cap1 o2 n2 cap2 : Nat) (_ : ∀ W, (Instr.slice 27 (.slice (some ⟨k, o, none⟩) n cap) (some (.int .i64 1)) none none).run Tryd.prog W = .ok (.slice (some ⟨k, o1, none⟩) n1 cap1) W) (HM0 : ∀ W, Below w.heap.size w W → Calls Tryd.prog 62 #[.slice (some ⟨k, o1, none⟩) n1 cap1, .bool off] W fun e w' => e = .returned (.tuple #[.int .i64 s, .int .i64 u, .slice (some ⟨k, o2, none⟩) n2 cap2, .int .i64 x]) ∧ w' = W.drew) :
    Calls Tryd.prog 33 #[.int .i64 op, .slice (some ⟨k, o, none⟩) n cap, .bool off] w fun e w' => e = .returned (.tuple #[.agg #[.slice none 0 0, .int .i64 2, .string ⟨#[]⟩, .int .i64 0, .int .i64 0, .int .i64 0, .int .i64 op, .bool false, .int .i64 v, .int .i64 s, .int .i64 u, .int .i64 0, .string ⟨#[]⟩, .string ⟨#[]⟩], .int .i64 x]) ∧ Below w.heap.size w w' := by
  have HF := Lib.hid (fun w => L3.rform_at op 7 w hf)
  have HR := Lib.hid (fun w => rregister_at t0 v 0 w g1 g2)
  have HM := Lib.hid HM0
  clear hf g1 g2 HM0
  go_enter Tryd.func33, Tryd.ntmps33
  go_wp2_with (first | (go_at_call 30; ((with_reducible refine (HF.out _).mono ?_); rintro e w1 ⟨rfl, rfl⟩)) | (go_at_call 63; ((with_reducible refine (HR.out _).mono ?_); rintro e w1 ⟨rfl, rfl⟩)) | (go_at_call 62; ((with_reducible refine (HM.out _ (L2.bch (L8.bnew w _) (L8.bnew _ _))).mono ?_); rintro e w1 ⟨rfl, rfl⟩)))
  exact bodyPost_ret (v := .tuple #[.agg #[.slice none 0 0, .int .i64 2, .string ⟨#[]⟩, .int .i64 0, .int .i64 0, .int .i64 0, .int .i64 op, .bool false, .int .i64 v, .int .i64 s, .int .i64 u, .int .i64 0, .string ⟨#[]⟩, .string ⟨#[]⟩], .int .i64 x]) (by simp [results, Tryd.results33, go_sem]) rfl ⟨rfl, L9.bdrb (L2.bch (L8.bnew w _) (L8.bnew _ _))⟩
set_option maxHeartbeats 2000000 in
set_option maxRecDepth 100000 in
theorem rops_10 (op : Int) (k o n cap : Nat) (off : Bool) (w : World) (_ : k < w.heap.size) (hf : L3.frm (L3.ix op) = 10) (t0 : ByteArray) (_ : 0 < n) (_ : w.cell? ⟨k, o, none⟩ = some (.string t0)) (v : Int) (g1 : (reV t0).1 = v) (g2 : (reV t0).2 = 0) (t1 : ByteArray) (_ : 1 < n) (_ : w.cell? ⟨k, o + 1, none⟩ = some (.string t1)) (y z : Int) (hs : t1.size ≤ maxLen) (h1 : (nuV t1 64).1 = y) (h2 : (nuV t1 64).2 = z) :
    Calls Tryd.prog 33 #[.int .i64 op, .slice (some ⟨k, o, none⟩) n cap, .bool off] w fun e w' => e = .returned (.tuple #[.agg #[.slice none 0 0, .int .i64 2, .string ⟨#[]⟩, .int .i64 0, .int .i64 0, .int .i64 0, .int .i64 op, .bool false, .int .i64 v, .int .i64 0, .int .i64 0, .int .i64 y, .string ⟨#[]⟩, .string ⟨#[]⟩], .int .i64 z]) ∧ Below w.heap.size w w' := by
  have HF := Lib.hid (fun w => L3.rform_at op 10 w hf)
  have HR := Lib.hid (fun w => rregister_at t0 v 0 w g1 g2)
  have HP := Lib.hid (fun w => rnumber_at t1 64 y z w hs h1 h2)
  clear hf g1 g2 h1 h2
  go_enter Tryd.func33, Tryd.ntmps33
  go_wp2_with (first | (go_at_call 30; ((with_reducible refine (HF.out _).mono ?_); rintro e w1 ⟨rfl, rfl⟩)) | (go_at_call 63; ((with_reducible refine (HR.out _).mono ?_); rintro e w1 ⟨rfl, rfl⟩)) | (go_at_call 57; ((with_reducible refine (HP.out _).mono ?_); rintro e w1 ⟨rfl, rfl⟩)))
  exact bodyPost_ret (v := .tuple #[.agg #[.slice none 0 0, .int .i64 2, .string ⟨#[]⟩, .int .i64 0, .int .i64 0, .int .i64 0, .int .i64 op, .bool false, .int .i64 v, .int .i64 0, .int .i64 0, .int .i64 y, .string ⟨#[]⟩, .string ⟨#[]⟩], .int .i64 z]) (by simp [results, Tryd.results33, go_sem]) rfl ⟨rfl, L2.bch (L8.bnew w _) (L8.bnew _ _)⟩
set_option maxHeartbeats 2000000 in
set_option maxRecDepth 100000 in
theorem rops_11 (op : Int) (k o n cap : Nat) (off : Bool) (w : World) (_ : k < w.heap.size) (hf : L3.frm (L3.ix op) = 11) (t0 : ByteArray) (_ : 0 < n) (_ : w.cell? ⟨k, o, none⟩ = some (.string t0)) (v : Int) (g1 : (reV t0).1 = v) (g2 : (reV t0).2 = 0) (t1 : ByteArray) (_ : 1 < n) (_ : w.cell? ⟨k, o + 1, none⟩ = some (.string t1)) (x : Int) (hs : t1.size ≤ 9223372036854775807) (hx : naV t1 = x) :
    Calls Tryd.prog 33 #[.int .i64 op, .slice (some ⟨k, o, none⟩) n cap, .bool off] w fun e w' => e = .returned (.tuple #[.agg #[.slice none 0 0, .int .i64 2, .string ⟨#[]⟩, .int .i64 0, .int .i64 0, .int .i64 0, .int .i64 op, .bool false, .int .i64 v, .int .i64 0, .int .i64 0, .int .i64 0, .string ⟨#[]⟩, .string t1], .int .i64 x]) ∧ Below w.heap.size w w' := by
  have HF := Lib.hid (fun w => L3.rform_at op 11 w hf)
  have HR := Lib.hid (fun w => rregister_at t0 v 0 w g1 g2)
  have HP := Lib.hid (fun w => rnam_at t1 x w hs hx)
  clear hf g1 g2 hx
  go_enter Tryd.func33, Tryd.ntmps33
  go_wp2_with (first | (go_at_call 30; ((with_reducible refine (HF.out _).mono ?_); rintro e w1 ⟨rfl, rfl⟩)) | (go_at_call 63; ((with_reducible refine (HR.out _).mono ?_); rintro e w1 ⟨rfl, rfl⟩)) | (go_at_call 26; ((with_reducible refine (HP.out _).mono ?_); rintro e w1 ⟨rfl, rfl⟩)))
  exact bodyPost_ret (v := .tuple #[.agg #[.slice none 0 0, .int .i64 2, .string ⟨#[]⟩, .int .i64 0, .int .i64 0, .int .i64 0, .int .i64 op, .bool false, .int .i64 v, .int .i64 0, .int .i64 0, .int .i64 0, .string ⟨#[]⟩, .string t1], .int .i64 x]) (by simp [results, Tryd.results33, go_sem]) rfl ⟨rfl, L2.bch (L8.bnew w _) (L8.bnew _ _)⟩
end Go.Proofs.YtjcaonbejhdhkaaDoor.L9
