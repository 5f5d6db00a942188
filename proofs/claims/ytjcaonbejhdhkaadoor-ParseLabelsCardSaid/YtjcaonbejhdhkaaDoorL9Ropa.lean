/- What the reference's operands returns, form by form. Conditions: the operands are as many as the form asks for, and no longer than memory allows. -/
import Derived.Test.YtjcaonbejhdhkaaDoorL9Rmem
import Derived.StillTail
import Derived.StillTactics
import Derived.WalkSpells
import Derived.Deep.RegionWith
namespace Go.Proofs.YtjcaonbejhdhkaaDoor.L9
open Go.RowKit
attribute [local go_sem] Oper.semAt_some

theorem bdr {B : Nat} {w w' : World} (h : Below B w w') : Below B w w'.drew := ⟨h.1, h.2, h.3, h.4, h.5⟩
theorem bdn {B : Nat} {w w' : World} (h : Below B w w') (m : Nat) : Below B w (w'.drewN m) := ⟨h.1, h.2, h.3, h.4, h.5⟩
set_option maxHeartbeats 2000000 in
set_option maxRecDepth 100000 in
theorem rops_6 (op : Int) (v : Value) (off : Bool) (w : World) (hf : L3.frm (L3.ix op) = 6)  :
    Calls Tryd.prog 33 #[.int .i64 op, v, .bool off] w fun e w' => e = .returned (.tuple #[.agg #[.slice none 0 0, .int .i64 2, .string ⟨#[]⟩, .int .i64 0, .int .i64 0, .int .i64 0, .int .i64 op, .bool false, .int .i64 0, .int .i64 0, .int .i64 0, .int .i64 0, .string ⟨#[]⟩, .string ⟨#[]⟩], .int .i64 0]) ∧ Below w.heap.size w w' := by
  have HF := Lib.hid (fun w => L3.rform_at op 6 w hf)
  clear hf 
  go_enter Tryd.func33, Tryd.ntmps33
  go_wp2_with (first | (go_at_call 30; ((with_reducible refine (HF.out _).mono ?_); rintro e w1 ⟨rfl, rfl⟩)))
  exact bodyPost_ret (v := .tuple #[.agg #[.slice none 0 0, .int .i64 2, .string ⟨#[]⟩, .int .i64 0, .int .i64 0, .int .i64 0, .int .i64 op, .bool false, .int .i64 0, .int .i64 0, .int .i64 0, .int .i64 0, .string ⟨#[]⟩, .string ⟨#[]⟩], .int .i64 0]) (by simp [results, Tryd.results33, go_sem]) rfl ⟨rfl, L2.bch (L8.bnew w _) (L8.bnew _ _)⟩
set_option maxHeartbeats 2000000 in
set_option maxRecDepth 100000 in
theorem rops_3 (op : Int) (k o n cap : Nat) (off : Bool) (w : World) (_ : k < w.heap.size) (hf : L3.frm (L3.ix op) = 3) (t0 : ByteArray) (_ : 0 < n) (_ : w.cell? ⟨k, o, none⟩ = some (.string t0)) (x : Int) (hs : t0.size ≤ 9223372036854775807) (hx : naV t0 = x) :
    Calls Tryd.prog 33 #[.int .i64 op, .slice (some ⟨k, o, none⟩) n cap, .bool off] w fun e w' => e = .returned (.tuple #[.agg #[.slice none 0 0, .int .i64 2, .string ⟨#[]⟩, .int .i64 0, .int .i64 0, .int .i64 0, .int .i64 op, .bool false, .int .i64 0, .int .i64 0, .int .i64 0, .int .i64 0, .string t0, .string ⟨#[]⟩], .int .i64 x]) ∧ Below w.heap.size w w' := by
  have HF := Lib.hid (fun w => L3.rform_at op 3 w hf)
  have HP := Lib.hid (fun w => rnam_at t0 x w hs hx)
  clear hf hx
  go_enter Tryd.func33, Tryd.ntmps33
  go_upto_region 7 with (first | (go_at_call 30; ((with_reducible refine (HF.out _).mono ?_); rintro e w1 ⟨rfl, rfl⟩)) | (go_at_call 26; ((with_reducible refine (HP.out _).mono ?_); rintro e w1 ⟨rfl, rfl⟩)))
  refine wp_region_still_tail 5 (by kernel_rfl) (by kernel_rfl) ?_
  simp only [List.take_succ_cons, List.take_zero, List.drop_succ_cons, List.drop_zero]
  change wpStill _ _ (World.drew _) _ _ _
  repeat still_step
  still_call (((HP.out _).mono fun e w' h => ⟨h.1, h.2.symm⟩))
  repeat still_step
  refine wpStill_nil ?_
  change wpList _ _ _ _ _ (World.drew _)
  go_wp2_with (first | (go_at_call 30; ((with_reducible refine (HF.out _).mono ?_); rintro e w1 ⟨rfl, rfl⟩)) | (go_at_call 26; ((with_reducible refine (HP.out _).mono ?_); rintro e w1 ⟨rfl, rfl⟩)))
  exact bodyPost_ret (v := .tuple #[.agg #[.slice none 0 0, .int .i64 2, .string ⟨#[]⟩, .int .i64 0, .int .i64 0, .int .i64 0, .int .i64 op, .bool false, .int .i64 0, .int .i64 0, .int .i64 0, .int .i64 0, .string t0, .string ⟨#[]⟩], .int .i64 x]) (by simp [results, Tryd.results33, go_sem]) rfl ⟨rfl, L9.bdr (L2.bch (L8.bnew w _) (L8.bnew _ _))⟩
set_option maxHeartbeats 2000000 in
set_option maxRecDepth 100000 in
theorem rops_5z (op : Int) (k o n cap : Nat) (off : Bool) (w : World) (_ : k < w.heap.size) (hf : L3.frm (L3.ix op) = 5) (t0 : ByteArray) (_ : 0 < n) (_ : w.cell? ⟨k, o, none⟩ = some (.string t0)) (hx : heV t0 = 0) :
    Calls Tryd.prog 33 #[.int .i64 op, .slice (some ⟨k, o, none⟩) n cap, .bool off] w fun e w' => e = .returned (.tuple #[.agg #[.slice none 0 0, .int .i64 2, .string ⟨#[]⟩, .int .i64 0, .int .i64 0, .int .i64 0, .int .i64 op, .bool false, .int .i64 0, .int .i64 0, .int .i64 0, .int .i64 0, .string ⟨#[]⟩, .string ⟨#[]⟩], .int .i64 7]) ∧ Below w.heap.size w w' := by
  have HF := Lib.hid (fun w => L3.rform_at op 5 w hf)
  have HP := Lib.hid (fun w => rhelper_at t0 0 w hx)
  clear hf hx
  go_enter Tryd.func33, Tryd.ntmps33
  go_wp2_with (first | (go_at_call 30; ((with_reducible refine (HF.out _).mono ?_); rintro e w1 ⟨rfl, rfl⟩)) | (go_at_call 61; ((with_reducible refine (HP.out _).mono ?_); rintro e w1 ⟨rfl, rfl⟩)))
  exact bodyPost_ret (v := .tuple #[.agg #[.slice none 0 0, .int .i64 2, .string ⟨#[]⟩, .int .i64 0, .int .i64 0, .int .i64 0, .int .i64 op, .bool false, .int .i64 0, .int .i64 0, .int .i64 0, .int .i64 0, .string ⟨#[]⟩, .string ⟨#[]⟩], .int .i64 7]) (by simp [results, Tryd.results33, go_sem]) rfl ⟨rfl, L2.bch (L8.bnew w _) (L8.bnew _ _)⟩
set_option maxHeartbeats 2000000 in
set_option maxRecDepth 100000 in
theorem rops_5 (op : Int) (k o n cap : Nat) (off : Bool) (w : World) (_ : k < w.heap.size) (hf : L3.frm (L3.ix op) = 5) (t0 : ByteArray) (_ : 0 < n) (_ : w.cell? ⟨k, o, none⟩ = some (.string t0)) (x : Int) (_ : ¬ x = 0) (hx : heV t0 = x) :
    Calls Tryd.prog 33 #[.int .i64 op, .slice (some ⟨k, o, none⟩) n cap, .bool off] w fun e w' => e = .returned (.tuple #[.agg #[.slice none 0 0, .int .i64 2, .string ⟨#[]⟩, .int .i64 0, .int .i64 0, .int .i64 0, .int .i64 op, .bool false, .int .i64 0, .int .i64 0, .int .i64 0, .int .i64 x, .string ⟨#[]⟩, .string ⟨#[]⟩], .int .i64 0]) ∧ Below w.heap.size w w' := by
  have HF := Lib.hid (fun w => L3.rform_at op 5 w hf)
  have HP := Lib.hid (fun w => rhelper_at t0 x w hx)
  clear hf hx
  go_enter Tryd.func33, Tryd.ntmps33
  go_wp2_with (first | (go_at_call 30; ((with_reducible refine (HF.out _).mono ?_); rintro e w1 ⟨rfl, rfl⟩)) | (go_at_call 61; ((with_reducible refine (HP.out _).mono ?_); rintro e w1 ⟨rfl, rfl⟩)))
  exact bodyPost_ret (v := .tuple #[.agg #[.slice none 0 0, .int .i64 2, .string ⟨#[]⟩, .int .i64 0, .int .i64 0, .int .i64 0, .int .i64 op, .bool false, .int .i64 0, .int .i64 0, .int .i64 0, .int .i64 x, .string ⟨#[]⟩, .string ⟨#[]⟩], .int .i64 0]) (by simp [results, Tryd.results33, go_sem]) rfl ⟨rfl, L2.bch (L8.bnew w _) (L8.bnew _ _)⟩
set_option maxHeartbeats 2000000 in
set_option maxRecDepth 100000 in
theorem rops_me8 (op : Int) (k o n cap : Nat) (off : Bool) (w : World) (_ : k < w.heap.size) (hf : L3.frm (L3.ix op) = 8) (v u x : Int) (o2 n2 cap2 : Nat) (HM0 : ∀ W, Below w.heap.size w W → Calls Tryd.prog 62 #[.slice (some ⟨k, o, none⟩) n cap, .bool off] W fun e w' => e = .returned (.tuple #[.int .i64 v, .int .i64 u, .slice (some ⟨k, o2, none⟩) n2 cap2, .int .i64 x]) ∧ w' = W.drew) (_ : ¬ x = 0) :
    Calls Tryd.prog 33 #[.int .i64 op, .slice (some ⟨k, o, none⟩) n cap, .bool off] w fun e w' => e = .returned (.tuple #[.agg #[.slice none 0 0, .int .i64 2, .string ⟨#[]⟩, .int .i64 0, .int .i64 0, .int .i64 0, .int .i64 op, .bool false, .int .i64 v, .int .i64 0, .int .i64 u, .int .i64 0, .string ⟨#[]⟩, .string ⟨#[]⟩], .int .i64 x]) ∧ Below w.heap.size w w' := by
  have HF := Lib.hid (fun w => L3.rform_at op 8 w hf)
  have HM := Lib.hid HM0
  clear hf HM0
  go_enter Tryd.func33, Tryd.ntmps33
  go_wp2_with (first | (go_at_call 30; ((with_reducible refine (HF.out _).mono ?_); rintro e w1 ⟨rfl, rfl⟩)) | (go_at_call 62; ((with_reducible refine (HM.out _ (L2.bch (L8.bnew w _) (L8.bnew _ _))).mono ?_); rintro e w1 ⟨rfl, rfl⟩)))
  exact bodyPost_ret (v := .tuple #[.agg #[.slice none 0 0, .int .i64 2, .string ⟨#[]⟩, .int .i64 0, .int .i64 0, .int .i64 0, .int .i64 op, .bool false, .int .i64 v, .int .i64 0, .int .i64 u, .int .i64 0, .string ⟨#[]⟩, .string ⟨#[]⟩], .int .i64 x]) (by simp [results, Tryd.results33, go_sem]) rfl ⟨rfl, L9.bdr (L2.bch (L8.bnew w _) (L8.bnew _ _))⟩
set_option maxHeartbeats 2000000 in
set_option maxRecDepth 100000 in
theorem rops_me9 (op : Int) (k o n cap : Nat) (off : Bool) (w : World) (_ : k < w.heap.size) (hf : L3.frm (L3.ix op) = 9) (v u x : Int) (o2 n2 cap2 : Nat) (HM0 : ∀ W, Below w.heap.size w W → Calls Tryd.prog 62 #[.slice (some ⟨k, o, none⟩) n cap, .bool off] W fun e w' => e = .returned (.tuple #[.int .i64 v, .int .i64 u, .slice (some ⟨k, o2, none⟩) n2 cap2, .int .i64 x]) ∧ w' = W.drew) (_ : ¬ x = 0) :
    Calls Tryd.prog 33 #[.int .i64 op, .slice (some ⟨k, o, none⟩) n cap, .bool off] w fun e w' => e = .returned (.tuple #[.agg #[.slice none 0 0, .int .i64 2, .string ⟨#[]⟩, .int .i64 0, .int .i64 0, .int .i64 0, .int .i64 op, .bool false, .int .i64 v, .int .i64 0, .int .i64 u, .int .i64 0, .string ⟨#[]⟩, .string ⟨#[]⟩], .int .i64 x]) ∧ Below w.heap.size w w' := by
  have HF := Lib.hid (fun w => L3.rform_at op 9 w hf)
  have HM := Lib.hid HM0
  clear hf HM0
  go_enter Tryd.func33, Tryd.ntmps33
  go_wp2_with (first | (go_at_call 30; ((with_reducible refine (HF.out _).mono ?_); rintro e w1 ⟨rfl, rfl⟩)) | (go_at_call 62; ((with_reducible refine (HM.out _ (L2.bch (L8.bnew w _) (L8.bnew _ _))).mono ?_); rintro e w1 ⟨rfl, rfl⟩)))
  exact bodyPost_ret (v := .tuple #[.agg #[.slice none 0 0, .int .i64 2, .string ⟨#[]⟩, .int .i64 0, .int .i64 0, .int .i64 0, .int .i64 op, .bool false, .int .i64 v, .int .i64 0, .int .i64 u, .int .i64 0, .string ⟨#[]⟩, .string ⟨#[]⟩], .int .i64 x]) (by simp [results, Tryd.results33, go_sem]) rfl ⟨rfl, L9.bdr (L2.bch (L8.bnew w _) (L8.bnew _ _))⟩
set_option maxHeartbeats 2000000 in
set_option maxRecDepth 100000 in
theorem rops_8 (op : Int) (k o n cap : Nat) (off : Bool) (w : World) (_ : k < w.heap.size) (hf : L3.frm (L3.ix op) = 8) (v u x : Int) (o2 n2 cap2 : Nat) (HM0 : ∀ W, Below w.heap.size w W → Calls Tryd.prog 62 #[.slice (some ⟨k, o, none⟩) n cap, .bool off] W fun e w' => e = .returned (.tuple #[.int .i64 v, .int .i64 u, .slice (some ⟨k, o2, none⟩) n2 cap2, .int .i64 x]) ∧ w' = W.drew) (hx : x = 0) (t : ByteArray) (_ : 0 < n2) (_ : w.cell? ⟨k, o2, none⟩ = some (.string t)) (y z : Int) (hs : t.size ≤ maxLen) (h1 : (nuV t 32).1 = y) (h2 : (nuV t 32).2 = z) :
    Calls Tryd.prog 33 #[.int .i64 op, .slice (some ⟨k, o, none⟩) n cap, .bool off] w fun e w' => e = .returned (.tuple #[.agg #[.slice none 0 0, .int .i64 2, .string ⟨#[]⟩, .int .i64 0, .int .i64 0, .int .i64 0, .int .i64 op, .bool false, .int .i64 v, .int .i64 0, .int .i64 u, .int .i64 y, .string ⟨#[]⟩, .string ⟨#[]⟩], .int .i64 z]) ∧ Below w.heap.size w w' := by
  have HF := Lib.hid (fun w => L3.rform_at op 8 w hf)
  have HM := Lib.hid HM0
  have HP := Lib.hid (fun w => rnumber_at t 32 y z w hs h1 h2)
  clear hf HM0 h1 h2
  go_enter Tryd.func33, Tryd.ntmps33
  go_wp2_with (first | (go_at_call 30; ((with_reducible refine (HF.out _).mono ?_); rintro e w1 ⟨rfl, rfl⟩)) | (go_at_call 62; ((with_reducible refine (HM.out _ (L2.bch (L8.bnew w _) (L8.bnew _ _))).mono ?_); rintro e w1 ⟨rfl, rfl⟩)) | (go_at_call 57; ((with_reducible refine (HP.out _).mono ?_); rintro e w1 ⟨rfl, rfl⟩)))
  exact bodyPost_ret (v := .tuple #[.agg #[.slice none 0 0, .int .i64 2, .string ⟨#[]⟩, .int .i64 0, .int .i64 0, .int .i64 0, .int .i64 op, .bool false, .int .i64 v, .int .i64 0, .int .i64 u, .int .i64 y, .string ⟨#[]⟩, .string ⟨#[]⟩], .int .i64 z]) (by simp [results, Tryd.results33, go_sem]) rfl ⟨rfl, L9.bdr (L2.bch (L8.bnew w _) (L8.bnew _ _))⟩
set_option maxHeartbeats 2000000 in
set_option maxRecDepth 100000 in
theorem rops_9 (op : Int) (k o n cap : Nat) (off : Bool) (w : World) (_ : k < w.heap.size) (hf : L3.frm (L3.ix op) = 9) (v u x : Int) (o2 n2 cap2 : Nat) (HM0 : ∀ W, Below w.heap.size w W → Calls Tryd.prog 62 #[.slice (some ⟨k, o, none⟩) n cap, .bool off] W fun e w' => e = .returned (.tuple #[.int .i64 v, .int .i64 u, .slice (some ⟨k, o2, none⟩) n2 cap2, .int .i64 x]) ∧ w' = W.drew) (hx : x = 0) (t : ByteArray) (_ : 0 < n2) (_ : w.cell? ⟨k, o2, none⟩ = some (.string t)) (y z : Int) (h1 : (reV t).1 = y) (h2 : (reV t).2 = z) :
    Calls Tryd.prog 33 #[.int .i64 op, .slice (some ⟨k, o, none⟩) n cap, .bool off] w fun e w' => e = .returned (.tuple #[.agg #[.slice none 0 0, .int .i64 2, .string ⟨#[]⟩, .int .i64 0, .int .i64 0, .int .i64 0, .int .i64 op, .bool false, .int .i64 v, .int .i64 y, .int .i64 u, .int .i64 0, .string ⟨#[]⟩, .string ⟨#[]⟩], .int .i64 z]) ∧ Below w.heap.size w w' := by
  have HF := Lib.hid (fun w => L3.rform_at op 9 w hf)
  have HM := Lib.hid HM0
  have HP := Lib.hid (fun w => rregister_at t y z w h1 h2)
  clear hf HM0 h1 h2
  go_enter Tryd.func33, Tryd.ntmps33
  go_wp2_with (first | (go_at_call 30; ((with_reducible refine (HF.out _).mono ?_); rintro e w1 ⟨rfl, rfl⟩)) | (go_at_call 62; ((with_reducible refine (HM.out _ (L2.bch (L8.bnew w _) (L8.bnew _ _))).mono ?_); rintro e w1 ⟨rfl, rfl⟩)) | (go_at_call 63; ((with_reducible refine (HP.out _).mono ?_); rintro e w1 ⟨rfl, rfl⟩)))
  exact bodyPost_ret (v := .tuple #[.agg #[.slice none 0 0, .int .i64 2, .string ⟨#[]⟩, .int .i64 0, .int .i64 0, .int .i64 0, .int .i64 op, .bool false, .int .i64 v, .int .i64 y, .int .i64 u, .int .i64 0, .string ⟨#[]⟩, .string ⟨#[]⟩], .int .i64 z]) (by simp [results, Tryd.results33, go_sem]) rfl ⟨rfl, L9.bdr (L2.bch (L8.bnew w _) (L8.bnew _ _))⟩
end Go.Proofs.YtjcaonbejhdhkaaDoor.L9
