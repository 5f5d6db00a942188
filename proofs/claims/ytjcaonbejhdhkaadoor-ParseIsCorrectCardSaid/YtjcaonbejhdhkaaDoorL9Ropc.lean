/- What the reference's operands returns, form by form. Conditions: the operands are as many as the form asks for, and no longer than memory allows. -/
import Derived.Test.YtjcaonbejhdhkaaDoorL9Rmem
import Derived.StillTail
import Derived.StillTactics
import Derived.WalkSpells
import Derived.Deep.RegionWith
namespace Go.Proofs.YtjcaonbejhdhkaaDoor.L9
open Go.RowKit
attribute [local go_sem] Oper.semAt_some

theorem bdrc {B : Nat} {w w' : World} (h : Below B w w') : Below B w w'.drew := ⟨h.1, h.2, h.3, h.4, h.5⟩
theorem bdnc {B : Nat} {w w' : World} (h : Below B w w') (m : Nat) : Below B w (w'.drewN m) := ⟨h.1, h.2, h.3, h.4, h.5⟩
set_option maxHeartbeats 2000000 in
set_option maxRecDepth 100000 in
theorem rops_0z (op : Int) (k o n cap : Nat) (off : Bool) (w : World) (_ : k < w.heap.size) (hf : L3.frm (L3.ix op) = 0) (t0 : ByteArray) (_ : 0 < n) (_ : w.cell? ⟨k, o, none⟩ = some (.string t0)) (v : Int) (g1 : (reV t0).1 = v) (g2 : (reV t0).2 = 0) (t1 : ByteArray) (_ : 1 < n) (_ : w.cell? ⟨k, o + 1, none⟩ = some (.string t1)) (rg : Bool) (sr im z : Int) (HS0 : ∀ W, Calls Tryd.prog 64 #[.agg #[.int .i64 op, .bool false, .int .i64 v, .int .i64 0, .int .i64 0, .int .i64 0], .string t1] W fun e w' => e = .returned (.tuple #[.agg #[.int .i64 op, .bool rg, .int .i64 v, .int .i64 sr, .int .i64 0, .int .i64 im], .int .i64 z]) ∧ w' = (W.alloc (.cells #[.int .i64 op, .bool rg, .int .i64 v, .int .i64 sr, .int .i64 0, .int .i64 im] 31)).alloc (.cells #[.int .i64 op, .bool rg, .int .i64 v, .int .i64 sr, .int .i64 0, .int .i64 im] 31)) (hz : z = 0) :
    Calls Tryd.prog 33 #[.int .i64 op, .slice (some ⟨k, o, none⟩) n cap, .bool off] w fun e w' => e = .returned (.tuple #[.agg #[.slice none 0 0, .int .i64 2, .string ⟨#[]⟩, .int .i64 0, .int .i64 0, .int .i64 0, .int .i64 op, .bool rg, .int .i64 v, .int .i64 sr, .int .i64 0, .int .i64 im, .string ⟨#[]⟩, .string ⟨#[]⟩], .int .i64 0]) ∧ Below w.heap.size w w' := by
  have HF := Lib.hid (fun w => L3.rform_at op 0 w hf)
  have HR := Lib.hid (fun w => rregister_at t0 v 0 w g1 g2)
  have HS := Lib.hid HS0
  have i0 : (0 : Int) < (n : Int) := by omega
  have i1 : (1 : Int) < (n : Int) := by omega
  subst hz
  clear hf g1 g2 HS0
  go_enter Tryd.func33, Tryd.ntmps33
  go_upto_region 30 with (first | (go_at_call 30; ((with_reducible refine (HF.out _).mono ?_); rintro e w1 ⟨rfl, rfl⟩)) | (go_at_call 63; ((with_reducible refine (HR.out _).mono ?_); rintro e w1 ⟨rfl, rfl⟩)) | (go_at_call 64; ((with_reducible refine (HS.out _).mono ?_); rintro e w1 ⟨rfl, rfl⟩)))
  go_region_with (go_at_call 64; ((with_reducible refine (HS.out _).mono ?_); rintro e w1 ⟨rfl, rfl⟩))
  all_goals go_wp2
  all_goals go_wp2_with (first | (go_at_call 30; ((with_reducible refine (HF.out _).mono ?_); rintro e w1 ⟨rfl, rfl⟩)) | (go_at_call 63; ((with_reducible refine (HR.out _).mono ?_); rintro e w1 ⟨rfl, rfl⟩)) | (go_at_call 64; ((with_reducible refine (HS.out _).mono ?_); rintro e w1 ⟨rfl, rfl⟩)))
  all_goals exact bodyPost_ret (v := .tuple #[.agg #[.slice none 0 0, .int .i64 2, .string ⟨#[]⟩, .int .i64 0, .int .i64 0, .int .i64 0, .int .i64 op, .bool rg, .int .i64 v, .int .i64 sr, .int .i64 0, .int .i64 im, .string ⟨#[]⟩, .string ⟨#[]⟩], .int .i64 0]) (by simp [results, Tryd.results33, go_sem]) rfl ⟨rfl, L9.bdrc (L2.bch (L2.bch (L2.bch (L8.bnew w _) (L8.bnew _ _)) (L8.bnew _ _)) (L8.bnew _ _))⟩
set_option maxHeartbeats 2000000 in
set_option maxRecDepth 100000 in
theorem rops_0 (op : Int) (k o n cap : Nat) (off : Bool) (w : World) (_ : k < w.heap.size) (hf : L3.frm (L3.ix op) = 0) (t0 : ByteArray) (_ : 0 < n) (_ : w.cell? ⟨k, o, none⟩ = some (.string t0)) (v : Int) (g1 : (reV t0).1 = v) (g2 : (reV t0).2 = 0) (t1 : ByteArray) (_ : 1 < n) (_ : w.cell? ⟨k, o + 1, none⟩ = some (.string t1)) (rg : Bool) (sr im z : Int) (HS0 : ∀ W, Calls Tryd.prog 64 #[.agg #[.int .i64 op, .bool false, .int .i64 v, .int .i64 0, .int .i64 0, .int .i64 0], .string t1] W fun e w' => e = .returned (.tuple #[.agg #[.int .i64 op, .bool rg, .int .i64 v, .int .i64 sr, .int .i64 0, .int .i64 im], .int .i64 z]) ∧ w' = (W.alloc (.cells #[.int .i64 op, .bool rg, .int .i64 v, .int .i64 sr, .int .i64 0, .int .i64 im] 31)).alloc (.cells #[.int .i64 op, .bool rg, .int .i64 v, .int .i64 sr, .int .i64 0, .int .i64 im] 31)) (_ : ¬ z = 0) :
    Calls Tryd.prog 33 #[.int .i64 op, .slice (some ⟨k, o, none⟩) n cap, .bool off] w fun e w' => e = .returned (.tuple #[.agg #[.slice none 0 0, .int .i64 2, .string ⟨#[]⟩, .int .i64 0, .int .i64 0, .int .i64 0, .int .i64 op, .bool rg, .int .i64 v, .int .i64 sr, .int .i64 0, .int .i64 im, .string ⟨#[]⟩, .string ⟨#[]⟩], .int .i64 z]) ∧ Below w.heap.size w w' := by
  have HF := Lib.hid (fun w => L3.rform_at op 0 w hf)
  have HR := Lib.hid (fun w => rregister_at t0 v 0 w g1 g2)
  have HS := Lib.hid HS0
  have i0 : (0 : Int) < (n : Int) := by omega
  have i1 : (1 : Int) < (n : Int) := by omega
  clear hf g1 g2 HS0
  go_enter Tryd.func33, Tryd.ntmps33
  go_upto_region 30 with (first | (go_at_call 30; ((with_reducible refine (HF.out _).mono ?_); rintro e w1 ⟨rfl, rfl⟩)) | (go_at_call 63; ((with_reducible refine (HR.out _).mono ?_); rintro e w1 ⟨rfl, rfl⟩)) | (go_at_call 64; ((with_reducible refine (HS.out _).mono ?_); rintro e w1 ⟨rfl, rfl⟩)))
  go_region_with (go_at_call 64; ((with_reducible refine (HS.out _).mono ?_); rintro e w1 ⟨rfl, rfl⟩))
  all_goals go_wp2
  all_goals go_wp2_with (first | (go_at_call 30; ((with_reducible refine (HF.out _).mono ?_); rintro e w1 ⟨rfl, rfl⟩)) | (go_at_call 63; ((with_reducible refine (HR.out _).mono ?_); rintro e w1 ⟨rfl, rfl⟩)) | (go_at_call 64; ((with_reducible refine (HS.out _).mono ?_); rintro e w1 ⟨rfl, rfl⟩)))
  all_goals exact bodyPost_ret (v := .tuple #[.agg #[.slice none 0 0, .int .i64 2, .string ⟨#[]⟩, .int .i64 0, .int .i64 0, .int .i64 0, .int .i64 op, .bool rg, .int .i64 v, .int .i64 sr, .int .i64 0, .int .i64 im, .string ⟨#[]⟩, .string ⟨#[]⟩], .int .i64 z]) (by simp [results, Tryd.results33, go_sem]) rfl ⟨rfl, L9.bdrc (L2.bch (L2.bch (L2.bch (L8.bnew w _) (L8.bnew _ _)) (L8.bnew _ _)) (L8.bnew _ _))⟩
set_option maxHeartbeats 2000000 in
set_option maxRecDepth 100000 in
theorem rops_4e (op : Int) (k o n cap : Nat) (off : Bool) (w : World) (_ : k < w.heap.size) (hf : L3.frm (L3.ix op) = 4) (t0 : ByteArray) (_ : 0 < n) (_ : w.cell? ⟨k, o, none⟩ = some (.string t0)) (v : Int) (g1 : (reV t0).1 = v) (g2 : (reV t0).2 = 0) (t1 : ByteArray) (_ : 1 < n) (_ : w.cell? ⟨k, o + 1, none⟩ = some (.string t1)) (rg : Bool) (sr im z : Int) (HS0 : ∀ W, Calls Tryd.prog 64 #[.agg #[.int .i64 op, .bool false, .int .i64 v, .int .i64 0, .int .i64 0, .int .i64 0], .string t1] W fun e w' => e = .returned (.tuple #[.agg #[.int .i64 op, .bool rg, .int .i64 v, .int .i64 sr, .int .i64 0, .int .i64 im], .int .i64 z]) ∧ w' = (W.alloc (.cells #[.int .i64 op, .bool rg, .int .i64 v, .int .i64 sr, .int .i64 0, .int .i64 im] 31)).alloc (.cells #[.int .i64 op, .bool rg, .int .i64 v, .int .i64 sr, .int .i64 0, .int .i64 im] 31)) (_ : ¬ z = 0) :
    Calls Tryd.prog 33 #[.int .i64 op, .slice (some ⟨k, o, none⟩) n cap, .bool off] w fun e w' => e = .returned (.tuple #[.agg #[.slice none 0 0, .int .i64 2, .string ⟨#[]⟩, .int .i64 0, .int .i64 0, .int .i64 0, .int .i64 op, .bool rg, .int .i64 v, .int .i64 sr, .int .i64 0, .int .i64 im, .string ⟨#[]⟩, .string ⟨#[]⟩], .int .i64 z]) ∧ Below w.heap.size w w' := by
  have HF := Lib.hid (fun w => L3.rform_at op 4 w hf)
  have HR := Lib.hid (fun w => rregister_at t0 v 0 w g1 g2)
  have HS := Lib.hid HS0
  have i0 : (0 : Int) < (n : Int) := by omega
  have i1 : (1 : Int) < (n : Int) := by omega
  clear hf g1 g2 HS0
  go_enter Tryd.func33, Tryd.ntmps33
  go_upto_region 30 with (first | (go_at_call 30; ((with_reducible refine (HF.out _).mono ?_); rintro e w1 ⟨rfl, rfl⟩)) | (go_at_call 63; ((with_reducible refine (HR.out _).mono ?_); rintro e w1 ⟨rfl, rfl⟩)) | (go_at_call 64; ((with_reducible refine (HS.out _).mono ?_); rintro e w1 ⟨rfl, rfl⟩)))
  go_region_with (go_at_call 64; ((with_reducible refine (HS.out _).mono ?_); rintro e w1 ⟨rfl, rfl⟩))
  all_goals go_wp2
  all_goals go_wp2_with (first | (go_at_call 30; ((with_reducible refine (HF.out _).mono ?_); rintro e w1 ⟨rfl, rfl⟩)) | (go_at_call 63; ((with_reducible refine (HR.out _).mono ?_); rintro e w1 ⟨rfl, rfl⟩)) | (go_at_call 64; ((with_reducible refine (HS.out _).mono ?_); rintro e w1 ⟨rfl, rfl⟩)))
  all_goals exact bodyPost_ret (v := .tuple #[.agg #[.slice none 0 0, .int .i64 2, .string ⟨#[]⟩, .int .i64 0, .int .i64 0, .int .i64 0, .int .i64 op, .bool rg, .int .i64 v, .int .i64 sr, .int .i64 0, .int .i64 im, .string ⟨#[]⟩, .string ⟨#[]⟩], .int .i64 z]) (by simp [results, Tryd.results33, go_sem]) rfl ⟨rfl, L9.bdrc (L2.bch (L2.bch (L2.bch (L8.bnew w _) (L8.bnew _ _)) (L8.bnew _ _)) (L8.bnew _ _))⟩
set_option maxHeartbeats 2000000 in
set_option maxRecDepth 100000 in
theorem rops_4 (op : Int) (k o n cap : Nat) (off : Bool) (w : World) (_ : k < w.heap.size) (hf : L3.frm (L3.ix op) = 4) (t0 : ByteArray) (_ : 0 < n) (_ : w.cell? ⟨k, o, none⟩ = some (.string t0)) (v : Int) (g1 : (reV t0).1 = v) (g2 : (reV t0).2 = 0) (t1 : ByteArray) (_ : 1 < n) (_ : w.cell? ⟨k, o + 1, none⟩ = some (.string t1))(t2 : ByteArray) (_ : 2 < n) (_ : w.cell? ⟨k, o + 2, none⟩ = some (.string t2)) (rg : Bool) (sr im z : Int) (HS0 : ∀ W, Calls Tryd.prog 64 #[.agg #[.int .i64 op, .bool false, .int .i64 v, .int .i64 0, .int .i64 0, .int .i64 0], .string t1] W fun e w' => e = .returned (.tuple #[.agg #[.int .i64 op, .bool rg, .int .i64 v, .int .i64 sr, .int .i64 0, .int .i64 im], .int .i64 z]) ∧ w' = (W.alloc (.cells #[.int .i64 op, .bool rg, .int .i64 v, .int .i64 sr, .int .i64 0, .int .i64 im] 31)).alloc (.cells #[.int .i64 op, .bool rg, .int .i64 v, .int .i64 sr, .int .i64 0, .int .i64 im] 31)) (hz : z = 0) (x : Int) (hs : t2.size ≤ 9223372036854775807) (hx : naV t2 = x) :
    Calls Tryd.prog 33 #[.int .i64 op, .slice (some ⟨k, o, none⟩) n cap, .bool off] w fun e w' => e = .returned (.tuple #[.agg #[.slice none 0 0, .int .i64 2, .string ⟨#[]⟩, .int .i64 0, .int .i64 0, .int .i64 0, .int .i64 op, .bool rg, .int .i64 v, .int .i64 sr, .int .i64 0, .int .i64 im, .string t2, .string ⟨#[]⟩], .int .i64 x]) ∧ Below w.heap.size w w' := by
  have HF := Lib.hid (fun w => L3.rform_at op 4 w hf)
  have HR := Lib.hid (fun w => rregister_at t0 v 0 w g1 g2)
  have HS := Lib.hid HS0
  have i0 : (0 : Int) < (n : Int) := by omega
  have i1 : (1 : Int) < (n : Int) := by omega
  subst hz
  have HP := Lib.hid (fun w => rnam_at t2 x w hs hx)
  have q2 : ∀ A B C D : Obj, ((((w.alloc A).alloc B).alloc C).alloc D).drew.cell? ⟨k, o + 2, none⟩ = some (.string t2) := fun A B C D => ((L9.bdrc (L2.bch (L2.bch (L2.bch (L8.bnew w A) (L8.bnew _ B)) (L8.bnew _ C)) (L8.bnew _ D))).cell (p := ⟨k, o + 2, none⟩) (by assumption)).trans (by assumption)
  have i2 : (2 : Int) < (n : Int) := by omega
  clear hf g1 g2 HS0 hx
  go_enter Tryd.func33, Tryd.ntmps33
  go_upto_region 30 with (first | (go_at_call 30; ((with_reducible refine (HF.out _).mono ?_); rintro e w1 ⟨rfl, rfl⟩)) | (go_at_call 63; ((with_reducible refine (HR.out _).mono ?_); rintro e w1 ⟨rfl, rfl⟩)) | (go_at_call 64; ((with_reducible refine (HS.out _).mono ?_); rintro e w1 ⟨rfl, rfl⟩)) | (go_at_call 26; ((with_reducible refine (HP.out _).mono ?_); rintro e w1 ⟨rfl, rfl⟩)))
  go_region_with (go_at_call 64; ((with_reducible refine (HS.out _).mono ?_); rintro e w1 ⟨rfl, rfl⟩))
  all_goals go_wp2_with (first | (go_at_call 30; ((with_reducible refine (HF.out _).mono ?_); rintro e w1 ⟨rfl, rfl⟩)) | (go_at_call 63; ((with_reducible refine (HR.out _).mono ?_); rintro e w1 ⟨rfl, rfl⟩)) | (go_at_call 64; ((with_reducible refine (HS.out _).mono ?_); rintro e w1 ⟨rfl, rfl⟩)) | (go_at_call 26; ((with_reducible refine (HP.out _).mono ?_); rintro e w1 ⟨rfl, rfl⟩)))
  all_goals exact bodyPost_ret (v := .tuple #[.agg #[.slice none 0 0, .int .i64 2, .string ⟨#[]⟩, .int .i64 0, .int .i64 0, .int .i64 0, .int .i64 op, .bool rg, .int .i64 v, .int .i64 sr, .int .i64 0, .int .i64 im, .string t2, .string ⟨#[]⟩], .int .i64 x]) (by simp [results, Tryd.results33, go_sem]) rfl ⟨rfl, L9.bdrc (L2.bch (L2.bch (L2.bch (L8.bnew w _) (L8.bnew _ _)) (L8.bnew _ _)) (L8.bnew _ _))⟩
end Go.Proofs.YtjcaonbejhdhkaaDoor.L9
