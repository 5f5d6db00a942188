/- What the reference's Parse returns, for every text and number of bits: the same as num.Parse; it leaves memory alone. -/
import Derived.Test.YthkkdkccadomkaaDoorRead
namespace Go.Proofs.YthkkdkccadomkaaDoor
open Go.RowKit

theorem read_at (s : ByteArray) (w : World) (hs : s.size ≤ maxLen) (c : Bool) (r : Option (Nat × Bool)) (hc : Lib.hasPrefix s.data.toList [45] = c) (hr : us (Lib.trimPrefix s.data.toList [45]) = r) :
    Calls Tryd.prog 27 #[.string s] w fun e w' => e = .returned (rdV c r) ∧ w = w' := by
  subst hc; subst hr; exact read_any s w hs

set_option maxRecDepth 100000 in
set_option maxHeartbeats 1000000 in
theorem rparse_none (s : ByteArray) (b : Int) (w : World) (hs : s.size ≤ maxLen) (hu : us (Lib.trimPrefix s.data.toList [45]) = none) :
    Calls Tryd.prog 11 #[.string s, .int .i64 b] w fun e w' => e = .returned (.tuple #[.int .i64 0, .int .i64 3]) ∧ w = w' := by
  have HU := Lib.hid hu
  clear hu
  go_enter Tryd.func11, Tryd.ntmps11
  go_wp2_with (go_at_call 27; refine (read_at s _ hs _ _ rfl HU.out).mono ?_; rintro e w' ⟨rfl, rfl⟩; unfold rdV)
  go_ret2
  exact ⟨rfl, rfl⟩

set_option maxRecDepth 100000 in
set_option maxHeartbeats 1000000 in
theorem rparse_nw (s : ByteArray) (b : Int) (w : World) (hs : s.size ≤ maxLen) (v : Nat) (o : Bool) (hu : us (Lib.trimPrefix s.data.toList [45]) = some (v, o)) (hb : isW b = false) :
    Calls Tryd.prog 11 #[.string s, .int .i64 b] w fun e w' => e = .returned (.tuple #[.int .i64 0, .int .i64 4]) ∧ w = w' := by
  have HU := Lib.hid hu
  have HB := Lib.hid hb
  clear hu hb
  go_enter Tryd.func11, Tryd.ntmps11
  go_wp2_with (first | (go_at_call 27; refine (read_at s _ hs _ _ rfl HU.out).mono ?_; rintro e w' ⟨rfl, rfl⟩; unfold rdV) | (go_at_call 22; refine (width_is _ _ false HB.out).mono ?_; rintro e w' ⟨rfl, rfl⟩))
  go_ret2
  exact ⟨rfl, rfl⟩

set_option maxRecDepth 100000 in
set_option maxHeartbeats 1000000 in
theorem rparse_over (s : ByteArray) (b : Int) (w : World) (hs : s.size ≤ maxLen) (v : Nat) (hu : us (Lib.trimPrefix s.data.toList [45]) = some (v, true)) (hb : isW b = true) :
    Calls Tryd.prog 11 #[.string s, .int .i64 b] w fun e w' => e = .returned (.tuple #[.int .i64 0, .int .i64 4]) ∧ w = w' := by
  have HU := Lib.hid hu
  have HB := Lib.hid hb
  clear hu hb
  go_enter Tryd.func11, Tryd.ntmps11
  go_wp2_with (first | (go_at_call 27; refine (read_at s _ hs _ _ rfl HU.out).mono ?_; rintro e w' ⟨rfl, rfl⟩; unfold rdV) | (go_at_call 22; refine (width_is _ _ true HB.out).mono ?_; rintro e w' ⟨rfl, rfl⟩))
  go_ret2
  exact ⟨rfl, rfl⟩

set_option maxRecDepth 100000 in
set_option maxHeartbeats 1000000 in
theorem rparse_big8t (s : ByteArray) (w : World) (hs : s.size ≤ maxLen) (v : Nat) (hu : us (Lib.trimPrefix s.data.toList [45]) = some (v, false)) (hp : Lib.hasPrefix s.data.toList [45] = true) (hg : 128 < v) :
    Calls Tryd.prog 11 #[.string s, .int .i64 8] w fun e w' => e = .returned (.tuple #[.int .i64 0, .int .i64 4]) ∧ w = w' := by
  have HU := Lib.hid hu
  have HP := Lib.hid hp
  clear hu hp
  go_enter Tryd.func11, Tryd.ntmps11
  go_wp2_with (first | (go_at_call 27; refine (read_at s _ hs _ _ HP.out HU.out).mono ?_; rintro e w' ⟨rfl, rfl⟩; unfold rdV) | (go_at_call 22; refine (width_is _ _ true (by decide)).mono ?_; rintro e w' ⟨rfl, rfl⟩) | (go_at_call 28; refine (power_at 7 7 128 _ rfl (by decide) rfl).mono ?_; rintro e w' ⟨rfl, rfl⟩))
  go_ret2
  exact ⟨rfl, rfl⟩

set_option maxRecDepth 100000 in
set_option maxHeartbeats 1000000 in
theorem rparse_ok8t (s : ByteArray) (w : World) (hs : s.size ≤ maxLen) (v : Nat) (hu : us (Lib.trimPrefix s.data.toList [45]) = some (v, false)) (hp : Lib.hasPrefix s.data.toList [45] = true) (hg : v ≤ 128) :
    Calls Tryd.prog 11 #[.string s, .int .i64 8] w fun e w' => e = .returned (.tuple #[.int .i64 (sx 8 (-(v : Int))), .int .i64 0]) ∧ w = w' := by
  have HU := Lib.hid hu
  have HP := Lib.hid hp
  clear hu hp
  have hx0 : 0 ≤ IntKind.u64.wrap (-(v : Int)) := by rw [IntKind.wrap_u64]; omega
  have hx1 : IntKind.u64.wrap (-(v : Int)) < 18446744073709551616 := by rw [IntKind.wrap_u64]; omega
  go_enter Tryd.func11, Tryd.ntmps11
  go_wp2_with (first | (go_at_call 27; refine (read_at s _ hs _ _ HP.out HU.out).mono ?_; rintro e w' ⟨rfl, rfl⟩; unfold rdV) | (go_at_call 22; refine (width_is _ _ true (by decide)).mono ?_; rintro e w' ⟨rfl, rfl⟩) | (go_at_call 28; refine (power_at 7 7 128 _ rfl (by decide) rfl).mono ?_; rintro e w' ⟨rfl, rfl⟩) | (go_at_call 20; refine (rextend_yes _ _ _ (by omega) (by omega) (by decide)).mono ?_; rintro e w' ⟨rfl, rfl⟩))
  go_ret2
  exact ⟨ret_two (by show sx 8 (IntKind.u64.wrap (-(v : Int))) = sx 8 (-(v : Int)); rw [IntKind.wrap_u64, sx_mod]), rfl⟩

set_option maxRecDepth 100000 in
set_option maxHeartbeats 1000000 in
theorem rparse_big8f (s : ByteArray) (w : World) (hs : s.size ≤ maxLen) (v : Nat) (hu : us (Lib.trimPrefix s.data.toList [45]) = some (v, false)) (hp : Lib.hasPrefix s.data.toList [45] = false) (hg : 256 ≤ v) :
    Calls Tryd.prog 11 #[.string s, .int .i64 8] w fun e w' => e = .returned (.tuple #[.int .i64 0, .int .i64 4]) ∧ w = w' := by
  have HU := Lib.hid hu
  have HP := Lib.hid hp
  have hg' : decide ((256 : Int) ≤ (v : Int)) = true := decide_eq_true (by omega)
  clear hu hp hg
  go_enter Tryd.func11, Tryd.ntmps11
  go_wp2_with (first | (go_at_call 27; refine (read_at s _ hs _ _ HP.out HU.out).mono ?_; rintro e w' ⟨rfl, rfl⟩; unfold rdV) | (go_at_call 22; refine (width_is _ _ true (by decide)).mono ?_; rintro e w' ⟨rfl, rfl⟩) | (go_at_call 28; refine (power_at 8 8 256 _ rfl (by decide) rfl).mono ?_; rintro e w' ⟨rfl, rfl⟩))
  go_ret2
  exact ⟨rfl, rfl⟩

set_option maxRecDepth 100000 in
set_option maxHeartbeats 1000000 in
theorem rparse_ok8f (s : ByteArray) (w : World) (hs : s.size ≤ maxLen) (v : Nat) (hu : us (Lib.trimPrefix s.data.toList [45]) = some (v, false)) (hp : Lib.hasPrefix s.data.toList [45] = false) (hg : v < 256) :
    Calls Tryd.prog 11 #[.string s, .int .i64 8] w fun e w' => e = .returned (.tuple #[.int .i64 (sx 8 ((v : Int))), .int .i64 0]) ∧ w = w' := by
  have HU := Lib.hid hu
  have HP := Lib.hid hp
  have hg' : decide ((256 : Int) ≤ (v : Int)) = false := decide_eq_false (by omega)
  have hv := us_lt _ hu
  clear hu hp hg
  go_enter Tryd.func11, Tryd.ntmps11
  go_wp2_with (first | (go_at_call 27; refine (read_at s _ hs _ _ HP.out HU.out).mono ?_; rintro e w' ⟨rfl, rfl⟩; unfold rdV) | (go_at_call 22; refine (width_is _ _ true (by decide)).mono ?_; rintro e w' ⟨rfl, rfl⟩) | (go_at_call 28; refine (power_at 8 8 256 _ rfl (by decide) rfl).mono ?_; rintro e w' ⟨rfl, rfl⟩) | (go_at_call 20; refine (rextend_yes _ _ _ (by omega) (by omega) (by decide)).mono ?_; rintro e w' ⟨rfl, rfl⟩))
  go_ret2
  exact ⟨rfl, rfl⟩

set_option maxRecDepth 100000 in
set_option maxHeartbeats 1000000 in
theorem rparse_big16t (s : ByteArray) (w : World) (hs : s.size ≤ maxLen) (v : Nat) (hu : us (Lib.trimPrefix s.data.toList [45]) = some (v, false)) (hp : Lib.hasPrefix s.data.toList [45] = true) (hg : 32768 < v) :
    Calls Tryd.prog 11 #[.string s, .int .i64 16] w fun e w' => e = .returned (.tuple #[.int .i64 0, .int .i64 4]) ∧ w = w' := by
  have HU := Lib.hid hu
  have HP := Lib.hid hp
  clear hu hp
  go_enter Tryd.func11, Tryd.ntmps11
  go_wp2_with (first | (go_at_call 27; refine (read_at s _ hs _ _ HP.out HU.out).mono ?_; rintro e w' ⟨rfl, rfl⟩; unfold rdV) | (go_at_call 22; refine (width_is _ _ true (by decide)).mono ?_; rintro e w' ⟨rfl, rfl⟩) | (go_at_call 28; refine (power_at 15 15 32768 _ rfl (by decide) rfl).mono ?_; rintro e w' ⟨rfl, rfl⟩))
  go_ret2
  exact ⟨rfl, rfl⟩

set_option maxRecDepth 100000 in
set_option maxHeartbeats 1000000 in
theorem rparse_ok16t (s : ByteArray) (w : World) (hs : s.size ≤ maxLen) (v : Nat) (hu : us (Lib.trimPrefix s.data.toList [45]) = some (v, false)) (hp : Lib.hasPrefix s.data.toList [45] = true) (hg : v ≤ 32768) :
    Calls Tryd.prog 11 #[.string s, .int .i64 16] w fun e w' => e = .returned (.tuple #[.int .i64 (sx 16 (-(v : Int))), .int .i64 0]) ∧ w = w' := by
  have HU := Lib.hid hu
  have HP := Lib.hid hp
  clear hu hp
  have hx0 : 0 ≤ IntKind.u64.wrap (-(v : Int)) := by rw [IntKind.wrap_u64]; omega
  have hx1 : IntKind.u64.wrap (-(v : Int)) < 18446744073709551616 := by rw [IntKind.wrap_u64]; omega
  go_enter Tryd.func11, Tryd.ntmps11
  go_wp2_with (first | (go_at_call 27; refine (read_at s _ hs _ _ HP.out HU.out).mono ?_; rintro e w' ⟨rfl, rfl⟩; unfold rdV) | (go_at_call 22; refine (width_is _ _ true (by decide)).mono ?_; rintro e w' ⟨rfl, rfl⟩) | (go_at_call 28; refine (power_at 15 15 32768 _ rfl (by decide) rfl).mono ?_; rintro e w' ⟨rfl, rfl⟩) | (go_at_call 20; refine (rextend_yes _ _ _ (by omega) (by omega) (by decide)).mono ?_; rintro e w' ⟨rfl, rfl⟩))
  go_ret2
  exact ⟨ret_two (by show sx 16 (IntKind.u64.wrap (-(v : Int))) = sx 16 (-(v : Int)); rw [IntKind.wrap_u64, sx_mod]), rfl⟩

set_option maxRecDepth 100000 in
set_option maxHeartbeats 1000000 in
theorem rparse_big16f (s : ByteArray) (w : World) (hs : s.size ≤ maxLen) (v : Nat) (hu : us (Lib.trimPrefix s.data.toList [45]) = some (v, false)) (hp : Lib.hasPrefix s.data.toList [45] = false) (hg : 65536 ≤ v) :
    Calls Tryd.prog 11 #[.string s, .int .i64 16] w fun e w' => e = .returned (.tuple #[.int .i64 0, .int .i64 4]) ∧ w = w' := by
  have HU := Lib.hid hu
  have HP := Lib.hid hp
  have hg' : decide ((65536 : Int) ≤ (v : Int)) = true := decide_eq_true (by omega)
  clear hu hp hg
  go_enter Tryd.func11, Tryd.ntmps11
  go_wp2_with (first | (go_at_call 27; refine (read_at s _ hs _ _ HP.out HU.out).mono ?_; rintro e w' ⟨rfl, rfl⟩; unfold rdV) | (go_at_call 22; refine (width_is _ _ true (by decide)).mono ?_; rintro e w' ⟨rfl, rfl⟩) | (go_at_call 28; refine (power_at 16 16 65536 _ rfl (by decide) rfl).mono ?_; rintro e w' ⟨rfl, rfl⟩))
  go_ret2
  exact ⟨rfl, rfl⟩

set_option maxRecDepth 100000 in
set_option maxHeartbeats 1000000 in
theorem rparse_ok16f (s : ByteArray) (w : World) (hs : s.size ≤ maxLen) (v : Nat) (hu : us (Lib.trimPrefix s.data.toList [45]) = some (v, false)) (hp : Lib.hasPrefix s.data.toList [45] = false) (hg : v < 65536) :
    Calls Tryd.prog 11 #[.string s, .int .i64 16] w fun e w' => e = .returned (.tuple #[.int .i64 (sx 16 ((v : Int))), .int .i64 0]) ∧ w = w' := by
  have HU := Lib.hid hu
  have HP := Lib.hid hp
  have hg' : decide ((65536 : Int) ≤ (v : Int)) = false := decide_eq_false (by omega)
  have hv := us_lt _ hu
  clear hu hp hg
  go_enter Tryd.func11, Tryd.ntmps11
  go_wp2_with (first | (go_at_call 27; refine (read_at s _ hs _ _ HP.out HU.out).mono ?_; rintro e w' ⟨rfl, rfl⟩; unfold rdV) | (go_at_call 22; refine (width_is _ _ true (by decide)).mono ?_; rintro e w' ⟨rfl, rfl⟩) | (go_at_call 28; refine (power_at 16 16 65536 _ rfl (by decide) rfl).mono ?_; rintro e w' ⟨rfl, rfl⟩) | (go_at_call 20; refine (rextend_yes _ _ _ (by omega) (by omega) (by decide)).mono ?_; rintro e w' ⟨rfl, rfl⟩))
  go_ret2
  exact ⟨rfl, rfl⟩

set_option maxRecDepth 100000 in
set_option maxHeartbeats 1000000 in
theorem rparse_big32t (s : ByteArray) (w : World) (hs : s.size ≤ maxLen) (v : Nat) (hu : us (Lib.trimPrefix s.data.toList [45]) = some (v, false)) (hp : Lib.hasPrefix s.data.toList [45] = true) (hg : 2147483648 < v) :
    Calls Tryd.prog 11 #[.string s, .int .i64 32] w fun e w' => e = .returned (.tuple #[.int .i64 0, .int .i64 4]) ∧ w = w' := by
  have HU := Lib.hid hu
  have HP := Lib.hid hp
  clear hu hp
  go_enter Tryd.func11, Tryd.ntmps11
  go_wp2_with (first | (go_at_call 27; refine (read_at s _ hs _ _ HP.out HU.out).mono ?_; rintro e w' ⟨rfl, rfl⟩; unfold rdV) | (go_at_call 22; refine (width_is _ _ true (by decide)).mono ?_; rintro e w' ⟨rfl, rfl⟩) | (go_at_call 28; refine (power_at 31 31 2147483648 _ rfl (by decide) rfl).mono ?_; rintro e w' ⟨rfl, rfl⟩))
  go_ret2
  exact ⟨rfl, rfl⟩

set_option maxRecDepth 100000 in
set_option maxHeartbeats 1000000 in
theorem rparse_ok32t (s : ByteArray) (w : World) (hs : s.size ≤ maxLen) (v : Nat) (hu : us (Lib.trimPrefix s.data.toList [45]) = some (v, false)) (hp : Lib.hasPrefix s.data.toList [45] = true) (hg : v ≤ 2147483648) :
    Calls Tryd.prog 11 #[.string s, .int .i64 32] w fun e w' => e = .returned (.tuple #[.int .i64 (sx 32 (-(v : Int))), .int .i64 0]) ∧ w = w' := by
  have HU := Lib.hid hu
  have HP := Lib.hid hp
  clear hu hp
  have hx0 : 0 ≤ IntKind.u64.wrap (-(v : Int)) := by rw [IntKind.wrap_u64]; omega
  have hx1 : IntKind.u64.wrap (-(v : Int)) < 18446744073709551616 := by rw [IntKind.wrap_u64]; omega
  go_enter Tryd.func11, Tryd.ntmps11
  go_wp2_with (first | (go_at_call 27; refine (read_at s _ hs _ _ HP.out HU.out).mono ?_; rintro e w' ⟨rfl, rfl⟩; unfold rdV) | (go_at_call 22; refine (width_is _ _ true (by decide)).mono ?_; rintro e w' ⟨rfl, rfl⟩) | (go_at_call 28; refine (power_at 31 31 2147483648 _ rfl (by decide) rfl).mono ?_; rintro e w' ⟨rfl, rfl⟩) | (go_at_call 20; refine (rextend_yes _ _ _ (by omega) (by omega) (by decide)).mono ?_; rintro e w' ⟨rfl, rfl⟩))
  go_ret2
  exact ⟨ret_two (by show sx 32 (IntKind.u64.wrap (-(v : Int))) = sx 32 (-(v : Int)); rw [IntKind.wrap_u64, sx_mod]), rfl⟩

set_option maxRecDepth 100000 in
set_option maxHeartbeats 1000000 in
theorem rparse_big32f (s : ByteArray) (w : World) (hs : s.size ≤ maxLen) (v : Nat) (hu : us (Lib.trimPrefix s.data.toList [45]) = some (v, false)) (hp : Lib.hasPrefix s.data.toList [45] = false) (hg : 4294967296 ≤ v) :
    Calls Tryd.prog 11 #[.string s, .int .i64 32] w fun e w' => e = .returned (.tuple #[.int .i64 0, .int .i64 4]) ∧ w = w' := by
  have HU := Lib.hid hu
  have HP := Lib.hid hp
  have hg' : decide ((4294967296 : Int) ≤ (v : Int)) = true := decide_eq_true (by omega)
  clear hu hp hg
  go_enter Tryd.func11, Tryd.ntmps11
  go_wp2_with (first | (go_at_call 27; refine (read_at s _ hs _ _ HP.out HU.out).mono ?_; rintro e w' ⟨rfl, rfl⟩; unfold rdV) | (go_at_call 22; refine (width_is _ _ true (by decide)).mono ?_; rintro e w' ⟨rfl, rfl⟩) | (go_at_call 28; refine (power_at 32 32 4294967296 _ rfl (by decide) rfl).mono ?_; rintro e w' ⟨rfl, rfl⟩))
  go_ret2
  exact ⟨rfl, rfl⟩

set_option maxRecDepth 100000 in
set_option maxHeartbeats 1000000 in
theorem rparse_ok32f (s : ByteArray) (w : World) (hs : s.size ≤ maxLen) (v : Nat) (hu : us (Lib.trimPrefix s.data.toList [45]) = some (v, false)) (hp : Lib.hasPrefix s.data.toList [45] = false) (hg : v < 4294967296) :
    Calls Tryd.prog 11 #[.string s, .int .i64 32] w fun e w' => e = .returned (.tuple #[.int .i64 (sx 32 ((v : Int))), .int .i64 0]) ∧ w = w' := by
  have HU := Lib.hid hu
  have HP := Lib.hid hp
  have hg' : decide ((4294967296 : Int) ≤ (v : Int)) = false := decide_eq_false (by omega)
  have hv := us_lt _ hu
  clear hu hp hg
  go_enter Tryd.func11, Tryd.ntmps11
  go_wp2_with (first | (go_at_call 27; refine (read_at s _ hs _ _ HP.out HU.out).mono ?_; rintro e w' ⟨rfl, rfl⟩; unfold rdV) | (go_at_call 22; refine (width_is _ _ true (by decide)).mono ?_; rintro e w' ⟨rfl, rfl⟩) | (go_at_call 28; refine (power_at 32 32 4294967296 _ rfl (by decide) rfl).mono ?_; rintro e w' ⟨rfl, rfl⟩) | (go_at_call 20; refine (rextend_yes _ _ _ (by omega) (by omega) (by decide)).mono ?_; rintro e w' ⟨rfl, rfl⟩))
  go_ret2
  exact ⟨rfl, rfl⟩

set_option maxRecDepth 100000 in
set_option maxHeartbeats 1000000 in
theorem rparse_big64t (s : ByteArray) (w : World) (hs : s.size ≤ maxLen) (v : Nat) (hu : us (Lib.trimPrefix s.data.toList [45]) = some (v, false)) (hp : Lib.hasPrefix s.data.toList [45] = true) (hg : 9223372036854775808 < v) :
    Calls Tryd.prog 11 #[.string s, .int .i64 64] w fun e w' => e = .returned (.tuple #[.int .i64 0, .int .i64 4]) ∧ w = w' := by
  have HU := Lib.hid hu
  have HP := Lib.hid hp
  clear hu hp
  go_enter Tryd.func11, Tryd.ntmps11
  go_wp2_with (first | (go_at_call 27; refine (read_at s _ hs _ _ HP.out HU.out).mono ?_; rintro e w' ⟨rfl, rfl⟩; unfold rdV) | (go_at_call 22; refine (width_is _ _ true (by decide)).mono ?_; rintro e w' ⟨rfl, rfl⟩) | (go_at_call 28; refine (power_at 63 63 9223372036854775808 _ rfl (by decide) rfl).mono ?_; rintro e w' ⟨rfl, rfl⟩))
  go_ret2
  exact ⟨rfl, rfl⟩

set_option maxRecDepth 100000 in
set_option maxHeartbeats 1000000 in
theorem rparse_ok64t (s : ByteArray) (w : World) (hs : s.size ≤ maxLen) (v : Nat) (hu : us (Lib.trimPrefix s.data.toList [45]) = some (v, false)) (hp : Lib.hasPrefix s.data.toList [45] = true) (hg : v ≤ 9223372036854775808) :
    Calls Tryd.prog 11 #[.string s, .int .i64 64] w fun e w' => e = .returned (.tuple #[.int .i64 (sx 64 (-(v : Int))), .int .i64 0]) ∧ w = w' := by
  have HU := Lib.hid hu
  have HP := Lib.hid hp
  clear hu hp
  have hx0 : 0 ≤ IntKind.u64.wrap (-(v : Int)) := by rw [IntKind.wrap_u64]; omega
  have hx1 : IntKind.u64.wrap (-(v : Int)) < 18446744073709551616 := by rw [IntKind.wrap_u64]; omega
  go_enter Tryd.func11, Tryd.ntmps11
  go_wp2_with (first | (go_at_call 27; refine (read_at s _ hs _ _ HP.out HU.out).mono ?_; rintro e w' ⟨rfl, rfl⟩; unfold rdV) | (go_at_call 22; refine (width_is _ _ true (by decide)).mono ?_; rintro e w' ⟨rfl, rfl⟩) | (go_at_call 28; refine (power_at 63 63 9223372036854775808 _ rfl (by decide) rfl).mono ?_; rintro e w' ⟨rfl, rfl⟩) | (go_at_call 20; refine (rextend_yes _ _ _ (by omega) (by omega) (by decide)).mono ?_; rintro e w' ⟨rfl, rfl⟩))
  go_ret2
  exact ⟨ret_two (by show sx 64 (IntKind.u64.wrap (-(v : Int))) = sx 64 (-(v : Int)); rw [IntKind.wrap_u64, sx_mod]), rfl⟩

set_option maxRecDepth 100000 in
set_option maxHeartbeats 1000000 in
theorem rparse_ok64f (s : ByteArray) (w : World) (hs : s.size ≤ maxLen) (v : Nat) (hu : us (Lib.trimPrefix s.data.toList [45]) = some (v, false)) (hp : Lib.hasPrefix s.data.toList [45] = false) (hg : v < 18446744073709551616) :
    Calls Tryd.prog 11 #[.string s, .int .i64 64] w fun e w' => e = .returned (.tuple #[.int .i64 (sx 64 ((v : Int))), .int .i64 0]) ∧ w = w' := by
  have HU := Lib.hid hu
  have HP := Lib.hid hp
  clear hu hp
  go_enter Tryd.func11, Tryd.ntmps11
  go_wp2_with (first | (go_at_call 27; refine (read_at s _ hs _ _ HP.out HU.out).mono ?_; rintro e w' ⟨rfl, rfl⟩; unfold rdV) | (go_at_call 22; refine (width_is _ _ true (by decide)).mono ?_; rintro e w' ⟨rfl, rfl⟩) | (go_at_call 20; refine (rextend_yes _ _ _ (by omega) (by omega) (by decide)).mono ?_; rintro e w' ⟨rfl, rfl⟩))
  go_ret2
  exact ⟨rfl, rfl⟩

theorem rparse_any (s : ByteArray) (b : Int) (w : World) (hs : s.size ≤ maxLen) :
    Calls Tryd.prog 11 #[.string s, .int .i64 b] w fun e w' => e = .returned (.tuple #[.int .i64 (ps s.data.toList b).1, .int .i64 (ps s.data.toList b).2]) ∧ w = w' := by
  unfold ps
  cases hu : us (Lib.trimPrefix s.data.toList [45]) with
  | none => exact rparse_none s b w hs hu
  | some r =>
    obtain ⟨v, o⟩ := r
    have hv := us_lt _ hu
    cases hb : isW b with
    | false => exact rparse_nw s b w hs v o hu hb
    | true =>
      cases o with
      | true => exact rparse_over s b w hs v hu hb
      | false =>
        rcases isW_cases hb with rfl | rfl | rfl | rfl <;> cases hp : Lib.hasPrefix s.data.toList [45]
        · by_cases hg : (v : Int) ≤ gr false 8
          · have hg' : (v : Int) ≤ 255 := hg
            have := rparse_ok8f s w hs v hu hp (by omega)
            simpa [hg] using this
          · have hg' : ¬ (v : Int) ≤ 255 := hg
            have := rparse_big8f s w hs v hu hp (by omega)
            simpa [hg] using this
        · by_cases hg : (v : Int) ≤ gr true 8
          · have hg' : (v : Int) ≤ 128 := hg
            have := rparse_ok8t s w hs v hu hp (by omega)
            simpa [hg] using this
          · have hg' : ¬ (v : Int) ≤ 128 := hg
            have := rparse_big8t s w hs v hu hp (by omega)
            simpa [hg] using this
        · by_cases hg : (v : Int) ≤ gr false 16
          · have hg' : (v : Int) ≤ 65535 := hg
            have := rparse_ok16f s w hs v hu hp (by omega)
            simpa [hg] using this
          · have hg' : ¬ (v : Int) ≤ 65535 := hg
            have := rparse_big16f s w hs v hu hp (by omega)
            simpa [hg] using this
        · by_cases hg : (v : Int) ≤ gr true 16
          · have hg' : (v : Int) ≤ 32768 := hg
            have := rparse_ok16t s w hs v hu hp (by omega)
            simpa [hg] using this
          · have hg' : ¬ (v : Int) ≤ 32768 := hg
            have := rparse_big16t s w hs v hu hp (by omega)
            simpa [hg] using this
        · by_cases hg : (v : Int) ≤ gr false 32
          · have hg' : (v : Int) ≤ 4294967295 := hg
            have := rparse_ok32f s w hs v hu hp (by omega)
            simpa [hg] using this
          · have hg' : ¬ (v : Int) ≤ 4294967295 := hg
            have := rparse_big32f s w hs v hu hp (by omega)
            simpa [hg] using this
        · by_cases hg : (v : Int) ≤ gr true 32
          · have hg' : (v : Int) ≤ 2147483648 := hg
            have := rparse_ok32t s w hs v hu hp (by omega)
            simpa [hg] using this
          · have hg' : ¬ (v : Int) ≤ 2147483648 := hg
            have := rparse_big32t s w hs v hu hp (by omega)
            simpa [hg] using this
        · have hg : (v : Int) ≤ gr false 64 := by rw [show gr false 64 = 18446744073709551615 from rfl]; omega
          have := rparse_ok64f s w hs v hu hp (by omega)
          simpa [hg] using this
        · by_cases hg : (v : Int) ≤ gr true 64
          · have hg' : (v : Int) ≤ 9223372036854775808 := hg
            have := rparse_ok64t s w hs v hu hp (by omega)
            simpa [hg] using this
          · have hg' : ¬ (v : Int) ≤ 9223372036854775808 := hg
            have := rparse_big64t s w hs v hu hp (by omega)
            simpa [hg] using this
end Go.Proofs.YthkkdkccadomkaaDoor
