/- What put and get do: the bytes of a number, the least significant first, written and read. No condition but that the table of widths reads as laid. -/
import Derived.Test.YthebdblncafijaaDoorL1Base
import Derived.Test.YthebdblncafijaaDoorL3Get
import Derived.Deep.RegionHeld3
import Derived.Laws.BitsAllLaws
import Derived.Lib.EndianBits
namespace Go.Proofs.YthebdblncafijaaDoor
open Go.RowKit L3 L1

set_option maxHeartbeats 2000000 in
set_option maxRecDepth 100000 in
theorem put16_at (k o cap : Nat) (x a b : Int) (w : World) (cs : Array Value) (hk : w.heap[k]? = some (.cells cs 5)) (ho : o + 2 ≤ cs.size) (ha : x % 256 = a) (hb : x / 256 % 256 = b) :
    Calls Tryd.prog 26 #[.slice (some ⟨k, o, none⟩) 2 cap, .int .i16 x] w fun e w' => e = .returned (.tuple #[]) ∧ w' = (w.setCell ⟨k, o, none⟩ (.int .u8 a)).setCell ⟨k, o + 1, none⟩ (.int .u8 b) := by
  have c0 : w.cell? ⟨k, o, none⟩ = some (cs.getD (o) undef) := by simp [World.cell?, hk, show o < cs.size by omega]
  have f0 : w.frozen? ⟨k, o, none⟩ = false := by simp [World.frozen?, hk]
  generalize cs.getD (o) undef = u0 at c0
  have c1 : w.cell? ⟨k, o + 1, none⟩ = some (cs.getD (o + 1) undef) := by simp [World.cell?, hk, show o + 1 < cs.size by omega]
  have f1 : w.frozen? ⟨k, o + 1, none⟩ = false := by simp [World.frozen?, hk]
  generalize cs.getD (o + 1) undef = u1 at c1
  have Ha := Lib.hid ha
  have Hb := Lib.hid hb
  clear hk ho ha hb
  go_enter Tryd.func26, Tryd.ntmps26
  go_wp2
  refine wp_loop_rounds 3 ?_
  repeat (rw [rounds_succ]; go_wp2)
  go_end0
  exact ⟨rfl, by rw [Ha.out, Hb.out]⟩

set_option maxHeartbeats 2000000 in
set_option maxRecDepth 100000 in
theorem put32_at (k o cap : Nat) (x a b c d : Int) (w : World) (cs : Array Value) (hk : w.heap[k]? = some (.cells cs 5)) (ho : o + 4 ≤ cs.size) (ha : x % 256 = a) (hb : x / 256 % 256 = b) (hc : x / 256 / 256 % 256 = c) (hd : x / 256 / 256 / 256 % 256 = d) :
    Calls Tryd.prog 27 #[.slice (some ⟨k, o, none⟩) 4 cap, .int .i32 x] w fun e w' => e = .returned (.tuple #[]) ∧ w' = (((w.setCell ⟨k, o, none⟩ (.int .u8 a)).setCell ⟨k, o + 1, none⟩ (.int .u8 b)).setCell ⟨k, o + 2, none⟩ (.int .u8 c)).setCell ⟨k, o + 3, none⟩ (.int .u8 d) := by
  have c0 : w.cell? ⟨k, o, none⟩ = some (cs.getD (o) undef) := by simp [World.cell?, hk, show o < cs.size by omega]
  have f0 : w.frozen? ⟨k, o, none⟩ = false := by simp [World.frozen?, hk]
  generalize cs.getD (o) undef = u0 at c0
  have c1 : w.cell? ⟨k, o + 1, none⟩ = some (cs.getD (o + 1) undef) := by simp [World.cell?, hk, show o + 1 < cs.size by omega]
  have f1 : w.frozen? ⟨k, o + 1, none⟩ = false := by simp [World.frozen?, hk]
  generalize cs.getD (o + 1) undef = u1 at c1
  have c2 : w.cell? ⟨k, o + 2, none⟩ = some (cs.getD (o + 2) undef) := by simp [World.cell?, hk, show o + 2 < cs.size by omega]
  have f2 : w.frozen? ⟨k, o + 2, none⟩ = false := by simp [World.frozen?, hk]
  generalize cs.getD (o + 2) undef = u2 at c2
  have c3 : w.cell? ⟨k, o + 3, none⟩ = some (cs.getD (o + 3) undef) := by simp [World.cell?, hk, show o + 3 < cs.size by omega]
  have f3 : w.frozen? ⟨k, o + 3, none⟩ = false := by simp [World.frozen?, hk]
  generalize cs.getD (o + 3) undef = u3 at c3
  have Ha := Lib.hid ha
  have Hb := Lib.hid hb
  have Hc := Lib.hid hc
  have Hd := Lib.hid hd
  clear hk ho ha hb hc hd
  go_enter Tryd.func27, Tryd.ntmps27
  go_wp2
  refine wp_loop_rounds 5 ?_
  repeat (rw [rounds_succ]; go_wp2)
  go_end0
  exact ⟨rfl, by rw [Ha.out, Hb.out, Hc.out, Hd.out]⟩

theorem extend_is (x y b v : Int) (w : World) (hw : Wid w) (h : x = y) (h0 : 0 ≤ y) (h1 : y < 18446744073709551616) (hb : b = 8 ∨ b = 16 ∨ b = 32 ∨ b = 64) (hv : sx b y = v) :
    Calls Tryd.prog 59 #[.int .u64 x, .int .i64 b] w fun e w' => e = .returned (.int .i64 v) ∧ w = w' := by
  subst h; subst hv
  exact extend_yes x b w h0 h1 hw hb

theorem or2 (a b : UInt8) : bits .or .u64 (bits .or .u64 0 (a.toNat : Int)) ((b.toNat : Int) * 256) = (a.toNat : Int) * 1 + (b.toNat : Int) * 256 := by
  have ha := a.toNat_lt
  have hb := b.toNat_lt
  have e0 : bits .or .u64 0 (a.toNat : Int) = (a.toNat : Int) := by rw [u64_or 0 _ (by omega) (by omega) (by omega) (by omega)]; simp
  rw [e0, u64_or8 _ _ (by omega) (by omega) (by omega) (by omega) (by omega)]
  omega
theorem or4 (a b c d : UInt8) : bits .or .u64 (bits .or .u64 (bits .or .u64 (bits .or .u64 0 (a.toNat : Int)) ((b.toNat : Int) * 256)) ((c.toNat : Int) * 65536)) ((d.toNat : Int) * 16777216) = (a.toNat : Int) * 1 + (b.toNat : Int) * 256 + (c.toNat : Int) * 65536 + (d.toNat : Int) * 16777216 := by
  have ha := a.toNat_lt
  have hb := b.toNat_lt
  have hc := c.toNat_lt
  have hd := d.toNat_lt
  have e2 : bits .or .u64 ((a.toNat : Int) * 1 + (b.toNat : Int) * 256) ((c.toNat : Int) * 65536) = ((a.toNat : Int) * 1 + (b.toNat : Int) * 256) + (c.toNat : Int) * 65536 := u64_or16 _ _ (by omega) (by omega) (by omega) (by omega) (by omega)
  rw [or2, e2]
  exact u64_or24 _ _ (by omega) (by omega) (by omega) (by omega) (by omega)

set_option maxHeartbeats 2000000 in
set_option maxRecDepth 100000 in
theorem get2_at (k o cap : Nat) (c0 c1 : UInt8) (v : Int) (w : World) (hw : Wid w) (h0 : w.cell? ⟨k, o, none⟩ = some (.int .u8 (c0.toNat : Int))) (h1 : w.cell? ⟨k, o + 1, none⟩ = some (.int .u8 (c1.toNat : Int))) (hv : sx 16 ((c0.toNat : Int) * 1 + (c1.toNat : Int) * 256) = v) :
    Calls Tryd.prog 42 #[.slice (some ⟨k, o, none⟩) 2 cap] w fun e w' => e = .returned (.int .i64 v) ∧ w = w' := by
  have HW := Lib.hid hw
  have HV := Lib.hid hv
  clear hw hv
  have b0 := c0.toNat_lt
  have b1 := c1.toNat_lt
  go_enter Tryd.func42, Tryd.ntmps42
  go_wp2
  refine wp_loop_rounds 3 ?_
  repeat (rw [rounds_succ]; go_wp2_with (go_at_call 59; ((with_reducible refine (extend_is _ _ 16 v _ HW.out (or2 c0 c1) (by omega) (by omega) (by decide) HV.out).mono ?_); rintro e w' ⟨rfl, rfl⟩)))
  go_ret
  exact ⟨rfl, rfl⟩

set_option maxHeartbeats 2000000 in
set_option maxRecDepth 100000 in
theorem get4_at (k o cap : Nat) (c0 c1 c2 c3 : UInt8) (v : Int) (w : World) (hw : Wid w) (h0 : w.cell? ⟨k, o, none⟩ = some (.int .u8 (c0.toNat : Int))) (h1 : w.cell? ⟨k, o + 1, none⟩ = some (.int .u8 (c1.toNat : Int))) (h2 : w.cell? ⟨k, o + 2, none⟩ = some (.int .u8 (c2.toNat : Int))) (h3 : w.cell? ⟨k, o + 3, none⟩ = some (.int .u8 (c3.toNat : Int))) (hv : sx 32 ((c0.toNat : Int) * 1 + (c1.toNat : Int) * 256 + (c2.toNat : Int) * 65536 + (c3.toNat : Int) * 16777216) = v) :
    Calls Tryd.prog 42 #[.slice (some ⟨k, o, none⟩) 4 cap] w fun e w' => e = .returned (.int .i64 v) ∧ w = w' := by
  have HW := Lib.hid hw
  have HV := Lib.hid hv
  clear hw hv
  have b0 := c0.toNat_lt
  have b1 := c1.toNat_lt
  have b2 := c2.toNat_lt
  have b3 := c3.toNat_lt
  go_enter Tryd.func42, Tryd.ntmps42
  go_wp2
  refine wp_loop_rounds 5 ?_
  repeat (rw [rounds_succ]; go_wp2_with (go_at_call 59; ((with_reducible refine (extend_is _ _ 32 v _ HW.out (or4 c0 c1 c2 c3) (by omega) (by omega) (by decide) HV.out).mono ?_); rintro e w' ⟨rfl, rfl⟩)))
  go_ret
  exact ⟨rfl, rfl⟩

end Go.Proofs.YthebdblncafijaaDoor
