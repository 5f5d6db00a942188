/- The examples of the chapter hold (slotcodelaw01.alive returns true), where the two tables read as the program's text lays them. -/
import Derived.Test.YthkkdkccadomkaaDoorHex
import Derived.Test.YthkkdkccadomkaaDoorParse
namespace Go.Proofs.YthkkdkccadomkaaDoor
open Go.RowKit Go.Sort

/-- The tables that the laws read, as the program's text lays them. -/
structure Tabs (w : World) : Prop where
  wid : Wid w
  tab : Lib.TabIs Tryd.prog w "internal/strconv.uint64pow10" .u64 Lib.pow10Tab
  two : 1 < w.heap.size

theorem gPow : Tryd.prog.globalNamed "internal/strconv.uint64pow10" = some 1 := by kernel_rfl

theorem Tabs.below {w w' : World} (h : Tabs w) (hb : Below w.heap.size w w') : Tabs w' :=
  ⟨h.wid.below hb h.wid.lt, var?_below hb gPow h.two h.tab, Nat.lt_of_lt_of_le h.two hb.size⟩

theorem below_grow {w : World} {k : Nat} {os : Array Obj} : Below w.heap.size w (grow (w.drewN k) os) :=
  ⟨rfl, rfl, rfl, by simp [grow], fun k' hk => heap_grow_old (w.drewN k) os hk⟩

theorem format_any (n : Int) (h0 : -9223372036854775808 ≤ n) (h1 : n ≤ 9223372036854775807) (w : World) (ht : Tabs w) :
    Calls Tryd.prog 12 #[.int .i64 n] w fun e w' => e = .returned (.string ⟨(Lib.itoa n).toArray⟩) ∧ Below w.heap.size w w' := by
  go_enter Tryd.func12, Tryd.ntmps12
  go_wp2_with (go_at_call 29; refine (Tryd.strconv_FormatInt_10 n h0 h1 _ ht.tab).mono ?_; rintro e w' ⟨rfl, k, os, rfl⟩)
  go_ret
  exact ⟨rfl, below_grow⟩

theorem alive_p1 (w : World) (ht : Tabs w) : Calls Tryd.prog 10 #[.string ⟨#[54, 53, 53, 51, 53]⟩, .int .i64 16] w fun e w' => e = .returned (.tuple #[.int .i64 (-1), .int .i64 0]) ∧ Below w.heap.size w w' := by
  have := parse_any ⟨#[54, 53, 53, 51, 53]⟩ 16 w ht.wid
  rwa [show ps (ByteArray.data ⟨#[54, 53, 53, 51, 53]⟩).toList 16 = (-1, 0) from by decide] at this
theorem alive_p2 (w : World) (ht : Tabs w) : Calls Tryd.prog 10 #[.string ⟨#[48, 120, 70, 70, 70, 70]⟩, .int .i64 16] w fun e w' => e = .returned (.tuple #[.int .i64 (-1), .int .i64 0]) ∧ Below w.heap.size w w' := by
  have := parse_any ⟨#[48, 120, 70, 70, 70, 70]⟩ 16 w ht.wid
  rwa [show ps (ByteArray.data ⟨#[48, 120, 70, 70, 70, 70]⟩).toList 16 = (-1, 0) from by decide] at this
theorem alive_p3 (w : World) (ht : Tabs w) : Calls Tryd.prog 10 #[.string ⟨#[45, 49]⟩, .int .i64 16] w fun e w' => e = .returned (.tuple #[.int .i64 (-1), .int .i64 0]) ∧ Below w.heap.size w w' := by
  have := parse_any ⟨#[45, 49]⟩ 16 w ht.wid
  rwa [show ps (ByteArray.data ⟨#[45, 49]⟩).toList 16 = (-1, 0) from by decide] at this
theorem alive_p4 (w : World) (ht : Tabs w) : Calls Tryd.prog 10 #[.string ⟨#[54, 53, 53, 51, 54]⟩, .int .i64 16] w fun e w' => e = .returned (.tuple #[.int .i64 0, .int .i64 4]) ∧ Below w.heap.size w w' := by
  have := parse_any ⟨#[54, 53, 53, 51, 54]⟩ 16 w ht.wid
  rwa [show ps (ByteArray.data ⟨#[54, 53, 53, 51, 54]⟩).toList 16 = (0, 4) from by decide] at this
theorem alive_p5 (w : World) (ht : Tabs w) : Calls Tryd.prog 10 #[.string ⟨#[48, 120]⟩, .int .i64 16] w fun e w' => e = .returned (.tuple #[.int .i64 0, .int .i64 3]) ∧ Below w.heap.size w w' := by
  have := parse_any ⟨#[48, 120]⟩ 16 w ht.wid
  rwa [show ps (ByteArray.data ⟨#[48, 120]⟩).toList 16 = (0, 3) from by decide] at this
theorem alive_f (w : World) (ht : Tabs w) : Calls Tryd.prog 12 #[.int .i64 (-12)] w fun e w' => e = .returned (.string ⟨#[45, 49, 50]⟩) ∧ Below w.heap.size w w' := by
  have := format_any (-12) (by decide) (by decide) w ht
  rwa [show Lib.itoa (-12) = [45, 49, 50] from by rw [Lib.itoa, if_pos (by decide), show (-12 : Int).natAbs = 12 from rfl, Lib.decDigits_two (by decide) (by decide)]; rfl] at this
theorem alive_h (b : Nat) (cap : Nat) (w : World) (h0 : w.heap[b]? = some (.cells #[.int .u8 1, .int .u8 171] 5 (0, 0))) : Calls Tryd.prog 14 #[.slice (some ⟨b, 0, none⟩) 2 cap] w fun e w' => e = .returned (.string ⟨#[48, 49, 97, 98]⟩) ∧ Below w.heap.size w w' := by
  have := hex_any b 0 2 cap [1, 171] w rfl (by decide) (lt_of_block h0) (fun j hj => by
    match j, hj with
    | 0, _ => exact (cell_of_two h0).1
    | 1, _ => exact (cell_of_two h0).2.1)
  rwa [show (⟨(hexOf [1, 171]).toArray⟩ : ByteArray) = ⟨#[48, 49, 97, 98]⟩ from by decide] at this
theorem alive_e (w : World) (ht : Tabs w) : Calls Tryd.prog 19 #[.int .u64 128, .int .i64 8] w fun e w' => e = .returned (.int .i64 (-128)) ∧ w = w' :=
  extend_yes 128 8 w (by decide) (by decide) ht.wid (by decide)
theorem alive_g (w : World) (ht : Tabs w) : Calls Tryd.prog 21 #[.int .i64 127, .int .i64 8] w fun e w' => e = .returned (.bool true) ∧ w = w' :=
  fits_yes 127 8 w ht.wid (by decide)
theorem alive_n (w : World) (ht : Tabs w) : Calls Tryd.prog 21 #[.int .i64 128, .int .i64 8] w fun e w' => e = .returned (.bool false) ∧ w = w' :=
  fits_yes 128 8 w ht.wid (by decide)

theorem Tabs.alloc {w : World} (h : Tabs w) (o : Obj) : Tabs (w.alloc o) := h.below ((Below.refl _ _).alloc (Nat.le_refl _) o)

theorem bch {w a b : World} (h : Below w.heap.size w a) (k : Below a.heap.size a b) : Below w.heap.size w b := h.trans (k.mono h.size)

set_option maxHeartbeats 4000000 in
set_option maxRecDepth 100000 in
theorem alive_any (w : World) (ht : Tabs w) : Calls Tryd.prog 9 #[] w fun e w' => e = .returned (.bool true) ∧ Below w.heap.size w w' := by
  go_enter Tryd.func9, Tryd.ntmps9
  go_wp2_with (go_at_call 10; ((with_reducible refine (alive_p1 _ ht).mono ?_); rintro e w1 ⟨rfl, hb1⟩))
  have ht1 := ht.below hb1
  go_wp2_with (go_at_call 10; ((with_reducible refine (alive_p2 _ ht1).mono ?_); rintro e w2 ⟨rfl, hb2⟩))
  have ht2 := ht1.below hb2
  go_wp2_with (go_at_call 10; ((with_reducible refine (alive_p3 _ ht2).mono ?_); rintro e w3 ⟨rfl, hb3⟩))
  have ht3 := ht2.below hb3
  go_wp2_with (go_at_call 10; ((with_reducible refine (alive_p4 _ ht3).mono ?_); rintro e w4 ⟨rfl, hb4⟩))
  have ht4 := ht3.below hb4
  go_wp2_with (go_at_call 10; ((with_reducible refine (alive_p5 _ ht4).mono ?_); rintro e w5 ⟨rfl, hb5⟩))
  have ht5 := ht4.below hb5
  go_wp2_with (go_at_call 12; ((with_reducible refine (alive_f _ ht5).mono ?_); rintro e w6 ⟨rfl, hb6⟩))
  have ht6 := ht5.below hb6
  go_wp2_with (go_at_call 14; ((with_reducible refine (alive_h w6.heap.size 2 _ (heap_alloc_new _ _)).mono ?_); rintro e w7 ⟨rfl, hb7⟩))
  have ht7 := (ht6.alloc _).below hb7
  go_wp2_with (first | (go_at_call 19; ((with_reducible refine (alive_e _ ht7).mono ?_); rintro e w8 ⟨rfl, rfl⟩)) | (go_at_call 21; ((with_reducible refine (alive_g _ ht7).mono ?_); rintro e w8 ⟨rfl, rfl⟩)) | (go_at_call 21; ((with_reducible refine (alive_n _ ht7).mono ?_); rintro e w8 ⟨rfl, rfl⟩)))
  go_ret
  exact ⟨rfl, bch (bch (bch (bch (bch (bch hb1 hb2) hb3) hb4) hb5) hb6) (bch ((Below.refl _ _).alloc (Nat.le_refl _) _) hb7)⟩
end Go.Proofs.YthkkdkccadomkaaDoor
