/- CondOrder: for every two numbers, of 64 or of 32 bits, the law 'of greater, equal and less, exactly one condition holds, with or without signs' returns true, and its arguments read as before. No condition. -/
import Derived.Test.YtiklgnokojkoeaaFacts
import Derived.Test.YtiklgnokojkoeaaLaw
namespace Go.Proofs.Ytiklgnokojkoeaa
open Go.ChangeShapes Go.WideShapes Go.ChangeAt Go.RowKit

open L3
open L6 (opd cells6 row_up)

theorem cells3 {w : World} {k : Nat} {a b c : Value} {t : TypeId} (h : w.heap[k]? = some (.cells #[a, b, c] t)) : w.cell? ⟨k, 0, none⟩ = some a ∧ w.cell? ⟨k, 1, none⟩ = some b ∧ w.cell? ⟨k, 2, none⟩ = some c := by
  simp [World.cell?, h]

set_option maxHeartbeats 4000000 in
set_option maxRecDepth 100000 in
theorem order_64_0 (a s : Int) (ha : 0 ≤ a ∧ a < 18446744073709551616) (hs : 0 ≤ s ∧ s < 18446744073709551616) (k0 : hoV 45 true 0 a s = true) (k1 : hoV 46 true 0 a s = false) (k7 : hoV 52 true 0 a s = false) (k5 : hoV 50 true 0 a s = false) (k9 : hoV 54 true 0 a s = false) (w : World) :
    Calls Try.prog 7 #[.int .u64 a, .int .u64 s, .bool true] w fun e w' => e = .returned (.bool true) ∧ Below w.heap.size w w' := by
  have H0 := Lib.hid (fun w => holds_any 45 true 0 0 0 0 a s true w ha.1 ha.2 hs.1 hs.2 k0)
  have H1 := Lib.hid (fun w => holds_any 46 true 0 0 0 0 a s false w ha.1 ha.2 hs.1 hs.2 k1)
  have H7 := Lib.hid (fun w => holds_any 52 true 0 0 0 0 a s false w ha.1 ha.2 hs.1 hs.2 k7)
  have H5 := Lib.hid (fun w => holds_any 50 true 0 0 0 0 a s false w ha.1 ha.2 hs.1 hs.2 k5)
  have H9 := Lib.hid (fun w => holds_any 54 true 0 0 0 0 a s false w ha.1 ha.2 hs.1 hs.2 k9)
  have hx0 := heap_alloc_last w (.cells #[.int .i64 0, .int .i64 1, .int .i64 7] 3)
  have b0 := bnew w (.cells #[.int .i64 0, .int .i64 1, .int .i64 7] 3)
  clear k0 k1 k7 k5 k9 ha hs
  go_enter Try.func7, Try.ntmps7
  go_wp2
  go_loopw [8, 18] (fun c i wr => ((i = .int .i64 0 ∧ c = .int .i64 0) ∨ (i = .int .i64 1 ∧ c = .int .i64 1) ∨ (i = .int .i64 2 ∧ c = .int .i64 1) ∨ (i = .int .i64 3 ∧ c = .int .i64 1)) ∧ Below w.heap.size w wr ∧ wr.heap[w.heap.size]? = some (.cells #[.int .i64 0, .int .i64 1, .int .i64 7] 3)) (fun _ i _ => 3 - (intOf i).toNat)
  case atStart => exact ⟨.inl ⟨rfl, rfl⟩, b0, hx0⟩
  case round =>
    obtain ⟨hk, B, hx⟩ := hrel
    obtain ⟨y0, y1, y2⟩ := cells3 hx
    rcases hk with ⟨rfl, rfl⟩ | ⟨rfl, rfl⟩ | ⟨rfl, rfl⟩ | ⟨rfl, rfl⟩
    · go_wp2_with (go_at_call 10; ((with_reducible refine (H0.out _).mono ?_); rintro e w9 ⟨rfl, b9⟩))
      go_roundw
      case rel => exact ⟨.inr (.inl ⟨rfl, rfl⟩), bch B b9, row_up hx b9⟩
      case measure => simp [intOf]
    · go_wp2_with (go_at_call 10; ((with_reducible refine (H1.out _).mono ?_); rintro e w9 ⟨rfl, b9⟩))
      go_roundw
      case rel => exact ⟨.inr (.inr (.inl ⟨rfl, rfl⟩)), bch B b9, row_up hx b9⟩
      case measure => simp [intOf]
    · go_wp2_with (go_at_call 10; ((with_reducible refine (H7.out _).mono ?_); rintro e w9 ⟨rfl, b9⟩))
      go_roundw
      case rel => exact ⟨.inr (.inr (.inr ⟨rfl, rfl⟩)), bch B b9, row_up hx b9⟩
      case measure => simp [intOf]
    · have hy := heap_alloc_last wr (.cells #[.int .i64 0, .int .i64 5, .int .i64 9] 3)
      go_wp2
      generalize wr.heap.size = gb at hy ⊢
      go_loopw [9, 34] (fun c i wr => ((i = .int .i64 0 ∧ c = .int .i64 0) ∨ (i = .int .i64 1 ∧ c = .int .i64 1) ∨ (i = .int .i64 2 ∧ c = .int .i64 1) ∨ (i = .int .i64 3 ∧ c = .int .i64 1)) ∧ Below w.heap.size w wr ∧ wr.heap[gb]? = some (.cells #[.int .i64 0, .int .i64 5, .int .i64 9] 3)) (fun _ i _ => 3 - (intOf i).toNat)
      case atStart => exact ⟨.inl ⟨rfl, rfl⟩, bch B (bnew _ _), hy⟩
      case round =>
        obtain ⟨hk, B, hx⟩ := hrel
        obtain ⟨y0, y1, y2⟩ := cells3 hx
        rcases hk with ⟨rfl, rfl⟩ | ⟨rfl, rfl⟩ | ⟨rfl, rfl⟩ | ⟨rfl, rfl⟩
        · go_wp2_with (go_at_call 10; ((with_reducible refine (H0.out _).mono ?_); rintro e w9 ⟨rfl, b9⟩))
          go_roundw
          case rel => exact ⟨.inr (.inl ⟨rfl, rfl⟩), bch B b9, row_up hx b9⟩
          case measure => simp [intOf]
        · go_wp2_with (go_at_call 10; ((with_reducible refine (H5.out _).mono ?_); rintro e w9 ⟨rfl, b9⟩))
          go_roundw
          case rel => exact ⟨.inr (.inr (.inl ⟨rfl, rfl⟩)), bch B b9, row_up hx b9⟩
          case measure => simp [intOf]
        · go_wp2_with (go_at_call 10; ((with_reducible refine (H9.out _).mono ?_); rintro e w9 ⟨rfl, b9⟩))
          go_roundw
          case rel => exact ⟨.inr (.inr (.inr ⟨rfl, rfl⟩)), bch B b9, row_up hx b9⟩
          case measure => simp [intOf]
        · go_wp2_with (go_at_call 9; ((with_reducible refine (alive_any _).mono ?_); rintro e w8 ⟨rfl, b8⟩))
          go_ret
          exact ⟨rfl, bch B b8⟩
set_option maxHeartbeats 4000000 in
set_option maxRecDepth 100000 in
theorem order_64_1 (a s : Int) (ha : 0 ≤ a ∧ a < 18446744073709551616) (hs : 0 ≤ s ∧ s < 18446744073709551616) (k0 : hoV 45 true 0 a s = false) (k1 : hoV 46 true 0 a s = true) (k7 : hoV 52 true 0 a s = false) (k5 : hoV 50 true 0 a s = true) (k9 : hoV 54 true 0 a s = false) (w : World) :
    Calls Try.prog 7 #[.int .u64 a, .int .u64 s, .bool true] w fun e w' => e = .returned (.bool true) ∧ Below w.heap.size w w' := by
  have H0 := Lib.hid (fun w => holds_any 45 true 0 0 0 0 a s false w ha.1 ha.2 hs.1 hs.2 k0)
  have H1 := Lib.hid (fun w => holds_any 46 true 0 0 0 0 a s true w ha.1 ha.2 hs.1 hs.2 k1)
  have H7 := Lib.hid (fun w => holds_any 52 true 0 0 0 0 a s false w ha.1 ha.2 hs.1 hs.2 k7)
  have H5 := Lib.hid (fun w => holds_any 50 true 0 0 0 0 a s true w ha.1 ha.2 hs.1 hs.2 k5)
  have H9 := Lib.hid (fun w => holds_any 54 true 0 0 0 0 a s false w ha.1 ha.2 hs.1 hs.2 k9)
  have hx0 := heap_alloc_last w (.cells #[.int .i64 0, .int .i64 1, .int .i64 7] 3)
  have b0 := bnew w (.cells #[.int .i64 0, .int .i64 1, .int .i64 7] 3)
  clear k0 k1 k7 k5 k9 ha hs
  go_enter Try.func7, Try.ntmps7
  go_wp2
  go_loopw [8, 18] (fun c i wr => ((i = .int .i64 0 ∧ c = .int .i64 0) ∨ (i = .int .i64 1 ∧ c = .int .i64 0) ∨ (i = .int .i64 2 ∧ c = .int .i64 1) ∨ (i = .int .i64 3 ∧ c = .int .i64 1)) ∧ Below w.heap.size w wr ∧ wr.heap[w.heap.size]? = some (.cells #[.int .i64 0, .int .i64 1, .int .i64 7] 3)) (fun _ i _ => 3 - (intOf i).toNat)
  case atStart => exact ⟨.inl ⟨rfl, rfl⟩, b0, hx0⟩
  case round =>
    obtain ⟨hk, B, hx⟩ := hrel
    obtain ⟨y0, y1, y2⟩ := cells3 hx
    rcases hk with ⟨rfl, rfl⟩ | ⟨rfl, rfl⟩ | ⟨rfl, rfl⟩ | ⟨rfl, rfl⟩
    · go_wp2_with (go_at_call 10; ((with_reducible refine (H0.out _).mono ?_); rintro e w9 ⟨rfl, b9⟩))
      go_roundw
      case rel => exact ⟨.inr (.inl ⟨rfl, rfl⟩), bch B b9, row_up hx b9⟩
      case measure => simp [intOf]
    · go_wp2_with (go_at_call 10; ((with_reducible refine (H1.out _).mono ?_); rintro e w9 ⟨rfl, b9⟩))
      go_roundw
      case rel => exact ⟨.inr (.inr (.inl ⟨rfl, rfl⟩)), bch B b9, row_up hx b9⟩
      case measure => simp [intOf]
    · go_wp2_with (go_at_call 10; ((with_reducible refine (H7.out _).mono ?_); rintro e w9 ⟨rfl, b9⟩))
      go_roundw
      case rel => exact ⟨.inr (.inr (.inr ⟨rfl, rfl⟩)), bch B b9, row_up hx b9⟩
      case measure => simp [intOf]
    · have hy := heap_alloc_last wr (.cells #[.int .i64 0, .int .i64 5, .int .i64 9] 3)
      go_wp2
      generalize wr.heap.size = gb at hy ⊢
      go_loopw [9, 34] (fun c i wr => ((i = .int .i64 0 ∧ c = .int .i64 0) ∨ (i = .int .i64 1 ∧ c = .int .i64 0) ∨ (i = .int .i64 2 ∧ c = .int .i64 1) ∨ (i = .int .i64 3 ∧ c = .int .i64 1)) ∧ Below w.heap.size w wr ∧ wr.heap[gb]? = some (.cells #[.int .i64 0, .int .i64 5, .int .i64 9] 3)) (fun _ i _ => 3 - (intOf i).toNat)
      case atStart => exact ⟨.inl ⟨rfl, rfl⟩, bch B (bnew _ _), hy⟩
      case round =>
        obtain ⟨hk, B, hx⟩ := hrel
        obtain ⟨y0, y1, y2⟩ := cells3 hx
        rcases hk with ⟨rfl, rfl⟩ | ⟨rfl, rfl⟩ | ⟨rfl, rfl⟩ | ⟨rfl, rfl⟩
        · go_wp2_with (go_at_call 10; ((with_reducible refine (H0.out _).mono ?_); rintro e w9 ⟨rfl, b9⟩))
          go_roundw
          case rel => exact ⟨.inr (.inl ⟨rfl, rfl⟩), bch B b9, row_up hx b9⟩
          case measure => simp [intOf]
        · go_wp2_with (go_at_call 10; ((with_reducible refine (H5.out _).mono ?_); rintro e w9 ⟨rfl, b9⟩))
          go_roundw
          case rel => exact ⟨.inr (.inr (.inl ⟨rfl, rfl⟩)), bch B b9, row_up hx b9⟩
          case measure => simp [intOf]
        · go_wp2_with (go_at_call 10; ((with_reducible refine (H9.out _).mono ?_); rintro e w9 ⟨rfl, b9⟩))
          go_roundw
          case rel => exact ⟨.inr (.inr (.inr ⟨rfl, rfl⟩)), bch B b9, row_up hx b9⟩
          case measure => simp [intOf]
        · go_wp2_with (go_at_call 9; ((with_reducible refine (alive_any _).mono ?_); rintro e w8 ⟨rfl, b8⟩))
          go_ret
          exact ⟨rfl, bch B b8⟩
set_option maxHeartbeats 4000000 in
set_option maxRecDepth 100000 in
theorem order_64_2 (a s : Int) (ha : 0 ≤ a ∧ a < 18446744073709551616) (hs : 0 ≤ s ∧ s < 18446744073709551616) (k0 : hoV 45 true 0 a s = false) (k1 : hoV 46 true 0 a s = true) (k7 : hoV 52 true 0 a s = false) (k5 : hoV 50 true 0 a s = false) (k9 : hoV 54 true 0 a s = true) (w : World) :
    Calls Try.prog 7 #[.int .u64 a, .int .u64 s, .bool true] w fun e w' => e = .returned (.bool true) ∧ Below w.heap.size w w' := by
  have H0 := Lib.hid (fun w => holds_any 45 true 0 0 0 0 a s false w ha.1 ha.2 hs.1 hs.2 k0)
  have H1 := Lib.hid (fun w => holds_any 46 true 0 0 0 0 a s true w ha.1 ha.2 hs.1 hs.2 k1)
  have H7 := Lib.hid (fun w => holds_any 52 true 0 0 0 0 a s false w ha.1 ha.2 hs.1 hs.2 k7)
  have H5 := Lib.hid (fun w => holds_any 50 true 0 0 0 0 a s false w ha.1 ha.2 hs.1 hs.2 k5)
  have H9 := Lib.hid (fun w => holds_any 54 true 0 0 0 0 a s true w ha.1 ha.2 hs.1 hs.2 k9)
  have hx0 := heap_alloc_last w (.cells #[.int .i64 0, .int .i64 1, .int .i64 7] 3)
  have b0 := bnew w (.cells #[.int .i64 0, .int .i64 1, .int .i64 7] 3)
  clear k0 k1 k7 k5 k9 ha hs
  go_enter Try.func7, Try.ntmps7
  go_wp2
  go_loopw [8, 18] (fun c i wr => ((i = .int .i64 0 ∧ c = .int .i64 0) ∨ (i = .int .i64 1 ∧ c = .int .i64 0) ∨ (i = .int .i64 2 ∧ c = .int .i64 1) ∨ (i = .int .i64 3 ∧ c = .int .i64 1)) ∧ Below w.heap.size w wr ∧ wr.heap[w.heap.size]? = some (.cells #[.int .i64 0, .int .i64 1, .int .i64 7] 3)) (fun _ i _ => 3 - (intOf i).toNat)
  case atStart => exact ⟨.inl ⟨rfl, rfl⟩, b0, hx0⟩
  case round =>
    obtain ⟨hk, B, hx⟩ := hrel
    obtain ⟨y0, y1, y2⟩ := cells3 hx
    rcases hk with ⟨rfl, rfl⟩ | ⟨rfl, rfl⟩ | ⟨rfl, rfl⟩ | ⟨rfl, rfl⟩
    · go_wp2_with (go_at_call 10; ((with_reducible refine (H0.out _).mono ?_); rintro e w9 ⟨rfl, b9⟩))
      go_roundw
      case rel => exact ⟨.inr (.inl ⟨rfl, rfl⟩), bch B b9, row_up hx b9⟩
      case measure => simp [intOf]
    · go_wp2_with (go_at_call 10; ((with_reducible refine (H1.out _).mono ?_); rintro e w9 ⟨rfl, b9⟩))
      go_roundw
      case rel => exact ⟨.inr (.inr (.inl ⟨rfl, rfl⟩)), bch B b9, row_up hx b9⟩
      case measure => simp [intOf]
    · go_wp2_with (go_at_call 10; ((with_reducible refine (H7.out _).mono ?_); rintro e w9 ⟨rfl, b9⟩))
      go_roundw
      case rel => exact ⟨.inr (.inr (.inr ⟨rfl, rfl⟩)), bch B b9, row_up hx b9⟩
      case measure => simp [intOf]
    · have hy := heap_alloc_last wr (.cells #[.int .i64 0, .int .i64 5, .int .i64 9] 3)
      go_wp2
      generalize wr.heap.size = gb at hy ⊢
      go_loopw [9, 34] (fun c i wr => ((i = .int .i64 0 ∧ c = .int .i64 0) ∨ (i = .int .i64 1 ∧ c = .int .i64 0) ∨ (i = .int .i64 2 ∧ c = .int .i64 0) ∨ (i = .int .i64 3 ∧ c = .int .i64 1)) ∧ Below w.heap.size w wr ∧ wr.heap[gb]? = some (.cells #[.int .i64 0, .int .i64 5, .int .i64 9] 3)) (fun _ i _ => 3 - (intOf i).toNat)
      case atStart => exact ⟨.inl ⟨rfl, rfl⟩, bch B (bnew _ _), hy⟩
      case round =>
        obtain ⟨hk, B, hx⟩ := hrel
        obtain ⟨y0, y1, y2⟩ := cells3 hx
        rcases hk with ⟨rfl, rfl⟩ | ⟨rfl, rfl⟩ | ⟨rfl, rfl⟩ | ⟨rfl, rfl⟩
        · go_wp2_with (go_at_call 10; ((with_reducible refine (H0.out _).mono ?_); rintro e w9 ⟨rfl, b9⟩))
          go_roundw
          case rel => exact ⟨.inr (.inl ⟨rfl, rfl⟩), bch B b9, row_up hx b9⟩
          case measure => simp [intOf]
        · go_wp2_with (go_at_call 10; ((with_reducible refine (H5.out _).mono ?_); rintro e w9 ⟨rfl, b9⟩))
          go_roundw
          case rel => exact ⟨.inr (.inr (.inl ⟨rfl, rfl⟩)), bch B b9, row_up hx b9⟩
          case measure => simp [intOf]
        · go_wp2_with (go_at_call 10; ((with_reducible refine (H9.out _).mono ?_); rintro e w9 ⟨rfl, b9⟩))
          go_roundw
          case rel => exact ⟨.inr (.inr (.inr ⟨rfl, rfl⟩)), bch B b9, row_up hx b9⟩
          case measure => simp [intOf]
        · go_wp2_with (go_at_call 9; ((with_reducible refine (alive_any _).mono ?_); rintro e w8 ⟨rfl, b8⟩))
          go_ret
          exact ⟨rfl, bch B b8⟩
set_option maxHeartbeats 4000000 in
set_option maxRecDepth 100000 in
theorem order_64_3 (a s : Int) (ha : 0 ≤ a ∧ a < 18446744073709551616) (hs : 0 ≤ s ∧ s < 18446744073709551616) (k0 : hoV 45 true 0 a s = false) (k1 : hoV 46 true 0 a s = false) (k7 : hoV 52 true 0 a s = true) (k5 : hoV 50 true 0 a s = true) (k9 : hoV 54 true 0 a s = false) (w : World) :
    Calls Try.prog 7 #[.int .u64 a, .int .u64 s, .bool true] w fun e w' => e = .returned (.bool true) ∧ Below w.heap.size w w' := by
  have H0 := Lib.hid (fun w => holds_any 45 true 0 0 0 0 a s false w ha.1 ha.2 hs.1 hs.2 k0)
  have H1 := Lib.hid (fun w => holds_any 46 true 0 0 0 0 a s false w ha.1 ha.2 hs.1 hs.2 k1)
  have H7 := Lib.hid (fun w => holds_any 52 true 0 0 0 0 a s true w ha.1 ha.2 hs.1 hs.2 k7)
  have H5 := Lib.hid (fun w => holds_any 50 true 0 0 0 0 a s true w ha.1 ha.2 hs.1 hs.2 k5)
  have H9 := Lib.hid (fun w => holds_any 54 true 0 0 0 0 a s false w ha.1 ha.2 hs.1 hs.2 k9)
  have hx0 := heap_alloc_last w (.cells #[.int .i64 0, .int .i64 1, .int .i64 7] 3)
  have b0 := bnew w (.cells #[.int .i64 0, .int .i64 1, .int .i64 7] 3)
  clear k0 k1 k7 k5 k9 ha hs
  go_enter Try.func7, Try.ntmps7
  go_wp2
  go_loopw [8, 18] (fun c i wr => ((i = .int .i64 0 ∧ c = .int .i64 0) ∨ (i = .int .i64 1 ∧ c = .int .i64 0) ∨ (i = .int .i64 2 ∧ c = .int .i64 0) ∨ (i = .int .i64 3 ∧ c = .int .i64 1)) ∧ Below w.heap.size w wr ∧ wr.heap[w.heap.size]? = some (.cells #[.int .i64 0, .int .i64 1, .int .i64 7] 3)) (fun _ i _ => 3 - (intOf i).toNat)
  case atStart => exact ⟨.inl ⟨rfl, rfl⟩, b0, hx0⟩
  case round =>
    obtain ⟨hk, B, hx⟩ := hrel
    obtain ⟨y0, y1, y2⟩ := cells3 hx
    rcases hk with ⟨rfl, rfl⟩ | ⟨rfl, rfl⟩ | ⟨rfl, rfl⟩ | ⟨rfl, rfl⟩
    · go_wp2_with (go_at_call 10; ((with_reducible refine (H0.out _).mono ?_); rintro e w9 ⟨rfl, b9⟩))
      go_roundw
      case rel => exact ⟨.inr (.inl ⟨rfl, rfl⟩), bch B b9, row_up hx b9⟩
      case measure => simp [intOf]
    · go_wp2_with (go_at_call 10; ((with_reducible refine (H1.out _).mono ?_); rintro e w9 ⟨rfl, b9⟩))
      go_roundw
      case rel => exact ⟨.inr (.inr (.inl ⟨rfl, rfl⟩)), bch B b9, row_up hx b9⟩
      case measure => simp [intOf]
    · go_wp2_with (go_at_call 10; ((with_reducible refine (H7.out _).mono ?_); rintro e w9 ⟨rfl, b9⟩))
      go_roundw
      case rel => exact ⟨.inr (.inr (.inr ⟨rfl, rfl⟩)), bch B b9, row_up hx b9⟩
      case measure => simp [intOf]
    · have hy := heap_alloc_last wr (.cells #[.int .i64 0, .int .i64 5, .int .i64 9] 3)
      go_wp2
      generalize wr.heap.size = gb at hy ⊢
      go_loopw [9, 34] (fun c i wr => ((i = .int .i64 0 ∧ c = .int .i64 0) ∨ (i = .int .i64 1 ∧ c = .int .i64 0) ∨ (i = .int .i64 2 ∧ c = .int .i64 1) ∨ (i = .int .i64 3 ∧ c = .int .i64 1)) ∧ Below w.heap.size w wr ∧ wr.heap[gb]? = some (.cells #[.int .i64 0, .int .i64 5, .int .i64 9] 3)) (fun _ i _ => 3 - (intOf i).toNat)
      case atStart => exact ⟨.inl ⟨rfl, rfl⟩, bch B (bnew _ _), hy⟩
      case round =>
        obtain ⟨hk, B, hx⟩ := hrel
        obtain ⟨y0, y1, y2⟩ := cells3 hx
        rcases hk with ⟨rfl, rfl⟩ | ⟨rfl, rfl⟩ | ⟨rfl, rfl⟩ | ⟨rfl, rfl⟩
        · go_wp2_with (go_at_call 10; ((with_reducible refine (H0.out _).mono ?_); rintro e w9 ⟨rfl, b9⟩))
          go_roundw
          case rel => exact ⟨.inr (.inl ⟨rfl, rfl⟩), bch B b9, row_up hx b9⟩
          case measure => simp [intOf]
        · go_wp2_with (go_at_call 10; ((with_reducible refine (H5.out _).mono ?_); rintro e w9 ⟨rfl, b9⟩))
          go_roundw
          case rel => exact ⟨.inr (.inr (.inl ⟨rfl, rfl⟩)), bch B b9, row_up hx b9⟩
          case measure => simp [intOf]
        · go_wp2_with (go_at_call 10; ((with_reducible refine (H9.out _).mono ?_); rintro e w9 ⟨rfl, b9⟩))
          go_roundw
          case rel => exact ⟨.inr (.inr (.inr ⟨rfl, rfl⟩)), bch B b9, row_up hx b9⟩
          case measure => simp [intOf]
        · go_wp2_with (go_at_call 9; ((with_reducible refine (alive_any _).mono ?_); rintro e w8 ⟨rfl, b8⟩))
          go_ret
          exact ⟨rfl, bch B b8⟩
set_option maxHeartbeats 4000000 in
set_option maxRecDepth 100000 in
theorem order_64_4 (a s : Int) (ha : 0 ≤ a ∧ a < 18446744073709551616) (hs : 0 ≤ s ∧ s < 18446744073709551616) (k0 : hoV 45 true 0 a s = false) (k1 : hoV 46 true 0 a s = false) (k7 : hoV 52 true 0 a s = true) (k5 : hoV 50 true 0 a s = false) (k9 : hoV 54 true 0 a s = true) (w : World) :
    Calls Try.prog 7 #[.int .u64 a, .int .u64 s, .bool true] w fun e w' => e = .returned (.bool true) ∧ Below w.heap.size w w' := by
  have H0 := Lib.hid (fun w => holds_any 45 true 0 0 0 0 a s false w ha.1 ha.2 hs.1 hs.2 k0)
  have H1 := Lib.hid (fun w => holds_any 46 true 0 0 0 0 a s false w ha.1 ha.2 hs.1 hs.2 k1)
  have H7 := Lib.hid (fun w => holds_any 52 true 0 0 0 0 a s true w ha.1 ha.2 hs.1 hs.2 k7)
  have H5 := Lib.hid (fun w => holds_any 50 true 0 0 0 0 a s false w ha.1 ha.2 hs.1 hs.2 k5)
  have H9 := Lib.hid (fun w => holds_any 54 true 0 0 0 0 a s true w ha.1 ha.2 hs.1 hs.2 k9)
  have hx0 := heap_alloc_last w (.cells #[.int .i64 0, .int .i64 1, .int .i64 7] 3)
  have b0 := bnew w (.cells #[.int .i64 0, .int .i64 1, .int .i64 7] 3)
  clear k0 k1 k7 k5 k9 ha hs
  go_enter Try.func7, Try.ntmps7
  go_wp2
  go_loopw [8, 18] (fun c i wr => ((i = .int .i64 0 ∧ c = .int .i64 0) ∨ (i = .int .i64 1 ∧ c = .int .i64 0) ∨ (i = .int .i64 2 ∧ c = .int .i64 0) ∨ (i = .int .i64 3 ∧ c = .int .i64 1)) ∧ Below w.heap.size w wr ∧ wr.heap[w.heap.size]? = some (.cells #[.int .i64 0, .int .i64 1, .int .i64 7] 3)) (fun _ i _ => 3 - (intOf i).toNat)
  case atStart => exact ⟨.inl ⟨rfl, rfl⟩, b0, hx0⟩
  case round =>
    obtain ⟨hk, B, hx⟩ := hrel
    obtain ⟨y0, y1, y2⟩ := cells3 hx
    rcases hk with ⟨rfl, rfl⟩ | ⟨rfl, rfl⟩ | ⟨rfl, rfl⟩ | ⟨rfl, rfl⟩
    · go_wp2_with (go_at_call 10; ((with_reducible refine (H0.out _).mono ?_); rintro e w9 ⟨rfl, b9⟩))
      go_roundw
      case rel => exact ⟨.inr (.inl ⟨rfl, rfl⟩), bch B b9, row_up hx b9⟩
      case measure => simp [intOf]
    · go_wp2_with (go_at_call 10; ((with_reducible refine (H1.out _).mono ?_); rintro e w9 ⟨rfl, b9⟩))
      go_roundw
      case rel => exact ⟨.inr (.inr (.inl ⟨rfl, rfl⟩)), bch B b9, row_up hx b9⟩
      case measure => simp [intOf]
    · go_wp2_with (go_at_call 10; ((with_reducible refine (H7.out _).mono ?_); rintro e w9 ⟨rfl, b9⟩))
      go_roundw
      case rel => exact ⟨.inr (.inr (.inr ⟨rfl, rfl⟩)), bch B b9, row_up hx b9⟩
      case measure => simp [intOf]
    · have hy := heap_alloc_last wr (.cells #[.int .i64 0, .int .i64 5, .int .i64 9] 3)
      go_wp2
      generalize wr.heap.size = gb at hy ⊢
      go_loopw [9, 34] (fun c i wr => ((i = .int .i64 0 ∧ c = .int .i64 0) ∨ (i = .int .i64 1 ∧ c = .int .i64 0) ∨ (i = .int .i64 2 ∧ c = .int .i64 0) ∨ (i = .int .i64 3 ∧ c = .int .i64 1)) ∧ Below w.heap.size w wr ∧ wr.heap[gb]? = some (.cells #[.int .i64 0, .int .i64 5, .int .i64 9] 3)) (fun _ i _ => 3 - (intOf i).toNat)
      case atStart => exact ⟨.inl ⟨rfl, rfl⟩, bch B (bnew _ _), hy⟩
      case round =>
        obtain ⟨hk, B, hx⟩ := hrel
        obtain ⟨y0, y1, y2⟩ := cells3 hx
        rcases hk with ⟨rfl, rfl⟩ | ⟨rfl, rfl⟩ | ⟨rfl, rfl⟩ | ⟨rfl, rfl⟩
        · go_wp2_with (go_at_call 10; ((with_reducible refine (H0.out _).mono ?_); rintro e w9 ⟨rfl, b9⟩))
          go_roundw
          case rel => exact ⟨.inr (.inl ⟨rfl, rfl⟩), bch B b9, row_up hx b9⟩
          case measure => simp [intOf]
        · go_wp2_with (go_at_call 10; ((with_reducible refine (H5.out _).mono ?_); rintro e w9 ⟨rfl, b9⟩))
          go_roundw
          case rel => exact ⟨.inr (.inr (.inl ⟨rfl, rfl⟩)), bch B b9, row_up hx b9⟩
          case measure => simp [intOf]
        · go_wp2_with (go_at_call 10; ((with_reducible refine (H9.out _).mono ?_); rintro e w9 ⟨rfl, b9⟩))
          go_roundw
          case rel => exact ⟨.inr (.inr (.inr ⟨rfl, rfl⟩)), bch B b9, row_up hx b9⟩
          case measure => simp [intOf]
        · go_wp2_with (go_at_call 9; ((with_reducible refine (alive_any _).mono ?_); rintro e w8 ⟨rfl, b8⟩))
          go_ret
          exact ⟨rfl, bch B b8⟩
theorem order_64 (a s : Int) (ha : 0 ≤ a ∧ a < 18446744073709551616) (hs : 0 ≤ s ∧ s < 18446744073709551616) (c0 c1 c7 c5 c9 : Bool) (k0 : hoV 45 true 0 a s = c0) (k1 : hoV 46 true 0 a s = c1) (k7 : hoV 52 true 0 a s = c7) (k5 : hoV 50 true 0 a s = c5) (k9 : hoV 54 true 0 a s = c9)
    (h : (c0 = true ∧ c1 = false ∧ c7 = false ∧ c5 = false ∧ c9 = false) ∨ (c0 = false ∧ ((c1 = true ∧ c7 = false) ∨ (c1 = false ∧ c7 = true)) ∧ ((c5 = true ∧ c9 = false) ∨ (c5 = false ∧ c9 = true)))) (w : World) :
    Calls Try.prog 7 #[.int .u64 a, .int .u64 s, .bool true] w fun e w' => e = .returned (.bool true) ∧ Below w.heap.size w w' := by
  rcases h with ⟨rfl, rfl, rfl, rfl, rfl⟩ | ⟨rfl, ⟨rfl, rfl⟩ | ⟨rfl, rfl⟩, ⟨rfl, rfl⟩ | ⟨rfl, rfl⟩⟩
  · exact order_64_0 a s ha hs k0 k1 k7 k5 k9 w
  · exact order_64_1 a s ha hs k0 k1 k7 k5 k9 w
  · exact order_64_2 a s ha hs k0 k1 k7 k5 k9 w
  · exact order_64_3 a s ha hs k0 k1 k7 k5 k9 w
  · exact order_64_4 a s ha hs k0 k1 k7 k5 k9 w
set_option maxHeartbeats 4000000 in
set_option maxRecDepth 100000 in
theorem order_32_0 (a s : Int) (ha : 0 ≤ a ∧ a < 18446744073709551616) (hs : 0 ≤ s ∧ s < 18446744073709551616) (k0 : hoV 56 true 0 a s = true) (k1 : hoV 57 true 0 a s = false) (k7 : hoV 63 true 0 a s = false) (k5 : hoV 61 true 0 a s = false) (k9 : hoV 65 true 0 a s = false) (w : World) :
    Calls Try.prog 7 #[.int .u64 a, .int .u64 s, .bool false] w fun e w' => e = .returned (.bool true) ∧ Below w.heap.size w w' := by
  have H0 := Lib.hid (fun w => holds_any 56 true 0 0 0 0 a s true w ha.1 ha.2 hs.1 hs.2 k0)
  have H1 := Lib.hid (fun w => holds_any 57 true 0 0 0 0 a s false w ha.1 ha.2 hs.1 hs.2 k1)
  have H7 := Lib.hid (fun w => holds_any 63 true 0 0 0 0 a s false w ha.1 ha.2 hs.1 hs.2 k7)
  have H5 := Lib.hid (fun w => holds_any 61 true 0 0 0 0 a s false w ha.1 ha.2 hs.1 hs.2 k5)
  have H9 := Lib.hid (fun w => holds_any 65 true 0 0 0 0 a s false w ha.1 ha.2 hs.1 hs.2 k9)
  have hx0 := heap_alloc_last w (.cells #[.int .i64 0, .int .i64 1, .int .i64 7] 3)
  have b0 := bnew w (.cells #[.int .i64 0, .int .i64 1, .int .i64 7] 3)
  clear k0 k1 k7 k5 k9 ha hs
  go_enter Try.func7, Try.ntmps7
  go_wp2
  go_loopw [8, 18] (fun c i wr => ((i = .int .i64 0 ∧ c = .int .i64 0) ∨ (i = .int .i64 1 ∧ c = .int .i64 1) ∨ (i = .int .i64 2 ∧ c = .int .i64 1) ∨ (i = .int .i64 3 ∧ c = .int .i64 1)) ∧ Below w.heap.size w wr ∧ wr.heap[w.heap.size]? = some (.cells #[.int .i64 0, .int .i64 1, .int .i64 7] 3)) (fun _ i _ => 3 - (intOf i).toNat)
  case atStart => exact ⟨.inl ⟨rfl, rfl⟩, b0, hx0⟩
  case round =>
    obtain ⟨hk, B, hx⟩ := hrel
    obtain ⟨y0, y1, y2⟩ := cells3 hx
    rcases hk with ⟨rfl, rfl⟩ | ⟨rfl, rfl⟩ | ⟨rfl, rfl⟩ | ⟨rfl, rfl⟩
    · go_wp2_with (go_at_call 10; ((with_reducible refine (H0.out _).mono ?_); rintro e w9 ⟨rfl, b9⟩))
      go_roundw
      case rel => exact ⟨.inr (.inl ⟨rfl, rfl⟩), bch B b9, row_up hx b9⟩
      case measure => simp [intOf]
    · go_wp2_with (go_at_call 10; ((with_reducible refine (H1.out _).mono ?_); rintro e w9 ⟨rfl, b9⟩))
      go_roundw
      case rel => exact ⟨.inr (.inr (.inl ⟨rfl, rfl⟩)), bch B b9, row_up hx b9⟩
      case measure => simp [intOf]
    · go_wp2_with (go_at_call 10; ((with_reducible refine (H7.out _).mono ?_); rintro e w9 ⟨rfl, b9⟩))
      go_roundw
      case rel => exact ⟨.inr (.inr (.inr ⟨rfl, rfl⟩)), bch B b9, row_up hx b9⟩
      case measure => simp [intOf]
    · have hy := heap_alloc_last wr (.cells #[.int .i64 0, .int .i64 5, .int .i64 9] 3)
      go_wp2
      generalize wr.heap.size = gb at hy ⊢
      go_loopw [9, 34] (fun c i wr => ((i = .int .i64 0 ∧ c = .int .i64 0) ∨ (i = .int .i64 1 ∧ c = .int .i64 1) ∨ (i = .int .i64 2 ∧ c = .int .i64 1) ∨ (i = .int .i64 3 ∧ c = .int .i64 1)) ∧ Below w.heap.size w wr ∧ wr.heap[gb]? = some (.cells #[.int .i64 0, .int .i64 5, .int .i64 9] 3)) (fun _ i _ => 3 - (intOf i).toNat)
      case atStart => exact ⟨.inl ⟨rfl, rfl⟩, bch B (bnew _ _), hy⟩
      case round =>
        obtain ⟨hk, B, hx⟩ := hrel
        obtain ⟨y0, y1, y2⟩ := cells3 hx
        rcases hk with ⟨rfl, rfl⟩ | ⟨rfl, rfl⟩ | ⟨rfl, rfl⟩ | ⟨rfl, rfl⟩
        · go_wp2_with (go_at_call 10; ((with_reducible refine (H0.out _).mono ?_); rintro e w9 ⟨rfl, b9⟩))
          go_roundw
          case rel => exact ⟨.inr (.inl ⟨rfl, rfl⟩), bch B b9, row_up hx b9⟩
          case measure => simp [intOf]
        · go_wp2_with (go_at_call 10; ((with_reducible refine (H5.out _).mono ?_); rintro e w9 ⟨rfl, b9⟩))
          go_roundw
          case rel => exact ⟨.inr (.inr (.inl ⟨rfl, rfl⟩)), bch B b9, row_up hx b9⟩
          case measure => simp [intOf]
        · go_wp2_with (go_at_call 10; ((with_reducible refine (H9.out _).mono ?_); rintro e w9 ⟨rfl, b9⟩))
          go_roundw
          case rel => exact ⟨.inr (.inr (.inr ⟨rfl, rfl⟩)), bch B b9, row_up hx b9⟩
          case measure => simp [intOf]
        · go_wp2_with (go_at_call 9; ((with_reducible refine (alive_any _).mono ?_); rintro e w8 ⟨rfl, b8⟩))
          go_ret
          exact ⟨rfl, bch B b8⟩
set_option maxHeartbeats 4000000 in
set_option maxRecDepth 100000 in
theorem order_32_1 (a s : Int) (ha : 0 ≤ a ∧ a < 18446744073709551616) (hs : 0 ≤ s ∧ s < 18446744073709551616) (k0 : hoV 56 true 0 a s = false) (k1 : hoV 57 true 0 a s = true) (k7 : hoV 63 true 0 a s = false) (k5 : hoV 61 true 0 a s = true) (k9 : hoV 65 true 0 a s = false) (w : World) :
    Calls Try.prog 7 #[.int .u64 a, .int .u64 s, .bool false] w fun e w' => e = .returned (.bool true) ∧ Below w.heap.size w w' := by
  have H0 := Lib.hid (fun w => holds_any 56 true 0 0 0 0 a s false w ha.1 ha.2 hs.1 hs.2 k0)
  have H1 := Lib.hid (fun w => holds_any 57 true 0 0 0 0 a s true w ha.1 ha.2 hs.1 hs.2 k1)
  have H7 := Lib.hid (fun w => holds_any 63 true 0 0 0 0 a s false w ha.1 ha.2 hs.1 hs.2 k7)
  have H5 := Lib.hid (fun w => holds_any 61 true 0 0 0 0 a s true w ha.1 ha.2 hs.1 hs.2 k5)
  have H9 := Lib.hid (fun w => holds_any 65 true 0 0 0 0 a s false w ha.1 ha.2 hs.1 hs.2 k9)
  have hx0 := heap_alloc_last w (.cells #[.int .i64 0, .int .i64 1, .int .i64 7] 3)
  have b0 := bnew w (.cells #[.int .i64 0, .int .i64 1, .int .i64 7] 3)
  clear k0 k1 k7 k5 k9 ha hs
  go_enter Try.func7, Try.ntmps7
  go_wp2
  go_loopw [8, 18] (fun c i wr => ((i = .int .i64 0 ∧ c = .int .i64 0) ∨ (i = .int .i64 1 ∧ c = .int .i64 0) ∨ (i = .int .i64 2 ∧ c = .int .i64 1) ∨ (i = .int .i64 3 ∧ c = .int .i64 1)) ∧ Below w.heap.size w wr ∧ wr.heap[w.heap.size]? = some (.cells #[.int .i64 0, .int .i64 1, .int .i64 7] 3)) (fun _ i _ => 3 - (intOf i).toNat)
  case atStart => exact ⟨.inl ⟨rfl, rfl⟩, b0, hx0⟩
  case round =>
    obtain ⟨hk, B, hx⟩ := hrel
    obtain ⟨y0, y1, y2⟩ := cells3 hx
    rcases hk with ⟨rfl, rfl⟩ | ⟨rfl, rfl⟩ | ⟨rfl, rfl⟩ | ⟨rfl, rfl⟩
    · go_wp2_with (go_at_call 10; ((with_reducible refine (H0.out _).mono ?_); rintro e w9 ⟨rfl, b9⟩))
      go_roundw
      case rel => exact ⟨.inr (.inl ⟨rfl, rfl⟩), bch B b9, row_up hx b9⟩
      case measure => simp [intOf]
    · go_wp2_with (go_at_call 10; ((with_reducible refine (H1.out _).mono ?_); rintro e w9 ⟨rfl, b9⟩))
      go_roundw
      case rel => exact ⟨.inr (.inr (.inl ⟨rfl, rfl⟩)), bch B b9, row_up hx b9⟩
      case measure => simp [intOf]
    · go_wp2_with (go_at_call 10; ((with_reducible refine (H7.out _).mono ?_); rintro e w9 ⟨rfl, b9⟩))
      go_roundw
      case rel => exact ⟨.inr (.inr (.inr ⟨rfl, rfl⟩)), bch B b9, row_up hx b9⟩
      case measure => simp [intOf]
    · have hy := heap_alloc_last wr (.cells #[.int .i64 0, .int .i64 5, .int .i64 9] 3)
      go_wp2
      generalize wr.heap.size = gb at hy ⊢
      go_loopw [9, 34] (fun c i wr => ((i = .int .i64 0 ∧ c = .int .i64 0) ∨ (i = .int .i64 1 ∧ c = .int .i64 0) ∨ (i = .int .i64 2 ∧ c = .int .i64 1) ∨ (i = .int .i64 3 ∧ c = .int .i64 1)) ∧ Below w.heap.size w wr ∧ wr.heap[gb]? = some (.cells #[.int .i64 0, .int .i64 5, .int .i64 9] 3)) (fun _ i _ => 3 - (intOf i).toNat)
      case atStart => exact ⟨.inl ⟨rfl, rfl⟩, bch B (bnew _ _), hy⟩
      case round =>
        obtain ⟨hk, B, hx⟩ := hrel
        obtain ⟨y0, y1, y2⟩ := cells3 hx
        rcases hk with ⟨rfl, rfl⟩ | ⟨rfl, rfl⟩ | ⟨rfl, rfl⟩ | ⟨rfl, rfl⟩
        · go_wp2_with (go_at_call 10; ((with_reducible refine (H0.out _).mono ?_); rintro e w9 ⟨rfl, b9⟩))
          go_roundw
          case rel => exact ⟨.inr (.inl ⟨rfl, rfl⟩), bch B b9, row_up hx b9⟩
          case measure => simp [intOf]
        · go_wp2_with (go_at_call 10; ((with_reducible refine (H5.out _).mono ?_); rintro e w9 ⟨rfl, b9⟩))
          go_roundw
          case rel => exact ⟨.inr (.inr (.inl ⟨rfl, rfl⟩)), bch B b9, row_up hx b9⟩
          case measure => simp [intOf]
        · go_wp2_with (go_at_call 10; ((with_reducible refine (H9.out _).mono ?_); rintro e w9 ⟨rfl, b9⟩))
          go_roundw
          case rel => exact ⟨.inr (.inr (.inr ⟨rfl, rfl⟩)), bch B b9, row_up hx b9⟩
          case measure => simp [intOf]
        · go_wp2_with (go_at_call 9; ((with_reducible refine (alive_any _).mono ?_); rintro e w8 ⟨rfl, b8⟩))
          go_ret
          exact ⟨rfl, bch B b8⟩
set_option maxHeartbeats 4000000 in
set_option maxRecDepth 100000 in
theorem order_32_2 (a s : Int) (ha : 0 ≤ a ∧ a < 18446744073709551616) (hs : 0 ≤ s ∧ s < 18446744073709551616) (k0 : hoV 56 true 0 a s = false) (k1 : hoV 57 true 0 a s = true) (k7 : hoV 63 true 0 a s = false) (k5 : hoV 61 true 0 a s = false) (k9 : hoV 65 true 0 a s = true) (w : World) :
    Calls Try.prog 7 #[.int .u64 a, .int .u64 s, .bool false] w fun e w' => e = .returned (.bool true) ∧ Below w.heap.size w w' := by
  have H0 := Lib.hid (fun w => holds_any 56 true 0 0 0 0 a s false w ha.1 ha.2 hs.1 hs.2 k0)
  have H1 := Lib.hid (fun w => holds_any 57 true 0 0 0 0 a s true w ha.1 ha.2 hs.1 hs.2 k1)
  have H7 := Lib.hid (fun w => holds_any 63 true 0 0 0 0 a s false w ha.1 ha.2 hs.1 hs.2 k7)
  have H5 := Lib.hid (fun w => holds_any 61 true 0 0 0 0 a s false w ha.1 ha.2 hs.1 hs.2 k5)
  have H9 := Lib.hid (fun w => holds_any 65 true 0 0 0 0 a s true w ha.1 ha.2 hs.1 hs.2 k9)
  have hx0 := heap_alloc_last w (.cells #[.int .i64 0, .int .i64 1, .int .i64 7] 3)
  have b0 := bnew w (.cells #[.int .i64 0, .int .i64 1, .int .i64 7] 3)
  clear k0 k1 k7 k5 k9 ha hs
  go_enter Try.func7, Try.ntmps7
  go_wp2
  go_loopw [8, 18] (fun c i wr => ((i = .int .i64 0 ∧ c = .int .i64 0) ∨ (i = .int .i64 1 ∧ c = .int .i64 0) ∨ (i = .int .i64 2 ∧ c = .int .i64 1) ∨ (i = .int .i64 3 ∧ c = .int .i64 1)) ∧ Below w.heap.size w wr ∧ wr.heap[w.heap.size]? = some (.cells #[.int .i64 0, .int .i64 1, .int .i64 7] 3)) (fun _ i _ => 3 - (intOf i).toNat)
  case atStart => exact ⟨.inl ⟨rfl, rfl⟩, b0, hx0⟩
  case round =>
    obtain ⟨hk, B, hx⟩ := hrel
    obtain ⟨y0, y1, y2⟩ := cells3 hx
    rcases hk with ⟨rfl, rfl⟩ | ⟨rfl, rfl⟩ | ⟨rfl, rfl⟩ | ⟨rfl, rfl⟩
    · go_wp2_with (go_at_call 10; ((with_reducible refine (H0.out _).mono ?_); rintro e w9 ⟨rfl, b9⟩))
      go_roundw
      case rel => exact ⟨.inr (.inl ⟨rfl, rfl⟩), bch B b9, row_up hx b9⟩
      case measure => simp [intOf]
    · go_wp2_with (go_at_call 10; ((with_reducible refine (H1.out _).mono ?_); rintro e w9 ⟨rfl, b9⟩))
      go_roundw
      case rel => exact ⟨.inr (.inr (.inl ⟨rfl, rfl⟩)), bch B b9, row_up hx b9⟩
      case measure => simp [intOf]
    · go_wp2_with (go_at_call 10; ((with_reducible refine (H7.out _).mono ?_); rintro e w9 ⟨rfl, b9⟩))
      go_roundw
      case rel => exact ⟨.inr (.inr (.inr ⟨rfl, rfl⟩)), bch B b9, row_up hx b9⟩
      case measure => simp [intOf]
    · have hy := heap_alloc_last wr (.cells #[.int .i64 0, .int .i64 5, .int .i64 9] 3)
      go_wp2
      generalize wr.heap.size = gb at hy ⊢
      go_loopw [9, 34] (fun c i wr => ((i = .int .i64 0 ∧ c = .int .i64 0) ∨ (i = .int .i64 1 ∧ c = .int .i64 0) ∨ (i = .int .i64 2 ∧ c = .int .i64 0) ∨ (i = .int .i64 3 ∧ c = .int .i64 1)) ∧ Below w.heap.size w wr ∧ wr.heap[gb]? = some (.cells #[.int .i64 0, .int .i64 5, .int .i64 9] 3)) (fun _ i _ => 3 - (intOf i).toNat)
      case atStart => exact ⟨.inl ⟨rfl, rfl⟩, bch B (bnew _ _), hy⟩
      case round =>
        obtain ⟨hk, B, hx⟩ := hrel
        obtain ⟨y0, y1, y2⟩ := cells3 hx
        rcases hk with ⟨rfl, rfl⟩ | ⟨rfl, rfl⟩ | ⟨rfl, rfl⟩ | ⟨rfl, rfl⟩
        · go_wp2_with (go_at_call 10; ((with_reducible refine (H0.out _).mono ?_); rintro e w9 ⟨rfl, b9⟩))
          go_roundw
          case rel => exact ⟨.inr (.inl ⟨rfl, rfl⟩), bch B b9, row_up hx b9⟩
          case measure => simp [intOf]
        · go_wp2_with (go_at_call 10; ((with_reducible refine (H5.out _).mono ?_); rintro e w9 ⟨rfl, b9⟩))
          go_roundw
          case rel => exact ⟨.inr (.inr (.inl ⟨rfl, rfl⟩)), bch B b9, row_up hx b9⟩
          case measure => simp [intOf]
        · go_wp2_with (go_at_call 10; ((with_reducible refine (H9.out _).mono ?_); rintro e w9 ⟨rfl, b9⟩))
          go_roundw
          case rel => exact ⟨.inr (.inr (.inr ⟨rfl, rfl⟩)), bch B b9, row_up hx b9⟩
          case measure => simp [intOf]
        · go_wp2_with (go_at_call 9; ((with_reducible refine (alive_any _).mono ?_); rintro e w8 ⟨rfl, b8⟩))
          go_ret
          exact ⟨rfl, bch B b8⟩
set_option maxHeartbeats 4000000 in
set_option maxRecDepth 100000 in
theorem order_32_3 (a s : Int) (ha : 0 ≤ a ∧ a < 18446744073709551616) (hs : 0 ≤ s ∧ s < 18446744073709551616) (k0 : hoV 56 true 0 a s = false) (k1 : hoV 57 true 0 a s = false) (k7 : hoV 63 true 0 a s = true) (k5 : hoV 61 true 0 a s = true) (k9 : hoV 65 true 0 a s = false) (w : World) :
    Calls Try.prog 7 #[.int .u64 a, .int .u64 s, .bool false] w fun e w' => e = .returned (.bool true) ∧ Below w.heap.size w w' := by
  have H0 := Lib.hid (fun w => holds_any 56 true 0 0 0 0 a s false w ha.1 ha.2 hs.1 hs.2 k0)
  have H1 := Lib.hid (fun w => holds_any 57 true 0 0 0 0 a s false w ha.1 ha.2 hs.1 hs.2 k1)
  have H7 := Lib.hid (fun w => holds_any 63 true 0 0 0 0 a s true w ha.1 ha.2 hs.1 hs.2 k7)
  have H5 := Lib.hid (fun w => holds_any 61 true 0 0 0 0 a s true w ha.1 ha.2 hs.1 hs.2 k5)
  have H9 := Lib.hid (fun w => holds_any 65 true 0 0 0 0 a s false w ha.1 ha.2 hs.1 hs.2 k9)
  have hx0 := heap_alloc_last w (.cells #[.int .i64 0, .int .i64 1, .int .i64 7] 3)
  have b0 := bnew w (.cells #[.int .i64 0, .int .i64 1, .int .i64 7] 3)
  clear k0 k1 k7 k5 k9 ha hs
  go_enter Try.func7, Try.ntmps7
  go_wp2
  go_loopw [8, 18] (fun c i wr => ((i = .int .i64 0 ∧ c = .int .i64 0) ∨ (i = .int .i64 1 ∧ c = .int .i64 0) ∨ (i = .int .i64 2 ∧ c = .int .i64 0) ∨ (i = .int .i64 3 ∧ c = .int .i64 1)) ∧ Below w.heap.size w wr ∧ wr.heap[w.heap.size]? = some (.cells #[.int .i64 0, .int .i64 1, .int .i64 7] 3)) (fun _ i _ => 3 - (intOf i).toNat)
  case atStart => exact ⟨.inl ⟨rfl, rfl⟩, b0, hx0⟩
  case round =>
    obtain ⟨hk, B, hx⟩ := hrel
    obtain ⟨y0, y1, y2⟩ := cells3 hx
    rcases hk with ⟨rfl, rfl⟩ | ⟨rfl, rfl⟩ | ⟨rfl, rfl⟩ | ⟨rfl, rfl⟩
    · go_wp2_with (go_at_call 10; ((with_reducible refine (H0.out _).mono ?_); rintro e w9 ⟨rfl, b9⟩))
      go_roundw
      case rel => exact ⟨.inr (.inl ⟨rfl, rfl⟩), bch B b9, row_up hx b9⟩
      case measure => simp [intOf]
    · go_wp2_with (go_at_call 10; ((with_reducible refine (H1.out _).mono ?_); rintro e w9 ⟨rfl, b9⟩))
      go_roundw
      case rel => exact ⟨.inr (.inr (.inl ⟨rfl, rfl⟩)), bch B b9, row_up hx b9⟩
      case measure => simp [intOf]
    · go_wp2_with (go_at_call 10; ((with_reducible refine (H7.out _).mono ?_); rintro e w9 ⟨rfl, b9⟩))
      go_roundw
      case rel => exact ⟨.inr (.inr (.inr ⟨rfl, rfl⟩)), bch B b9, row_up hx b9⟩
      case measure => simp [intOf]
    · have hy := heap_alloc_last wr (.cells #[.int .i64 0, .int .i64 5, .int .i64 9] 3)
      go_wp2
      generalize wr.heap.size = gb at hy ⊢
      go_loopw [9, 34] (fun c i wr => ((i = .int .i64 0 ∧ c = .int .i64 0) ∨ (i = .int .i64 1 ∧ c = .int .i64 0) ∨ (i = .int .i64 2 ∧ c = .int .i64 1) ∨ (i = .int .i64 3 ∧ c = .int .i64 1)) ∧ Below w.heap.size w wr ∧ wr.heap[gb]? = some (.cells #[.int .i64 0, .int .i64 5, .int .i64 9] 3)) (fun _ i _ => 3 - (intOf i).toNat)
      case atStart => exact ⟨.inl ⟨rfl, rfl⟩, bch B (bnew _ _), hy⟩
      case round =>
        obtain ⟨hk, B, hx⟩ := hrel
        obtain ⟨y0, y1, y2⟩ := cells3 hx
        rcases hk with ⟨rfl, rfl⟩ | ⟨rfl, rfl⟩ | ⟨rfl, rfl⟩ | ⟨rfl, rfl⟩
        · go_wp2_with (go_at_call 10; ((with_reducible refine (H0.out _).mono ?_); rintro e w9 ⟨rfl, b9⟩))
          go_roundw
          case rel => exact ⟨.inr (.inl ⟨rfl, rfl⟩), bch B b9, row_up hx b9⟩
          case measure => simp [intOf]
        · go_wp2_with (go_at_call 10; ((with_reducible refine (H5.out _).mono ?_); rintro e w9 ⟨rfl, b9⟩))
          go_roundw
          case rel => exact ⟨.inr (.inr (.inl ⟨rfl, rfl⟩)), bch B b9, row_up hx b9⟩
          case measure => simp [intOf]
        · go_wp2_with (go_at_call 10; ((with_reducible refine (H9.out _).mono ?_); rintro e w9 ⟨rfl, b9⟩))
          go_roundw
          case rel => exact ⟨.inr (.inr (.inr ⟨rfl, rfl⟩)), bch B b9, row_up hx b9⟩
          case measure => simp [intOf]
        · go_wp2_with (go_at_call 9; ((with_reducible refine (alive_any _).mono ?_); rintro e w8 ⟨rfl, b8⟩))
          go_ret
          exact ⟨rfl, bch B b8⟩
set_option maxHeartbeats 4000000 in
set_option maxRecDepth 100000 in
theorem order_32_4 (a s : Int) (ha : 0 ≤ a ∧ a < 18446744073709551616) (hs : 0 ≤ s ∧ s < 18446744073709551616) (k0 : hoV 56 true 0 a s = false) (k1 : hoV 57 true 0 a s = false) (k7 : hoV 63 true 0 a s = true) (k5 : hoV 61 true 0 a s = false) (k9 : hoV 65 true 0 a s = true) (w : World) :
    Calls Try.prog 7 #[.int .u64 a, .int .u64 s, .bool false] w fun e w' => e = .returned (.bool true) ∧ Below w.heap.size w w' := by
  have H0 := Lib.hid (fun w => holds_any 56 true 0 0 0 0 a s false w ha.1 ha.2 hs.1 hs.2 k0)
  have H1 := Lib.hid (fun w => holds_any 57 true 0 0 0 0 a s false w ha.1 ha.2 hs.1 hs.2 k1)
  have H7 := Lib.hid (fun w => holds_any 63 true 0 0 0 0 a s true w ha.1 ha.2 hs.1 hs.2 k7)
  have H5 := Lib.hid (fun w => holds_any 61 true 0 0 0 0 a s false w ha.1 ha.2 hs.1 hs.2 k5)
  have H9 := Lib.hid (fun w => holds_any 65 true 0 0 0 0 a s true w ha.1 ha.2 hs.1 hs.2 k9)
  have hx0 := heap_alloc_last w (.cells #[.int .i64 0, .int .i64 1, .int .i64 7] 3)
  have b0 := bnew w (.cells #[.int .i64 0, .int .i64 1, .int .i64 7] 3)
  clear k0 k1 k7 k5 k9 ha hs
  go_enter Try.func7, Try.ntmps7
  go_wp2
  go_loopw [8, 18] (fun c i wr => ((i = .int .i64 0 ∧ c = .int .i64 0) ∨ (i = .int .i64 1 ∧ c = .int .i64 0) ∨ (i = .int .i64 2 ∧ c = .int .i64 0) ∨ (i = .int .i64 3 ∧ c = .int .i64 1)) ∧ Below w.heap.size w wr ∧ wr.heap[w.heap.size]? = some (.cells #[.int .i64 0, .int .i64 1, .int .i64 7] 3)) (fun _ i _ => 3 - (intOf i).toNat)
  case atStart => exact ⟨.inl ⟨rfl, rfl⟩, b0, hx0⟩
  case round =>
    obtain ⟨hk, B, hx⟩ := hrel
    obtain ⟨y0, y1, y2⟩ := cells3 hx
    rcases hk with ⟨rfl, rfl⟩ | ⟨rfl, rfl⟩ | ⟨rfl, rfl⟩ | ⟨rfl, rfl⟩
    · go_wp2_with (go_at_call 10; ((with_reducible refine (H0.out _).mono ?_); rintro e w9 ⟨rfl, b9⟩))
      go_roundw
      case rel => exact ⟨.inr (.inl ⟨rfl, rfl⟩), bch B b9, row_up hx b9⟩
      case measure => simp [intOf]
    · go_wp2_with (go_at_call 10; ((with_reducible refine (H1.out _).mono ?_); rintro e w9 ⟨rfl, b9⟩))
      go_roundw
      case rel => exact ⟨.inr (.inr (.inl ⟨rfl, rfl⟩)), bch B b9, row_up hx b9⟩
      case measure => simp [intOf]
    · go_wp2_with (go_at_call 10; ((with_reducible refine (H7.out _).mono ?_); rintro e w9 ⟨rfl, b9⟩))
      go_roundw
      case rel => exact ⟨.inr (.inr (.inr ⟨rfl, rfl⟩)), bch B b9, row_up hx b9⟩
      case measure => simp [intOf]
    · have hy := heap_alloc_last wr (.cells #[.int .i64 0, .int .i64 5, .int .i64 9] 3)
      go_wp2
      generalize wr.heap.size = gb at hy ⊢
      go_loopw [9, 34] (fun c i wr => ((i = .int .i64 0 ∧ c = .int .i64 0) ∨ (i = .int .i64 1 ∧ c = .int .i64 0) ∨ (i = .int .i64 2 ∧ c = .int .i64 0) ∨ (i = .int .i64 3 ∧ c = .int .i64 1)) ∧ Below w.heap.size w wr ∧ wr.heap[gb]? = some (.cells #[.int .i64 0, .int .i64 5, .int .i64 9] 3)) (fun _ i _ => 3 - (intOf i).toNat)
      case atStart => exact ⟨.inl ⟨rfl, rfl⟩, bch B (bnew _ _), hy⟩
      case round =>
        obtain ⟨hk, B, hx⟩ := hrel
        obtain ⟨y0, y1, y2⟩ := cells3 hx
        rcases hk with ⟨rfl, rfl⟩ | ⟨rfl, rfl⟩ | ⟨rfl, rfl⟩ | ⟨rfl, rfl⟩
        · go_wp2_with (go_at_call 10; ((with_reducible refine (H0.out _).mono ?_); rintro e w9 ⟨rfl, b9⟩))
          go_roundw
          case rel => exact ⟨.inr (.inl ⟨rfl, rfl⟩), bch B b9, row_up hx b9⟩
          case measure => simp [intOf]
        · go_wp2_with (go_at_call 10; ((with_reducible refine (H5.out _).mono ?_); rintro e w9 ⟨rfl, b9⟩))
          go_roundw
          case rel => exact ⟨.inr (.inr (.inl ⟨rfl, rfl⟩)), bch B b9, row_up hx b9⟩
          case measure => simp [intOf]
        · go_wp2_with (go_at_call 10; ((with_reducible refine (H9.out _).mono ?_); rintro e w9 ⟨rfl, b9⟩))
          go_roundw
          case rel => exact ⟨.inr (.inr (.inr ⟨rfl, rfl⟩)), bch B b9, row_up hx b9⟩
          case measure => simp [intOf]
        · go_wp2_with (go_at_call 9; ((with_reducible refine (alive_any _).mono ?_); rintro e w8 ⟨rfl, b8⟩))
          go_ret
          exact ⟨rfl, bch B b8⟩
theorem order_32 (a s : Int) (ha : 0 ≤ a ∧ a < 18446744073709551616) (hs : 0 ≤ s ∧ s < 18446744073709551616) (c0 c1 c7 c5 c9 : Bool) (k0 : hoV 56 true 0 a s = c0) (k1 : hoV 57 true 0 a s = c1) (k7 : hoV 63 true 0 a s = c7) (k5 : hoV 61 true 0 a s = c5) (k9 : hoV 65 true 0 a s = c9)
    (h : (c0 = true ∧ c1 = false ∧ c7 = false ∧ c5 = false ∧ c9 = false) ∨ (c0 = false ∧ ((c1 = true ∧ c7 = false) ∨ (c1 = false ∧ c7 = true)) ∧ ((c5 = true ∧ c9 = false) ∨ (c5 = false ∧ c9 = true)))) (w : World) :
    Calls Try.prog 7 #[.int .u64 a, .int .u64 s, .bool false] w fun e w' => e = .returned (.bool true) ∧ Below w.heap.size w w' := by
  rcases h with ⟨rfl, rfl, rfl, rfl, rfl⟩ | ⟨rfl, ⟨rfl, rfl⟩ | ⟨rfl, rfl⟩, ⟨rfl, rfl⟩ | ⟨rfl, rfl⟩⟩
  · exact order_32_0 a s ha hs k0 k1 k7 k5 k9 w
  · exact order_32_1 a s ha hs k0 k1 k7 k5 k9 w
  · exact order_32_2 a s ha hs k0 k1 k7 k5 k9 w
  · exact order_32_3 a s ha hs k0 k1 k7 k5 k9 w
  · exact order_32_4 a s ha hs k0 k1 k7 k5 k9 w
theorem tri (x y u v : Int) (he : x = y ↔ u = v) : ((x == y) = true ∧ decide (y < x) = false ∧ decide (x < y) = false ∧ decide (v < u) = false ∧ decide (u < v) = false) ∨ ((x == y) = false ∧ ((decide (y < x) = true ∧ decide (x < y) = false) ∨ (decide (y < x) = false ∧ decide (x < y) = true)) ∧ ((decide (v < u) = true ∧ decide (u < v) = false) ∨ (decide (v < u) = false ∧ decide (u < v) = true))) := by
  by_cases h : x = y
  · have h2 := he.1 h
    subst h h2
    exact .inl ⟨by simp, by simp, by simp, by simp, by simp⟩
  · have h2 : u ≠ v := fun e => h (he.2 e)
    refine .inr ⟨by simpa using h, ?_, ?_⟩
    · rcases Int.lt_trichotomy x y with k | k | k
      · exact .inr ⟨decide_eq_false (by omega), decide_eq_true k⟩
      · exact absurd k h
      · exact .inl ⟨decide_eq_true k, decide_eq_false (by omega)⟩
    · rcases Int.lt_trichotomy u v with k | k | k
      · exact .inr ⟨decide_eq_false (by omega), decide_eq_true k⟩
      · exact absurd k h2
      · exact .inl ⟨decide_eq_true k, decide_eq_false (by omega)⟩
theorem sg64_inj (x y : Int) (x0 : 0 ≤ x) (x1 : x < 18446744073709551616) (y0 : 0 ≤ y) (y1 : y < 18446744073709551616) : x = y ↔ sg 64 x = sg 64 y := by
  show x = y ↔ Go.RowKit.wrap64 x = Go.RowKit.wrap64 y
  unfold Go.RowKit.wrap64
  omega
theorem sg32_inj (x y : Int) (x0 : 0 ≤ x) (x1 : x < 4294967296) (y0 : 0 ≤ y) (y1 : y < 4294967296) : x = y ↔ sg 32 x = sg 32 y := by
  show x = y ↔ Go.RowKit.wrap32 x = Go.RowKit.wrap32 y
  unfold Go.RowKit.wrap32
  omega
theorem order_walk (a : Int) (ha : 0 ≤ a ∧ a < 18446744073709551616) (s : Int) (hs : 0 ≤ s ∧ s < 18446744073709551616) (wide : Bool) (w : World) :
    Calls Try.prog 7 #[.int .u64 a, .int .u64 s, .bool wide] w fun e w' => e = .returned (.bool true) ∧ Below w.heap.size w w' := by
  cases wide
  · exact order_32 a s ha hs _ _ _ _ _ (hoV_32 0 (by decide) true 0 a s) (hoV_32 1 (by decide) true 0 a s) (hoV_32 7 (by decide) true 0 a s) (hoV_32 5 (by decide) true 0 a s) (hoV_32 9 (by decide) true 0 a s) (tri _ _ _ _ (sg32_inj _ _ (by omega) (by omega) (by rw [opd_reg]; omega) (by rw [opd_reg]; omega))) w
  · exact order_64 a s ha hs _ _ _ _ _ (hoV_64 0 (by decide) true 0 a s) (hoV_64 1 (by decide) true 0 a s) (hoV_64 7 (by decide) true 0 a s) (hoV_64 5 (by decide) true 0 a s) (hoV_64 9 (by decide) true 0 a s) (tri _ _ _ _ (sg64_inj a s ha.1 ha.2 hs.1 hs.2)) w

set_option maxRecDepth 100000 in
theorem order_lifted (os : Os) (started : os.Started) (H : Type) (enc : TypeId × Value → H) :
    ReturnsInHanded {} Try.checked os 7 .any (Rows.condOrderSpec.pre6 enc Try.prog Try.f7 Rows.condOrderRow.domain false) (Rows.condOrderSpec.post enc Try.prog Try.f7 false true false false) := by
  refine returnsInHanded_of_change (C := Try.checked) own started (by kernel_rfl) Try.func7
    (ChangeSpec.witness6 (enc := enc) (C := Try.checked) false ⟨#[], #[.int .u64 0, .int .u64 0, .bool false], []⟩ 8 (by kernel_rfl) (by kernel_rfl) (by kernel_rfl) (by kernel_rfl)) ?_
  intro W base args ds gs before hval0 hW _ _
  have hval : ∀ (j : Nat) t v, Try.f7.params[j]? = some t → args[j]? = some v → Value.okWide Try.prog W .any base t v := hval0
  have hW' := hW
  obtain ⟨p, q, hA0, hV, rfl, hfz, hnd⟩ := hW
  have hA : DataW.TrodAll enc Try.prog W 0 (fun _ => true) true Try.f7.params.toList args.toList ds p := hA0
  rw [Try.params7] at hA hval
  obtain ⟨v0, vs0, d0, ds0, p0, q0, hargs, rfl, rfl, h0, r0⟩ := trodAll_cons hA
  obtain ⟨v1, vs1, d1, ds1, p1, q1, rfl, rfl, rfl, h1, r1⟩ := trodAll_cons r0
  obtain ⟨v2, vs2, d2, ds2, p2, q2, rfl, rfl, rfl, h2, r2⟩ := trodAll_cons r1
  obtain ⟨rfl, rfl, rfl⟩ := trodAll_nil r2
  obtain rfl : args = #[v0, v1, v2] := by cases args; simp_all
  obtain ⟨rfl, rfl⟩ := trodVars_none hV
  obtain ⟨a0, rfl, rfl, rfl, w0⟩ := open_int Try.underlying24 (hval 0 24 v0 rfl rfl) h0
  obtain ⟨a1, rfl, rfl, rfl, w1⟩ := open_int Try.underlying24 (hval 1 24 v1 rfl rfl) h1
  obtain ⟨a2, rfl, rfl, rfl⟩ := open_bool Try.underlying4 (hval 2 4 v2 rfl rfl) h2
  clear hA0 hval0
  simp only [List.append_nil] at hW'
  refine (order_walk a0 (bu64 w0) a1 (bu64 w1) a2 W).mono fun e W' ⟨he, hg⟩ => ?_
  subst he
  exact ⟨_, rfl, law_post hW' rfl rfl Try.underlying4 rfl (fun sp _ => (trodAll_cons_mk (shut_int Try.underlying24 w0) (trodAll_cons_mk (shut_int Try.underlying24 w1) (trodAll_cons_mk (shut_bool Try.underlying4 a2) trodAll_mk0)))) hg⟩

theorem order_said : Rows.CondOrderSaid :=
  OpenClaim.holds_of_wide 7 Try.f7 rfl rfl rfl rfl rfl rfl rfl ⟨rfl, rfl, rfl, rfl, rfl⟩ rfl rfl rfl rfl rfl (by kernel_rfl) Try.func7 (by kernel_rfl)
    (of_decide_eq_true (by kernel_rfl)) (by unfold Func.isWrapper; first | (rw [if_pos (by decide +kernel)]; kernel_rfl) | (rw [if_neg (by decide +kernel)]; exact ⟨rfl, rfl⟩))
    (fun os started H enc _ => order_lifted os started H enc)
#print axioms order_said
end Go.Proofs.Ytiklgnokojkoeaa
