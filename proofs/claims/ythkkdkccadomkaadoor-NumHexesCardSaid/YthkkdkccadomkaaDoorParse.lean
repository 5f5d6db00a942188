/- What Parse returns (num.Parse), for every text and number of bits, where the table of widths reads as the program's text lays it; it turns nothing that was there. -/
import Derived.Test.YthkkdkccadomkaaDoorUns
namespace Go.Proofs.YthkkdkccadomkaaDoor
open Go.RowKit

theorem Wid.lt {w : World} (h : Wid w) : 0 < w.heap.size := by
  obtain ⟨t, fr, h⟩ := h; exact lt_of_block h
theorem Wid.below {B : Nat} {w w' : World} (h : Wid w) (hb : Below B w w') (hB : 0 < B) : Wid w' := by
  obtain ⟨t, fr, h⟩ := h; exact ⟨t, fr, (hb.block 0 hB).trans h⟩
theorem Wid.alloc {w : World} (h : Wid w) (o : Obj) : Wid (w.alloc o) := h.below ((Below.refl _ _).alloc (Nat.le_refl _) o) h.lt
theorem Wid.drewN {w : World} (h : Wid w) (n : Nat) : Wid (w.drewN n) := h

theorem Calls.turn {P : Program} {f : FuncId} {args : Array Value} {w : World} {v : Value} (h : Calls P f args w fun e w' => e = .returned v ∧ w = w') : Calls P f args w fun e w' => e = .returned v ∧ w' = w :=
  h.mono fun _ _ h => ⟨h.1, h.2.symm⟩

/-- What Parse returns: the value and the error's number. -/
def ps (l : List UInt8) (b : Int) : Int × Int :=
  match us (Lib.trimPrefix l [45]) with
  | none => (0, 3)
  | some (v, o) => if isW b && (!o && decide ((v : Int) ≤ gr (Lib.hasPrefix l [45]) b)) then (sx b (if Lib.hasPrefix l [45] then -(v : Int) else v), 0) else (0, 4)

theorem ret_two {k k' : IntKind} {a b c : Int} (h : a = b) : Ending.returned (.tuple #[.int k a, .int k' c]) = .returned (.tuple #[.int k b, .int k' c]) := by rw [h]

set_option maxHeartbeats 1000000 in
theorem parse_none (s : ByteArray) (b : Int) (w : World) (hu : us (Lib.trimPrefix s.data.toList [45]) = none) :
    Calls Tryd.prog 10 #[.string s, .int .i64 b] w fun e w' => e = .returned (.tuple #[.int .i64 0, .int .i64 3]) ∧ Below w.heap.size w w' := by
  obtain ⟨t, ht⟩ : ∃ t : ByteArray, (⟨(Lib.trimPrefix s.data.toList [45]).toArray⟩ : ByteArray) = t := ⟨_, rfl⟩
  obtain ⟨c, hc⟩ : ∃ c : Bool, Lib.hasPrefix s.data.toList [45] = c := ⟨_, rfl⟩
  have hu' : us t.data.toList = none := by rw [← ht]; exact hu
  have HT := Lib.hid ht
  have HC := Lib.hid hc
  have HU := Lib.hid hu'
  clear ht hc hu hu'
  go_enter Tryd.func10, Tryd.ntmps10
  go_wp2_with (first | (go_at_call 23; refine (cut_at _ _ t c _ HT.out HC.out).mono ?_; rintro e w' ⟨rfl, rfl⟩) | (go_at_call 24; refine (unsigned_any _ _).mono ?_; rw [HU.out]; rintro e w1 ⟨rfl, hb1⟩; unfold unsV))
  go_ret2
  refine ⟨rfl, ?_⟩
  exact hb1.alloc hb1.size _

set_option maxHeartbeats 1000000 in
theorem parse_nw (s : ByteArray) (b : Int) (w : World) (hw : Wid w) (v : Nat) (o : Bool) (hu : us (Lib.trimPrefix s.data.toList [45]) = some (v, o)) (hb : isW b = false) :
    Calls Tryd.prog 10 #[.string s, .int .i64 b] w fun e w' => e = .returned (.tuple #[.int .i64 0, .int .i64 4]) ∧ Below w.heap.size w w' := by
  obtain ⟨t, ht⟩ : ∃ t : ByteArray, (⟨(Lib.trimPrefix s.data.toList [45]).toArray⟩ : ByteArray) = t := ⟨_, rfl⟩
  obtain ⟨c, hc⟩ : ∃ c : Bool, Lib.hasPrefix s.data.toList [45] = c := ⟨_, rfl⟩
  have hu' : us t.data.toList = some (v, o) := by rw [← ht]; exact hu
  have HT := Lib.hid ht
  have HC := Lib.hid hc
  have HU := Lib.hid hu'
  have HB := Lib.hid hb
  clear ht hc hu hu' hb
  go_enter Tryd.func10, Tryd.ntmps10
  go_wp2_with (first | (go_at_call 23; refine (cut_at _ _ t c _ HT.out HC.out).mono ?_; rintro e w' ⟨rfl, rfl⟩) | (go_at_call 24; refine (unsigned_any _ _).mono ?_; rw [HU.out]; rintro e w1 ⟨rfl, hb1⟩; unfold unsV))
  have hw1 : Wid w1 := hw.below hb1 hw.lt
  go_quiet ((go_at_call 25; exact Calls.quiet_of_same (Calls.turn (isWidth_no _ _ (by exact hw1.alloc _) HB.out))))
  go_wp2
  go_ret2
  refine ⟨rfl, ?_⟩
  exact below_drewN (hb1.alloc hb1.size _) _

set_option maxHeartbeats 1000000 in
theorem parse_over (s : ByteArray) (b : Int) (w : World) (hw : Wid w) (v : Nat) (hu : us (Lib.trimPrefix s.data.toList [45]) = some (v, true)) (hb : b = 8 ∨ b = 16 ∨ b = 32 ∨ b = 64) :
    Calls Tryd.prog 10 #[.string s, .int .i64 b] w fun e w' => e = .returned (.tuple #[.int .i64 0, .int .i64 4]) ∧ Below w.heap.size w w' := by
  obtain ⟨t, ht⟩ : ∃ t : ByteArray, (⟨(Lib.trimPrefix s.data.toList [45]).toArray⟩ : ByteArray) = t := ⟨_, rfl⟩
  obtain ⟨c, hc⟩ : ∃ c : Bool, Lib.hasPrefix s.data.toList [45] = c := ⟨_, rfl⟩
  have hu' : us t.data.toList = some (v, true) := by rw [← ht]; exact hu
  have HT := Lib.hid ht
  have HC := Lib.hid hc
  have HU := Lib.hid hu'
  have HB := Lib.hid hb
  clear ht hc hu hu' hb
  go_enter Tryd.func10, Tryd.ntmps10
  go_wp2_with (first | (go_at_call 23; refine (cut_at _ _ t c _ HT.out HC.out).mono ?_; rintro e w' ⟨rfl, rfl⟩) | (go_at_call 24; refine (unsigned_any _ _).mono ?_; rw [HU.out]; rintro e w1 ⟨rfl, hb1⟩; unfold unsV))
  have hw1 : Wid w1 := hw.below hb1 hw.lt
  go_quiet ((go_at_call 25; exact Calls.quiet_of_same (Calls.turn (isWidth_yes _ _ (by exact hw1.alloc _) HB.out))))
  go_wp2
  go_ret2
  refine ⟨rfl, ?_⟩
  exact below_drewN (hb1.alloc hb1.size _) _

set_option maxHeartbeats 1000000 in
theorem parse_big (s : ByteArray) (b : Int) (w : World) (hw : Wid w) (v : Nat) (hu : us (Lib.trimPrefix s.data.toList [45]) = some (v, false)) (hb : b = 8 ∨ b = 16 ∨ b = 32 ∨ b = 64) (hg : gr (Lib.hasPrefix s.data.toList [45]) b < v) :
    Calls Tryd.prog 10 #[.string s, .int .i64 b] w fun e w' => e = .returned (.tuple #[.int .i64 0, .int .i64 4]) ∧ Below w.heap.size w w' := by
  obtain ⟨t, ht⟩ : ∃ t : ByteArray, (⟨(Lib.trimPrefix s.data.toList [45]).toArray⟩ : ByteArray) = t := ⟨_, rfl⟩
  obtain ⟨c, hc⟩ : ∃ c : Bool, Lib.hasPrefix s.data.toList [45] = c := ⟨_, rfl⟩
  have hu' : us t.data.toList = some (v, false) := by rw [← ht]; exact hu
  rw [hc] at hg
  have hg' : decide (gr c b < (v : Int)) = true := by simpa using hg
  clear hg
  have HT := Lib.hid ht
  have HC := Lib.hid hc
  have HU := Lib.hid hu'
  have HB := Lib.hid hb
  clear ht hc hu hu' hb
  go_enter Tryd.func10, Tryd.ntmps10
  go_wp2_with (first | (go_at_call 23; refine (cut_at _ _ t c _ HT.out HC.out).mono ?_; rintro e w' ⟨rfl, rfl⟩) | (go_at_call 24; refine (unsigned_any _ _).mono ?_; rw [HU.out]; rintro e w1 ⟨rfl, hb1⟩; unfold unsV))
  have hw1 : Wid w1 := hw.below hb1 hw.lt
  go_quiet (first | (go_at_call 25; exact Calls.quiet_of_same (Calls.turn (isWidth_yes _ _ (by exact hw1.alloc _) HB.out))) | (go_at_call 26; exact Calls.quiet_of_same (Calls.turn (greatest_any _ _ _ HB.out))))
  go_wp2
  go_ret2
  refine ⟨rfl, ?_⟩
  exact below_drewN (hb1.alloc hb1.size _) _

theorem rd_lt (base : Nat) : ∀ (l : List UInt8) (v : Nat) (o : Bool) (v' : Nat) (o' : Bool), v < 18446744073709551616 → rd base l v o = some (v', o') → v' < 18446744073709551616
  | [], v, o, v', o', h, e => by
    simp only [rd, Option.some.injEq, Prod.mk.injEq] at e
    omega
  | c :: r, v, o, v', o', h, e => by
    simp only [rd] at e
    split at e
    · exact rd_lt base r _ _ _ _ (Nat.mod_lt _ (by decide)) e
    · cases e

theorem us_lt (l : List UInt8) {v : Nat} {o : Bool} (h : us l = some (v, o)) : v < 18446744073709551616 := by
  unfold us at h
  split at h
  · split at h
    · cases h
    · exact rd_lt _ _ _ _ _ _ (by decide) h
  · split at h
    · cases h
    · exact rd_lt _ _ _ _ _ _ (by decide) h

set_option maxHeartbeats 1000000 in
theorem parse_ok (s : ByteArray) (b : Int) (w : World) (hw : Wid w) (v : Nat) (hu : us (Lib.trimPrefix s.data.toList [45]) = some (v, false)) (hb : b = 8 ∨ b = 16 ∨ b = 32 ∨ b = 64) (hg : (v : Int) ≤ gr (Lib.hasPrefix s.data.toList [45]) b) :
    Calls Tryd.prog 10 #[.string s, .int .i64 b] w fun e w' => e = .returned (.tuple #[.int .i64 (sx b (if Lib.hasPrefix s.data.toList [45] then -(v : Int) else v)), .int .i64 0]) ∧ Below w.heap.size w w' := by
  obtain ⟨t, ht⟩ : ∃ t : ByteArray, (⟨(Lib.trimPrefix s.data.toList [45]).toArray⟩ : ByteArray) = t := ⟨_, rfl⟩
  obtain ⟨c, hc⟩ : ∃ c : Bool, Lib.hasPrefix s.data.toList [45] = c := ⟨_, rfl⟩
  have hu' : us t.data.toList = some (v, false) := by rw [← ht]; exact hu
  rw [hc] at hg
  have hg' : decide (gr c b < (v : Int)) = false := by simpa using hg
  clear hg
  have HT := Lib.hid ht
  have HC := Lib.hid hc
  have HU := Lib.hid hu'
  have HB := Lib.hid hb
  rw [hc]
  have hv : v < 18446744073709551616 := us_lt _ hu'
  have hx0 : 0 ≤ IntKind.u64.wrap (-(v : Int)) := by rw [IntKind.wrap_u64]; omega
  have hx1 : IntKind.u64.wrap (-(v : Int)) < 18446744073709551616 := by rw [IntKind.wrap_u64]; omega
  clear ht hc hu hu' hb
  cases c
  all_goals
    go_enter Tryd.func10, Tryd.ntmps10
    go_wp2_with (first | (go_at_call 23; refine (cut_at _ _ t _ _ HT.out HC.out).mono ?_; rintro e w' ⟨rfl, rfl⟩) | (go_at_call 24; refine (unsigned_any _ _).mono ?_; rw [HU.out]; rintro e w1 ⟨rfl, hb1⟩; unfold unsV))
    have hw1 : Wid w1 := hw.below hb1 hw.lt
    go_quiet (first | (go_at_call 25; exact Calls.quiet_of_same (Calls.turn (isWidth_yes _ _ (by exact hw1.alloc _) HB.out))) | (go_at_call 26; exact Calls.quiet_of_same (Calls.turn (greatest_any _ _ _ HB.out))))
    go_wp2_with (go_at_call 19; refine (extend_yes _ _ _ (by omega) (by omega) (by exact hw1.alloc _) HB.out).mono ?_; rintro e w' ⟨rfl, rfl⟩)
    go_ret2
    refine ⟨?_, ?_⟩
    · exact ret_two (by first | rfl | (show sx b (IntKind.u64.wrap (-(v : Int))) = sx b (-(v : Int)); rw [IntKind.wrap_u64, sx_mod]))
    · exact below_drewN (hb1.alloc hb1.size _) _

theorem isW_of {b : Int} (h : b = 8 ∨ b = 16 ∨ b = 32 ∨ b = 64) : isW b = true := by
  rcases h with rfl | rfl | rfl | rfl <;> rfl

theorem parse_any (s : ByteArray) (b : Int) (w : World) (hw : Wid w) :
    Calls Tryd.prog 10 #[.string s, .int .i64 b] w fun e w' => e = .returned (.tuple #[.int .i64 (ps s.data.toList b).1, .int .i64 (ps s.data.toList b).2]) ∧ Below w.heap.size w w' := by
  unfold ps
  cases hu : us (Lib.trimPrefix s.data.toList [45]) with
  | none => exact parse_none s b w hu
  | some r =>
    obtain ⟨v, o⟩ := r
    cases hb : isW b with
    | false => exact parse_nw s b w hw v o hu hb
    | true =>
      cases o with
      | true => exact parse_over s b w hw v hu (isW_cases hb)
      | false =>
        by_cases hg : (v : Int) ≤ gr (Lib.hasPrefix s.data.toList [45]) b
        · have := parse_ok s b w hw v hu (isW_cases hb) hg
          simpa [hg] using this
        · have := parse_big s b w hw v hu (isW_cases hb) (by omega)
          simpa [hg] using this
end Go.Proofs.YthkkdkccadomkaaDoor
