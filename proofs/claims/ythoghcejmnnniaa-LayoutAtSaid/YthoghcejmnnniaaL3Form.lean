/- Form, the program's and the reference's, number by number. No condition. -/
import Derived.Test.YthoghcejmnnniaaL3Base
namespace Go.Proofs.Ythoghcejmnnniaa.L3
open Go.RowKit

theorem below_drewN {B : Nat} {w w' : World} (h : Below B w w') (m : Nat) : Below B w (w'.drewN m) := ⟨h.1, h.2, h.3, h.4, h.5⟩
theorem bnew (w : World) (o : Obj) : Below w.heap.size w (w.alloc o) := (Below.refl _ _).alloc (Nat.le_refl _) _

/-- Form. -/
def frm (j : Nat) : Int := if j < 86 then fm j else -1

set_option maxHeartbeats 1000000 in
set_option maxRecDepth 100000 in
theorem form_any (op : Int) (w : World) : Calls Try.prog 30 #[.int .i64 op] w fun e w' => e = .returned (.int .i64 (frm (ix op))) ∧ Below w.heap.size w w' := by
  obtain ⟨s, f, b, c, r, o, i, hI⟩ := Is.some (ix op)
  have HI := Lib.hid hI
  unfold frm
  rw [HI.out.fm]
  clear hI
  by_cases h : ix op < 86
  · rw [if_pos h]
    have HK : Hid (decide (ix op < 86) = true) := Lib.hid (by rw [decide_eq_true_iff]; exact h)
    clear h
    go_enter Try.func30, Try.ntmps30
    go_wp2_with (go_at_call 35; ((with_reducible refine (at_is op _ HI.out HK.out).mono ?_); rintro e w1 ⟨rfl, hb1⟩))
    go_ret
    exact ⟨rfl, hb1.alloc hb1.size _⟩
  · rw [if_neg h]
    have HK : Hid (decide (ix op < 86) = false) := Lib.hid (by rw [decide_eq_false_iff_not]; exact h)
    clear h
    go_enter Try.func30, Try.ntmps30
    go_wp2_with (go_at_call 35; ((with_reducible refine (at_is op _ HI.out HK.out).mono ?_); rintro e w1 ⟨rfl, hb1⟩))
    go_ret
    exact ⟨rfl, hb1.alloc hb1.size _⟩

theorem ix_dec (op : Int) : decide (ix op < 86) = (decide (0 ≤ op) && decide (op ≤ 85)) := by
  rw [Bool.eq_iff_iff]
  simp only [decide_eq_true_eq, Bool.and_eq_true]
  unfold ix
  split <;> omega

theorem right_at (op : Int) (b : Bool) (w : World) (h : decide (ix op < 86) = b) : Calls Try.prog 34 #[.int .i64 op] w fun e w' => e = .returned (.bool b) ∧ w = w' := by
  subst h
  rw [ix_dec]
  cases h1 : decide (0 ≤ op) <;> cases h2 : decide (op ≤ 85)
  all_goals
    go_enter Try.func34, Try.ntmps34
    go_wp2
    go_ret
    exact ⟨rfl, rfl⟩

/-- Each number below 86, one by one. -/
theorem lt86 {k : Nat} (h : k < 86) : k = 0 ∨ k = 1 ∨ k = 2 ∨ k = 3 ∨ k = 4 ∨ k = 5 ∨ k = 6 ∨ k = 7 ∨ k = 8 ∨ k = 9 ∨ k = 10 ∨ k = 11 ∨ k = 12 ∨ k = 13 ∨ k = 14 ∨ k = 15 ∨ k = 16 ∨ k = 17 ∨ k = 18 ∨ k = 19 ∨ k = 20 ∨ k = 21 ∨ k = 22 ∨ k = 23 ∨ k = 24 ∨ k = 25 ∨ k = 26 ∨ k = 27 ∨ k = 28 ∨ k = 29 ∨ k = 30 ∨ k = 31 ∨ k = 32 ∨ k = 33 ∨ k = 34 ∨ k = 35 ∨ k = 36 ∨ k = 37 ∨ k = 38 ∨ k = 39 ∨ k = 40 ∨ k = 41 ∨ k = 42 ∨ k = 43 ∨ k = 44 ∨ k = 45 ∨ k = 46 ∨ k = 47 ∨ k = 48 ∨ k = 49 ∨ k = 50 ∨ k = 51 ∨ k = 52 ∨ k = 53 ∨ k = 54 ∨ k = 55 ∨ k = 56 ∨ k = 57 ∨ k = 58 ∨ k = 59 ∨ k = 60 ∨ k = 61 ∨ k = 62 ∨ k = 63 ∨ k = 64 ∨ k = 65 ∨ k = 66 ∨ k = 67 ∨ k = 68 ∨ k = 69 ∨ k = 70 ∨ k = 71 ∨ k = 72 ∨ k = 73 ∨ k = 74 ∨ k = 75 ∨ k = 76 ∨ k = 77 ∨ k = 78 ∨ k = 79 ∨ k = 80 ∨ k = 81 ∨ k = 82 ∨ k = 83 ∨ k = 84 ∨ k = 85 := by omega

set_option maxHeartbeats 40000000 in
set_option maxRecDepth 100000 in
theorem rform_in (k : Nat) (hk : k < 86) (w : World) : Calls Try.prog 29 #[.int .i64 (k : Int)] w fun e w' => e = .returned (.int .i64 (fm k)) ∧ w = w' := by
  rcases lt86 hk with rfl | rfl | rfl | rfl | rfl | rfl | rfl | rfl | rfl | rfl | rfl | rfl | rfl | rfl | rfl | rfl | rfl | rfl | rfl | rfl | rfl | rfl | rfl | rfl | rfl | rfl | rfl | rfl | rfl | rfl | rfl | rfl | rfl | rfl | rfl | rfl | rfl | rfl | rfl | rfl | rfl | rfl | rfl | rfl | rfl | rfl | rfl | rfl | rfl | rfl | rfl | rfl | rfl | rfl | rfl | rfl | rfl | rfl | rfl | rfl | rfl | rfl | rfl | rfl | rfl | rfl | rfl | rfl | rfl | rfl | rfl | rfl | rfl | rfl | rfl | rfl | rfl | rfl | rfl | rfl | rfl | rfl | rfl | rfl | rfl | rfl
  all_goals
    clear hk
    go_enter Try.func29, Try.ntmps29
    go_wp2_with (first | (go_at_call 34; ((with_reducible refine (right_at _ true _ (by decide)).mono ?_); rintro e w1 ⟨rfl, rfl⟩)))
    go_ret
    exact ⟨rfl, rfl⟩

set_option maxRecDepth 100000 in
theorem rform_at (op : Int) (v : Int) (w : World) (hv : frm (ix op) = v) : Calls Try.prog 29 #[.int .i64 op] w fun e w' => e = .returned (.int .i64 v) ∧ w = w' := by
  subst hv
  by_cases h : 0 ≤ op ∧ op < 86
  · have := rform_in (ix op) (ix_lt h) w
    rw [ix_in h] at this
    rwa [frm, if_pos (ix_lt h)]
  · have HK : Hid (decide (ix op < 86) = false) := Lib.hid (by rw [ix_out h]; rfl)
    rw [ix_out h]
    clear h
    go_enter Try.func29, Try.ntmps29
    go_wp2_with (first | (go_at_call 34; ((with_reducible refine (right_at _ false _ HK.out).mono ?_); rintro e w1 ⟨rfl, rfl⟩)))
    go_ret
    exact ⟨rfl, rfl⟩

end Go.Proofs.Ythoghcejmnnniaa.L3
