/- What the seven conditions of the program's Check answer. No condition but that memory holds the instruction, its form and its fields, and the table of widths as the program lays it. -/
import Derived.Test.YtbneaihpnfkcdaaDoorL4Small
import Derived.Test.YtbneaihpnfkcdaaDoorL1Wid
namespace Go.Proofs.YtbneaihpnfkcdaaDoor.L4
open Go.RowKit L3 L1

/-- Memory holds an instruction, its form and which fields it uses; the table of widths reads as laid. -/
structure Held (w : World) (kx kf ku : Nat) (op : Int) (reg : Bool) (dst src off imm f : Int) (vD vS vO vI : Bool) : Prop where
  x : w.heap[kx]? = some (.cells #[.int .i64 op, .bool reg, .int .i64 dst, .int .i64 src, .int .i64 off, .int .i64 imm] 27)
  f : w.heap[kf]? = some (.cells #[.int .i64 f] 3)
  u : w.heap[ku]? = some (.cells #[.bool vD, .bool vS, .bool vO, .bool vI] 125)
  wid : Wid w

theorem Held.below {w w' : World} {kx kf ku : Nat} {op : Int} {reg : Bool} {dst src off imm f : Int} {vD vS vO vI : Bool} (h : Held w kx kf ku op reg dst src off imm f vD vS vO vI) (hb : Below w.heap.size w w') :
    Held w' kx kf ku op reg dst src off imm f vD vS vO vI := by
  obtain ⟨hx, hf, hu, t, fr, hw⟩ := h
  exact ⟨(hb.block _ (lt_of_block hx)).trans hx, (hb.block _ (lt_of_block hf)).trans hf, (hb.block _ (lt_of_block hu)).trans hu, t, fr, (hb.block _ (lt_of_block hw)).trans hw⟩

theorem cells6 {w : World} {k : Nat} {a b c d e f : Value} {t : TypeId} (h : w.heap[k]? = some (.cells #[a, b, c, d, e, f] t)) :
    w.cell? ⟨k, 0, none⟩ = some a ∧ w.cell? ⟨k, 1, none⟩ = some b ∧ w.cell? ⟨k, 2, none⟩ = some c ∧ w.cell? ⟨k, 3, none⟩ = some d ∧ w.cell? ⟨k, 4, none⟩ = some e ∧ w.cell? ⟨k, 5, none⟩ = some f := by
  simp [World.cell?, h]

theorem zero_at (u : Bool) (n : Int) (b : Bool) (w : World) (h : (u || n == 0) = b) : Calls Tryd.prog 92 #[.bool u, .int .i64 n] w fun e w' => e = .returned (.bool b) ∧ w = w' := by
  subst h
  cases u
  · cases hn : n == 0
    all_goals
      go_enter Tryd.func92, Tryd.ntmps92
      go_wp2
      go_ret
      exact ⟨rfl, rfl⟩
  · go_enter Tryd.func92, Tryd.ntmps92
    go_wp2
    go_ret
    exact ⟨rfl, rfl⟩

theorem reg_at (n : Int) (b : Bool) (w : World) (h : isG n = b) : Calls Tryd.prog 95 #[.int .i64 n] w fun e w' => e = .returned (.bool b) ∧ w = w' := by
  subst h
  have e : decide (n ≤ 10) = decide (n < 11) := by rw [Bool.eq_iff_iff]; simp; omega
  unfold isG
  rw [e]
  cases h1 : decide (0 ≤ n) <;> cases h2 : decide (n < 11)
  all_goals
    clear e
    go_enter Tryd.func95, Tryd.ntmps95
    go_wp2
    go_ret
    exact ⟨rfl, rfl⟩

/-- Is the number in the form's range? -/
def rng (f imm : Int) : Bool := if f == 5 then decide (1 ≤ imm) && decide (imm ≤ 3) else if f == 11 then decide (0 ≤ imm) && decide (imm < 255) else if f == 10 then sx 64 imm == imm else sx 32 imm == imm

theorem fits_is (x b : Int) (v : Bool) (w : World) (hw : Wid w) (h : b = 8 ∨ b = 16 ∨ b = 32 ∨ b = 64) (hv : (sx b x == x) = v) :
    Calls Tryd.prog 14 #[.int .i64 x, .int .i64 b] w fun e w' => e = .returned (.bool v) ∧ w = w' := by
  rw [← hv]
  exact fits_yes x b w hw h

set_option maxHeartbeats 1000000 in
theorem range_at (f imm : Int) (b : Bool) (w : World) (hw : Wid w) (h : rng f imm = b) : Calls Tryd.prog 98 #[.int .i64 f, .int .i64 imm] w fun e w' => e = .returned (.bool b) ∧ w = w' := by
  unfold rng at h
  cases h5 : f == 5
  · cases h11 : f == 11
    · cases h10 : f == 10
      · rw [h5, h11, h10] at h
        have H : Hid ((sx 32 imm == imm) = b) := Lib.hid h
        clear h
        go_enter Tryd.func98, Tryd.ntmps98
        go_wp2_with (first | (go_at_call 14; ((with_reducible refine (fits_is _ _ _ _ hw (by decide) H.out).mono ?_); rintro e w1 ⟨rfl, rfl⟩)))
        go_ret
        exact ⟨rfl, rfl⟩
      · rw [h5, h11, h10] at h
        have H : Hid ((sx 64 imm == imm) = b) := Lib.hid h
        clear h
        go_enter Tryd.func98, Tryd.ntmps98
        go_wp2_with (first | (go_at_call 14; ((with_reducible refine (fits_is _ _ _ _ hw (by decide) H.out).mono ?_); rintro e w1 ⟨rfl, rfl⟩)))
        go_ret
        exact ⟨rfl, rfl⟩
    · rw [h5, h11] at h
      simp only [Bool.false_eq_true, if_false, if_true] at h
      subst h
      cases h1 : decide (0 ≤ imm) <;> cases h2 : decide (imm < 255)
      all_goals
        go_enter Tryd.func98, Tryd.ntmps98
        go_wp2
        go_ret
        exact ⟨rfl, rfl⟩
  · rw [h5] at h
    simp only [if_true] at h
    subst h
    cases h1 : decide (1 ≤ imm) <;> cases h2 : decide (imm ≤ 3)
    all_goals
      go_enter Tryd.func98, Tryd.ntmps98
      go_wp2
      go_ret
      exact ⟨rfl, rfl⟩

section
variable {w : World} {kx kf ku : Nat} {op : Int} {reg : Bool} {dst src off imm f : Int} {vD vS vO vI : Bool}

theorem c1_at (H : Held w kx kf ku op reg dst src off imm f vD vS vO vI) (b : Bool) (h : (f != -1) = b) : Calls Tryd.prog 89 #[.pointer (some ⟨kf, 0, none⟩)] w fun e w' => e = .returned (.bool b) ∧ w = w' := by
  have hc := cell_of_one H.f
  clear H
  subst h
  go_enter Tryd.func89, Tryd.ntmps89
  go_wp2
  go_ret
  exact ⟨rfl, rfl⟩

theorem c2_at (H : Held w kx kf ku op reg dst src off imm f vD vS vO vI) (b : Bool) (h : (!reg || f == 0 || f == 4) = b) : Calls Tryd.prog 90 #[.pointer (some ⟨kx, 0, none⟩), .pointer (some ⟨kf, 0, none⟩)] w fun e w' => e = .returned (.bool b) ∧ w = w' := by
  have hc := cell_of_one H.f
  obtain ⟨x0, x1, x2, x3, x4, x5⟩ := cells6 H.x
  clear H
  subst h
  cases reg
  · go_enter Tryd.func90, Tryd.ntmps90
    go_wp2
    go_ret
    exact ⟨rfl, rfl⟩
  · cases h0 : f == 0 <;> cases h4 : f == 4
    all_goals
      go_enter Tryd.func90, Tryd.ntmps90
      go_wp2
      go_ret
      exact ⟨rfl, rfl⟩

theorem c3_at (H : Held w kx kf ku op reg dst src off imm f vD vS vO vI) (b : Bool) (h : ((vD || dst == 0) && (vS || src == 0)) = b) : Calls Tryd.prog 91 #[.pointer (some ⟨ku, 0, none⟩), .pointer (some ⟨kx, 0, none⟩)] w fun e w' => e = .returned (.bool b) ∧ w = w' := by
  obtain ⟨u0, u1, u2, u3, _⟩ := cells4 H.u
  obtain ⟨x0, x1, x2, x3, x4, x5⟩ := cells6 H.x
  clear H
  obtain ⟨a, ha⟩ : ∃ a, (vD || dst == 0) = a := ⟨_, rfl⟩
  obtain ⟨c, hc⟩ : ∃ c, (vS || src == 0) = c := ⟨_, rfl⟩
  rw [ha, hc] at h
  have HA := Lib.hid ha
  have HC := Lib.hid hc
  clear ha hc
  subst h
  cases a
  · go_enter Tryd.func91, Tryd.ntmps91
    go_wp2_with (first | (go_at_call 92; ((with_reducible refine (zero_at _ _ _ _ HA.out).mono ?_); rintro e w1 ⟨rfl, rfl⟩)))
    go_ret
    exact ⟨rfl, rfl⟩
  · go_enter Tryd.func91, Tryd.ntmps91
    go_wp2_with (first | (go_at_call 92; ((with_reducible refine (zero_at _ _ _ _ HA.out).mono ?_); rintro e w1 ⟨rfl, rfl⟩)) | (go_at_call 92; ((with_reducible refine (zero_at _ _ _ _ HC.out).mono ?_); rintro e w1 ⟨rfl, rfl⟩)))
    go_ret
    exact ⟨rfl, rfl⟩

theorem c4_at (H : Held w kx kf ku op reg dst src off imm f vD vS vO vI) (b : Bool) (h : ((vO || off == 0) && (vI || imm == 0)) = b) : Calls Tryd.prog 93 #[.pointer (some ⟨ku, 0, none⟩), .pointer (some ⟨kx, 0, none⟩)] w fun e w' => e = .returned (.bool b) ∧ w = w' := by
  obtain ⟨u0, u1, u2, u3, _⟩ := cells4 H.u
  obtain ⟨x0, x1, x2, x3, x4, x5⟩ := cells6 H.x
  clear H
  obtain ⟨a, ha⟩ : ∃ a, (vO || off == 0) = a := ⟨_, rfl⟩
  rw [ha] at h
  have HA := Lib.hid ha
  clear ha
  subst h
  cases a
  · go_enter Tryd.func93, Tryd.ntmps93
    go_wp2_with (first | (go_at_call 92; ((with_reducible refine (zero_at _ _ _ _ HA.out).mono ?_); rintro e w1 ⟨rfl, rfl⟩)))
    go_ret
    exact ⟨rfl, rfl⟩
  · cases vI
    · cases hi : imm == 0
      all_goals
        go_enter Tryd.func93, Tryd.ntmps93
        go_wp2_with (first | (go_at_call 92; ((with_reducible refine (zero_at _ _ _ _ HA.out).mono ?_); rintro e w1 ⟨rfl, rfl⟩)))
        go_ret
        exact ⟨rfl, rfl⟩
    · go_enter Tryd.func93, Tryd.ntmps93
      go_wp2_with (first | (go_at_call 92; ((with_reducible refine (zero_at _ _ _ _ HA.out).mono ?_); rintro e w1 ⟨rfl, rfl⟩)))
      go_ret
      exact ⟨rfl, rfl⟩

theorem c5_at (H : Held w kx kf ku op reg dst src off imm f vD vS vO vI) (b : Bool) (h : (isG dst && isG src) = b) : Calls Tryd.prog 94 #[.pointer (some ⟨kx, 0, none⟩)] w fun e w' => e = .returned (.bool b) ∧ w = w' := by
  obtain ⟨x0, x1, x2, x3, x4, x5⟩ := cells6 H.x
  clear H
  obtain ⟨a, ha⟩ : ∃ a, isG dst = a := ⟨_, rfl⟩
  obtain ⟨c, hc⟩ : ∃ c, isG src = c := ⟨_, rfl⟩
  rw [ha, hc] at h
  have HA := Lib.hid ha
  have HC := Lib.hid hc
  clear ha hc
  subst h
  cases a
  · go_enter Tryd.func94, Tryd.ntmps94
    go_wp2_with (first | (go_at_call 95; ((with_reducible refine (reg_at _ _ _ HA.out).mono ?_); rintro e w1 ⟨rfl, rfl⟩)))
    go_ret
    exact ⟨rfl, rfl⟩
  · go_enter Tryd.func94, Tryd.ntmps94
    go_wp2_with (first | (go_at_call 95; ((with_reducible refine (reg_at _ _ _ HA.out).mono ?_); rintro e w1 ⟨rfl, rfl⟩)) | (go_at_call 95; ((with_reducible refine (reg_at _ _ _ HC.out).mono ?_); rintro e w1 ⟨rfl, rfl⟩)))
    go_ret
    exact ⟨rfl, rfl⟩

theorem c6_at (H : Held w kx kf ku op reg dst src off imm f vD vS vO vI) (b : Bool) (h : (sx 16 off == off) = b) : Calls Tryd.prog 96 #[.pointer (some ⟨kx, 0, none⟩)] w fun e w' => e = .returned (.bool b) ∧ w = w' := by
  obtain ⟨x0, x1, x2, x3, x4, x5⟩ := cells6 H.x
  have hw := H.wid
  have HA := Lib.hid h
  clear H h
  go_enter Tryd.func96, Tryd.ntmps96
  go_wp2_with (first | (go_at_call 14; ((with_reducible refine (fits_is _ _ _ _ hw (by decide) HA.out).mono ?_); rintro e w1 ⟨rfl, rfl⟩)))
  go_ret
  exact ⟨rfl, rfl⟩

theorem c7_at (H : Held w kx kf ku op reg dst src off imm f vD vS vO vI) (b : Bool) (h : rng f imm = b) : Calls Tryd.prog 97 #[.pointer (some ⟨kf, 0, none⟩), .pointer (some ⟨kx, 0, none⟩)] w fun e w' => e = .returned (.bool b) ∧ w = w' := by
  obtain ⟨x0, x1, x2, x3, x4, x5⟩ := cells6 H.x
  have hc := cell_of_one H.f
  have hw := H.wid
  have HA := Lib.hid h
  clear H h
  go_enter Tryd.func97, Tryd.ntmps97
  go_wp2_with (first | (go_at_call 98; ((with_reducible refine (range_at _ _ _ _ hw HA.out).mono ?_); rintro e w1 ⟨rfl, rfl⟩)))
  go_ret
  exact ⟨rfl, rfl⟩
end
end Go.Proofs.YtbneaihpnfkcdaaDoor.L4
