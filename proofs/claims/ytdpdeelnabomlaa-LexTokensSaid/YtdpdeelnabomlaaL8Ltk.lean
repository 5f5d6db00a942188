/- The law 'Tokens returns the tokens of the reference' returns true, if the program's Tokens returns them and the examples hold. -/
import Derived.Test.YtdpdeelnabomlaaL8Lsh
namespace Go.Proofs.Ytdpdeelnabomlaa.L8
open Go.RowKit L2
attribute [local go_sem] Oper.semAt_some

set_option maxHeartbeats 4000000 in
set_option maxRecDepth 100000 in
theorem ltokens_long (HA : Alive8) (s : ByteArray) (h : 3000 < s.size) (w : World) : Calls Try.prog 3 #[.string s] w fun e w' => e = .returned (.bool true) ∧ Below w.heap.size w w' := by
  have HH := Lib.hid HA
  clear HA
  have h' : (3000 : Int) < (s.size : Int) := by omega
  go_enter Try.func3, Try.ntmps3
  go_wp2_with (go_at_call 9; ((with_reducible refine (HH.out _).mono ?_); rintro e w1 ⟨rfl, b1⟩))
  go_ret
  exact ⟨rfl, b1⟩
set_option maxHeartbeats 4000000 in
set_option maxRecDepth 100000 in
theorem ltokens_bad (HT : Toks8) (HA : Alive8) (s : ByteArray) (h : s.size ≤ 3000) (hb : 0 ≤ bad s) (w : World) : Calls Try.prog 3 #[.string s] w fun e w' => e = .returned (.bool true) ∧ Below w.heap.size w w' := by
  have HH := Lib.hid HA
  have H1 := Lib.hid (fun w => (HT s w (by omega)).mono fun e w' h => PT_bad hb h)
  have H2 := Lib.hid (fun w => (rtokens_any s (by omega) w).mono fun e w' h => TokP_bad hb h)
  clear HA HT
  generalize bad s = q at hb H1 H2
  have h' : ¬ (3000 : Int) < (s.size : Int) := by omega
  go_enter Try.func3, Try.ntmps3
  go_wp2_with (first
    | (go_at_call 10; ((with_reducible refine (H1.out _).mono ?_); rintro e w1 ⟨a, cap, rfl, b1⟩))
    | (go_at_call 11; ((with_reducible refine (H2.out _).mono ?_); rintro e w2 ⟨rfl, b2⟩; have B2 := bch b1 b2))
    | (go_at_call 9; ((with_reducible refine (HH.out _).mono ?_); rintro e w3 ⟨rfl, b3⟩)))
  go_ret
  exact ⟨rfl, bch B2 b3⟩
set_option maxHeartbeats 4000000 in
set_option maxRecDepth 100000 in
theorem ltokens_ok (HT : Toks8) (HA : Alive8) (s : ByteArray) (h : s.size ≤ 3000) (hb : bad s = -1) (w : World) : Calls Try.prog 3 #[.string s] w fun e w' => e = .returned (.bool true) ∧ Below w.heap.size w w' := by
  have HH := Lib.hid HA
  have H1 := Lib.hid (fun w => (HT s w (by omega)).mono fun e w' h => PT_ok hb h)
  have H2 := Lib.hid (fun w => (rtokens_any s (by omega) w).mono fun e w' h => TokP_ok hb h)
  have hn : (tks s).length ≤ 3000 := Nat.le_trans (tks_len s) h
  have hl := tkX_len s (tks s)
  obtain ⟨xs, hxs⟩ : ∃ xs, tkX s (tks s) = xs := ⟨_, rfl⟩
  rw [hxs] at H1 H2 hl
  obtain ⟨n, hn2⟩ : ∃ n, (tks s).length = n := ⟨_, rfl⟩
  rw [hn2] at H1 H2 hl hn
  have HL := Lib.hid hl
  clear HA HT hb hxs hn2 hl
  have h' : ¬ (3000 : Int) < (s.size : Int) := by omega
  go_enter Try.func3, Try.ntmps3
  go_wp2_with (first
    | (go_at_call 10; ((with_reducible refine (H1.out _).mono ?_); rintro e w1 ⟨a1, cap1, rfl, hv1, b1⟩))
    | (go_at_call 11; ((with_reducible refine (H2.out _).mono ?_); rintro e w2 ⟨a2, cap2, rfl, hv2, b2⟩)))
  have B2 := bch b1 b2
  have V1 := Lib.hid (hv1.below b2)
  have V2 := Lib.hid hv2
  clear hv1 hv2
  go_loopw [57] (fun i wr => ∃ j : Nat, i = .int .i64 (j : Int) ∧ j ≤ n ∧ Below w2.heap.size w2 wr) (fun i _ => n - (intOf i).toNat)
  case atStart => exact ⟨0, rfl, Nat.zero_le _, Below.refl _ _⟩
  case round =>
    obtain ⟨j, rfl, hj, hB⟩ := hrel
    by_cases hlt : j < n
    · have hjx : j < xs.length := by rw [HL.out]; exact hlt
      obtain ⟨c1, o1, rfl, _, l1, _, t1⟩ := (V1.out.below hB).get (by omega)
      obtain ⟨c2, o2, rfl, _, l2, _, t2⟩ := (V2.out.below hB).get (by omega)
      obtain ⟨T, q, e1, p1, p2⟩ := TksAt.cells t1 j hjx
      obtain ⟨T', q', e2, p3, p4⟩ := TksAt.cells t2 j hjx
      rw [e1] at e2
      obtain ⟨rfl, rfl⟩ : T = T' ∧ q = q' := by simpa using e2
      clear e1 e2 t1 t2
      go_upto_region 12 with (fail)
      have hx := heap_alloc_last wr (.cells #[.string T, .int .i64 q] 31)
      have b0 := bnew wr (.cells #[.string T, .int .i64 q] 31)
      have p3' := (b0.cell (by exact l2)).trans p3
      have p4' := (b0.cell (by exact l2)).trans p4
      obtain ⟨x0, x1⟩ := cells2 hx
      have B0 := bch hB b0
      generalize wr.heap.size = g at x0 x1 ⊢
      generalize wr.alloc (.cells _ 31) = W1 at x0 x1 p3' p4' B0 ⊢
      clear p1 p2 p3 p4 hx b0
      go_quiet (fail)
      go_wp2
      go_roundw
      case rel => exact ⟨j + 1, by go_num, by omega, bdN B0 _⟩
      case measure => simp [intOf]; omega
    · obtain rfl : j = n := by omega
      go_wp2_with (go_at_call 9; ((with_reducible refine (HH.out _).mono ?_); rintro e w3 ⟨rfl, b3⟩))
      go_ret
      exact ⟨rfl, bch (bch B2 hB) b3⟩
theorem ltokens_walk (HT : Toks8) (HA : Alive8) (s : ByteArray) (_ : s.size ≤ maxLen) (w : World) : Calls Try.prog 3 #[.string s] w fun e w' => e = .returned (.bool true) ∧ Below w.heap.size w w' := by
  by_cases h : 3000 < s.size
  · exact ltokens_long HA s h w
  · rcases bad_cases s with hb | hb
    · exact ltokens_ok HT HA s (by omega) hb w
    · exact ltokens_bad HT HA s (by omega) hb w
end Go.Proofs.Ytdpdeelnabomlaa.L8
