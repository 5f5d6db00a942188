/- The walk of the law 'Target inverts Distance'. Condition: memory holds the instructions. -/
import Derived.Test.YthoghcejmnnniaaL12Lw
namespace Go.Proofs.Ythoghcejmnnniaa.L12
open Go.RowKit Go.Shelf L3 L4
attribute [local go_sem] Oper.semAt_some

/-- How many instructions there are ahead of the first that takes no slots. -/
theorem first_zero : ∀ l : List L9.Ins, (∀ x ∈ l, slN x ≠ 0) ∨ ∃ m, ∃ h : m < l.length, slN l[m] = 0 ∧ ∀ j, (hj : j < m) → slN (l[j]'(by omega)) ≠ 0
  | [] => .inl (by simp)
  | x :: r => by
    by_cases hx : slN x = 0
    · exact .inr ⟨0, by simp, hx, fun j hj => absurd hj (by omega)⟩
    · rcases first_zero r with h | ⟨m, hm, h0, hb⟩
      · refine .inl fun y hy => ?_
        rcases List.mem_cons.1 hy with rfl | hy
        · exact hx
        · exact h y hy
      · refine .inr ⟨m + 1, by simpa using hm, by simpa using h0, fun j hj => ?_⟩
        cases j with
        | zero => simpa using hx
        | succ j => simpa using hb j (by omega)

set_option maxHeartbeats 4000000 in
set_option maxRecDepth 100000 in
/-- The loop ends at the first that takes no slots. -/
theorem inv_zero (v : Value) (l : List L9.Ins) (i j : Int) (w : World) (hv : IsAt w v l) (hM : l.length ≤ maxLen) (m : Nat) (hm : m < l.length) (h0 : slN l[m] = 0) (hb : ∀ j, (hj : j < m) → slN (l[j]'(by omega)) ≠ 0) :
    Calls Try.prog 7 #[v, .int .u8 i, .int .u8 j] w fun e w' => e = .returned (.bool true) ∧ Below w.heap.size w w' := by
  obtain ⟨n, hn⟩ : ∃ n, l.length = n := ⟨_, rfl⟩
  obtain ⟨ad, cap, rfl, hc⟩ := is_form hn hv
  have hml := hm
  rw [hn] at hm hM
  have hnm : n ≤ 9223372036854775807 := by unfold maxLen at hM; omega
  obtain ⟨kb, ko, rfl, hkb, hx⟩ := hc (by omega)
  have HX := Lib.hid (show ∀ j, (hj : j ≤ m) → Six w kb (ko + j * 6) (l[j]'(Nat.lt_of_le_of_lt hj hml)) from fun j hj => hx j (Nat.lt_of_le_of_lt hj hml))
  have HS := Lib.hid (show ∀ j, (hj : j ≤ m) → ∀ W, Calls Try.prog 17 #[.int .i64 (l[j]'(Nat.lt_of_le_of_lt hj hml)).op] W fun e w' => e = .returned (.int .i64 (slN (l[j]'(Nat.lt_of_le_of_lt hj hml)) : Int)) ∧ W = w' from fun j hj W => rslots_at (l[j]'(Nat.lt_of_le_of_lt hj hml)).op _ _ W rfl (slN_int _))
  have H0 := Lib.hid h0
  have HB := Lib.hid hb
  clear hv hn hc hx h0 hb hM
  go_enter Try.func7, Try.ntmps7
  go_wp2
  go_loopw [17] (fun i wr => ∃ k : Nat, k ≤ m ∧ i = .int .i64 (k : Int) ∧ Hid (Below w.heap.size w wr)) (fun i _ => m - (intOf i).toNat)
  case atStart => exact ⟨0, Nat.zero_le _, rfl, Lib.hid (Below.refl _ _)⟩
  case round =>
    obtain ⟨k, hk, rfl, hB⟩ := hrel
    have hkn : (k : Int) < (n : Int) := by omega
    obtain ⟨x0, x1, x2, x3, x4, x5⟩ := (HX.out k hk).below hkb hB.out
    have HSk := Lib.hid (HS.out k hk)
    by_cases hlt : k < m
    · have hz := HB.out k hlt
      obtain ⟨s, hs⟩ : ∃ s, slN (l[k]'(Nat.lt_of_le_of_lt hk hml)) = s := ⟨_, rfl⟩
      rw [hs] at HSk hz
      have hz2 : ((s : Int) == 0) = false := by simpa using hz
      generalize (l[k]'(Nat.lt_of_le_of_lt hk hml)) = y at x0 x1 x2 x3 x4 x5 HSk hs
      obtain ⟨op, reg, dst, src, off, imm⟩ := y
      clear hs
      go_wp2_with (go_at_call 17; ((with_reducible refine (HSk.out _).mono ?_); rintro e w1 ⟨rfl, rfl⟩))
      go_roundw
      case rel => exact ⟨k + 1, by omega, by go_num, Lib.hid (L2.bch hB.out (L8.bnew _ _))⟩
      case measure => simp [intOf]; omega
    · obtain rfl : k = m := by omega
      have hz := H0.out
      rw [hz] at HSk
      generalize (l[k]'(Nat.lt_of_le_of_lt hk hml)) = y at x0 x1 x2 x3 x4 x5 HSk
      obtain ⟨op, reg, dst, src, off, imm⟩ := y
      have B1 := hB.out
      clear hz
      go_wp2_with (first | (go_at_call 17; ((with_reducible refine (HSk.out _).mono ?_); rintro e w1 ⟨rfl, rfl⟩)) | (go_at_call 9; ((with_reducible refine (alive12 _).mono ?_); rintro e w2 ⟨rfl, b2⟩)))
      go_ret
      exact ⟨rfl, L2.bch (L2.bch B1 (L8.bnew _ _)) b2⟩

set_option maxHeartbeats 4000000 in
set_option maxRecDepth 100000 in
theorem inv_all (v : Value) (l : List L9.Ins) (i j : Nat) (w : World) (hv : IsAt w v l) (hM : l.length ≤ maxLen) (hi : i < 256) (hj : j < 256) (hb : ∀ x ∈ l, slN x ≠ 0) :
    Calls Try.prog 7 #[v, .int .u8 (i : Int), .int .u8 (j : Int)] w fun e w' => e = .returned (.bool true) ∧ Below w.heap.size w w' := by
  obtain ⟨n, hn⟩ : ∃ n, l.length = n := ⟨_, rfl⟩
  have HV := Lib.hid hv
  have hnm : n ≤ 9223372036854775807 := by rw [hn] at hM; unfold maxLen at hM; omega
  obtain ⟨ad, cap, rfl, hc⟩ := is_form hn hv
  have HC := Lib.hid hc
  have HN := Lib.hid hn
  have HS := Lib.hid (show ∀ j, (hj : j < l.length) → ∀ W, Calls Try.prog 17 #[.int .i64 (l[j]'hj).op] W fun e w' => e = .returned (.int .i64 (slN (l[j]'hj) : Int)) ∧ W = w' from fun j hj W => rslots_at (l[j]'hj).op _ _ W rfl (slN_int _))
  have HB := Lib.hid hb
  clear hv hn hc hb hM
  go_enter Try.func7, Try.ntmps7
  go_wp2
  go_loopw [17] (fun i wr => ∃ k : Nat, k ≤ n ∧ i = .int .i64 (k : Int) ∧ Hid (Below w.heap.size w wr)) (fun i _ => n - (intOf i).toNat)
  case atStart => exact ⟨0, Nat.zero_le _, rfl, Lib.hid (Below.refl _ _)⟩
  case round =>
    obtain ⟨k, hk, rfl, hB⟩ := hrel
    by_cases hlt : k < n
    · have hkn : (k : Int) < (n : Int) := by omega
      have hkl : k < l.length := by rw [HN.out]; exact hlt
      obtain ⟨kb, ko, rfl, hkb, hx⟩ := HC.out (by omega)
      obtain ⟨x0, x1, x2, x3, x4, x5⟩ := (hx k hkl).below hkb hB.out
      have HSk := Lib.hid (HS.out k hkl)
      have hz := HB.out l[k] (List.getElem_mem hkl)
      obtain ⟨s, hs⟩ : ∃ s, slN l[k] = s := ⟨_, rfl⟩
      rw [hs] at HSk hz
      have hz2 : ((s : Int) == 0) = false := by simpa using hz
      generalize l[k] = y at x0 x1 x2 x3 x4 x5 HSk hs
      obtain ⟨op, reg, dst, src, off, imm⟩ := y
      clear hs hx
      go_wp2_with (go_at_call 17; ((with_reducible refine (HSk.out _).mono ?_); rintro e w1 ⟨rfl, rfl⟩))
      go_roundw
      case rel => exact ⟨k + 1, by omega, by go_num, Lib.hid (L2.bch hB.out (L8.bnew _ _))⟩
      case measure => simp [intOf]; omega
    · obtain rfl : k = n := by omega
      have B1 := hB.out
      by_cases hgt : 100 < k
      · have h1 := len_gt hgt
        go_wp2_with (go_at_call 9; ((with_reducible refine (alive12 _).mono ?_); rintro e w1 ⟨rfl, b1⟩))
        go_ret
        exact ⟨rfl, L2.bch B1 b1⟩
      · have h1 : ¬ (100 : Int) < (k : Int) := by omega
        by_cases hk0 : k = 0
        · subst hk0
          go_wp2_with (go_at_call 9; ((with_reducible refine (alive12 _).mono ?_); rintro e w1 ⟨rfl, b1⟩))
          go_ret
          exact ⟨rfl, L2.bch B1 b1⟩
        · have hp : 0 < k := by omega
          have hi' := Nat.mod_lt i hp
          have hj' := Nat.mod_lt j hp
          have m1 : (i : Int).tmod (k : Int) = ((i % k : Nat) : Int) := (Int.ofNat_tmod i k).symm
          have m2 : (j : Int).tmod (k : Int) = ((j % k : Nat) : Int) := (Int.ofNat_tmod j k).symm
          have hne : ¬ (k : Int) = 0 := by omega
          obtain ⟨p, hp1⟩ : ∃ p, i % k = p := ⟨_, rfl⟩
          obtain ⟨q, hq1⟩ : ∃ q, j % k = q := ⟨_, rfl⟩
          rw [hp1] at hi' m1
          rw [hq1] at hj' m2
          have HD := Lib.hid (fun (W : World) (hb : Below w.heap.size w W) => distance_in (.slice ad k cap) l p q W (HV.out.below hb) (by rw [HN.out]; omega) (by rw [HN.out]; omega) (by rw [HN.out]; omega))
          have e1 := ta_di l p q (by rw [HN.out]; omega) (by rw [HN.out]; omega) (by rw [HN.out]; omega) HB.out
          have e2 : (diV l (p : Int) (q : Int)).1 = (stN l q : Int) - (stN l (p + 1) : Int) := by
            unfold diV
            rw [if_pos (by rw [HN.out]; unfold inB; simp; omega)]
            simp
          rw [e2] at e1
          have HT := Lib.hid (fun (W : World) (hb : Below w.heap.size w W) => target_at (.slice ad k cap) l (p : Int) _ _ _ W (HV.out.below hb) (by rw [HN.out]; omega) e1)
          generalize (stN l q : Int) - (stN l (p + 1) : Int) = d at HD HT
          clear e1 e2 hp1 hq1
          go_wp2
          go_quiet (fail)
          have B2 := L8.bdN B1 nq
          go_wp2_with (first | (go_at_call 14; ((with_reducible refine (HD.out _ B2).mono ?_); rintro e w3 ⟨rfl, b3⟩; have B3 := L2.bch B2 b3)) | (go_at_call 16; ((with_reducible refine (HT.out _ B3).mono ?_); rintro e w4 ⟨rfl, b4⟩; have B4 := L2.bch B3 b4)) | (go_at_call 9; ((with_reducible refine (alive12 _).mono ?_); rintro e w5 ⟨rfl, b5⟩; have B5 := L2.bch B4 b5)))
          go_ret
          exact ⟨rfl, B5⟩
theorem inv_walk (v : Value) (l : List L9.Ins) (i j : Int) (w : World) (hv : IsAt w v l) (hM : l.length ≤ maxLen) (hi : 0 ≤ i ∧ i < 256) (hj : 0 ≤ j ∧ j < 256) :
    Calls Try.prog 7 #[v, .int .u8 i, .int .u8 j] w fun e w' => e = .returned (.bool true) ∧ Below w.heap.size w w' := by
  rcases first_zero l with h | ⟨m, hm, h0, hb⟩
  · obtain ⟨i', rfl⟩ := Int.eq_ofNat_of_zero_le hi.1
    obtain ⟨j', rfl⟩ := Int.eq_ofNat_of_zero_le hj.1
    exact inv_all v l i' j' w hv hM (by omega) (by omega) h
  · exact inv_zero v l i j w hv hM m hm h0 hb
end Go.Proofs.Ythoghcejmnnniaa.L12
