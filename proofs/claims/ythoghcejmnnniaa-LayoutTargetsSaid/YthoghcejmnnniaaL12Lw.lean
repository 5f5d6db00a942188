/- The walks of the laws on lists: Starts, At, Distances, Targets. Condition: memory holds the instructions. -/
import Derived.Test.YthoghcejmnnniaaL12Al
namespace Go.Proofs.Ythoghcejmnnniaa.L12
open Go.RowKit Go.Shelf L3 L4
attribute [local go_sem] Oper.semAt_some

theorem len_gt {n : Nat} (h : 100 < n) : (100 : Int) < (n : Int) := by omega
theorem rstart_q (v : Value) (l : List L9.Ins) (i : Nat) (I : Int) (N : Nat) (w : World) (hv : IsAt w v l) (hl : l.length ≤ 1000000) (hi : i ≤ l.length) (hI : I = (i : Int)) (hN : stN l i = N) :
    Calls Try.prog 11 #[v, .int .i64 I] w fun e w' => e = .returned (.int .i64 (N : Int)) ∧ w' = w := by
  subst hI
  exact (rstart_at v l i N w hv hl hi hN).mono fun _ _ h => ⟨h.1, h.2.symm⟩

set_option maxHeartbeats 4000000 in
theorem starts_walk (v : Value) (l : List L9.Ins) (w : World) (hv : IsAt w v l) :
    Calls Try.prog 3 #[v] w fun e w' => e = .returned (.bool true) ∧ Below w.heap.size w w' := by
  obtain ⟨n, hn⟩ : ∃ n, l.length = n := ⟨_, rfl⟩
  have HV := Lib.hid hv
  obtain ⟨ad, cap, rfl, -⟩ := is_form hn hv
  by_cases hgt : 100 < n
  · have h1 := len_gt hgt
    clear hv hn
    go_enter Try.func3, Try.ntmps3
    go_wp2_with (go_at_call 9; ((with_reducible refine (alive12 _).mono ?_); rintro e w1 ⟨rfl, b1⟩))
    go_ret
    exact ⟨rfl, b1⟩
  · have h1 : ¬ (100 : Int) < (n : Int) := by omega
    have HS := Lib.hid (starts_is (.slice ad n cap) l n hn (by omega) w hv)
    have HN := Lib.hid hn
    have HQ := Lib.hid (fun (W : World) (hb : Below w.heap.size w W) => rstart_q (.slice ad n cap) l n (n : Int) (smN l) W (hv.below hb) (by omega) (by omega) rfl (by rw [← hn, stN_all]))
    have hn0 : ¬ (n : Int) ≠ (n : Int) := by omega
    obtain ⟨S, hS⟩ : ∃ S, smN l = S := ⟨_, rfl⟩
    rw [hS] at HS HQ
    clear hv hn hS
    go_enter Try.func3, Try.ntmps3
    go_wp2_with (first | (go_at_call 10; ((with_reducible refine (HS.out).mono ?_); rintro e w1 ⟨⟨a1, c1, rfl, i1⟩, b1⟩)) | (go_at_call 11; ((with_reducible refine (HQ.out _ b1).mono ?_); rintro e w2 ⟨rfl, rfl⟩)))
    go_loopw [30] (fun i wr => ∃ k : Nat, k ≤ n ∧ i = .int .i64 (k : Int) ∧ Hid (Below w2.heap.size w2 wr)) (fun i _ => n - (intOf i).toNat)
    case atStart => exact ⟨0, Nat.zero_le _, rfl, Lib.hid (Below.refl _ _)⟩
    case round =>
      obtain ⟨k, hk, rfl, hB⟩ := hrel
      by_cases hlt : k < n
      · obtain ⟨sb, so, rfl, hsb, hcl⟩ := st_cell HN.out (i1.below hB.out) hlt
        have c2 := hcl k hlt
        obtain ⟨z, hz⟩ : ∃ z, stN l k = z := ⟨_, rfl⟩
        rw [hz] at c2
        have HR := Lib.hid (fun m => rstart_q (.slice ad n cap) l k (k : Int) z (wr.drewN m) (HV.out.below (L8.bdN (L2.bch b1 hB.out) m)) (by rw [HN.out]; omega) (by rw [HN.out]; omega) rfl hz)
        have hlt' : (k : Int) < (n : Int) := by omega
        clear hcl hz
        go_wp2
        go_quiet ((go_at_call 11; exact Calls.quiet_of_same (HR.out _)))
        go_wp2
        go_roundw
        case rel => exact ⟨k + 1, by omega, by go_num, Lib.hid (L8.bdN hB.out _)⟩
        case measure => simp [intOf]; omega
      · obtain rfl : k = n := by omega
        have B1 := L2.bch b1 hB.out
        go_wp2_with (go_at_call 9; ((with_reducible refine (alive12 _).mono ?_); rintro e w3 ⟨rfl, b3⟩))
        go_ret
        exact ⟨rfl, L2.bch B1 b3⟩

set_option maxHeartbeats 4000000 in
theorem at_walk (v : Value) (l : List L9.Ins) (s : Int) (w : World) (hv : IsAt w v l) :
    Calls Try.prog 4 #[v, .int .i64 s] w fun e w' => e = .returned (.bool true) ∧ Below w.heap.size w w' := by
  obtain ⟨n, hn⟩ : ∃ n, l.length = n := ⟨_, rfl⟩
  obtain ⟨ad, cap, rfl, -⟩ := is_form hn hv
  by_cases hgt : 100 < n
  · have h1 := len_gt hgt
    clear hv hn
    go_enter Try.func4, Try.ntmps4
    go_wp2_with (go_at_call 9; ((with_reducible refine (alive12 _).mono ?_); rintro e w1 ⟨rfl, b1⟩))
    go_ret
    exact ⟨rfl, b1⟩
  · have h1 : ¬ (100 : Int) < (n : Int) := by omega
    obtain ⟨R, hR⟩ : ∃ R, atN 0 0 l s = R := ⟨_, rfl⟩
    have HA := Lib.hid (fun (W : World) (hb : Below w.heap.size w W) => at_at (.slice ad n cap) l s R (by omega) W (hv.below hb) hR)
    have HQ := Lib.hid (fun (W : World) (hb : Below w.heap.size w W) => rat_at (.slice ad n cap) l s R W (hv.below hb) (by omega) hR)
    clear hv hn hR
    go_enter Try.func4, Try.ntmps4
    go_wp2_with (first | (go_at_call 9; ((with_reducible refine (alive12 _).mono ?_); rintro e w1 ⟨rfl, b1⟩)) | (go_at_call 12; ((with_reducible refine (HA.out _ b1).mono ?_); rintro e w2 ⟨rfl, b2⟩; have B2 := L2.bch b1 b2)) | (go_at_call 13; ((with_reducible refine (HQ.out _ B2).mono ?_); rintro e w3 ⟨rfl, rfl⟩)))
    go_ret
    exact ⟨rfl, B2⟩

set_option maxHeartbeats 4000000 in
theorem dist_walk (v : Value) (l : List L9.Ins) (i j : Int) (w : World) (hv : IsAt w v l) :
    Calls Try.prog 5 #[v, .int .i64 i, .int .i64 j] w fun e w' => e = .returned (.bool true) ∧ Below w.heap.size w w' := by
  obtain ⟨n, hn⟩ : ∃ n, l.length = n := ⟨_, rfl⟩
  obtain ⟨ad, cap, rfl, -⟩ := is_form hn hv
  by_cases hgt : 100 < n
  · have h1 := len_gt hgt
    clear hv hn
    go_enter Try.func5, Try.ntmps5
    go_wp2_with (go_at_call 9; ((with_reducible refine (alive12 _).mono ?_); rintro e w1 ⟨rfl, b1⟩))
    go_ret
    exact ⟨rfl, b1⟩
  · have h1 : ¬ (100 : Int) < (n : Int) := by omega
    obtain ⟨x1, hx1⟩ : ∃ b, inB n i = b := ⟨_, rfl⟩
    obtain ⟨x2, hx2⟩ : ∃ b, inB n j = b := ⟨_, rfl⟩
    have H1 := Lib.hid (fun w => rin_at ad n cap i x1 w hx1)
    have H2 := Lib.hid (fun w => rin_at ad n cap j x2 w hx2)
    by_cases hin : (x1 && x2) = true
    · rw [Bool.and_eq_true] at hin
      obtain ⟨rfl, rfl⟩ := hin
      obtain ⟨i', rfl, hi⟩ := inB_nat hx1
      obtain ⟨j', rfl, hj⟩ := inB_nat hx2
      have HD := Lib.hid (distance_in (.slice ad n cap) l i' j' w hv (by omega) (by omega) (by omega))
      have hle1 := stN_le l (i' + 1)
      have hle2 := stN_le l j'
      rw [hn] at hle1 hle2
      obtain ⟨z, hz⟩ : ∃ z, stN l (i' + 1) = z := ⟨_, rfl⟩
      obtain ⟨u, hu⟩ : ∃ z, stN l j' = z := ⟨_, rfl⟩
      have HQ1 := Lib.hid (fun (W : World) (hb : Below w.heap.size w W) => rstart_q (.slice ad n cap) l (i' + 1) ((i' : Int) + 1) z W (hv.below hb) (by omega) (by omega) (by omega) hz)
      have HQ2 := Lib.hid (fun (W : World) (hb : Below w.heap.size w W) => rstart_q (.slice ad n cap) l j' (j' : Int) u W (hv.below hb) (by omega) (by omega) rfl hu)
      rw [hz] at HD hle1
      rw [hu] at HD hle2
      have hwr : IntKind.i64.wrap ((u : Int) - (z : Int)) = (u : Int) - (z : Int) := IntWalk.i64_in _ (by omega)
      clear hv hn hx1 hx2 hz hu
      go_enter Try.func5, Try.ntmps5
      go_wp2_with (first | (go_at_call 14; ((with_reducible refine (HD.out).mono ?_); rintro e w1 ⟨rfl, b1⟩)) | (go_at_call 15; ((with_reducible refine (H1.out _).mono ?_); rintro e w2 ⟨rfl, rfl⟩)) | (go_at_call 15; ((with_reducible refine (H2.out _).mono ?_); rintro e w2 ⟨rfl, rfl⟩)) | (go_at_call 9; ((with_reducible refine (alive12 _).mono ?_); rintro e w3 ⟨rfl, b3⟩; have B3 := L2.bch b1 b3)) | (go_at_call 11; ((with_reducible refine (HQ2.out _ B3).mono ?_); rintro e w4 ⟨rfl, rfl⟩)) | (go_at_call 11; ((with_reducible refine (HQ1.out _ B3).mono ?_); rintro e w4 ⟨rfl, rfl⟩)))
      go_ret
      exact ⟨rfl, B3⟩
    · have HD := Lib.hid (distance_no (.slice ad n cap) l i j w hv (by rw [hn, hx1, hx2]; simpa using hin))
      clear hv hn hx1 hx2
      cases x1
      · go_enter Try.func5, Try.ntmps5
        go_wp2_with (first | (go_at_call 14; ((with_reducible refine (HD.out).mono ?_); rintro e w1 ⟨rfl, b1⟩)) | (go_at_call 15; ((with_reducible refine (H1.out _).mono ?_); rintro e w2 ⟨rfl, rfl⟩)) | (go_at_call 9; ((with_reducible refine (alive12 _).mono ?_); rintro e w3 ⟨rfl, b3⟩; have B3 := L2.bch b1 b3)))
        go_ret
        exact ⟨rfl, B3⟩
      · cases x2
        · go_enter Try.func5, Try.ntmps5
          go_wp2_with (first | (go_at_call 14; ((with_reducible refine (HD.out).mono ?_); rintro e w1 ⟨rfl, b1⟩)) | (go_at_call 15; ((with_reducible refine (H1.out _).mono ?_); rintro e w2 ⟨rfl, rfl⟩)) | (go_at_call 15; ((with_reducible refine (H2.out _).mono ?_); rintro e w2 ⟨rfl, rfl⟩)) | (go_at_call 9; ((with_reducible refine (alive12 _).mono ?_); rintro e w3 ⟨rfl, b3⟩; have B3 := L2.bch b1 b3)))
          go_ret
          exact ⟨rfl, B3⟩
        · exact absurd rfl hin
end Go.Proofs.Ythoghcejmnnniaa.L12
