/- The walks of the laws on lists: Targets, Inverts. Condition: memory holds the instructions. -/
import Derived.Test.YthoghcejmnnniaaL12Lw
namespace Go.Proofs.Ythoghcejmnnniaa.L12
open Go.RowKit Go.Shelf L3 L4
attribute [local go_sem] Oper.semAt_some

/-- Far away nothing starts. -/
theorem ta_far (l : List L9.Ins) (i : Nat) (o : Int) (hl : l.length ≤ 100) (ho : -9223372036854775808 ≤ o ∧ o ≤ 9223372036854775807) (hf : ¬ (-1000000 < o ∧ o < 1000000)) : taI l (i : Int) o = -1 := by
  unfold taI
  rw [Int.toNat_natCast]
  have h1 := stN_le l (i + 1)
  have h2 := smN_le l
  obtain ⟨z, hz⟩ : ∃ z, stN l (i + 1) = z := ⟨_, rfl⟩
  rw [hz] at h1 ⊢
  refine atN_out l 0 0 _ ?_
  by_cases hc : (z : Int) + o ≤ 9223372036854775807
  · have hw : IntKind.i64.wrap ((z : Int) + o) = (z : Int) + o := IntWalk.i64_in _ (by omega)
    rw [hw]
    omega
  · have hw : IntKind.i64.wrap ((z : Int) + o) = (z : Int) + o - 18446744073709551616 := by
      rw [IntKind.wrap_i64]
      omega
    rw [hw]
    omega

set_option maxHeartbeats 4000000 in
theorem tar_walk (v : Value) (l : List L9.Ins) (i o : Int) (w : World) (hv : IsAt w v l) (ho : -9223372036854775808 ≤ o ∧ o ≤ 9223372036854775807) :
    Calls Try.prog 6 #[v, .int .i64 i, .int .i64 o] w fun e w' => e = .returned (.bool true) ∧ Below w.heap.size w w' := by
  obtain ⟨n, hn⟩ : ∃ n, l.length = n := ⟨_, rfl⟩
  obtain ⟨ad, cap, rfl, -⟩ := is_form hn hv
  by_cases hgt : 100 < n
  · have h1 := len_gt hgt
    clear hv hn
    go_enter Try.func6, Try.ntmps6
    go_wp2_with (go_at_call 9; ((with_reducible refine (alive12 _).mono ?_); rintro e w1 ⟨rfl, b1⟩))
    go_ret
    exact ⟨rfl, b1⟩
  · have h1 : ¬ (100 : Int) < (n : Int) := by omega
    obtain ⟨x1, hx1⟩ : ∃ b, inB n i = b := ⟨_, rfl⟩
    have H1 := Lib.hid (fun w => rin_at ad n cap i x1 w hx1)
    by_cases hin : x1 = true ∧ -1000000 < o ∧ o < 1000000
    · obtain ⟨rfl, ho1, ho2⟩ := hin
      obtain ⟨i', rfl, hi⟩ := inB_nat hx1
      have hle1 := stN_le l (i' + 1)
      rw [hn] at hle1
      obtain ⟨z, hz⟩ : ∃ z, stN l (i' + 1) = z := ⟨_, rfl⟩
      have hw : IntKind.i64.wrap ((z : Int) + o) = (z : Int) + o := IntWalk.i64_in _ (by omega)
      obtain ⟨r, hr⟩ : ∃ r, atN 0 0 l ((z : Int) + o) = r := ⟨_, rfl⟩
      have hta : taI l (i' : Int) o = r := by unfold taI; rw [Int.toNat_natCast, hz, hw, hr]
      have HT := Lib.hid (fun d b h => target_in (.slice ad n cap) l i' o d b w hv (by omega) (by omega) h)
      rw [hta] at HT
      have HQ1 := Lib.hid (fun (W : World) (hb : Below w.heap.size w W) => rstart_q (.slice ad n cap) l (i' + 1) ((i' : Int) + 1) z W (hv.below hb) (by omega) (by omega) (by omega) hz)
      have HQ2 := Lib.hid (fun (W : World) (hb : Below w.heap.size w W) => rat_at (.slice ad n cap) l ((z : Int) + o) r W (hv.below hb) (by omega) hr)
      have hge := atN_ge l 0 0 ((z : Int) + o)
      rw [hr, hn] at hge
      rw [hz] at hle1
      clear hv hn hx1 hz hta hr
      by_cases hr0 : r < 0
      · obtain rfl : r = -1 := by omega
        have HT2 := Lib.hid (HT.out 0 false (if_pos hr0))
        clear hge hr0
        go_enter Try.func6, Try.ntmps6
        go_wp2_with (first | (go_at_call 16; ((with_reducible refine (HT2.out).mono ?_); rintro e w1 ⟨rfl, b1⟩)) | (go_at_call 15; ((with_reducible refine (H1.out _).mono ?_); rintro e w2 ⟨rfl, rfl⟩)) | (go_at_call 9; ((with_reducible refine (alive12 _).mono ?_); rintro e w3 ⟨rfl, b3⟩; have B3 := L2.bch b1 b3)) | (go_at_call 11; ((with_reducible refine (HQ1.out _ b1).mono ?_); rintro e w4 ⟨rfl, rfl⟩)) | (go_at_call 13; ((with_reducible refine (HQ2.out _ b1).mono ?_); rintro e w4 ⟨rfl, rfl⟩)))
        go_ret
        exact ⟨rfl, B3⟩
      · have HT2 := Lib.hid (HT.out r true (if_neg hr0))
        have hr1 : 0 ≤ r := by omega
        clear hge
        go_enter Try.func6, Try.ntmps6
        go_wp2_with (first | (go_at_call 16; ((with_reducible refine (HT2.out).mono ?_); rintro e w1 ⟨rfl, b1⟩)) | (go_at_call 15; ((with_reducible refine (H1.out _).mono ?_); rintro e w2 ⟨rfl, rfl⟩)) | (go_at_call 9; ((with_reducible refine (alive12 _).mono ?_); rintro e w3 ⟨rfl, b3⟩; have B3 := L2.bch b1 b3)) | (go_at_call 11; ((with_reducible refine (HQ1.out _ b1).mono ?_); rintro e w4 ⟨rfl, rfl⟩)) | (go_at_call 13; ((with_reducible refine (HQ2.out _ b1).mono ?_); rintro e w4 ⟨rfl, rfl⟩)))
        go_ret
        exact ⟨rfl, B3⟩
    · have hta : taV l i o = (0, false) := by
        unfold taV
        rw [hn, hx1]
        cases x1
        · rfl
        · obtain ⟨i', rfl, hi⟩ := inB_nat hx1
          rw [ta_far l i' o (by omega) ho (fun h => hin ⟨rfl, h⟩)]
          rfl
      have HT := Lib.hid (target_at (.slice ad n cap) l i o 0 false w hv (by omega) hta)
      clear hv hn hx1 hta
      cases x1
      · clear hin
        go_enter Try.func6, Try.ntmps6
        go_wp2_with (first | (go_at_call 16; ((with_reducible refine (HT.out).mono ?_); rintro e w1 ⟨rfl, b1⟩)) | (go_at_call 15; ((with_reducible refine (H1.out _).mono ?_); rintro e w2 ⟨rfl, rfl⟩)) | (go_at_call 9; ((with_reducible refine (alive12 _).mono ?_); rintro e w3 ⟨rfl, b3⟩; have B3 := L2.bch b1 b3)))
        go_ret
        exact ⟨rfl, B3⟩
      · by_cases ho1 : -1000000 < o
        · have ho2 : ¬ o < 1000000 := fun h => hin ⟨rfl, ho1, h⟩
          clear hin
          go_enter Try.func6, Try.ntmps6
          go_wp2_with (first | (go_at_call 16; ((with_reducible refine (HT.out).mono ?_); rintro e w1 ⟨rfl, b1⟩)) | (go_at_call 15; ((with_reducible refine (H1.out _).mono ?_); rintro e w2 ⟨rfl, rfl⟩)) | (go_at_call 9; ((with_reducible refine (alive12 _).mono ?_); rintro e w3 ⟨rfl, b3⟩; have B3 := L2.bch b1 b3)))
          go_ret
          exact ⟨rfl, B3⟩
        · clear hin
          go_enter Try.func6, Try.ntmps6
          go_wp2_with (first | (go_at_call 16; ((with_reducible refine (HT.out).mono ?_); rintro e w1 ⟨rfl, b1⟩)) | (go_at_call 15; ((with_reducible refine (H1.out _).mono ?_); rintro e w2 ⟨rfl, rfl⟩)) | (go_at_call 9; ((with_reducible refine (alive12 _).mono ?_); rintro e w3 ⟨rfl, b3⟩; have B3 := L2.bch b1 b3)))
          go_ret
          exact ⟨rfl, B3⟩
end Go.Proofs.Ythoghcejmnnniaa.L12
