/- The law 'Statement returns the instruction of the reference, or an error' returns true. Condition: the tables read as the program's text lays them. -/
import Derived.Test.YtjcaonbejhdhkaaDoorL9Lw1
namespace Go.Proofs.YtjcaonbejhdhkaaDoor.L9
open Go.RowKit
attribute [local go_sem] Oper.semAt_some

theorem eq_codeZ (w : World) : (binOp .eql 39 (.agg codZ) (.agg codZ)).run Tryd.prog w = .ok (.bool true) w := by kernel_rfl
theorem eq_code (x : Ins) (tg mp : ByteArray) (w : World) : (binOp .eql 39 (.agg (codA x tg mp)) (.agg (codA x tg mp))).run Tryd.prog w = .ok (.bool true) w := by
  simp [go_sem]
set_option maxHeartbeats 2000000 in
set_option maxRecDepth 100000 in
theorem pstats_long (s : ByteArray) (w : World) (hT : Tab w) (h : 3000 < s.size) : Calls Tryd.prog 4 #[.string s] w fun e w' => e = .returned (.bool true) ∧ Below w.heap.size w w' := by
  have HA := Lib.hid (alive9 w hT)
  have h' : (3000 : Int) < (s.size : Int) := by omega
  clear hT
  go_enter Tryd.func4, Tryd.ntmps4
  go_wp2_with (go_at_call 9; ((with_reducible refine (HA.out).mono ?_); rintro e w1 ⟨rfl, b1⟩))
  go_ret
  exact ⟨rfl, b1⟩
set_option maxHeartbeats 2000000 in
set_option maxRecDepth 100000 in
theorem pstats_err (s : ByteArray) (w : World) (hT : Tab w) (h : s.size ≤ 3000) (labs : List ByteArray) (r : Rs) (er : Int) (hli : liV s = (labs, r, er)) (hne : ¬ er = 0) : Calls Tryd.prog 4 #[.string s] w fun e w' => e = .returned (.bool true) ∧ Below w.heap.size w w' := by
  have h2 := hT.lt
  have HT := Lib.hid hT
  have h' : ¬ (3000 : Int) < (s.size : Int) := by omega
  obtain ⟨n2, hn2⟩ : ∃ n2, labs.length = n2 := ⟨_, rfl⟩
  have eqz := eq_codeZ
  have HL : Hid (Calls Tryd.prog 13 #[.string s] w fun e w' => e = .returned (.tuple #[.agg codZ, .int .i64 er]) ∧ Below w.heap.size w w') := Lib.hid (stat_at s (by omega) w hT Cod.z er (by unfold stV; rw [hli, if_pos hne]))
  have HR := Lib.hid (fun W => rline_li s (by omega) labs r er hli n2 hn2 W)
  clear hT hli hn2
  go_enter Tryd.func4, Tryd.ntmps4
  go_wp2_with (first
    | (go_at_call 13; ((with_reducible refine (HL.out).mono ?_); rintro e w1 ⟨rfl, b1⟩; have r1 := heap_alloc_last w1 (.cells codZ 39); have B1 := L2.bch b1 (L8.bnew w1 (.cells codZ 39))))
    | (go_at_call 11; ((with_reducible refine (HR.out _).mono ?_); rintro e w2 ⟨a2, c2, rfl, hst, b2⟩; clear hst; have r2 := row_up (row_up r1 b2) (L8.bnew w2 (.cells (rsA (.slice a2 n2 c2) r) 33)); have r3 := heap_alloc_last w2 (.cells (rsA (.slice a2 n2 c2) r) 33); have B2 := L2.bch B1 (L2.bch b2 (L8.bnew w2 (.cells (rsA (.slice a2 n2 c2) r) 33))); clear r1))
    | (go_at_call 9; ((with_reducible refine (alive9 _ (HT.out.below B2 h2)).mono ?_); rintro e w3 ⟨rfl, b3⟩; have B3 := L2.bch B2 b3; obtain ⟨q0, q1, q2, q3, q4, q5, q6, q7⟩ := cells8 (row_up r2 b3); obtain ⟨y0, y1, y2, y3, y4, y5, y6, y7, y8, y9, y10, y11, y12, y13⟩ := cells14 (row_up r3 b3); clear r2 r3)))
  go_ret
  exact ⟨rfl, B3⟩
set_option maxHeartbeats 2000000 in
set_option maxRecDepth 100000 in
theorem pstats_labs (s : ByteArray) (w : World) (hT : Tab w) (h : s.size ≤ 3000) (labs : List ByteArray) (r : Rs) (hli : liV s = (labs, r, 0)) (hl0 : 0 < labs.length) : Calls Tryd.prog 4 #[.string s] w fun e w' => e = .returned (.bool true) ∧ Below w.heap.size w w' := by
  have h2 := hT.lt
  have HT := Lib.hid hT
  have h' : ¬ (3000 : Int) < (s.size : Int) := by omega
  obtain ⟨n2, hn2⟩ : ∃ n2, labs.length = n2 := ⟨_, rfl⟩
  have eqz := eq_codeZ
  rw [hn2] at hl0
  have hl1 : (0 : Int) < (n2 : Int) := by omega
  have hst0 : stV (liV s) = (Cod.z, 2) := by unfold stV; rw [hli, if_neg (by simp), if_neg (by simp only [not_and]; intro h0; omega)]
  have HL : Hid (Calls Tryd.prog 13 #[.string s] w fun e w' => e = .returned (.tuple #[.agg codZ, .int .i64 2]) ∧ Below w.heap.size w w') := Lib.hid (stat_at s (by omega) w hT Cod.z 2 hst0)
  have HR := Lib.hid (fun W => rline_li s (by omega) labs r 0 hli n2 hn2 W)
  clear hT hli hn2 hst0
  go_enter Tryd.func4, Tryd.ntmps4
  go_wp2_with (first
    | (go_at_call 13; ((with_reducible refine (HL.out).mono ?_); rintro e w1 ⟨rfl, b1⟩; have r1 := heap_alloc_last w1 (.cells codZ 39); have B1 := L2.bch b1 (L8.bnew w1 (.cells codZ 39))))
    | (go_at_call 11; ((with_reducible refine (HR.out _).mono ?_); rintro e w2 ⟨a2, c2, rfl, hst, b2⟩; clear hst; have r2 := row_up (row_up r1 b2) (L8.bnew w2 (.cells (rsA (.slice a2 n2 c2) r) 33)); have r3 := heap_alloc_last w2 (.cells (rsA (.slice a2 n2 c2) r) 33); have B2 := L2.bch B1 (L2.bch b2 (L8.bnew w2 (.cells (rsA (.slice a2 n2 c2) r) 33))); clear r1))
    | (go_at_call 9; ((with_reducible refine (alive9 _ (HT.out.below B2 h2)).mono ?_); rintro e w3 ⟨rfl, b3⟩; have B3 := L2.bch B2 b3; obtain ⟨q0, q1, q2, q3, q4, q5, q6, q7⟩ := cells8 (row_up r2 b3); obtain ⟨y0, y1, y2, y3, y4, y5, y6, y7, y8, y9, y10, y11, y12, y13⟩ := cells14 (row_up r3 b3); clear r2 r3)))
  go_ret
  exact ⟨rfl, B3⟩
set_option maxHeartbeats 2000000 in
set_option maxRecDepth 100000 in
theorem pstats_kind (s : ByteArray) (w : World) (hT : Tab w) (h : s.size ≤ 3000) (r : Rs) (hli : liV s = ([], r, 0)) (hk : ¬ r.kind = 2) : Calls Tryd.prog 4 #[.string s] w fun e w' => e = .returned (.bool true) ∧ Below w.heap.size w w' := by
  have h2 := hT.lt
  have HT := Lib.hid hT
  have h' : ¬ (3000 : Int) < (s.size : Int) := by omega
  obtain ⟨kd, d, x, tg, mp⟩ := r
  have hn2 : ([] : List ByteArray).length = 0 := rfl
  have eqz := eq_codeZ
  have hk1 : (kd != 2) = true := by simpa using hk
  have hst0 : stV (liV s) = (Cod.z, 2) := by unfold stV; rw [hli, if_neg (by simp), if_neg (fun h => hk h.2)]
  have HL : Hid (Calls Tryd.prog 13 #[.string s] w fun e w' => e = .returned (.tuple #[.agg codZ, .int .i64 2]) ∧ Below w.heap.size w w') := Lib.hid (stat_at s (by omega) w hT Cod.z 2 hst0)
  have HR := Lib.hid (fun W => rline_li s (by omega) [] ⟨kd, d, x, tg, mp⟩ 0 hli 0 hn2 W)
  clear hT hli hn2 hst0 hk
  go_enter Tryd.func4, Tryd.ntmps4
  go_wp2_with (first
    | (go_at_call 13; ((with_reducible refine (HL.out).mono ?_); rintro e w1 ⟨rfl, b1⟩; have r1 := heap_alloc_last w1 (.cells codZ 39); have B1 := L2.bch b1 (L8.bnew w1 (.cells codZ 39))))
    | (go_at_call 11; ((with_reducible refine (HR.out _).mono ?_); rintro e w2 ⟨a2, c2, rfl, hst, b2⟩; clear hst; have r2 := row_up (row_up r1 b2) (L8.bnew w2 (.cells (rsA (.slice a2 0 c2) ⟨kd, d, x, tg, mp⟩) 33)); have r3 := heap_alloc_last w2 (.cells (rsA (.slice a2 0 c2) ⟨kd, d, x, tg, mp⟩) 33); have B2 := L2.bch B1 (L2.bch b2 (L8.bnew w2 (.cells (rsA (.slice a2 0 c2) ⟨kd, d, x, tg, mp⟩) 33))); clear r1))
    | (go_at_call 9; ((with_reducible refine (alive9 _ (HT.out.below B2 h2)).mono ?_); rintro e w3 ⟨rfl, b3⟩; have B3 := L2.bch B2 b3; obtain ⟨q0, q1, q2, q3, q4, q5, q6, q7⟩ := cells8 (row_up r2 b3); obtain ⟨y0, y1, y2, y3, y4, y5, y6, y7, y8, y9, y10, y11, y12, y13⟩ := cells14 (row_up r3 b3); clear r2 r3)))
  go_ret
  exact ⟨rfl, B3⟩
set_option maxHeartbeats 2000000 in
set_option maxRecDepth 100000 in
theorem pstats_yes (s : ByteArray) (w : World) (hT : Tab w) (h : s.size ≤ 3000) (r : Rs) (hli : liV s = ([], r, 0)) (hk : r.kind = 2) : Calls Tryd.prog 4 #[.string s] w fun e w' => e = .returned (.bool true) ∧ Below w.heap.size w w' := by
  have h2 := hT.lt
  have HT := Lib.hid hT
  have h' : ¬ (3000 : Int) < (s.size : Int) := by omega
  obtain ⟨kd, d, x, tg, mp⟩ := r
  have hn2 : ([] : List ByteArray).length = 0 := rfl
  have hk1 : kd = 2 := hk
  subst hk1
  clear hk
  have eqc := eq_code x tg mp
  have hst0 : stV (liV s) = (⟨x, tg, mp⟩, 0) := by unfold stV; rw [hli, if_neg (by simp), if_pos ⟨rfl, rfl⟩]
  have HL : Hid (Calls Tryd.prog 13 #[.string s] w fun e w' => e = .returned (.tuple #[.agg (codA x tg mp), .int .i64 0]) ∧ Below w.heap.size w w') := Lib.hid (stat_at s (by omega) w hT ⟨x, tg, mp⟩ 0 hst0)
  have HR := Lib.hid (fun W => rline_li s (by omega) [] ⟨2, d, x, tg, mp⟩ 0 hli 0 hn2 W)
  clear hT hli hn2 hst0
  go_enter Tryd.func4, Tryd.ntmps4
  go_wp2_with (first
    | (go_at_call 13; ((with_reducible refine (HL.out).mono ?_); rintro e w1 ⟨rfl, b1⟩; have r1 := heap_alloc_last w1 (.cells (codA x tg mp) 39); have B1 := L2.bch b1 (L8.bnew w1 (.cells (codA x tg mp) 39))))
    | (go_at_call 11; ((with_reducible refine (HR.out _).mono ?_); rintro e w2 ⟨a2, c2, rfl, hst, b2⟩; clear hst; have r2 := row_up (row_up r1 b2) (L8.bnew w2 (.cells (rsA (.slice a2 0 c2) ⟨2, d, x, tg, mp⟩) 33)); have r3 := heap_alloc_last w2 (.cells (rsA (.slice a2 0 c2) ⟨2, d, x, tg, mp⟩) 33); have B2 := L2.bch B1 (L2.bch b2 (L8.bnew w2 (.cells (rsA (.slice a2 0 c2) ⟨2, d, x, tg, mp⟩) 33))); clear r1))
    | (go_at_call 9; ((with_reducible refine (alive9 _ (HT.out.below B2 h2)).mono ?_); rintro e w3 ⟨rfl, b3⟩; have B3 := L2.bch B2 b3; obtain ⟨q0, q1, q2, q3, q4, q5, q6, q7⟩ := cells8 (row_up r2 b3); obtain ⟨y0, y1, y2, y3, y4, y5, y6, y7, y8, y9, y10, y11, y12, y13⟩ := cells14 (row_up r3 b3); clear r2 r3)))
  go_ret
  exact ⟨rfl, B3⟩
theorem pstats_walk (s : ByteArray) (_ : s.size ≤ maxLen) (w : World) (hT : Tab w) : Calls Tryd.prog 4 #[.string s] w fun e w' => e = .returned (.bool true) ∧ Below w.heap.size w w' := by
  by_cases h : 3000 < s.size
  · exact pstats_long s w hT h
  · obtain ⟨labs, r, er, hli⟩ : ∃ labs r er, liV s = (labs, r, er) := ⟨_, _, _, rfl⟩
    by_cases hz : er = 0
    · subst hz
      by_cases hl : labs.length = 0
      · obtain rfl := List.eq_nil_of_length_eq_zero hl
        by_cases hk : r.kind = 2
        · exact pstats_yes s w hT (by omega) r hli hk
        · exact pstats_kind s w hT (by omega) r hli hk
      · exact pstats_labs s w hT (by omega) labs r hli (by omega)
    · exact pstats_err s w hT (by omega) labs r er hli hz
end Go.Proofs.YtjcaonbejhdhkaaDoor.L9
