/- The law 'Line returns the items of the reference, or the error' returns true. Condition: the tables read as the program's text lays them. -/
import Derived.Test.YtjcaonbejhdhkaaDoorL9Alv
namespace Go.Proofs.YtjcaonbejhdhkaaDoor.L9
open Go.RowKit
attribute [local go_sem] Oper.semAt_some

set_option maxHeartbeats 2000000 in
set_option maxRecDepth 100000 in
theorem plines_long (s : ByteArray) (w : World) (hT : Tab w) (h : 3000 < s.size) : Calls Tryd.prog 3 #[.string s] w fun e w' => e = .returned (.bool true) ∧ Below w.heap.size w w' := by
  have HA := Lib.hid (alive9 w hT)
  have h' : (3000 : Int) < (s.size : Int) := by omega
  clear hT
  go_enter Tryd.func3, Tryd.ntmps3
  go_wp2_with (go_at_call 9; ((with_reducible refine (HA.out).mono ?_); rintro e w1 ⟨rfl, b1⟩))
  go_ret
  exact ⟨rfl, b1⟩
/-- The reference's line, its result's row by its parts. -/
theorem rline_li (s : ByteArray) (hs : s.size ≤ 100000) (labs : List ByteArray) (r : Rs) (er : Int) (h : liV s = (labs, r, er)) (n : Nat) (hn : labs.length = n) (w : World) : Calls Tryd.prog 11 #[.string s] w fun e w' => ∃ a c, e = .returned (.tuple #[.agg (rsA (.slice a n c) r), .int .i64 er]) ∧ L8.StAt w' (.slice a n c) labs ∧ Below w.heap.size w w' := by
  have H := rline_at s hs w
  rw [h] at H
  refine H.mono fun e w' ⟨lv, he, hst, hb⟩ => ?_
  obtain ⟨a, c, rfl, _⟩ := st_form hn hst
  exact ⟨a, c, he, hst, hb⟩
set_option maxHeartbeats 2000000 in
set_option maxRecDepth 100000 in
theorem plines_err (s : ByteArray) (w : World) (hT : Tab w) (h : s.size ≤ 3000) (labs : List ByteArray) (r : Rs) (er : Int) (hli : liV s = (labs, r, er)) (hne : ¬ er = 0) : Calls Tryd.prog 3 #[.string s] w fun e w' => e = .returned (.bool true) ∧ Below w.heap.size w w' := by
  have h2 := hT.lt
  have HT := Lib.hid hT
  have h' : ¬ (3000 : Int) < (s.size : Int) := by omega
  obtain ⟨n2, hn2⟩ : ∃ n2, labs.length = n2 := ⟨_, rfl⟩
  have HL := Lib.hid (line_li s (by omega) w hT er (by rw [hli]))
  rw [if_neg hne] at HL
  have HR := Lib.hid (fun W => rline_li s (by omega) labs r er hli n2 hn2 W)
  clear hT hli hn2
  go_enter Tryd.func3, Tryd.ntmps3
  go_wp2_with (first
    | (go_at_call 10; ((with_reducible refine (HL.out).mono ?_); rintro e w1 ⟨v, rfl, hv, b1⟩; obtain ⟨a, c, rfl, -⟩ := it_form (n := 0) rfl hv; clear hv))
    | (go_at_call 11; ((with_reducible refine (HR.out _).mono ?_); rintro e w2 ⟨a2, c2, rfl, hst, b2⟩; clear hst; have B2 := L2.bch b1 (L2.bch b2 (L8.bnew w2 (.cells (rsA (.slice a2 n2 c2) r) 33)))))
    | (go_at_call 9; ((with_reducible refine (alive9 _ (HT.out.below B2 h2)).mono ?_); rintro e w3 ⟨rfl, b3⟩)))
  go_ret
  exact ⟨rfl, L2.bch B2 b3⟩
set_option maxHeartbeats 2000000 in
set_option maxRecDepth 100000 in
theorem plines_ok (s : ByteArray) (w : World) (hT : Tab w) (h : s.size ≤ 3000) (labs : List ByteArray) (r : Rs) (hli : liV s = (labs, r, 0)) : Calls Tryd.prog 3 #[.string s] w fun e w' => e = .returned (.bool true) ∧ Below w.heap.size w w' := by
  have h2 := hT.lt
  have HT := Lib.hid hT
  have h' : ¬ (3000 : Int) < (s.size : Int) := by omega
  obtain ⟨n2, hn2⟩ : ∃ n2, labs.length = n2 := ⟨_, rfl⟩
  obtain ⟨hk, hll⟩ := liV_kind s
  rw [hli] at hk hll
  have HL := Lib.hid (line_li s (by omega) w hT 0 (by rw [hli]))
  rw [if_pos rfl, hli] at HL
  have HR := Lib.hid (fun W => rline_li s (by omega) labs r 0 hli n2 hn2 W)
  have HD := Lib.hid (fun (W : World) (v lv : Value) (hv : ItAt W v (itemsOf labs r)) (hl : L8.StAt W lv labs) => differs_at v lv labs r W hv hl hk (by have := hll; show labs.length ≤ 100000; simp only at this; omega))
  clear hT hli hn2 hk hll
  go_enter Tryd.func3, Tryd.ntmps3
  go_wp2_with (first
    | (go_at_call 10; ((with_reducible refine (HL.out).mono ?_); rintro e w1 ⟨v, rfl, hv, b1⟩))
    | (go_at_call 11; ((with_reducible refine (HR.out _).mono ?_); rintro e w2 ⟨a2, c2, rfl, hst, b2⟩; have r2 := heap_alloc_last w2 (.cells (rsA (.slice a2 n2 c2) r) 33); have B2 := L2.bch b1 (L2.bch b2 (L8.bnew w2 (.cells (rsA (.slice a2 n2 c2) r) 33)))))
    | (go_at_call 9; ((with_reducible refine (alive9 _ (HT.out.below B2 h2)).mono ?_); rintro e w3 ⟨rfl, b3⟩; have B3 := L2.bch B2 b3; obtain ⟨q0, q1, q2, q3, q4, q5, q6, q7, q8, q9, q10, q11, q12, q13⟩ := cells14 (row_up r2 b3); have hv3 := (hv.below b2).below (L2.bch (L8.bnew w2 (.cells (rsA (.slice a2 n2 c2) r) 33)) b3); have hst3 := hst.below (L2.bch (L8.bnew w2 (.cells (rsA (.slice a2 n2 c2) r) 33)) b3); clear r2))
    | (go_at_call 12; ((with_reducible refine (HD.out _ _ _ hv3 hst3).mono ?_); rintro e w4 ⟨rfl, b4⟩)))
  go_ret
  exact ⟨rfl, L2.bch B3 b4⟩
theorem plines_walk (s : ByteArray) (_ : s.size ≤ maxLen) (w : World) (hT : Tab w) : Calls Tryd.prog 3 #[.string s] w fun e w' => e = .returned (.bool true) ∧ Below w.heap.size w w' := by
  by_cases h : 3000 < s.size
  · exact plines_long s w hT h
  · obtain ⟨labs, r, er, hli⟩ : ∃ labs r er, liV s = (labs, r, er) := ⟨_, _, _, rfl⟩
    by_cases hz : er = 0
    · subst hz
      exact plines_ok s w hT (by omega) labs r hli
    · exact plines_err s w hT (by omega) labs r er hli hz
end Go.Proofs.YtjcaonbejhdhkaaDoor.L9
