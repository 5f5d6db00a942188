/- The law 'spaces and comments do not matter' returns true. Condition: the tables read as the program's text lays them. -/
import Derived.Test.YtjcaonbejhdhkaaDoorL9Pad
import Derived.Test.YtjcaonbejhdhkaaDoorL9Lw1
namespace Go.Proofs.YtjcaonbejhdhkaaDoor.L9
open Go.RowKit
attribute [local go_sem] Oper.semAt_some

theorem pad_line (s c : ByteArray) : ((⟨#[32, 9]⟩ ++ s ++ ⟨#[32, 59]⟩ ++ c : ByteArray)).data.toList = 32 :: 9 :: (s.data.toList ++ 32 :: 59 :: c.data.toList) := by
  simp
set_option maxHeartbeats 2000000 in
set_option maxRecDepth 100000 in
theorem pignores_long (s c : ByteArray) (w : World) (hT : Tab w) (h : 3000 < s.size ∨ 3000 < c.size) : Calls Tryd.prog 7 #[.string s, .string c] w fun e w' => e = .returned (.bool true) ∧ Below w.heap.size w w' := by
  have HA := Lib.hid (alive9 w hT)
  clear hT
  by_cases h1 : 3000 < s.size
  · have h' : (3000 : Int) < (s.size : Int) := by omega
    have t1 : decide ((3000 : Int) < (s.size : Int)) = true := decide_eq_true h'
    go_enter Tryd.func7, Tryd.ntmps7
    go_wp2_with (go_at_call 9; ((with_reducible refine (HA.out).mono ?_); rintro e w1 ⟨rfl, b1⟩))
    go_ret
    exact ⟨rfl, b1⟩
  · have h2 : ¬ (3000 : Int) < (s.size : Int) := by omega
    have h3 : (3000 : Int) < (c.size : Int) := by omega
    go_enter Tryd.func7, Tryd.ntmps7
    go_wp2_with (go_at_call 9; ((with_reducible refine (HA.out).mono ?_); rintro e w1 ⟨rfl, b1⟩))
    go_ret
    exact ⟨rfl, b1⟩
set_option maxHeartbeats 2000000 in
set_option maxRecDepth 100000 in
theorem pignores_err (s c : ByteArray) (w : World) (hT : Tab w) (h : s.size ≤ 3000) (hc : c.size ≤ 3000) (labs : List ByteArray) (r : Rs) (er : Int) (hli : liV s = (labs, r, er)) (hne : ¬ er = 0) : Calls Tryd.prog 7 #[.string s, .string c] w fun e w' => e = .returned (.bool true) ∧ Below w.heap.size w w' := by
  have h2 := hT.lt
  have HT := Lib.hid hT
  have h' : ¬ (3000 : Int) < (s.size : Int) := by omega
  have h'' : ¬ (3000 : Int) < (c.size : Int) := by omega
  obtain ⟨n2, hn2⟩ : ∃ n2, labs.length = n2 := ⟨_, rfl⟩
  have HR := Lib.hid (rline_li s (by omega) labs r er hli n2 hn2 w)
  clear hT hli hn2
  go_enter Tryd.func7, Tryd.ntmps7
  go_wp2_with (first
    | (go_at_call 11; ((with_reducible refine (HR.out).mono ?_); rintro e w2 ⟨a2, c2, rfl, hst, b2⟩; clear hst; have B2 := L2.bch b2 (L8.bnew w2 (.cells (rsA (.slice a2 n2 c2) r) 33))))
    | (go_at_call 9; ((with_reducible refine (alive9 _ (HT.out.below B2 h2)).mono ?_); rintro e w3 ⟨rfl, b3⟩)))
  go_ret
  exact ⟨rfl, L2.bch B2 b3⟩
set_option maxHeartbeats 4000000 in
set_option maxRecDepth 100000 in
theorem pignores_ok (s c : ByteArray) (w : World) (hT : Tab w) (h : s.size ≤ 3000) (hc : c.size ≤ 3000) (labs : List ByteArray) (r : Rs) (hli : liV s = (labs, r, 0)) : Calls Tryd.prog 7 #[.string s, .string c] w fun e w' => e = .returned (.bool true) ∧ Below w.heap.size w w' := by
  have h2 := hT.lt
  have HT := Lib.hid hT
  have h' : ¬ (3000 : Int) < (s.size : Int) := by omega
  have h'' : ¬ (3000 : Int) < (c.size : Int) := by omega
  obtain ⟨n2, hn2⟩ : ∃ n2, labs.length = n2 := ⟨_, rfl⟩
  obtain ⟨hk, hll⟩ := liV_kind s
  rw [hli] at hk hll
  have hl2 := liV_pad s _ _ (pad_line s c) hli
  have z1 : (⟨#[32, 9]⟩ ++ s : ByteArray).size = s.size + 2 := by rw [ByteArray.size_append]; have : (⟨#[32, 9]⟩ : ByteArray).size = 2 := rfl; omega
  have z2 : (⟨#[32, 9]⟩ ++ s ++ ⟨#[32, 59]⟩ : ByteArray).size = s.size + 4 := by rw [ByteArray.size_append, z1]; have : (⟨#[32, 59]⟩ : ByteArray).size = 2 := rfl; omega
  have z3 : (⟨#[32, 9]⟩ ++ s ++ ⟨#[32, 59]⟩ ++ c : ByteArray).size = s.size + 4 + c.size := by rw [ByteArray.size_append, z2]
  have m1 : (⟨#[32, 9]⟩ ++ s : ByteArray).size ≤ 9223372036854775807 := by omega
  have m2 : (⟨#[32, 9]⟩ ++ s ++ ⟨#[32, 59]⟩ : ByteArray).size ≤ 9223372036854775807 := by omega
  have m3 : (⟨#[32, 9]⟩ ++ s ++ ⟨#[32, 59]⟩ ++ c : ByteArray).size ≤ 9223372036854775807 := by omega
  have HL : Hid (∀ W, Tab W → Calls Tryd.prog 10 #[.string (⟨#[32, 9]⟩ ++ s ++ ⟨#[32, 59]⟩ ++ c)] W fun e w' => ∃ v, e = .returned (.tuple #[v, .int .i64 0]) ∧ ItAt w' v (itemsOf labs r) ∧ Below W.heap.size W w') := Lib.hid (fun W hW => by
    have H := line_li (⟨#[32, 9]⟩ ++ s ++ ⟨#[32, 59]⟩ ++ c) (by omega) W hW 0 (by rw [hl2])
    rw [if_pos rfl, hl2] at H
    exact H)
  have HR := Lib.hid (rline_li s (by omega) labs r 0 hli n2 hn2 w)
  have HD := Lib.hid (fun (W : World) (v lv : Value) (hv : ItAt W v (itemsOf labs r)) (hl : L8.StAt W lv labs) => differs_at v lv labs r W hv hl hk (by have := hll; show labs.length ≤ 100000; simp only at this; omega))
  clear hT hli hn2 hk hll hl2 z1 z2 z3
  go_enter Tryd.func7, Tryd.ntmps7
  go_wp2_with (first
    | (go_at_call 11; ((with_reducible refine (HR.out).mono ?_); rintro e w2 ⟨a2, c2, rfl, hst, b2⟩; have r2 := heap_alloc_last w2 (.cells (rsA (.slice a2 n2 c2) r) 33); have n2b := L8.bnew w2 (.cells (rsA (.slice a2 n2 c2) r) 33); have B2 := L2.bch b2 n2b))
    | (go_at_call 10; ((with_reducible refine (HL.out _ (HT.out.below B2 h2)).mono ?_); rintro e w1 ⟨v, rfl, hv, b1⟩; have B1 := L2.bch B2 b1; have r1 := row_up r2 b1))
    | (go_at_call 9; ((with_reducible refine (alive9 _ (HT.out.below B1 h2)).mono ?_); rintro e w3 ⟨rfl, b3⟩; have B3 := L2.bch B1 b3; obtain ⟨q0, q1, q2, q3, q4, q5, q6, q7, q8, q9, q10, q11, q12, q13⟩ := cells14 (row_up r1 b3); have hv3 := hv.below b3; have hst3 := ((hst.below n2b).below b1).below b3; clear r1 r2))
    | (go_at_call 12; ((with_reducible refine (HD.out _ _ _ hv3 hst3).mono ?_); rintro e w4 ⟨rfl, b4⟩)))
  go_ret
  exact ⟨rfl, L2.bch B3 b4⟩
theorem pignores_walk (s : ByteArray) (_ : s.size ≤ maxLen) (c : ByteArray) (_ : c.size ≤ maxLen) (w : World) (hT : Tab w) : Calls Tryd.prog 7 #[.string s, .string c] w fun e w' => e = .returned (.bool true) ∧ Below w.heap.size w w' := by
  by_cases h : 3000 < s.size ∨ 3000 < c.size
  · exact pignores_long s c w hT h
  · obtain ⟨labs, r, er, hli⟩ : ∃ labs r er, liV s = (labs, r, er) := ⟨_, _, _, rfl⟩
    by_cases hz : er = 0
    · subst hz
      exact pignores_ok s c w hT (by omega) (by omega) labs r hli
    · exact pignores_err s c w hT (by omega) (by omega) labs r er hli hz
end Go.Proofs.YtjcaonbejhdhkaaDoor.L9
