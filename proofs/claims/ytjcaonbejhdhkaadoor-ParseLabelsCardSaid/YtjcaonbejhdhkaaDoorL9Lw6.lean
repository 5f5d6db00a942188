/- The law 'a text with a colon in front of a line has the items of the reference, or the error' returns true. Condition: the tables read as the program's text lays them. -/
import Derived.Test.YtjcaonbejhdhkaaDoorL9Pad
import Derived.Test.YtjcaonbejhdhkaaDoorL9Lw1
namespace Go.Proofs.YtjcaonbejhdhkaaDoor.L9
open Go.RowKit
attribute [local go_sem] Oper.semAt_some

theorem lab_line (s t : ByteArray) : ((t ++ ⟨#[58]⟩ ++ s : ByteArray)).data.toList = t.data.toList ++ 58 :: s.data.toList := by
  simp
set_option maxHeartbeats 4000000 in
set_option maxRecDepth 100000 in
theorem plabels_long (s t : ByteArray) (w : World) (hT : Tab w) (h : 3000 < s.size ∨ 100 < t.size) : Calls Tryd.prog 8 #[.string s, .string t] w fun e w' => e = .returned (.bool true) ∧ Below w.heap.size w w' := by
  have HA := Lib.hid (alive9 w hT)
  clear hT
  by_cases h1 : 3000 < s.size
  · have h' : (3000 : Int) < (s.size : Int) := by omega
    have t1 : decide ((3000 : Int) < (s.size : Int)) = true := decide_eq_true h'
    go_enter Tryd.func8, Tryd.ntmps8
    go_wp2_with (go_at_call 9; ((with_reducible refine (HA.out).mono ?_); rintro e w1 ⟨rfl, b1⟩))
    go_ret
    exact ⟨rfl, b1⟩
  · have h2 : ¬ (3000 : Int) < (s.size : Int) := by omega
    have h3 : (100 : Int) < (t.size : Int) := by omega
    go_enter Tryd.func8, Tryd.ntmps8
    go_wp2_with (go_at_call 9; ((with_reducible refine (HA.out).mono ?_); rintro e w1 ⟨rfl, b1⟩))
    go_ret
    exact ⟨rfl, b1⟩
set_option maxHeartbeats 4000000 in
set_option maxRecDepth 100000 in
theorem plabels_err (s t : ByteArray) (w : World) (hT : Tab w) (h : s.size ≤ 3000) (ht : t.size ≤ 100) (labs labs2 : List ByteArray) (r r2 : Rs) (f : Int) (er : Int) (hli : liV s = (labs, r, f)) (hl2 : liV (t ++ ⟨#[58]⟩ ++ s) = (labs2, r2, er)) (hne : ¬ er = 0) : Calls Tryd.prog 8 #[.string s, .string t] w fun e w' => e = .returned (.bool true) ∧ Below w.heap.size w w' := by
  have h2 := hT.lt
  have HT := Lib.hid hT
  have h' : ¬ (3000 : Int) < (s.size : Int) := by omega
  have h'' : ¬ (100 : Int) < (t.size : Int) := by omega
  obtain ⟨n1, hn1⟩ : ∃ n1, labs.length = n1 := ⟨_, rfl⟩
  obtain ⟨n2, hn2⟩ : ∃ n2, labs2.length = n2 := ⟨_, rfl⟩
  obtain ⟨_, hl1⟩ := liV_kind s
  obtain ⟨hk, hll⟩ := liV_kind (t ++ ⟨#[58]⟩ ++ s)
  rw [hl2] at hk hll
  rw [hli] at hl1
  have z1 : (t ++ ⟨#[58]⟩ : ByteArray).size = t.size + 1 := by rw [ByteArray.size_append]; rfl
  have z2 : (t ++ ⟨#[58]⟩ ++ s : ByteArray).size = t.size + 1 + s.size := by rw [ByteArray.size_append, z1]
  have m1 : (t ++ ⟨#[58]⟩ : ByteArray).size ≤ 9223372036854775807 := by omega
  have m2 : (t ++ ⟨#[58]⟩ ++ s : ByteArray).size ≤ 9223372036854775807 := by omega
  have hz : (t ++ ⟨#[58]⟩ ++ s : ByteArray).size ≤ 100000 := by omega
  have HR := Lib.hid (rline_li s (by omega) labs r f hli n1 hn1 w)
  have HR2 := Lib.hid (fun W => rline_li (t ++ ⟨#[58]⟩ ++ s) hz labs2 r2 er hl2 n2 hn2 W)
  have HL : Hid (∀ W, Tab W → Calls Tryd.prog 10 #[.string (t ++ ⟨#[58]⟩ ++ s)] W fun e w' => ∃ v, e = .returned (.tuple #[v, .int .i64 er]) ∧ ItAt w' v ([]) ∧ Below W.heap.size W w') := Lib.hid (fun W hW => by
    have H := line_li (t ++ ⟨#[58]⟩ ++ s) hz W hW er (by rw [hl2])
    rw [if_neg hne] at H
    exact H)
  clear hT hli hl2 hn1 hn2 hk hll hl1 z1 z2 hz
  go_enter Tryd.func8, Tryd.ntmps8
  go_wp2_with (first
    | (go_at_call 11; ((with_reducible refine (HR.out).mono ?_); rintro e w1 ⟨a1, c1, rfl, hs1, b1⟩; clear hs1; have r1 := heap_alloc_last w1 (.cells (rsA (.slice a1 n1 c1) r) 33); have B1 := L2.bch b1 (L8.bnew w1 (.cells (rsA (.slice a1 n1 c1) r) 33))))
    | (go_at_call 11; ((with_reducible refine (HR2.out _).mono ?_); rintro e w2 ⟨a2, c2, rfl, hst, b2⟩; have r2' := heap_alloc_last w2 (.cells (rsA (.slice a2 n2 c2) r2) 33); have nb := L8.bnew w2 (.cells (rsA (.slice a2 n2 c2) r2) 33); have r1' := row_up (row_up r1 b2) nb; have B2 := L2.bch B1 (L2.bch b2 nb)))
    | (go_at_call 10; ((with_reducible refine (HL.out _ (HT.out.below B2 h2)).mono ?_); rintro e w3 ⟨v, rfl, hv, b3⟩; have B3 := L2.bch B2 b3; obtain ⟨a, c, rfl, -⟩ := it_form (n := 0) rfl hv; clear hv))
    | (go_at_call 9; ((with_reducible refine (alive9 _ (HT.out.below B3 h2)).mono ?_); rintro e w4 ⟨rfl, b4⟩; have B4 := L2.bch B3 b4)))
  go_ret
  exact ⟨rfl, B4⟩
set_option maxHeartbeats 4000000 in
set_option maxRecDepth 100000 in
theorem plabels_f (s t : ByteArray) (w : World) (hT : Tab w) (h : s.size ≤ 3000) (ht : t.size ≤ 100) (labs labs2 : List ByteArray) (r r2 : Rs) (f : Int) (hli : liV s = (labs, r, f)) (hl2 : liV (t ++ ⟨#[58]⟩ ++ s) = (labs2, r2, 0)) (hne : ¬ f = 0) : Calls Tryd.prog 8 #[.string s, .string t] w fun e w' => e = .returned (.bool true) ∧ Below w.heap.size w w' := by
  have h2 := hT.lt
  have HT := Lib.hid hT
  have h' : ¬ (3000 : Int) < (s.size : Int) := by omega
  have h'' : ¬ (100 : Int) < (t.size : Int) := by omega
  obtain ⟨n1, hn1⟩ : ∃ n1, labs.length = n1 := ⟨_, rfl⟩
  obtain ⟨n2, hn2⟩ : ∃ n2, labs2.length = n2 := ⟨_, rfl⟩
  obtain ⟨_, hl1⟩ := liV_kind s
  obtain ⟨hk, hll⟩ := liV_kind (t ++ ⟨#[58]⟩ ++ s)
  rw [hl2] at hk hll
  rw [hli] at hl1
  have z1 : (t ++ ⟨#[58]⟩ : ByteArray).size = t.size + 1 := by rw [ByteArray.size_append]; rfl
  have z2 : (t ++ ⟨#[58]⟩ ++ s : ByteArray).size = t.size + 1 + s.size := by rw [ByteArray.size_append, z1]
  have m1 : (t ++ ⟨#[58]⟩ : ByteArray).size ≤ 9223372036854775807 := by omega
  have m2 : (t ++ ⟨#[58]⟩ ++ s : ByteArray).size ≤ 9223372036854775807 := by omega
  have hz : (t ++ ⟨#[58]⟩ ++ s : ByteArray).size ≤ 100000 := by omega
  have HR := Lib.hid (rline_li s (by omega) labs r f hli n1 hn1 w)
  have HR2 := Lib.hid (fun W => rline_li (t ++ ⟨#[58]⟩ ++ s) hz labs2 r2 0 hl2 n2 hn2 W)
  have HL : Hid (∀ W, Tab W → Calls Tryd.prog 10 #[.string (t ++ ⟨#[58]⟩ ++ s)] W fun e w' => ∃ v, e = .returned (.tuple #[v, .int .i64 0]) ∧ ItAt w' v (itemsOf labs2 r2) ∧ Below W.heap.size W w') := Lib.hid (fun W hW => by
    have H := line_li (t ++ ⟨#[58]⟩ ++ s) hz W hW 0 (by rw [hl2])
    rw [if_pos rfl, hl2] at H
    exact H)
  have HD := Lib.hid (fun (W : World) (v lv : Value) (hv : ItAt W v (itemsOf labs2 r2)) (hl : L8.StAt W lv labs2) => differs_at v lv labs2 r2 W hv hl hk (by have := hll; show labs2.length ≤ 100000; simp only at this; omega))
  have HV := Lib.hid (fun W => L2.rvalid_at t _ W (by omega) rfl)
  clear hT hli hl2 hn1 hn2 hk hll hl1 z1 z2 hz
  go_enter Tryd.func8, Tryd.ntmps8
  go_wp2_with (first
    | (go_at_call 11; ((with_reducible refine (HR.out).mono ?_); rintro e w1 ⟨a1, c1, rfl, hs1, b1⟩; clear hs1; have r1 := heap_alloc_last w1 (.cells (rsA (.slice a1 n1 c1) r) 33); have B1 := L2.bch b1 (L8.bnew w1 (.cells (rsA (.slice a1 n1 c1) r) 33))))
    | (go_at_call 11; ((with_reducible refine (HR2.out _).mono ?_); rintro e w2 ⟨a2, c2, rfl, hst, b2⟩; have r2' := heap_alloc_last w2 (.cells (rsA (.slice a2 n2 c2) r2) 33); have nb := L8.bnew w2 (.cells (rsA (.slice a2 n2 c2) r2) 33); have r1' := row_up (row_up r1 b2) nb; have B2 := L2.bch B1 (L2.bch b2 nb)))
    | (go_at_call 10; ((with_reducible refine (HL.out _ (HT.out.below B2 h2)).mono ?_); rintro e w3 ⟨v, rfl, hv, b3⟩; have B3 := L2.bch B2 b3; have r13 := row_up r1' b3; have r23 := row_up r2' b3))
    | (go_at_call 9; ((with_reducible refine (alive9 _ (HT.out.below B3 h2)).mono ?_); rintro e w4 ⟨rfl, b4⟩; have B4 := L2.bch B3 b4; have r14 := row_up r13 b4; have r24 := row_up r23 b4; obtain ⟨q0, q1, q2, q3, q4, q5, q6, q7, q8, q9, q10, q11, q12, q13⟩ := cells14 r24; have hv4 := hv.below b4; have hst4 := ((hst.below nb).below b3).below b4; clear r1 r2' r1' r13 r23))
    | (go_at_call 12; ((with_reducible refine (HD.out _ _ _ hv4 hst4).mono ?_); rintro e w5 ⟨rfl, b5⟩; have B5 := L2.bch B4 b5; obtain ⟨x0, -⟩ := cells14 (row_up r14 b5); obtain ⟨y0, -⟩ := cells14 (row_up r24 b5); clear r14 r24))
    | (go_at_call 20; ((with_reducible refine (HV.out _).mono ?_); rintro e w6 ⟨rfl, rfl⟩)))
  go_ret
  exact ⟨rfl, B5⟩
set_option maxHeartbeats 4000000 in
set_option maxRecDepth 100000 in
theorem plabels_no (s t : ByteArray) (w : World) (hT : Tab w) (h : s.size ≤ 3000) (ht : t.size ≤ 100) (labs labs2 : List ByteArray) (r r2 : Rs) (hli : liV s = (labs, r, 0)) (hl2 : liV (t ++ ⟨#[58]⟩ ++ s) = (labs2, r2, 0)) (hv : L2.vd t = false) : Calls Tryd.prog 8 #[.string s, .string t] w fun e w' => e = .returned (.bool true) ∧ Below w.heap.size w w' := by
  have h2 := hT.lt
  have HT := Lib.hid hT
  have h' : ¬ (3000 : Int) < (s.size : Int) := by omega
  have h'' : ¬ (100 : Int) < (t.size : Int) := by omega
  obtain ⟨n1, hn1⟩ : ∃ n1, labs.length = n1 := ⟨_, rfl⟩
  obtain ⟨n2, hn2⟩ : ∃ n2, labs2.length = n2 := ⟨_, rfl⟩
  obtain ⟨_, hl1⟩ := liV_kind s
  obtain ⟨hk, hll⟩ := liV_kind (t ++ ⟨#[58]⟩ ++ s)
  rw [hl2] at hk hll
  rw [hli] at hl1
  have z1 : (t ++ ⟨#[58]⟩ : ByteArray).size = t.size + 1 := by rw [ByteArray.size_append]; rfl
  have z2 : (t ++ ⟨#[58]⟩ ++ s : ByteArray).size = t.size + 1 + s.size := by rw [ByteArray.size_append, z1]
  have m1 : (t ++ ⟨#[58]⟩ : ByteArray).size ≤ 9223372036854775807 := by omega
  have m2 : (t ++ ⟨#[58]⟩ ++ s : ByteArray).size ≤ 9223372036854775807 := by omega
  have hz : (t ++ ⟨#[58]⟩ ++ s : ByteArray).size ≤ 100000 := by omega
  have HR := Lib.hid (rline_li s (by omega) labs r 0 hli n1 hn1 w)
  have HR2 := Lib.hid (fun W => rline_li (t ++ ⟨#[58]⟩ ++ s) hz labs2 r2 0 hl2 n2 hn2 W)
  have HL : Hid (∀ W, Tab W → Calls Tryd.prog 10 #[.string (t ++ ⟨#[58]⟩ ++ s)] W fun e w' => ∃ v, e = .returned (.tuple #[v, .int .i64 0]) ∧ ItAt w' v (itemsOf labs2 r2) ∧ Below W.heap.size W w') := Lib.hid (fun W hW => by
    have H := line_li (t ++ ⟨#[58]⟩ ++ s) hz W hW 0 (by rw [hl2])
    rw [if_pos rfl, hl2] at H
    exact H)
  have HD := Lib.hid (fun (W : World) (v lv : Value) (hv : ItAt W v (itemsOf labs2 r2)) (hl : L8.StAt W lv labs2) => differs_at v lv labs2 r2 W hv hl hk (by have := hll; show labs2.length ≤ 100000; simp only at this; omega))
  have HV := Lib.hid (fun W => L2.rvalid_at t false W (by omega) hv)
  clear hv hT hli hl2 hn1 hn2 hk hll hl1 z1 z2 hz
  go_enter Tryd.func8, Tryd.ntmps8
  go_wp2_with (first
    | (go_at_call 11; ((with_reducible refine (HR.out).mono ?_); rintro e w1 ⟨a1, c1, rfl, hs1, b1⟩; clear hs1; have r1 := heap_alloc_last w1 (.cells (rsA (.slice a1 n1 c1) r) 33); have B1 := L2.bch b1 (L8.bnew w1 (.cells (rsA (.slice a1 n1 c1) r) 33))))
    | (go_at_call 11; ((with_reducible refine (HR2.out _).mono ?_); rintro e w2 ⟨a2, c2, rfl, hst, b2⟩; have r2' := heap_alloc_last w2 (.cells (rsA (.slice a2 n2 c2) r2) 33); have nb := L8.bnew w2 (.cells (rsA (.slice a2 n2 c2) r2) 33); have r1' := row_up (row_up r1 b2) nb; have B2 := L2.bch B1 (L2.bch b2 nb)))
    | (go_at_call 10; ((with_reducible refine (HL.out _ (HT.out.below B2 h2)).mono ?_); rintro e w3 ⟨v, rfl, hv, b3⟩; have B3 := L2.bch B2 b3; have r13 := row_up r1' b3; have r23 := row_up r2' b3))
    | (go_at_call 9; ((with_reducible refine (alive9 _ (HT.out.below B3 h2)).mono ?_); rintro e w4 ⟨rfl, b4⟩; have B4 := L2.bch B3 b4; have r14 := row_up r13 b4; have r24 := row_up r23 b4; obtain ⟨q0, q1, q2, q3, q4, q5, q6, q7, q8, q9, q10, q11, q12, q13⟩ := cells14 r24; have hv4 := hv.below b4; have hst4 := ((hst.below nb).below b3).below b4; clear r1 r2' r1' r13 r23))
    | (go_at_call 12; ((with_reducible refine (HD.out _ _ _ hv4 hst4).mono ?_); rintro e w5 ⟨rfl, b5⟩; have B5 := L2.bch B4 b5; obtain ⟨x0, -⟩ := cells14 (row_up r14 b5); obtain ⟨y0, -⟩ := cells14 (row_up r24 b5); clear r14 r24))
    | (go_at_call 20; ((with_reducible refine (HV.out _).mono ?_); rintro e w6 ⟨rfl, rfl⟩)))
  go_ret
  exact ⟨rfl, B5⟩
set_option maxHeartbeats 4000000 in
set_option maxRecDepth 100000 in
theorem plabels_yes (s t : ByteArray) (w : World) (hT : Tab w) (h : s.size ≤ 3000) (ht : t.size ≤ 100) (labs labs2 : List ByteArray) (r r2 : Rs) (hli : liV s = (labs, r, 0)) (hl2 : liV (t ++ ⟨#[58]⟩ ++ s) = (labs2, r2, 0)) (hv : L2.vd t = true) : Calls Tryd.prog 8 #[.string s, .string t] w fun e w' => e = .returned (.bool true) ∧ Below w.heap.size w w' := by
  have h2 := hT.lt
  have HT := Lib.hid hT
  have h' : ¬ (3000 : Int) < (s.size : Int) := by omega
  have h'' : ¬ (100 : Int) < (t.size : Int) := by omega
  obtain ⟨n1, hn1⟩ : ∃ n1, labs.length = n1 := ⟨_, rfl⟩
  obtain ⟨n2, hn2⟩ : ∃ n2, labs2.length = n2 := ⟨_, rfl⟩
  obtain ⟨_, hl1⟩ := liV_kind s
  obtain ⟨hk, hll⟩ := liV_kind (t ++ ⟨#[58]⟩ ++ s)
  rw [hl2] at hk hll
  rw [hli] at hl1
  have z1 : (t ++ ⟨#[58]⟩ : ByteArray).size = t.size + 1 := by rw [ByteArray.size_append]; rfl
  have z2 : (t ++ ⟨#[58]⟩ ++ s : ByteArray).size = t.size + 1 + s.size := by rw [ByteArray.size_append, z1]
  have m1 : (t ++ ⟨#[58]⟩ : ByteArray).size ≤ 9223372036854775807 := by omega
  have m2 : (t ++ ⟨#[58]⟩ ++ s : ByteArray).size ≤ 9223372036854775807 := by omega
  have hz : (t ++ ⟨#[58]⟩ ++ s : ByteArray).size ≤ 100000 := by omega
  have HR := Lib.hid (rline_li s (by omega) labs r 0 hli n1 hn1 w)
  have HR2 := Lib.hid (fun W => rline_li (t ++ ⟨#[58]⟩ ++ s) hz labs2 r2 0 hl2 n2 hn2 W)
  have HL : Hid (∀ W, Tab W → Calls Tryd.prog 10 #[.string (t ++ ⟨#[58]⟩ ++ s)] W fun e w' => ∃ v, e = .returned (.tuple #[v, .int .i64 0]) ∧ ItAt w' v (itemsOf labs2 r2) ∧ Below W.heap.size W w') := Lib.hid (fun W hW => by
    have H := line_li (t ++ ⟨#[58]⟩ ++ s) hz W hW 0 (by rw [hl2])
    rw [if_pos rfl, hl2] at H
    exact H)
  have HD := Lib.hid (fun (W : World) (v lv : Value) (hv : ItAt W v (itemsOf labs2 r2)) (hl : L8.StAt W lv labs2) => differs_at v lv labs2 r2 W hv hl hk (by have := hll; show labs2.length ≤ 100000; simp only at this; omega))
  have HV := Lib.hid (fun W => L2.rvalid_at t true W (by omega) hv)
  have hN := liV_lab t s _ hv (lab_line s t) hli hl2
  rw [hn1, hn2] at hN
  have hb1 : n1 ≤ 3000 := by rw [← hn1]; exact Nat.le_trans hl1 h
  have zw : IntKind.i64.wrap ((n1 : Int) + 1) = (n1 : Int) + 1 := IntWalk.i64_in _ (by omega)
  have zq : (n2 : Int) = (n1 : Int) + 1 := by omega
  clear hN
  clear hv hT hli hl2 hn1 hn2 hk hll hl1 z1 z2 hz
  go_enter Tryd.func8, Tryd.ntmps8
  go_wp2_with (first
    | (go_at_call 11; ((with_reducible refine (HR.out).mono ?_); rintro e w1 ⟨a1, c1, rfl, hs1, b1⟩; clear hs1; have r1 := heap_alloc_last w1 (.cells (rsA (.slice a1 n1 c1) r) 33); have B1 := L2.bch b1 (L8.bnew w1 (.cells (rsA (.slice a1 n1 c1) r) 33))))
    | (go_at_call 11; ((with_reducible refine (HR2.out _).mono ?_); rintro e w2 ⟨a2, c2, rfl, hst, b2⟩; have r2' := heap_alloc_last w2 (.cells (rsA (.slice a2 n2 c2) r2) 33); have nb := L8.bnew w2 (.cells (rsA (.slice a2 n2 c2) r2) 33); have r1' := row_up (row_up r1 b2) nb; have B2 := L2.bch B1 (L2.bch b2 nb)))
    | (go_at_call 10; ((with_reducible refine (HL.out _ (HT.out.below B2 h2)).mono ?_); rintro e w3 ⟨v, rfl, hv, b3⟩; have B3 := L2.bch B2 b3; have r13 := row_up r1' b3; have r23 := row_up r2' b3))
    | (go_at_call 9; ((with_reducible refine (alive9 _ (HT.out.below B3 h2)).mono ?_); rintro e w4 ⟨rfl, b4⟩; have B4 := L2.bch B3 b4; have r14 := row_up r13 b4; have r24 := row_up r23 b4; obtain ⟨q0, q1, q2, q3, q4, q5, q6, q7, q8, q9, q10, q11, q12, q13⟩ := cells14 r24; have hv4 := hv.below b4; have hst4 := ((hst.below nb).below b3).below b4; clear r1 r2' r1' r13 r23))
    | (go_at_call 12; ((with_reducible refine (HD.out _ _ _ hv4 hst4).mono ?_); rintro e w5 ⟨rfl, b5⟩; have B5 := L2.bch B4 b5; obtain ⟨x0, -⟩ := cells14 (row_up r14 b5); obtain ⟨y0, -⟩ := cells14 (row_up r24 b5); clear r14 r24))
    | (go_at_call 20; ((with_reducible refine (HV.out _).mono ?_); rintro e w6 ⟨rfl, rfl⟩)))
  go_ret
  exact ⟨rfl, B5⟩
theorem plabels_walk (s : ByteArray) (_ : s.size ≤ maxLen) (t : ByteArray) (_ : t.size ≤ maxLen) (w : World) (hT : Tab w) : Calls Tryd.prog 8 #[.string s, .string t] w fun e w' => e = .returned (.bool true) ∧ Below w.heap.size w w' := by
  by_cases h : 3000 < s.size ∨ 100 < t.size
  · exact plabels_long s t w hT h
  · obtain ⟨labs, r, f, hli⟩ : ∃ labs r f, liV s = (labs, r, f) := ⟨_, _, _, rfl⟩
    obtain ⟨labs2, r2, er, hl2⟩ : ∃ labs r f, liV (t ++ ⟨#[58]⟩ ++ s) = (labs, r, f) := ⟨_, _, _, rfl⟩
    by_cases hz : er = 0
    · subst hz
      by_cases hf : f = 0
      · subst hf
        cases hv : L2.vd t
        · exact plabels_no s t w hT (by omega) (by omega) labs labs2 r r2 hli hl2 hv
        · exact plabels_yes s t w hT (by omega) (by omega) labs labs2 r r2 hli hl2 hv
      · exact plabels_f s t w hT (by omega) (by omega) labs labs2 r r2 f hli hl2 hf
    · exact plabels_err s t w hT (by omega) (by omega) labs labs2 r r2 f er hli hl2 hz
end Go.Proofs.YtjcaonbejhdhkaaDoor.L9
