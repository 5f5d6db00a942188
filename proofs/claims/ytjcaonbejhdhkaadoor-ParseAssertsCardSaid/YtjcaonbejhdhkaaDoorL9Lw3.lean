/- The law 'AsCode, MustCode and Catch tell the instructions from the other items' returns true. Condition: the tables read as the program's text lays them. -/
import Derived.Test.YtjcaonbejhdhkaaDoorL9Lw2
namespace Go.Proofs.YtjcaonbejhdhkaaDoor.L9
open Go.RowKit
attribute [local go_sem] Oper.semAt_some

theorem nq_codeZ (w : World) : (binOp .neq 39 (.agg codZ) (.agg codZ)).run Tryd.prog w = .ok (.bool false) w := by kernel_rfl
theorem cmp_code : (Tryd.prog.info? 39).map (·.comparable) = some true := by kernel_rfl
theorem nqi_code (x : Ins) (tg mp : ByteArray) (w : World) : (binOp .neq 43 (.iface 39 (.agg (codA x tg mp))) (.iface 39 (.agg (codA x tg mp)))).run Tryd.prog w = .ok (.bool false) w := by
  have h : (Op.equalIn 9999 39 (.agg (codA x tg mp)) (.agg (codA x tg mp))).run Tryd.prog w = .ok true w := by simp [go_sem]
  cases hi : Tryd.prog.info? 39 with
  | none => have := cmp_code; rw [hi] at this; cases this
  | some i =>
    have hcc : i.comparable = true := by have := cmp_code; rw [hi] at this; simpa using this
    have h2 : (Op.equalIn (9999 + 1) 43 (.iface 39 (.agg (codA x tg mp))) (.iface 39 (.agg (codA x tg mp)))).run Tryd.prog w = .ok true w := by
      rw [Op.equalIn]
      simp [run_underlying Tryd.underlying43, typeInfo, hi, hcc, h]
    simp only [binOp]
    simp [Op.equal, Op.maxDepth, h2]
set_option maxHeartbeats 4000000 in
set_option maxRecDepth 100000 in
theorem passerts_long (s : ByteArray) (w : World) (hT : Tab w) (h : 3000 < s.size) : Calls Tryd.prog 5 #[.string s] w fun e w' => e = .returned (.bool true) ∧ Below w.heap.size w w' := by
  have HA := Lib.hid (alive9 w hT)
  have h' : (3000 : Int) < (s.size : Int) := by omega
  clear hT
  go_enter Tryd.func5, Tryd.ntmps5
  go_wp2_with (go_at_call 9; ((with_reducible refine (HA.out).mono ?_); rintro e w1 ⟨rfl, b1⟩))
  go_ret
  exact ⟨rfl, b1⟩
/-- What an item of a line is. -/
def ItemK (v : Value) : Prop := (∃ T : ByteArray, v = .iface 73 (.agg #[.string T])) ∨ (∃ (a : ByteArray) (k u n : Int), v = .iface 76 (.agg #[.string a, .int .i64 k, .int .i64 u, .int .i64 n])) ∨ ∃ (x : Ins) (tg mp : ByteArray), v = .iface 39 (.agg (codA x tg mp))
theorem items_kind (labs : List ByteArray) (r : Rs) : ∀ v ∈ itemsOf labs r, ItemK v := by
  intro v hv
  unfold itemsOf at hv
  rw [List.mem_append] at hv
  rcases hv with hv | hv
  · obtain ⟨T, _, rfl⟩ := List.mem_map.1 hv
    exact .inl ⟨T, rfl⟩
  · split at hv
    · simp only [List.mem_cons, List.not_mem_nil, or_false] at hv
      exact .inr (.inl ⟨_, _, _, _, hv⟩)
    · split at hv
      · simp only [List.mem_cons, List.not_mem_nil, or_false] at hv
        exact .inr (.inr ⟨_, _, _, hv⟩)
      · cases hv
set_option maxHeartbeats 4000000 in
set_option maxRecDepth 100000 in
theorem passerts_in (s : ByteArray) (w : World) (hT : Tab w) (h : s.size ≤ 3000) (er : Int) (l : List Value) (hli : Calls Tryd.prog 10 #[.string s] w fun e w' => ∃ v, e = .returned (.tuple #[v, .int .i64 er]) ∧ ItAt w' v l ∧ Below w.heap.size w w') (hlk : ∀ v ∈ l, ItemK v) (hll : l.length ≤ 100001) : Calls Tryd.prog 5 #[.string s] w fun e w' => e = .returned (.bool true) ∧ Below w.heap.size w w' := by
  have h2 := hT.lt
  have HT := Lib.hid hT
  have h' : ¬ (3000 : Int) < (s.size : Int) := by omega
  obtain ⟨N, hN⟩ : ∃ N, l.length = N := ⟨_, rfl⟩
  rw [hN] at hll
  have HN := Lib.hid hN
  have HL := Lib.hid hli
  have HK := Lib.hid hlk
  clear hT hli hN hlk
  go_enter Tryd.func5, Tryd.ntmps5
  go_wp2_with (go_at_call 10; ((with_reducible refine (HL.out).mono ?_); rintro e w1 ⟨v, rfl, hv, b1⟩; obtain ⟨a, c, rfl, hA⟩ := it_form HN.out hv; have HA := Lib.hid hA; clear hv hA))
  go_loopw [24] (fun iv wr => ∃ i : Nat, iv = .int .i64 (i : Int) ∧ i ≤ N ∧ Below w1.heap.size w1 wr) (fun iv _ => N - (intOf iv).toNat)
  case atStart => exact ⟨0, rfl, Nat.zero_le _, Below.refl _ _⟩
  case round =>
    obtain ⟨i, rfl, hi, hB⟩ := hrel
    by_cases hlt : i < N
    · obtain ⟨b, o, rfl, hb, hcs⟩ := HA.out (by omega)
      have hj : i < l.length := by rw [HN.out]; exact hlt
      have c0' := (hB.cell (p := ⟨b, o + i, none⟩) hb).trans (hcs i hj)
      have i0 : (0 : Int) ≤ (i : Int) := by omega
      rcases HK.out _ (List.getElem_mem hj) with ⟨T, hT⟩ | ⟨A, k, u, n, hT⟩ | ⟨x, tg, mp, hT⟩
      · have c0 : wr.cell? ⟨b, o + i, none⟩ = some (.iface 73 (.agg #[.string T])) := by rw [← hT]; exact c0'
        clear c0' hT hcs HA
        have en := en_iface 73 (.agg #[.string T])
        have km := km_label T
        have nqz := nq_codeZ
        go_wp2_with (first
          | (go_at_call 14; ((with_reducible refine (asCode_label _ _).mono ?_); rintro e w4 ⟨rfl, b4⟩; have r4 := heap_alloc_last w4 (.cells codZ 39); have B4 := L2.bch hB (L2.bch b4 (L8.bnew w4 (.cells codZ 39)))))
          | (go_at_call 144; ((with_reducible refine (kind_label _ _).mono ?_); rintro e w5 ⟨rfl, b5⟩; have r5 := row_up r4 b5; have B5 := L2.bch B4 b5; clear r4))
          | (go_at_call 15; ((with_reducible refine (catch_label _ _).mono ?_); rintro e w6 ⟨rfl, b6⟩; have r6 := row_up r5 b6; have B6 := L2.bch B5 b6; clear r5))
          | (go_at_call 15; ((with_reducible refine (catch_label _ _).mono ?_); rintro e w7 ⟨rfl, b7⟩; have r7 := row_up r6 b7; have B7 := L2.bch B6 b7; obtain ⟨q0, q1, q2, q3, q4, q5, q6, q7⟩ := cells8 r7; clear r6))
          | (go_at_call 16; ((with_reducible refine (must_label _ _).mono ?_); rintro e w8 ⟨rfl, b8⟩; have B8 := L2.bch B7 b8; clear q0 q1 q2 q3 q4 q5 q6 q7)))
        go_roundw
        case rel => exact ⟨i + 1, by go_num, by omega, L2.bch B8 (L8.bnew _ _)⟩
        case measure => simp [intOf]; omega
      · have c0 : wr.cell? ⟨b, o + i, none⟩ = some (.iface 76 (.agg #[.string A, .int .i64 k, .int .i64 u, .int .i64 n])) := by rw [← hT]; exact c0'
        clear c0' hT hcs HA
        have en := en_iface 76 (.agg #[.string A, .int .i64 k, .int .i64 u, .int .i64 n])
        have km := km_map A k u n
        have nqz := nq_codeZ
        go_wp2_with (first
          | (go_at_call 14; ((with_reducible refine (asCode_map _ _).mono ?_); rintro e w4 ⟨rfl, b4⟩; have r4 := heap_alloc_last w4 (.cells codZ 39); have B4 := L2.bch hB (L2.bch b4 (L8.bnew w4 (.cells codZ 39)))))
          | (go_at_call 145; ((with_reducible refine (kind_map _ _ _ _ _).mono ?_); rintro e w5 ⟨rfl, b5⟩; have r5 := row_up r4 b5; have B5 := L2.bch B4 b5; clear r4))
          | (go_at_call 15; ((with_reducible refine (catch_map _ _).mono ?_); rintro e w6 ⟨rfl, b6⟩; have r6 := row_up r5 b6; have B6 := L2.bch B5 b6; clear r5))
          | (go_at_call 15; ((with_reducible refine (catch_map _ _).mono ?_); rintro e w7 ⟨rfl, b7⟩; have r7 := row_up r6 b7; have B7 := L2.bch B6 b7; obtain ⟨q0, q1, q2, q3, q4, q5, q6, q7⟩ := cells8 r7; clear r6))
          | (go_at_call 16; ((with_reducible refine (must_map _ _).mono ?_); rintro e w8 ⟨rfl, b8⟩; have B8 := L2.bch B7 b8; clear q0 q1 q2 q3 q4 q5 q6 q7)))
        go_roundw
        case rel => exact ⟨i + 1, by go_num, by omega, L2.bch B8 (L8.bnew _ _)⟩
        case measure => simp [intOf]; omega
      · have c0 : wr.cell? ⟨b, o + i, none⟩ = some (.iface 39 (.agg (codA x tg mp))) := by rw [← hT]; exact c0'
        clear c0' hT hcs HA
        have en := en_iface 39 (.agg (codA x tg mp))
        have km := km_code x tg mp
        have nqc := nq_code x tg mp
        have nqi := nqi_code x tg mp
        go_wp2_with (first
          | (go_at_call 14; ((with_reducible refine (asCode_code x tg mp _).mono ?_); rintro e w4 ⟨rfl, b4⟩; have r4 := heap_alloc_last w4 (.cells (codA x tg mp) 39); have B4 := L2.bch hB (L2.bch b4 (L8.bnew w4 (.cells (codA x tg mp) 39)))))
          | (go_at_call 143; ((with_reducible refine (kind_code x tg mp _).mono ?_); rintro e w5 ⟨rfl, b5⟩; have r5 := row_up r4 b5; have B5 := L2.bch B4 b5; clear r4))
          | (go_at_call 15; ((with_reducible refine (catch_code x tg mp _).mono ?_); rintro e w6 ⟨rfl, b6⟩; have r6 := row_up r5 b6; have B6 := L2.bch B5 b6; clear r5))
          | (go_at_call 16; ((with_reducible refine (must_code x tg mp _).mono ?_); rintro e w8 ⟨rfl, b8⟩; have r8 := row_up r6 b8; have g8 := lt_of_block r8; have B8 := L2.bch B6 b8; obtain ⟨q0, q1, q2, q3, q4, q5, q6, q7⟩ := cells8 r8; clear r6)))
        go_roundw
        case rel => exact ⟨i + 1, by go_num, by omega, L2.bch B8 (L8.bnew _ _)⟩
        case measure => simp [intOf]; omega
    · obtain rfl : i = N := by omega
      have hB1 := L2.bch b1 hB
      go_wp2_with (first
        | (go_at_call 14; ((with_reducible refine (asCode_nil _).mono ?_); rintro e w4 ⟨rfl, b4⟩; have B4 := L2.bch hB1 (L2.bch b4 (L8.bnew w4 (.cells codZ 39)))))
        | (go_at_call 9; ((with_reducible refine (alive9 _ (HT.out.below B4 h2)).mono ?_); rintro e w5 ⟨rfl, b5⟩))
        | (go_at_call 15; ((with_reducible refine (catch_nil _).mono ?_); rintro e w6 ⟨rfl, b6⟩)))
      go_ret
      exact ⟨rfl, L2.bch B4 (L2.bch b5 b6)⟩
theorem passerts_walk (s : ByteArray) (_ : s.size ≤ maxLen) (w : World) (hT : Tab w) : Calls Tryd.prog 5 #[.string s] w fun e w' => e = .returned (.bool true) ∧ Below w.heap.size w w' := by
  by_cases h : 3000 < s.size
  · exact passerts_long s w hT h
  · have hl := line_li s (by omega) w hT _ rfl
    obtain ⟨hk, hll⟩ := liV_kind s
    by_cases hz : (liV s).2.2 = 0
    · rw [if_pos hz] at hl
      refine passerts_in s w hT (by omega) _ _ hl (items_kind _ _) ?_
      rw [kinds_len _ _ hk]
      split <;> omega
    · rw [if_neg hz] at hl
      exact passerts_in s w hT (by omega) _ _ hl (fun v hv => by cases hv) (by simp)
end Go.Proofs.YtjcaonbejhdhkaaDoor.L9
