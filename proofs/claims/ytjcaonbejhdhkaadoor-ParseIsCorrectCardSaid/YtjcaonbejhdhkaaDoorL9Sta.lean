/- What the program's Statement returns: the only instruction of a line, or the error. Condition: the line has at most 100000 bytes, and the tables read as the program's text lays them. -/
import Derived.Test.YtjcaonbejhdhkaaDoorL9Dif
import Derived.Test.YtjcaonbejhdhkaaDoorL9Mst
import Derived.Test.YtjcaonbejhdhkaaDoorL9Rln
namespace Go.Proofs.YtjcaonbejhdhkaaDoor.L9
open Go.RowKit
attribute [local go_sem] Oper.semAt_some

theorem deV_kind (q : List ByteArray) : (deV q).1.kind = 0 ∨ (deV q).1.kind = 1 := by
  unfold deV
  split
  · exact .inl rfl
  split
  · exact .inl rfl
  split
  · exact .inl rfl
  split
  · exact .inl rfl
  · exact .inr rfl
theorem liV_kind (s : ByteArray) : ((liV s).2.1.kind = 0 ∨ (liV s).2.1.kind = 1 ∨ (liV s).2.1.kind = 2) ∧ (liV s).1.length ≤ s.size := by
  unfold liV
  split
  · exact ⟨.inl rfl, Nat.zero_le _⟩
  · unfold lnV
    by_cases h1 : (lab [] (txB s)).1 = 0
    · have hl : (lab [] (txB s)).2.1.length ≤ s.size := by
        have h2 := lab_len (txB s) []
        have h3 := (txB_tok s).1
        simp only [List.length_nil] at h2
        omega
      simp only [h1, ne_eq, not_true_eq_false, if_false]
      obtain ⟨k, hk⟩ := lab_drop (txB s) []
      cases h0 : (lab [] (txB s)).2.2 with
      | nil => exact ⟨.inl rfl, hl⟩
      | cons t q =>
        simp only
        have htq : ∀ x ∈ q, L8.TokT x.data.toList := fun x hx => (txB_tok s).2.1 x (List.mem_of_mem_drop (i := k) (by rw [← hk, h0]; exact List.mem_cons_of_mem _ hx))
        split
        · exact ⟨.inl rfl, Nat.zero_le _⟩
        split
        · exact ⟨.inl rfl, Nat.zero_le _⟩
        · rename_i hx
          obtain ⟨e1, e2⟩ := cdV_itB t q htq
          have hx' : (cdV t q).2 = 0 := by simpa using hx
          refine ⟨?_, hl⟩
          rcases e2 (e1.symm.trans hx') with ⟨k1, _⟩ | ⟨k1, _⟩
          · exact .inr (.inl k1)
          · exact .inr (.inr k1)
    · simp only [h1, ne_eq, not_false_eq_true, if_true]
      exact ⟨.inl rfl, Nat.zero_le _⟩
def stV (R : List ByteArray × Rs × Int) : Cod × Int := if R.2.2 ≠ 0 then (Cod.z, R.2.2) else if R.1.length = 0 ∧ R.2.1.kind = 2 then (⟨R.2.1.x, R.2.1.tg, R.2.1.mp⟩, 0) else (Cod.z, 2)
theorem line_li (s : ByteArray) (hs : s.size ≤ 100000) (w : World) (hT : Tab w) (er : Int) (h : (liV s).2.2 = er) : Calls Tryd.prog 10 #[.string s] w fun e w' => ∃ v, e = .returned (.tuple #[v, .int .i64 er]) ∧ ItAt w' v (if er = 0 then itemsOf (liV s).1 (liV s).2.1 else []) ∧ Below w.heap.size w w' := by
  obtain ⟨h1, h2, h3⟩ := prL_liV s
  obtain ⟨l, er', hP⟩ : ∃ l er', prL s = (l, er') := ⟨_, _, rfl⟩
  rw [hP] at h1 h2 h3
  have e : er' = er := h1.symm.trans h
  subst e
  refine (line_at s hs w hT l er' hP).mono fun e w' ⟨v, he, hv, hb⟩ => ⟨v, he, ?_, hb⟩
  by_cases hz : er' = 0
  · rw [if_pos hz, ← h2 hz]; exact hv
  · rw [if_neg hz, ← h3 hz]; exact hv
set_option maxHeartbeats 2000000 in
set_option maxRecDepth 100000 in
theorem stat_err (s : ByteArray) (hs : s.size ≤ 100000) (w : World) (hT : Tab w) (er : Int) (h : (liV s).2.2 = er) (hne : ¬ er = 0) : Calls Tryd.prog 13 #[.string s] w fun e w' => e = .returned (.tuple #[.agg codZ, .int .i64 er]) ∧ Below w.heap.size w w' := by
  have h2 := hT.lt
  have HL := Lib.hid (fun (W : World) (hB : Below w.heap.size w W) => line_li s hs W (hT.below hB h2) er h)
  clear h hT
  go_enter Tryd.func13, Tryd.ntmps13
  go_wp2_with (first | (go_at_call 10; ((with_reducible refine (HL.out _ (L8.bnew _ _)).mono ?_); rintro e w1 ⟨v, rfl, hv, b1⟩; clear hv; have hS := row_up (heap_alloc_last w (.cells codZ 39)) b1; have B1 := L2.bch (L8.bnew w (.cells codZ 39)) b1)) | (refine wpList_store_row rfl _ _ _ rfl w.heap.size codZ rfl rfl 39 _ hS (by kernel_rfl) rfl (by simp [Value.oneCell']) ?_))
  have hR := setRow_heap _ _ _ codZ _ _ hS
  obtain ⟨q0, q1, q2, q3, q4, q5, q6, q7⟩ := cells8 hR
  exact bodyPost_ret (v := .tuple #[.agg codZ, .int .i64 er]) (by simp [results, Tryd.results13, go_sem, q0, q1, q2, q3, q4, q5, q6, q7]) rfl ⟨rfl, below_setRow B1 (Nat.le_refl _) _⟩
set_option maxHeartbeats 2000000 in
set_option maxRecDepth 100000 in
theorem stat_many (s : ByteArray) (hs : s.size ≤ 100000) (w : World) (hT : Tab w) (h : (liV s).2.2 = 0) (N : Nat) (hN : (itemsOf (liV s).1 (liV s).2.1).length = N) (hne : ¬ N = 1) : Calls Tryd.prog 13 #[.string s] w fun e w' => e = .returned (.tuple #[.agg codZ, .int .i64 2]) ∧ Below w.heap.size w w' := by
  have h2 := hT.lt
  have HL := Lib.hid (fun (W : World) (hB : Below w.heap.size w W) => line_li s hs W (hT.below hB h2) 0 h)
  rw [if_pos rfl] at HL
  have HN := Lib.hid hN
  have t1 : ((N : Int) != 1) = true := by simp only [bne_iff_ne, ne_eq]; omega
  clear h hT hN hne
  go_enter Tryd.func13, Tryd.ntmps13
  go_wp2_with (first | (go_at_call 10; ((with_reducible refine (HL.out _ (L8.bnew _ _)).mono ?_); rintro e w1 ⟨v, rfl, hv, b1⟩; obtain ⟨a, c, rfl, hA⟩ := it_form HN.out hv; clear hv hA; have hS := row_up (heap_alloc_last w (.cells codZ 39)) b1; have B1 := L2.bch (L8.bnew w (.cells codZ 39)) b1)) | (refine wpList_store_row rfl _ _ _ rfl w.heap.size codZ rfl rfl 39 _ hS (by kernel_rfl) rfl (by simp [Value.oneCell']) ?_))
  have hR := setRow_heap _ _ _ codZ _ _ hS
  obtain ⟨q0, q1, q2, q3, q4, q5, q6, q7⟩ := cells8 hR
  exact bodyPost_ret (v := .tuple #[.agg codZ, .int .i64 2]) (by simp [results, Tryd.results13, go_sem, q0, q1, q2, q3, q4, q5, q6, q7]) rfl ⟨rfl, below_setRow B1 (Nat.le_refl _) _⟩
/-- The one item of a line, with what AsCode says of it. -/
def OneI (iv : Value) (c : Cod) (ok : Bool) : Prop := ∀ W, Calls Tryd.prog 14 #[iv] W fun e w' => e = .returned (.tuple #[.agg (codA c.x c.tg c.mp), .bool ok]) ∧ Below W.heap.size W w'
theorem one_label (T : ByteArray) : OneI (lbV T) Cod.z false := fun W => asCode_label _ W
theorem one_map (v : Value) : OneI (.iface 76 v) Cod.z false := fun W => asCode_map _ W
theorem one_code (x : Ins) (tg mp : ByteArray) : OneI (.iface 39 (.agg (codA x tg mp))) ⟨x, tg, mp⟩ true := fun W => asCode_code x tg mp W
set_option maxHeartbeats 2000000 in
set_option maxRecDepth 100000 in
theorem stat_one (s : ByteArray) (hs : s.size ≤ 100000) (w : World) (hT : Tab w) (h : (liV s).2.2 = 0) (iv : Value) (hN : itemsOf (liV s).1 (liV s).2.1 = [iv]) (c : Cod) (ok : Bool) (hI : OneI iv c ok) (er : Int) (he : (if ok then 0 else 2) = er) (hz : ok = false → c = Cod.z) : Calls Tryd.prog 13 #[.string s] w fun e w' => e = .returned (.tuple #[.agg (codA c.x c.tg c.mp), .int .i64 er]) ∧ Below w.heap.size w w' := by
  have h2 := hT.lt
  have HL := Lib.hid (fun (W : World) (hB : Below w.heap.size w W) => line_li s hs W (hT.below hB h2) 0 h)
  rw [if_pos rfl, hN] at HL
  have HI := Lib.hid hI
  unfold OneI at HI
  clear h hT hN hI
  cases ok
  · obtain rfl : er = 2 := he.symm
    obtain rfl : c = Cod.z := hz rfl
    clear he hz
    have HI2 : Hid (∀ W, Calls Tryd.prog 14 #[iv] W fun e w' => e = .returned (.tuple #[.agg codZ, .bool false]) ∧ Below W.heap.size W w') := HI
    clear HI
    show Calls Tryd.prog 13 #[.string s] w fun e w' => e = .returned (.tuple #[.agg codZ, .int .i64 2]) ∧ Below w.heap.size w w'
    go_enter Tryd.func13, Tryd.ntmps13
    go_wp2_with (first | (go_at_call 10; ((with_reducible refine (HL.out _ (L8.bnew _ _)).mono ?_); rintro e w1 ⟨v, rfl, hv, b1⟩; obtain ⟨a, cp, rfl, hA⟩ := it_form (n := 1) rfl hv; obtain ⟨b, o, rfl, hb, hcs⟩ := hA (by decide); have c0 : w1.cell? ⟨b, o, none⟩ = some iv := (by have := hcs 0 (by simp); simpa using this); clear hv hA hcs; have hS := row_up (heap_alloc_last w (.cells codZ 39)) b1; have B1 := L2.bch (L8.bnew w (.cells codZ 39)) b1)) | (go_at_call 14; ((with_reducible refine (HI2.out _).mono ?_); rintro e w2 ⟨rfl, b2⟩; have hS2 := row_up (row_up hS b2) (L8.bnew w2 (.cells codZ 39)); have B2 := L2.bch B1 b2)) | (refine wpList_store_row rfl _ _ _ rfl w.heap.size codZ rfl rfl 39 _ hS2 (by kernel_rfl) rfl (by simp [Value.oneCell']) ?_))
    have hR := setRow_heap _ _ _ codZ _ _ hS2
    obtain ⟨q0, q1, q2, q3, q4, q5, q6, q7⟩ := cells8 hR
    exact bodyPost_ret (v := .tuple #[.agg codZ, .int .i64 2]) (by simp [results, Tryd.results13, go_sem, q0, q1, q2, q3, q4, q5, q6, q7]) rfl ⟨rfl, below_setRow (L2.bch B2 (L8.bnew _ _)) (Nat.le_refl _) _⟩
  · obtain rfl : er = 0 := he.symm
    obtain ⟨x, tg, mp⟩ := c
    clear he hz
    go_enter Tryd.func13, Tryd.ntmps13
    go_wp2_with (first | (go_at_call 10; ((with_reducible refine (HL.out _ (L8.bnew _ _)).mono ?_); rintro e w1 ⟨v, rfl, hv, b1⟩; obtain ⟨a, cp, rfl, hA⟩ := it_form (n := 1) rfl hv; obtain ⟨b, o, rfl, hb, hcs⟩ := hA (by decide); have c0 : w1.cell? ⟨b, o, none⟩ = some iv := (by have := hcs 0 (by simp); simpa using this); clear hv hA hcs; have hS := row_up (heap_alloc_last w (.cells codZ 39)) b1; have B1 := L2.bch (L8.bnew w (.cells codZ 39)) b1)) | (go_at_call 14; ((with_reducible refine (HI.out _).mono ?_); rintro e w2 ⟨rfl, b2⟩; have hS2 := row_up (row_up hS b2) (L8.bnew w2 (.cells (codA x tg mp) 39)); have B2 := L2.bch B1 b2)) | (refine wpList_store_row rfl _ _ _ rfl w.heap.size (codA x tg mp) rfl rfl 39 _ hS2 (by kernel_rfl) rfl (by simp [Value.oneCell']) ?_))
    have hR := setRow_heap _ _ _ (codA x tg mp) _ _ hS2
    obtain ⟨q0, q1, q2, q3, q4, q5, q6, q7⟩ := cells8 hR
    exact bodyPost_ret (v := .tuple #[.agg (codA x tg mp), .int .i64 0]) (by simp [results, Tryd.results13, go_sem, q0, q1, q2, q3, q4, q5, q6, q7]) rfl ⟨rfl, below_setRow (L2.bch B2 (L8.bnew _ _)) (Nat.le_refl _) _⟩
theorem stat_at (s : ByteArray) (hs : s.size ≤ 100000) (w : World) (hT : Tab w) (c : Cod) (er : Int) (h : stV (liV s) = (c, er)) : Calls Tryd.prog 13 #[.string s] w fun e w' => e = .returned (.tuple #[.agg (codA c.x c.tg c.mp), .int .i64 er]) ∧ Below w.heap.size w w' := by
  unfold stV at h
  obtain ⟨hk, _⟩ := liV_kind s
  by_cases h0 : (liV s).2.2 = 0
  · rw [if_neg (by simpa using h0)] at h
    have hlen := kinds_len (liV s).1 (liV s).2.1 hk
    by_cases h1 : (liV s).1.length = 0 ∧ (liV s).2.1.kind = 2
    · rw [if_pos h1] at h
      cases h
      have hI : itemsOf (liV s).1 (liV s).2.1 = [.iface 39 (.agg (codA (liV s).2.1.x (liV s).2.1.tg (liV s).2.1.mp))] := by
        unfold itemsOf
        rw [List.eq_nil_of_length_eq_zero h1.1, h1.2]; rfl
      exact stat_one s hs w hT h0 _ hI _ true (one_code _ _ _) 0 rfl (fun h => by cases h)
    · rw [if_neg h1] at h
      cases h
      by_cases hN : (itemsOf (liV s).1 (liV s).2.1).length = 1
      · rw [hlen] at hN
        by_cases hk0 : (liV s).2.1.kind = 0
        · rw [if_pos hk0] at hN
          obtain ⟨T, hT1⟩ := List.length_eq_one_iff.1 hN
          have hI : itemsOf (liV s).1 (liV s).2.1 = [lbV T] := by unfold itemsOf; rw [hT1, hk0]; rfl
          exact stat_one s hs w hT h0 _ hI Cod.z false (one_label T) 2 rfl (fun _ => rfl)
        · rw [if_neg hk0] at hN
          have hl0 : (liV s).1.length = 0 := by omega
          have hk1 : (liV s).2.1.kind = 1 := by
            rcases hk with h | h | h
            · exact absurd h hk0
            · exact h
            · exact absurd ⟨hl0, h⟩ h1
          have hI : itemsOf (liV s).1 (liV s).2.1 = [.iface 76 (.agg (dfA (liV s).2.1.d))] := by unfold itemsOf; rw [List.eq_nil_of_length_eq_zero hl0, hk1]; rfl
          exact stat_one s hs w hT h0 _ hI Cod.z false (one_map _) 2 rfl (fun _ => rfl)
      · exact stat_many s hs w hT h0 _ rfl hN
  · rw [if_pos h0] at h
    cases h
    exact stat_err s hs w hT _ rfl h0
end Go.Proofs.YtjcaonbejhdhkaaDoor.L9
