/- The program's items of a line are those that the reference's result has. Condition: the line has at most 100000 bytes, and the tables read as the program's text lays them. -/
import Derived.Test.YtakblmonbeflmaaGreatDoorL9Lin
namespace Go.Proofs.YtakblmonbeflmaaGreatDoor.L9
open Go.RowKit

theorem lab_len : ∀ (ts acc : List ByteArray), (lab acc ts).2.1.length ≤ acc.length + ts.length
  | [], acc => by rw [lab]; simp
  | [_], acc => by rw [lab]; simp
  | a :: b :: r, acc => by
    rw [lab]
    split
    · split
      · have := lab_len r (acc ++ [a])
        simp only [List.length_append, List.length_cons, List.length_nil] at this ⊢
        omega
      · simp
    · simp
theorem lab_drop : ∀ (ts acc : List ByteArray), ∃ k, (lab acc ts).2.2 = ts.drop k
  | [], acc => ⟨0, by rw [lab]; rfl⟩
  | [_], acc => ⟨0, by rw [lab]; rfl⟩
  | a :: b :: r, acc => by
    rw [lab]
    split
    · split
      · obtain ⟨k, hk⟩ := lab_drop r (acc ++ [a])
        exact ⟨k + 2, by rw [hk]; rfl⟩
      · exact ⟨0, rfl⟩
    · exact ⟨0, rfl⟩
theorem lab_err : ∀ (ts acc : List ByteArray), (lab acc ts).1 = 0 ∨ (lab acc ts).1 = 7
  | [], acc => .inl (by rw [lab])
  | [_], acc => .inl (by rw [lab])
  | a :: b :: r, acc => by
    rw [lab]
    split
    · split
      · exact lab_err r (acc ++ [a])
      · exact .inr rfl
    · exact .inl rfl
theorem txB_tok (s : ByteArray) : (txB s).length ≤ s.size ∧ (∀ t ∈ txB s, L8.TokT t.data.toList) ∧ ∀ t ∈ txB s, t.size ≤ s.size := by
  obtain ⟨h1, h2, h3⟩ := toks_ok s
  refine ⟨by unfold txB; rw [List.length_map]; exact h1, fun t ht => h2 _ ?_, h3⟩
  unfold txB at ht
  rw [List.mem_map] at ht
  obtain ⟨x, hx, rfl⟩ := ht
  exact List.mem_map.2 ⟨x, hx, rfl⟩
theorem itB_iface (t : ByteArray) (q : List ByteArray) : ∃ ty iu er, itB t q = (.iface ty iu, er) := by
  unfold itB
  split
  · exact ⟨_, _, _, rfl⟩
  · exact ⟨_, _, _, rfl⟩
theorem line_at (s : ByteArray) (hs : s.size ≤ 100000) (w : World) (hT : Tab w) (l : List Value) (er : Int) (h : prL s = (l, er)) : Calls Tryz.prog 54 #[.string s] w fun e w' => LinP l er w e w' := by
  have N : ∀ {er : Int} {w : World}, (Calls Tryz.prog 54 #[.string s] w fun e w' => e = .returned (.tuple #[.slice none 0 0, .int .i64 er]) ∧ Below w.heap.size w w') → Calls Tryz.prog 54 #[.string s] w fun e w' => LinP [] er w e w' := fun h => h.mono fun _ _ ⟨he, hb⟩ => ⟨_, he, .inr ⟨rfl, _, _, rfl⟩, hb, fun b h => by cases h⟩
  unfold prL at h
  rcases L8.bad_cases s with hb | hb
  · rw [if_neg (by omega)] at h
    unfold prV at h
    by_cases h1 : (lab [] (txB s)).1 = 0
    · rw [if_neg (by simpa using h1)] at h
      cases h0 : (lab [] (txB s)).2.2 with
      | nil =>
        rw [h0] at h
        cases h
        exact line_none s hs w hT hb h1 h0
      | cons t q =>
        rw [h0] at h
        simp only at h
        cases hw : wdB t
        · rw [hw, if_pos rfl] at h
          cases h
          exact N (line_no s hs w hT hb h1 t q h0 hw)
        · rw [hw, if_neg (by simp)] at h
          obtain ⟨ty, iu, er', hI⟩ := itB_iface t q
          rw [hI] at h
          by_cases hne : er' = 0
          · subst hne
            rw [if_neg (by simp)] at h
            cases h
            refine line_yes s hs w hT hb h1 t q h0 hw ty iu hI _ rfl ?_
            have := lab_len (txB s) []
            have := (txB_tok s).1
            simp only [List.length_nil] at *
            omega
          · rw [if_pos hne] at h
            cases h
            exact N (line_err s hs w hT hb h1 t q h0 hw _ _ hI hne)
    · rw [if_pos h1] at h
      cases h
      exact N (line_label s hs w hT hb h1)
  · rw [if_pos hb] at h
    cases h
    exact N (line_bad s hs w hb)

/-! ### the same as the reference's -/
def itemsOf (labs : List ByteArray) (r : Rs) : List Value := labs.map lbV ++ (if r.kind = 1 then [.iface 103 (.agg (dfA r.d))] else if r.kind = 2 then [.iface 106 (.agg (codA r.x r.tg r.mp))] else [])
theorem cdV_itB (t : ByteArray) (q : List ByteArray) (ht : ∀ t ∈ q, L8.TokT t.data.toList) : (cdV t q).2 = (itB t q).2 ∧ ((itB t q).2 = 0 → ((cdV t q).1.kind = 1 ∧ (itB t q).1 = .iface 103 (.agg (dfA (cdV t q).1.d))) ∨ ((cdV t q).1.kind = 2 ∧ (itB t q).1 = .iface 106 (.agg (codA (cdV t q).1.x (cdV t q).1.tg (cdV t q).1.mp)))) := by
  unfold cdV itB
  by_cases hM : t = mapT
  · rw [if_pos hM, if_pos hM]
    obtain ⟨h1, h2⟩ := deV_dcV q
    exact ⟨h1, fun h => .inl (by rw [h2 h]; exact ⟨rfl, rfl⟩)⟩
  rw [if_neg hM, if_neg hM]
  unfold inV
  by_cases h1 : fiV t < 0
  · rw [if_pos h1, if_pos h1]
    exact ⟨rfl, fun h => by cases h⟩
  rw [if_neg h1, if_neg h1]
  cases hk : (shV (L3.frm (L3.ix (fiV t)))).any (fun x => decide (x = shpB q))
  · rw [if_pos rfl, if_pos rfl]
    exact ⟨rfl, fun h => by cases h⟩
  · rw [if_neg (by simp), if_neg (by simp)]
    obtain ⟨k, hk86, e, f1, f2, hf⟩ := kin_f h1
    have hmem : shpB q ∈ shV (L3.frm (L3.ix (fiV t))) := by
      rw [List.any_eq_true] at hk
      obtain ⟨x, hx, hx2⟩ := hk
      rw [← (by simpa using hx2 : x = shpB q)]; exact hx
    obtain ⟨hS1, hS2⟩ := (runs_ops (op := fiV t) (ops_of hf ht hmem)).2
    rw [inR_fin, fin]
    by_cases hx : (runs (ksV (L3.frm (L3.ix (fiV t)))) (st0 (fiV t) q)).2 = 0
    · rw [if_neg (by simpa using hx)]
      obtain ⟨a, b, c, d, _⟩ := hS2 hx
      refine ⟨by rw [← hS1]; exact hx, fun _ => .inr ⟨d, ?_⟩⟩
      rw [← a, ← b, ← c]; rfl
    · rw [if_pos hx]
      exact ⟨hS1.symm, fun h => absurd h hx⟩
theorem prV_lnV (ts : List ByteArray) (ht : ∀ t ∈ ts, L8.TokT t.data.toList) : (lnV ts).2.2 = (prV ts).2 ∧ ((prV ts).2 = 0 → (prV ts).1 = itemsOf (lnV ts).1 (lnV ts).2.1) ∧ ((prV ts).2 ≠ 0 → (prV ts).1 = []) := by
  unfold lnV prV
  by_cases h1 : (lab [] ts).1 = 0
  · simp only [h1, ne_eq, not_true_eq_false, if_false]
    obtain ⟨k, hk⟩ := lab_drop ts []
    cases h0 : (lab [] ts).2.2 with
    | nil => exact ⟨rfl, fun _ => by unfold itemsOf; simp [Rs.z], fun h => absurd rfl h⟩
    | cons t q =>
      cases hw : wdB t
      · simp [hw]
      · have htq : ∀ x ∈ q, L8.TokT x.data.toList := fun x hx => ht x (List.mem_of_mem_drop (i := k) (by rw [← hk, h0]; exact List.mem_cons_of_mem _ hx))
        obtain ⟨e1, e2⟩ := cdV_itB t q htq
        by_cases hx : (itB t q).2 = 0
        · have hx' : (cdV t q).2 = 0 := e1.trans hx
          rcases e2 hx with ⟨k1, k2⟩ | ⟨k1, k2⟩
          · simp [hw, hx, hx', itemsOf, k1, k2]
          · simp [hw, hx, hx', itemsOf, k1, k2]
        · have hx' : ¬ (cdV t q).2 = 0 := fun h => hx (e1.symm.trans h)
          simp [hw, hx, e1]
  · have h7 : (lab [] ts).1 = 7 := (lab_err ts []).resolve_left h1
    simp [h7]
theorem prL_liV (s : ByteArray) : (liV s).2.2 = (prL s).2 ∧ ((prL s).2 = 0 → (prL s).1 = itemsOf (liV s).1 (liV s).2.1) ∧ ((prL s).2 ≠ 0 → (prL s).1 = []) := by
  unfold liV prL
  split
  · exact ⟨rfl, (fun h => by cases h), fun _ => rfl⟩
  · exact prV_lnV _ (txB_tok s).2.1
end Go.Proofs.YtakblmonbeflmaaGreatDoor.L9
