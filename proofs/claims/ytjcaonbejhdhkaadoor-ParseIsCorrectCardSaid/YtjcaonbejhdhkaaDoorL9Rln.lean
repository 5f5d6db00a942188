/- What the reference's Line returns, for every line of at most 100000 bytes. -/
import Derived.Test.YtjcaonbejhdhkaaDoorL9Rld
import Derived.Test.YtjcaonbejhdhkaaDoorL9Rle
import Derived.Test.YtjcaonbejhdhkaaDoorL9Rlc
namespace Go.Proofs.YtjcaonbejhdhkaaDoor.L9
open Go.RowKit

theorem rline_at (s : ByteArray) (hs : s.size ≤ 100000) (w : World) : Calls Tryd.prog 11 #[.string s] w fun e w' => RLinP (liV s) w e w' := by
  unfold liV
  rcases L8.bad_cases s with hb | hb
  · rw [if_neg (by omega)]
    unfold lnV
    by_cases h1 : (lab [] (txB s)).1 = 0
    · simp only [h1, ne_eq, not_true_eq_false, if_false]
      cases h0 : (lab [] (txB s)).2.2 with
      | nil => exact rline_none s hs w hb h1 h0
      | cons t q =>
        simp only
        cases hw : wdB t
        · rw [if_pos rfl]
          exact rline_no s hs w hb h1 t q h0 hw
        · rw [if_neg (by simp)]
          unfold cdV
          by_cases hM : t = mapT
          · rw [if_pos hM]
            obtain ⟨r, x, hde⟩ : ∃ r x, deV q = (r, x) := ⟨_, _, rfl⟩
            rw [hde]
            by_cases hx : x = 0
            · subst hx
              simp only [not_true_eq_false, if_false]
              exact rline_map s hs w hb h1 t q h0 hM r hde
            · simp only [hx, not_false_eq_true, if_true]
              exact rline_mape s hs w hb h1 t q h0 hM r x hde hx
          · rw [if_neg hM]
            by_cases hop : fiV t < 0
            · rw [if_pos hop]
              simp only [show ¬ (6 : Int) = 0 by decide, not_false_eq_true, if_true]
              exact rline_op s hs w hb h1 t q h0 hw hM hop
            · rw [if_neg hop]
              cases hin : (shV (L3.frm (L3.ix (fiV t)))).any (fun x => decide (x = shpB q))
              · rw [if_pos rfl]
                simp only [show ¬ (2 : Int) = 0 by decide, not_false_eq_true, if_true]
                exact rline_shape s hs w hb h1 t q h0 hw hM hop hin
              · rw [if_neg (show ¬ (true = false) by simp)]
                obtain ⟨r, x, hov⟩ : ∃ r x, opV (L3.frm (L3.ix (fiV t))) (fiV t) (spl q) (offV (joi q)) = (r, x) := ⟨_, _, rfl⟩
                rw [hov]
                by_cases hx : x = 0
                · subst hx
                  simp only [not_true_eq_false, if_false]
                  exact rline_yes s hs w hb h1 t q h0 hw hM hop hin r hov
                · simp only [hx, not_false_eq_true, if_true]
                  exact rline_err s hs w hb h1 t q h0 hw hM hop hin r x hx hov
    · have h7 : (lab [] (txB s)).1 = 7 := (lab_err (txB s) []).resolve_left h1
      rw [if_pos h1, h7]
      exact rline_label s hs w hb h1
  · rw [if_pos hb]
    exact rline_bad s hs w hb
end Go.Proofs.YtjcaonbejhdhkaaDoor.L9
