/- Spaces in front of a line and a comment behind it leave what the line has; a valid name with a colon in front of it makes one label more. It speaks of no program. -/
import Derived.Test.YtjcaonbejhdhkaaDoorL9Alv
namespace Go.Proofs.YtjcaonbejhdhkaaDoor.L9
open Go.RowKit
open L8 (wb cmt spc pun tx tx_tok bad txts txts_tx size_list)

theorem wn_tail (x : UInt8) (rest : List UInt8) (hx : wb x = false) : ∀ l : List UInt8, L2.wn (l ++ x :: rest) = L2.wn l
  | [] => by rw [List.nil_append, L8.wn_neg (by rw [hx]; exact Bool.false_ne_true)]; rfl
  | c :: r => by
    rw [List.cons_append]
    by_cases hw : wb c = true
    · rw [L8.wn_pos hw, L8.wn_pos hw, wn_tail x rest hx r]
    · rw [L8.wn_neg hw, L8.wn_neg hw]
theorem wb32 : wb 32 = false := by decide
theorem tx_nil (g : Nat) : tx g [] = ([], true) := by cases g <;> rfl
theorem tx_tail (C : List UInt8) : ∀ (n f g : Nat) (S : List UInt8), S.length ≤ n → S.length ≤ g → S.length + 2 ≤ f → (tx g S).2 = true → tx f (S ++ 32 :: 59 :: C) = tx g S
  | _, 0, _, _, _, _, h, _ => absurd h (by omega)
  | _, 1, _, _, _, _, h, _ => absurd h (by omega)
  | _, f + 2, g, [], _, _, _, _ => by
    rw [tx_nil, List.nil_append]
    rfl
  | 0, _, _, c :: r, h, _, _, _ => absurd h (by simp)
  | _, _, 0, c :: r, _, h, _, _ => absurd h (by simp)
  | n + 1, f + 2, g + 1, c :: r, h0, h1, h2, ht => by
    simp only [List.length_cons] at h0 h1 h2
    rw [List.cons_append]
    rw [tx] at ht ⊢
    rw [tx]
    by_cases hc : cmt c = true
    · rw [if_pos hc, if_pos hc]
    rw [if_neg hc] at ht ⊢
    rw [if_neg hc]
    by_cases hs : spc c = true
    · rw [if_pos hs] at ht ⊢
      rw [if_pos hs]
      exact tx_tail C n (f + 1) g r (by omega) (by omega) (by omega) ht
    rw [if_neg hs] at ht ⊢
    rw [if_neg hs]
    by_cases hw : wb c = true
    · rw [if_pos hw] at ht ⊢
      rw [if_pos hw]
      have hm := wn_tail 32 (59 :: C) wb32 (c :: r)
      rw [List.cons_append] at hm
      rw [hm]
      have hle : L2.wn (c :: r) ≤ (c :: r).length := L2.wn_le _
      have hpos := L8.wn_pos (r := r) hw
      have e1 : (c :: (r ++ 32 :: 59 :: C)).take (L2.wn (c :: r)) = (c :: r).take (L2.wn (c :: r)) := by
        rw [← List.cons_append, List.take_append_of_le_length hle]
      have e2 : (c :: (r ++ 32 :: 59 :: C)).drop (L2.wn (c :: r)) = (c :: r).drop (L2.wn (c :: r)) ++ 32 :: 59 :: C := by
        rw [← List.cons_append, List.drop_append_of_le_length hle]
      have hl : ((c :: r).drop (L2.wn (c :: r))).length = r.length - L2.wn r := by rw [hpos, List.length_drop, List.length_cons]; omega
      rw [e1, e2, tx_tail C n (f + 1) g ((c :: r).drop (L2.wn (c :: r))) (by omega) (by omega) (by omega) ht]
    rw [if_neg hw] at ht ⊢
    rw [if_neg hw]
    by_cases hp : pun c = true
    · rw [if_pos hp] at ht ⊢
      rw [if_pos hp]
      rw [tx_tail C n (f + 1) g r (by omega) (by omega) (by omega) ht]
    · rw [if_neg hp] at ht
      cases ht
theorem txts_pad (s s2 : ByteArray) (C : List UInt8) (h : s2.data.toList = 32 :: 9 :: (s.data.toList ++ 32 :: 59 :: C)) (hb : bad s = -1) : txts s2 = txts s ∧ bad s2 = -1 := by
  obtain ⟨h1, h2⟩ := txts_tx s2
  obtain ⟨g1, g2⟩ := txts_tx s
  have hz : s2.size = (s.data.toList.length + 2 + C.length) + 2 := by
    rw [← size_list, h]; simp; omega
  have e : tx s2.size s2.data.toList = tx s.size s.data.toList := by
    rw [h, hz]
    have : tx ((s.data.toList.length + 2 + C.length) + 2) (32 :: 9 :: (s.data.toList ++ 32 :: 59 :: C)) = tx (s.data.toList.length + 2 + C.length) (s.data.toList ++ 32 :: 59 :: C) := rfl
    rw [this]
    exact tx_tail C s.data.toList.length _ _ _ (Nat.le_refl _) (by rw [size_list]; exact Nat.le_refl _) (by omega) (g2.1 hb)
  rw [e] at h1 h2
  exact ⟨h1.trans g1.symm, h2.2 (g2.1 hb)⟩
theorem txB_of (s : ByteArray) : txB s = (txts s).map (fun l => (⟨l.toArray⟩ : ByteArray)) := by
  rw [← txt_tkX]
  unfold txB L8.txt
  rw [List.map_map]
  exact List.map_congr_left fun x _ => rfl
theorem bad_of {s : ByteArray} {labs : List ByteArray} {r : Rs} (h : liV s = (labs, r, 0)) : bad s = -1 := by
  rcases L8.bad_cases s with hb | hb
  · exact hb
  · unfold liV at h
    rw [if_pos hb] at h
    cases h
theorem liV_pad (s s2 : ByteArray) (C : List UInt8) (h : s2.data.toList = 32 :: 9 :: (s.data.toList ++ 32 :: 59 :: C)) {labs : List ByteArray} {r : Rs} (hl : liV s = (labs, r, 0)) : liV s2 = (labs, r, 0) := by
  have hb := bad_of hl
  obtain ⟨e1, e2⟩ := txts_pad s s2 C h hb
  rw [← hl]
  unfold liV
  rw [e2, hb, txB_of, txB_of, e1]
theorem lab_app (p : List ByteArray) : ∀ (n : Nat) (ts acc : List ByteArray), ts.length ≤ n → lab (p ++ acc) ts = ((lab acc ts).1, p ++ (lab acc ts).2.1, (lab acc ts).2.2)
  | _, [], acc, _ => by rw [lab, lab]
  | _, [a], acc, _ => by rw [lab, lab]
  | 0, a :: b :: r, acc, h => absurd h (by simp)
  | 1, a :: b :: r, acc, h => absurd h (by simp)
  | n + 2, a :: b :: r, acc, h => by
    rw [lab, lab]
    split
    · split
      · rw [List.append_assoc]
        exact lab_app p n r (acc ++ [a]) (by simp at h; omega)
      · rfl
    · rfl
theorem vd_tok {s : ByteArray} (h : L2.vd s = true) : s.data.toList ≠ [] ∧ ∀ c ∈ s.data.toList, wb c = true := by
  unfold L2.vd at h
  simp only [Bool.and_eq_true, decide_eq_true_eq] at h
  obtain ⟨⟨⟨⟨h1, _⟩, _⟩, _⟩, h5⟩ := h
  refine ⟨fun h => ?_, ?_⟩
  · rw [← size_list, h] at h1; simp at h1
  · have := L8.wn_take s.data.toList
    rw [h5, ← size_list, List.take_length] at this
    exact this
theorem tx_fuel : ∀ (n f g : Nat) (l : List UInt8), l.length ≤ n → l.length ≤ f → l.length ≤ g → tx f l = tx g l
  | _, _, _, [], _, _, _ => by rw [tx_nil, tx_nil]
  | 0, _, _, c :: r, h, _, _ => absurd h (by simp)
  | _, 0, _, c :: r, _, h, _ => absurd h (by simp)
  | _, _, 0, c :: r, _, _, h => absurd h (by simp)
  | n + 1, f + 1, g + 1, c :: r, h0, h1, h2 => by
    simp only [List.length_cons] at h0 h1 h2
    rw [tx, tx, tx_fuel n f g r (by omega) (by omega) (by omega)]
    by_cases hw : wb c = true
    · have hl : ((c :: r).drop (L2.wn (c :: r))).length = r.length - L2.wn r := by rw [L8.wn_pos hw, List.length_drop, List.length_cons]; omega
      rw [tx_fuel n f g ((c :: r).drop (L2.wn (c :: r))) (by omega) (by omega) (by omega)]
    · rw [if_neg hw, if_neg hw]
theorem txts_lab (t s s2 : ByteArray) (hv : L2.vd t = true) (h : s2.data.toList = t.data.toList ++ 58 :: s.data.toList) : txts s2 = t.data.toList :: [58] :: txts s ∧ (bad s2 = -1 ↔ bad s = -1) := by
  obtain ⟨h1, h2⟩ := txts_tx s2
  obtain ⟨g1, g2⟩ := txts_tx s
  obtain ⟨k1, k2⟩ := vd_tok hv
  obtain ⟨n, hn⟩ : ∃ n, t.data.toList.length = n + 1 := by
    cases hh : t.data.toList with
    | nil => exact absurd hh k1
    | cons a l => exact ⟨l.length, rfl⟩
  have hz : s2.size = (n + s.data.toList.length + 1) + 1 := by
    rw [← size_list, h]
    simp only [List.length_append, List.length_cons]
    omega
  have e : tx s2.size s2.data.toList = (t.data.toList :: [58] :: (tx (n + s.data.toList.length) s.data.toList).1, (tx (n + s.data.toList.length) s.data.toList).2) := by
    rw [h, hz, tx_tok (.inl ⟨k1, k2⟩) _ 58 _ (by decide)]
    rfl
  have e2 : tx (n + s.data.toList.length) s.data.toList = tx s.size s.data.toList := tx_fuel s.data.toList.length _ _ _ (Nat.le_refl _) (by omega) (by rw [size_list]; exact Nat.le_refl _)
  rw [e2] at e
  rw [e] at h1 h2
  exact ⟨by rw [h1, g1], h2.trans g2.symm⟩
theorem liV_lab (t s s2 : ByteArray) (hv : L2.vd t = true) (h : s2.data.toList = t.data.toList ++ 58 :: s.data.toList) {labs labs2 : List ByteArray} {r r2 : Rs} (hl : liV s = (labs, r, 0)) (hl2 : liV s2 = (labs2, r2, 0)) : labs2.length = labs.length + 1 := by
  have hb := bad_of hl
  have hb2 := bad_of hl2
  obtain ⟨e1, _⟩ := txts_lab t s s2 hv h
  have e : txB s2 = t :: tCol :: txB s := by
    rw [txB_of, txB_of, e1]
    rfl
  have hw : wdB t = true := by
    obtain ⟨k1, k2⟩ := vd_tok hv
    unfold wdB L8.isW
    split
    · rename_i c hc
      have := k2 c (by rw [hc]; simp)
      rw [((L8.byte_cases c).2.2 this).1]; rfl
    · rfl
  have hlab : lab [] (txB s2) = ((lab [] (txB s)).1, t :: (lab [] (txB s)).2.1, (lab [] (txB s)).2.2) := by
    rw [e, lab, if_pos ⟨hw, rfl⟩, if_pos hv]
    exact lab_app [t] _ (txB s) [] (Nat.le_refl _)
  unfold liV at hl hl2
  rw [hb, if_neg (by decide)] at hl
  rw [hb2, if_neg (by decide)] at hl2
  unfold lnV at hl hl2
  rw [hlab] at hl2
  dsimp only at hl hl2
  by_cases h1 : (lab [] (txB s)).1 = 0
  · rw [if_neg (by simpa using h1)] at hl hl2
    cases h0 : (lab [] (txB s)).2.2 with
    | nil =>
      rw [h0] at hl hl2
      dsimp only at hl hl2
      have a1 : (lab [] (txB s)).2.1 = labs := congrArg (fun p => p.1) hl
      have a2 : t :: (lab [] (txB s)).2.1 = labs2 := congrArg (fun p => p.1) hl2
      rw [← a1, ← a2]
      rfl
    | cons a q =>
      rw [h0] at hl hl2
      dsimp only at hl hl2
      split at hl
      · have := congrArg (fun p => p.2.2) hl; cases this
      rename_i hw2
      rw [if_neg hw2] at hl2
      split at hl
      · rename_i hx; exact absurd (congrArg (fun p => p.2.2) hl) hx
      rename_i hx
      rw [if_neg hx] at hl2
      have a1 : (lab [] (txB s)).2.1 = labs := congrArg (fun p => p.1) hl
      have a2 : t :: (lab [] (txB s)).2.1 = labs2 := congrArg (fun p => p.1) hl2
      rw [← a1, ← a2]
      rfl
  · rw [if_pos (by simpa using h1)] at hl
    exact absurd (congrArg (fun p => p.2.2) hl) h1
end Go.Proofs.YtjcaonbejhdhkaaDoor.L9
