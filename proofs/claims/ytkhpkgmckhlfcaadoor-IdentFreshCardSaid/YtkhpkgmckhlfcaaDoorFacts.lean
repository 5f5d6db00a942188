/- What the laws of layer 2 ask of texts: fresh labels are identifiers and differ; a text's word characters are those of its head, and none follows them. No program in it. -/
import Derived.Test.YtkhpkgmckhlfcaaDoorValid
namespace Go.Proofs.YtkhpkgmckhlfcaaDoor
open Go.RowKit

/-! ### decimal digits -/
def val (l : List UInt8) : Nat := l.foldl (fun a c => a * 10 + (c.toNat - 48)) 0

theorem digit_nat (d : Nat) (h : d < 10) : (UInt8.ofNat (48 + d)).toNat = 48 + d := by
  rw [UInt8.toNat_ofNat']; exact Nat.mod_eq_of_lt (by omega)

theorem val_dec : ∀ n : Nat, val (Lib.decDigits n) = n := by
  intro n
  induction n using Nat.strongRecOn with
  | _ n ih =>
    rw [Lib.decDigits]
    split
    · rename_i h
      simp only [val, List.foldl_cons, List.foldl_nil]
      rw [digit_nat n h]
      omega
    · rename_i h
      have := ih (n / 10) (by omega)
      unfold val at this ⊢
      rw [List.foldl_append, this]
      simp only [List.foldl_cons, List.foldl_nil]
      rw [digit_nat (n % 10) (by omega)]
      omega

theorem dec_inj {n m : Nat} (h : Lib.decDigits n = Lib.decDigits m) : n = m := by
  rw [← val_dec n, ← val_dec m, h]

theorem wch_digit (d : Nat) (h : d < 10) : wch ((UInt8.ofNat (48 + d)).toNat : Int) = true := by
  rw [digit_nat d h]
  have h1 : (48 : Int) ≤ ((48 + d : Nat) : Int) := by omega
  have h2 : ((48 + d : Nat) : Int) ≤ 57 := by omega
  simp only [wch, dgt, decide_eq_true h1, decide_eq_true h2]
  simp

theorem dec_word : ∀ n : Nat, ∀ c ∈ Lib.decDigits n, wch (c.toNat : Int) = true := by
  intro n
  induction n using Nat.strongRecOn with
  | _ n ih =>
    intro c hc
    rw [Lib.decDigits] at hc
    split at hc
    · rename_i h
      obtain rfl : c = UInt8.ofNat (48 + n) := by simpa using hc
      exact wch_digit n h
    · rename_i h
      rcases List.mem_append.1 hc with h1 | h1
      · exact ih (n / 10) (by omega) c h1
      · obtain rfl : c = UInt8.ofNat (48 + n % 10) := by simpa using h1
        exact wch_digit _ (by omega)

/-! ### words -/
theorem wn_all : ∀ l : List UInt8, (∀ c ∈ l, wch (c.toNat : Int) = true) → wn l = l.length
  | [], _ => rfl
  | c :: r, h => by
    rw [wn, if_pos (h c (by simp)), wn_all r (fun d hd => h d (by simp [hd]))]
    rfl

theorem wn_drop : ∀ l : List UInt8, wn (l.drop (wn l)) = 0
  | [] => rfl
  | c :: r => by
    rw [wn]
    split
    · rw [List.drop_succ_cons]; exact wn_drop r
    · rename_i h
      rw [List.drop_zero, wn, if_neg h]

theorem wn_take : ∀ l : List UInt8, wn (l.take (wn l)) = wn l
  | [] => rfl
  | c :: r => by
    rw [wn]
    split
    · rename_i h
      rw [List.take_succ_cons, wn, if_pos h, wn_take r]
    · rw [List.take_zero]; rfl

theorem wn_join (t : List UInt8) : ∀ l : List UInt8, wn (l ++ 32 :: t) = wn l
  | [] => by
    show wn (32 :: t) = 0
    unfold wn
    rw [if_neg (by decide)]
  | c :: r => by
    rw [List.cons_append, wn, wn, wn_join t r]

theorem extract_list (s : ByteArray) (i j : Nat) : (s.extract i j).data.toList = (s.data.toList.drop i).take (j - i) := by
  rw [ByteArray.data_extract, Array.toList_extract, List.extract_eq_take_drop]

theorem join_list (s t : ByteArray) : ((s ++ (⟨#[32]⟩ : ByteArray)) ++ t).data.toList = s.data.toList ++ 32 :: t.data.toList := by simp

theorem size_join (s : ByteArray) : (s ++ (⟨#[32]⟩ : ByteArray)).size = s.size + 1 := by simp [ByteArray.size_append]; rfl

/-! ### labels -/
theorem reg_head (k : Nat) (hk : k < 11) : (regS k).data.toList.head? = some 114 := by
  rcases (show k = 0 ∨ k = 1 ∨ k = 2 ∨ k = 3 ∨ k = 4 ∨ k = 5 ∨ k = 6 ∨ k = 7 ∨ k = 8 ∨ k = 9 ∨ k = 10 by omega) with rfl | rfl | rfl | rfl | rfl | rfl | rfl | rfl | rfl | rfl | rfl <;> rfl

theorem rgFrom_none (s : ByteArray) (h : ¬ s.data.toList.head? = some 114) : ∀ n k : Nat, k + n ≤ 11 → rgFrom n k s = (0, false)
  | 0, _, _ => rfl
  | n + 1, k, hk => by
    rw [rgFrom, if_neg (fun e => h (by rw [← e]; exact reg_head k (by omega)))]
    exact rgFrom_none s h n (k + 1) (by omega)

theorem frS_in (n : Int) (h0 : 0 ≤ n) (h1 : n ≤ 2147483648) : frS n = ⟨(76 :: Lib.decDigits n.toNat).toArray⟩ := by
  rw [frS, if_pos ⟨h0, h1⟩, Lib.itoa, if_neg (by omega)]

theorem frS_out (n : Int) (h : ¬ (0 ≤ n ∧ n ≤ 2147483648)) : frS n = ⟨#[]⟩ := by rw [frS, if_neg h]

theorem fresh_valid (n : Int) (h0 : 0 ≤ n) (h1 : n ≤ 2147483648) : vd (frS n) = true := by
  rw [frS_in n h0 h1]
  have hl : (Lib.decDigits n.toNat).length ≤ 11 := dec_len 10 n.toNat (by omega)
  have hz : (⟨(76 :: Lib.decDigits n.toNat).toArray⟩ : ByteArray).size = (Lib.decDigits n.toNat).length + 1 := by rw [size_list]; simp
  have hw : wn (76 :: Lib.decDigits n.toNat) = (Lib.decDigits n.toNat).length + 1 := by
    rw [wn_all]
    · rfl
    · intro c hc
      rcases List.mem_cons.1 hc with rfl | hc
      · decide
      · exact dec_word _ c hc
  have hr : (rg ⟨(76 :: Lib.decDigits n.toNat).toArray⟩).2 = false := by
    rw [rg, rgFrom_none _ (by simp) 11 0 (by omega)]
  have hd : d0 (76 :: Lib.decDigits n.toNat) = false := rfl
  unfold vd
  rw [hz, hr]
  simp only [hw, hd]
  simp
  omega

theorem fresh_ne (n : Int) (h0 : 0 ≤ n) (h1 : n ≤ 2147483648) : ¬ frS n = ⟨#[]⟩ := by
  rw [frS_in n h0 h1]
  intro h
  have := congrArg (fun b : ByteArray => b.data.toList) h
  simp at this

theorem fresh_inj (n m : Int) (h0 : 0 ≤ n) (h1 : n ≤ 2147483648) (h : frS n = frS m) : n = m := by
  by_cases hm : 0 ≤ m ∧ m ≤ 2147483648
  · rw [frS_in n h0 h1, frS_in m hm.1 hm.2] at h
    have := congrArg (fun b : ByteArray => b.data.toList) h
    simp only [List.cons.injEq, true_and] at this
    have := dec_inj this
    omega
  · exact absurd (h.trans (frS_out m hm)) (fresh_ne n h0 h1)
end Go.Proofs.YtkhpkgmckhlfcaaDoor
