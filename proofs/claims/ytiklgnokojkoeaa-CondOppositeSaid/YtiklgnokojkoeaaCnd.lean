/- What the conditions of jumps come to, by their number in the table, for numbers of 32 or 64 bits; which condition is the opposite of which, and which the mirror. It speaks of no program and has no condition but the numbers' bounds. -/
import Derived.Test.YtiklgnokojkoeaaL6Math
namespace Go.Proofs.Ytiklgnokojkoeaa
open Go.RowKit (wrap32 wrap64)
open L6 (an an_b tn64 tn32 p64 p32)

/-- The signed value of the last bits. -/
def sg (n x : Int) : Int := if n = 64 then wrap64 x else wrap32 x
/-- Whether a condition holds. -/
def cnd (n : Int) : Nat → Int → Int → Bool
  | 0, a, b => a == b
  | 1, a, b => decide (b < a)
  | 2, a, b => decide (b ≤ a)
  | 3, a, b => an a b != 0
  | 4, a, b => a != b
  | 5, a, b => decide (sg n b < sg n a)
  | 6, a, b => decide (sg n b ≤ sg n a)
  | 7, a, b => decide (a < b)
  | 8, a, b => decide (a ≤ b)
  | 9, a, b => decide (sg n a < sg n b)
  | _, a, b => decide (sg n a ≤ sg n b)
/-- The place of the opposite condition. -/
def opI : Nat → Option Nat
  | 0 => some 4 | 1 => some 8 | 2 => some 7 | 4 => some 0 | 5 => some 10 | 6 => some 9 | 7 => some 2 | 8 => some 1 | 9 => some 6 | 10 => some 5 | _ => none
/-- The place of the mirror condition. -/
def miI : Nat → Option Nat
  | 0 => some 0 | 1 => some 7 | 2 => some 8 | 3 => some 3 | 4 => some 4 | 5 => some 9 | 6 => some 10 | 7 => some 1 | 8 => some 2 | 9 => some 5 | 10 => some 6 | _ => none
theorem dec_not (p q : Prop) [Decidable p] [Decidable q] (h : p ↔ ¬ q) : decide p = !decide q := by
  by_cases hq : q
  · simp [hq, h]
  · simp [hq, h]
theorem cnd_opp (n : Int) (i j : Nat) (a b : Int) (h : opI i = some j) : cnd n j a b = !cnd n i a b :=
  match i, h with
  | 0, h => by cases h; rfl
  | 1, h => by cases h; exact dec_not _ _ (by omega)
  | 2, h => by cases h; exact dec_not _ _ (by omega)
  | 4, h => by cases h; show (a == b) = !(a != b); simp [bne]
  | 5, h => by cases h; exact dec_not _ _ (by omega)
  | 6, h => by cases h; exact dec_not _ _ (by omega)
  | 7, h => by cases h; exact dec_not _ _ (by omega)
  | 8, h => by cases h; exact dec_not _ _ (by omega)
  | 9, h => by cases h; exact dec_not _ _ (by omega)
  | 10, h => by cases h; exact dec_not _ _ (by omega)
  | 3, h => by cases h
  | _ + 11, h => by cases h
theorem an_comm (a b : Int) : an a b = an b a := by
  unfold an; rw [Nat.and_comm]
theorem cnd_mir (n : Int) (i j : Nat) (a b : Int) (h : miI i = some j) : cnd n j b a = cnd n i a b :=
  match i, h with
  | 0, h => by cases h; exact BEq.comm
  | 1, h => by cases h; rfl
  | 2, h => by cases h; rfl
  | 3, h => by cases h; show (an b a != 0) = (an a b != 0); rw [an_comm]
  | 4, h => by cases h; show (!(b == a)) = (!(a == b)); rw [BEq.comm]
  | 5, h => by cases h; rfl
  | 6, h => by cases h; rfl
  | 7, h => by cases h; rfl
  | 8, h => by cases h; rfl
  | 9, h => by cases h; rfl
  | 10, h => by cases h; rfl
  | _ + 11, h => by cases h

/-! ### adding half of all numbers -/
theorem half64 (x : Int) : (x + 9223372036854775808) % 18446744073709551616 = wrap64 x + 9223372036854775808 := by
  unfold wrap64; omega
theorem half32 (x : Int) : (x + 2147483648) % 4294967296 = wrap32 x + 2147483648 := by
  unfold wrap32; omega
theorem wrap32_low (x : Int) : wrap32 (x % 4294967296) = wrap32 x := by unfold wrap32; omega

/-! ### some bit is 1 in both -/
theorem and_step (a b : Nat) : (a &&& b) = 2 * ((a / 2) &&& (b / 2)) + (if a % 2 = 1 ∧ b % 2 = 1 then 1 else 0) := by
  have h := Nat.div_add_mod (a &&& b) 2
  have h1 : (a &&& b) / 2 = (a / 2) &&& (b / 2) := Nat.and_div_two
  have h2 : (a &&& b) % 2 = if a % 2 = 1 ∧ b % 2 = 1 then 1 else 0 := by
    have := tbit a b
    exact this
  omega
where
  tbit (a b : Nat) : (a &&& b) % 2 = if a % 2 = 1 ∧ b % 2 = 1 then 1 else 0 := by
    have h : (a &&& b).testBit 0 = (a.testBit 0 && b.testBit 0) := Nat.testBit_and ..
    simp only [Nat.testBit_zero] at h
    have h' : (a &&& b) % 2 = 1 ↔ (a % 2 = 1 ∧ b % 2 = 1) := by
      rw [← decide_eq_true_iff (p := (a &&& b) % 2 = 1), h, Bool.and_eq_true, decide_eq_true_iff, decide_eq_true_iff]
    have hm := Nat.mod_two_eq_zero_or_one (a &&& b)
    split
    · rename_i hc; exact h'.2 hc
    · rename_i hc
      rcases hm with hm | hm
      · exact hm
      · exact absurd (h'.1 hm) hc
theorem an_both (a b : Int) (h0 : 0 ≤ a) (k0 : 0 ≤ b) (ha : a % 2 = 1) (hb : b % 2 = 1) : (an a b != 0) = true := by
  have h := and_step a.toNat b.toNat
  rw [if_pos (by omega)] at h
  unfold an
  simp only [bne_iff_ne, ne_eq]
  omega
theorem an_half (a b : Int) (h0 : 0 ≤ a) (k0 : 0 ≤ b) (h : ¬ (a % 2 = 1 ∧ b % 2 = 1)) : (an (a / 2) (b / 2) != 0) = (an a b != 0) := by
  have hs := and_step a.toNat b.toNat
  rw [if_neg (by omega)] at hs
  have e1 : (a / 2).toNat = a.toNat / 2 := by omega
  have e2 : (b / 2).toNat = b.toNat / 2 := by omega
  unfold an
  rw [e1, e2, hs]
  generalize a.toNat / 2 &&& b.toNat / 2 = x
  rw [Bool.eq_iff_iff]
  simp only [bne_iff_ne, ne_eq]
  omega
theorem an_zero (a b : Int) (h : a ≤ 0 ∨ b ≤ 0) : (an a b != 0) = false := by
  unfold an
  rcases h with h | h
  · have : a.toNat = 0 := by omega
    rw [this, Nat.zero_and]; rfl
  · have : b.toNat = 0 := by omega
    rw [this, Nat.and_zero]; rfl

/-! ### the numbers of the operations -/
/-- The number of a jump with the same number of bits at another place. -/
def mv (f : Nat → Option Nat) (op : Int) : Option Int :=
  if 45 ≤ op ∧ op < 56 then (f (op - 45).toNat).map (fun (j : Nat) => (j : Int) + 45)
  else if 56 ≤ op ∧ op < 67 then (f (op - 56).toNat).map (fun (j : Nat) => (j : Int) + 56) else none
def opp : Int → Option Int := mv opI
def mir : Int → Option Int := mv miI
end Go.Proofs.Ytiklgnokojkoeaa
