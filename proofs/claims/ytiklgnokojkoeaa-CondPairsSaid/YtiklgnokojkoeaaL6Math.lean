/- Arithmetic of numbers of 16, 32 and 64 bits: what operations compute. It speaks of no program and has no condition but the numbers' bounds. -/
import Derived.WalkKit
import Derived.IntWalk
namespace Go.Proofs.Ytiklgnokojkoeaa.L6
open Go.RowKit (wrap32 wrap64)

/-! ### bit by bit -/
def an (a b : Int) : Int := ((a.toNat &&& b.toNat : Nat) : Int)
def ro (a b : Int) : Int := ((a.toNat ||| b.toNat : Nat) : Int)
def xo (a b : Int) : Int := ((a.toNat ^^^ b.toNat : Nat) : Int)
theorem low64 (a : Int) (h0 : 0 ≤ a) (h1 : a < 18446744073709551616) : (a % ((2 ^ 64 : Nat) : Int)).toNat = a.toNat := by
  have : ((2 ^ 64 : Nat) : Int) = 18446744073709551616 := rfl
  rw [this]; omega
theorem low32 (a : Int) (h0 : 0 ≤ a) (h1 : a < 4294967296) : (a % ((2 ^ 32 : Nat) : Int)).toNat = a.toNat := by
  have : ((2 ^ 32 : Nat) : Int) = 4294967296 := rfl
  rw [this]; omega
theorem an_b (a b : Int) (n : Nat) (hb : b.toNat < 2 ^ n) : 0 ≤ an a b ∧ an a b < ((2 ^ n : Nat) : Int) := by
  unfold an
  have : a.toNat &&& b.toNat < 2 ^ n := Nat.and_lt_two_pow _ hb
  omega
theorem ro_b (a b : Int) (n : Nat) (ha : a.toNat < 2 ^ n) (hb : b.toNat < 2 ^ n) : 0 ≤ ro a b ∧ ro a b < ((2 ^ n : Nat) : Int) := by
  unfold ro
  have : a.toNat ||| b.toNat < 2 ^ n := Nat.or_lt_two_pow ha hb
  omega
theorem xo_b (a b : Int) (n : Nat) (ha : a.toNat < 2 ^ n) (hb : b.toNat < 2 ^ n) : 0 ≤ xo a b ∧ xo a b < ((2 ^ n : Nat) : Int) := by
  unfold xo
  have : a.toNat ^^^ b.toNat < 2 ^ n := Nat.xor_lt_two_pow ha hb
  omega
theorem p64 : ((2 ^ 64 : Nat) : Int) = 18446744073709551616 := rfl
theorem p32 : ((2 ^ 32 : Nat) : Int) = 4294967296 := rfl
theorem tn64 {a : Int} (h0 : 0 ≤ a) (h1 : a < 18446744073709551616) : a.toNat < 2 ^ 64 := by
  have := p64; omega
theorem tn32 {a : Int} (h0 : 0 ≤ a) (h1 : a < 4294967296) : a.toNat < 2 ^ 32 := by
  have := p32; omega
section
variable (a b : Int)
theorem and64 (h0 : 0 ≤ a) (h1 : a < 18446744073709551616) (k0 : 0 ≤ b) (k1 : b < 18446744073709551616) : bits .and .u64 a b = an a b := by
  show IntKind.u64.wrap (((BitVec.ofInt 64 a &&& BitVec.ofInt 64 b).toNat : Nat) : Int) = _
  rw [BitVec.toNat_and, BitVec.toNat_ofInt, BitVec.toNat_ofInt, low64 a h0 h1, low64 b k0 k1, IntKind.wrap_u64]
  have h := an_b a b 64 (tn64 k0 k1)
  rw [p64] at h
  exact Int.emod_eq_of_lt h.1 h.2
theorem or64 (h0 : 0 ≤ a) (h1 : a < 18446744073709551616) (k0 : 0 ≤ b) (k1 : b < 18446744073709551616) : bits .or .u64 a b = ro a b := by
  show IntKind.u64.wrap (((BitVec.ofInt 64 a ||| BitVec.ofInt 64 b).toNat : Nat) : Int) = _
  rw [BitVec.toNat_or, BitVec.toNat_ofInt, BitVec.toNat_ofInt, low64 a h0 h1, low64 b k0 k1, IntKind.wrap_u64]
  have h := ro_b a b 64 (tn64 h0 h1) (tn64 k0 k1)
  rw [p64] at h
  exact Int.emod_eq_of_lt h.1 h.2
theorem xor64 (h0 : 0 ≤ a) (h1 : a < 18446744073709551616) (k0 : 0 ≤ b) (k1 : b < 18446744073709551616) : bits .xor .u64 a b = xo a b := by
  show IntKind.u64.wrap (((BitVec.ofInt 64 a ^^^ BitVec.ofInt 64 b).toNat : Nat) : Int) = _
  rw [BitVec.toNat_xor, BitVec.toNat_ofInt, BitVec.toNat_ofInt, low64 a h0 h1, low64 b k0 k1, IntKind.wrap_u64]
  have h := xo_b a b 64 (tn64 h0 h1) (tn64 k0 k1)
  rw [p64] at h
  exact Int.emod_eq_of_lt h.1 h.2
theorem and32 (h0 : 0 ≤ a) (h1 : a < 4294967296) (k0 : 0 ≤ b) (k1 : b < 4294967296) : bits .and .u32 a b = an a b := by
  show IntKind.u32.wrap (((BitVec.ofInt 32 a &&& BitVec.ofInt 32 b).toNat : Nat) : Int) = _
  rw [BitVec.toNat_and, BitVec.toNat_ofInt, BitVec.toNat_ofInt, low32 a h0 h1, low32 b k0 k1, IntKind.wrap_u32]
  have h := an_b a b 32 (tn32 k0 k1)
  rw [p32] at h
  exact Int.emod_eq_of_lt h.1 h.2
theorem or32 (h0 : 0 ≤ a) (h1 : a < 4294967296) (k0 : 0 ≤ b) (k1 : b < 4294967296) : bits .or .u32 a b = ro a b := by
  show IntKind.u32.wrap (((BitVec.ofInt 32 a ||| BitVec.ofInt 32 b).toNat : Nat) : Int) = _
  rw [BitVec.toNat_or, BitVec.toNat_ofInt, BitVec.toNat_ofInt, low32 a h0 h1, low32 b k0 k1, IntKind.wrap_u32]
  have h := ro_b a b 32 (tn32 h0 h1) (tn32 k0 k1)
  rw [p32] at h
  exact Int.emod_eq_of_lt h.1 h.2
theorem xor32 (h0 : 0 ≤ a) (h1 : a < 4294967296) (k0 : 0 ≤ b) (k1 : b < 4294967296) : bits .xor .u32 a b = xo a b := by
  show IntKind.u32.wrap (((BitVec.ofInt 32 a ^^^ BitVec.ofInt 32 b).toNat : Nat) : Int) = _
  rw [BitVec.toNat_xor, BitVec.toNat_ofInt, BitVec.toNat_ofInt, low32 a h0 h1, low32 b k0 k1, IntKind.wrap_u32]
  have h := xo_b a b 32 (tn32 h0 h1) (tn32 k0 k1)
  rw [p32] at h
  exact Int.emod_eq_of_lt h.1 h.2
end

/-- A combination of two numbers by its kind: 0 or, 1 and, 2 xor. -/
def bw (kind : Nat) (a b : Int) : Int := if kind = 0 then ro a b else if kind = 1 then an a b else xo a b
theorem bit_step (C i : Nat) : C / 2 ^ i = C / 2 ^ (i + 1) * 2 + C / 2 ^ i % 2 := by
  rw [Nat.pow_succ, ← Nat.div_div_eq_div_mul]; omega
theorem tb (x i : Nat) : x / 2 ^ i % 2 = if x.testBit i then 1 else 0 := by
  rw [Nat.testBit_eq_decide_div_mod_eq]
  by_cases h : x / 2 ^ i % 2 = 1
  · simp [h]
  · simp [h]; omega
def tbI (x : Int) (i : Nat) : Bool := x.toNat.testBit i
theorem tbI_eq (x : Int) (i : Nat) (h : 0 ≤ x) : x / (2 : Int) ^ i % 2 = if tbI x i then 1 else 0 := by
  have h1 := tb x.toNat i
  have h2 : ((x.toNat / 2 ^ i % 2 : Nat) : Int) = x / (2 : Int) ^ i % 2 := by
    rw [Int.natCast_emod, Int.natCast_ediv, Int.natCast_pow, Int.toNat_of_nonneg h]; rfl
  rw [← h2, h1]
  unfold tbI
  split <;> rfl
/-- Whether the bit of a combination is 1. -/
def bk (kind : Nat) (p q : Bool) : Bool := if kind = 0 then p || q else if kind = 1 then p && q else p != q
theorem bw_nonneg (kind : Nat) (a b : Int) : 0 ≤ bw kind a b := by
  unfold bw ro an xo
  repeat' split
  all_goals omega
theorem bw_bit (kind : Nat) (a b : Int) (i : Nat) : tbI (bw kind a b) i = bk kind (tbI a i) (tbI b i) := by
  unfold bw bk tbI ro an xo
  repeat' split
  all_goals simp [Nat.testBit_or, Nat.testBit_and, Nat.testBit_xor]
theorem bw_step (kind : Nat) (a b : Int) (i : Nat) : bw kind a b / (2 : Int) ^ i = bw kind a b / (2 : Int) ^ (i + 1) * 2 + (if bk kind (tbI a i) (tbI b i) then 1 else 0) := by
  rw [← bw_bit, ← tbI_eq _ _ (bw_nonneg kind a b), Int.pow_succ, ← Int.ediv_ediv_of_nonneg (Int.pow_nonneg (by decide))]
  omega
theorem bw_b (kind : Nat) (a b : Int) (h0 : 0 ≤ a) (h1 : a < 18446744073709551616) (k0 : 0 ≤ b) (k1 : b < 18446744073709551616) : bw kind a b < 18446744073709551616 := by
  unfold bw
  rw [← p64]
  repeat' split
  · exact (ro_b a b 64 (tn64 h0 h1) (tn64 k0 k1)).2
  · exact (an_b a b 64 (tn64 k0 k1)).2
  · exact (xo_b a b 64 (tn64 h0 h1) (tn64 k0 k1)).2
theorem xo_xo (a b : Int) (h0 : 0 ≤ a) : xo (xo a b) b = a := by
  unfold xo
  rw [Int.toNat_natCast, Nat.xor_assoc, Nat.xor_self, Nat.xor_zero]
  omega

/-! ### quotients -/
def dq (a b : Int) : Int := if b = 0 then 0 else wrap64 (a.tdiv b)
def dr (a b : Int) : Int := if b = 0 then a else a.tmod b
theorem w64_mod (x y : Int) (h : x % 18446744073709551616 = y % 18446744073709551616) : wrap64 x = wrap64 y := by
  unfold wrap64; omega
theorem sub_mul_mod (M a q b : Int) : (a % M - (q % M * (b % M)) % M) % M = (a - q * b) % M := by
  rw [← Int.mul_emod, ← Int.sub_emod]
theorem tdiv_abs (a b : Int) : a.tdiv b = if (decide (a < 0) != decide (b < 0)) then -((a.natAbs : Int) / (b.natAbs : Int)) else (a.natAbs : Int) / (b.natAbs : Int) := by
  by_cases ha : a < 0 <;> by_cases hb' : b < 0
  · have h1 : a = -(a.natAbs : Int) := by omega
    have h2 : b = -(b.natAbs : Int) := by omega
    simp only [ha, hb', decide_true, bne_self_eq_false, Bool.false_eq_true, if_false]
    conv => lhs; rw [h1, h2]
    rw [Int.neg_tdiv_neg]
    rfl
  · have h1 : a = -(a.natAbs : Int) := by omega
    have h2 : b = (b.natAbs : Int) := by omega
    simp only [ha, hb', decide_true, decide_false, Bool.true_bne, Bool.not_false, if_true]
    conv => lhs; rw [h1, h2]
    rw [Int.neg_tdiv]
    rfl
  · have h1 : a = (a.natAbs : Int) := by omega
    have h2 : b = -(b.natAbs : Int) := by omega
    simp only [ha, hb', decide_true, decide_false, Bool.false_bne, if_true]
    conv => lhs; rw [h1, h2]
    rw [Int.tdiv_neg]
    rfl
  · have h1 : a = (a.natAbs : Int) := by omega
    have h2 : b = (b.natAbs : Int) := by omega
    simp only [ha, hb', decide_false, bne_self_eq_false, Bool.false_eq_true, if_false]
    conv => lhs; rw [h1, h2]
    rfl
theorem tmod_b (a b : Int) (h0 : -9223372036854775808 ≤ a) (h1 : a ≤ 9223372036854775807) : -9223372036854775808 ≤ a.tmod b ∧ a.tmod b ≤ 9223372036854775807 := by
  by_cases hb : b = 0
  · subst hb; rw [Int.tmod_zero]; exact ⟨h0, h1⟩
  · have h : (a.tmod b).natAbs ≤ a.natAbs := by rw [Int.natAbs_tmod]; exact Nat.mod_le _ _
    by_cases ha : a < 0
    · have h2 : a.tmod b ≤ 0 := by
        have := Int.tmod_nonneg (a := -a) b (by omega)
        rw [Int.neg_tmod] at this
        omega
      omega
    · have h2 := Int.tmod_nonneg (a := a) b (by omega)
      omega
theorem rem_wrap (a b q : Int) (h0 : -9223372036854775808 ≤ a) (h1 : a ≤ 9223372036854775807) (hq : q % 18446744073709551616 = a.tdiv b % 18446744073709551616) :
    wrap64 ((a % 18446744073709551616 - (q % 18446744073709551616 * (b % 18446744073709551616)) % 18446744073709551616) % 18446744073709551616) = a.tmod b := by
  rw [hq, sub_mul_mod]
  have hm : a.tmod b = a - a.tdiv b * b := by
    have := Int.tmod_def a b
    rw [Int.mul_comm] at this
    exact this
  rw [← hm]
  have := tmod_b a b h0 h1
  unfold wrap64
  omega
theorem quo_rem (a b : Int) (h0 : -9223372036854775808 ≤ a) (h1 : a ≤ 9223372036854775807) : wrap64 (wrap64 (dq a b * b) + dr a b) = a := by
  unfold dq dr
  by_cases hb : b = 0
  · subst hb
    simp [wrap64]
    omega
  rw [if_neg hb, if_neg hb]
  have hm : a = a.tdiv b * b + a.tmod b := (Int.tdiv_mul_add_tmod a b).symm
  have e : ∀ x : Int, wrap64 x % 18446744073709551616 = x % 18446744073709551616 := fun x => by unfold wrap64; omega
  have e1 : wrap64 (wrap64 (a.tdiv b) * b) % 18446744073709551616 = (a.tdiv b * b) % 18446744073709551616 := by
    rw [e, Int.mul_emod, e, ← Int.mul_emod]
  have e2 : wrap64 (wrap64 (a.tdiv b) * b) + a.tmod b = a + 18446744073709551616 * ((wrap64 (wrap64 (a.tdiv b) * b) - a.tdiv b * b) / 18446744073709551616) := by
    have : (wrap64 (wrap64 (a.tdiv b) * b) - a.tdiv b * b) % 18446744073709551616 = 0 := by rw [Int.sub_emod, e1]; simp
    generalize wrap64 (wrap64 (a.tdiv b) * b) = u at this e1 ⊢
    generalize a.tdiv b * b = v at hm this e1 ⊢
    omega
  rw [e2]
  unfold wrap64
  omega
theorem dr_sign (a b : Int) (hb : b ≠ 0) (hr : dr a b ≠ 0) : (dr a b < 0 ↔ a < 0) ∧ (dr a b).natAbs < b.natAbs := by
  unfold dr at hr ⊢
  rw [if_neg hb] at hr ⊢
  have h : (a.tmod b).natAbs < b.natAbs := by
    rw [Int.natAbs_tmod]
    exact Nat.mod_lt _ (by omega)
  refine ⟨?_, h⟩
  by_cases ha : a < 0
  · have h2 : a.tmod b ≤ 0 := by
      have := Int.tmod_nonneg (a := -a) b (by omega)
      rw [Int.neg_tmod] at this
      omega
    omega
  · have h2 := Int.tmod_nonneg (a := a) b (by omega)
    omega

/-! ### shifts -/
theorem shl_step (a : Int) (i : Nat) : a * (2 : Int) ^ i % 18446744073709551616 * 2 % 18446744073709551616 = a * (2 : Int) ^ (i + 1) % 18446744073709551616 := by
  rw [Int.pow_succ, ← Int.mul_assoc, Int.mul_emod _ 2, Int.mul_emod (a * 2 ^ i) 2]
  simp
theorem shr_step (a : Int) (i : Nat) : a / (2 : Int) ^ i / 2 = a / (2 : Int) ^ (i + 1) := by
  rw [Int.pow_succ, Int.ediv_ediv_of_nonneg (Int.pow_nonneg (by decide))]
theorem div_pow_b (s L : Int) (i : Nat) (h0 : -L ≤ s) (h1 : s < L) : -L ≤ s / (2 : Int) ^ i ∧ s / (2 : Int) ^ i < L := by
  induction i with
  | zero => simp; exact ⟨h0, h1⟩
  | succ i ih => rw [← shr_step]; omega
theorem sar_step64 (s : Int) (i : Nat) (h0 : -9223372036854775808 ≤ s) (h1 : s < 9223372036854775808) :
    s / (2 : Int) ^ i % 18446744073709551616 / 2 + s / (2 : Int) ^ i % 18446744073709551616 / 9223372036854775808 * 9223372036854775808 = s / (2 : Int) ^ (i + 1) % 18446744073709551616 := by
  have := div_pow_b s 9223372036854775808 i h0 h1
  rw [← shr_step]
  omega
theorem sar_step32 (s : Int) (i : Nat) (h0 : -2147483648 ≤ s) (h1 : s < 2147483648) :
    s / (2 : Int) ^ i % 4294967296 / 2 + s / (2 : Int) ^ i % 4294967296 / 2147483648 * 2147483648 = s / (2 : Int) ^ (i + 1) % 4294967296 := by
  have := div_pow_b s 2147483648 i h0 h1
  rw [← shr_step]
  omega

/-! ### bytes in reverse order -/
def W8 (a b c d e f g h : Nat) : Nat := ((((((a * 256 + b) * 256 + c) * 256 + d) * 256 + e) * 256 + f) * 256 + g) * 256 + h
theorem and_add (a c b d : Nat) (hb : b < 256) (hd : d < 256) : (a * 256 + b) &&& (c * 256 + d) = (a &&& c) * 256 + (b &&& d) := by
  have hbd : b &&& d < 2 ^ 8 := Nat.and_lt_two_pow _ hd
  rw [Nat.mul_comm a, Nat.mul_comm c, Nat.mul_comm (a &&& c)]
  refine Nat.eq_of_testBit_eq fun i => ?_
  rw [Nat.testBit_and, show (256 : Nat) = 2 ^ 8 from rfl, Nat.testBit_two_pow_mul_add _ hb, Nat.testBit_two_pow_mul_add _ hd, Nat.testBit_two_pow_mul_add _ hbd]
  split <;> simp [Nat.testBit_and]
theorem or_add (a c b d : Nat) (hb : b < 256) (hd : d < 256) : (a * 256 + b) ||| (c * 256 + d) = (a ||| c) * 256 + (b ||| d) := by
  have hbd : b ||| d < 2 ^ 8 := Nat.or_lt_two_pow hb hd
  rw [Nat.mul_comm a, Nat.mul_comm c, Nat.mul_comm (a ||| c)]
  refine Nat.eq_of_testBit_eq fun i => ?_
  rw [Nat.testBit_or, show (256 : Nat) = 2 ^ 8 from rfl, Nat.testBit_two_pow_mul_add _ hb, Nat.testBit_two_pow_mul_add _ hd, Nat.testBit_two_pow_mul_add _ hbd]
  split <;> simp [Nat.testBit_or]
theorem and255 (a : Nat) (h : a < 256) : a &&& 255 = a := by
  rw [show (255 : Nat) = 2 ^ 8 - 1 from rfl, Nat.and_two_pow_sub_one_eq_mod]
  exact Nat.mod_eq_of_lt h
section
variable (a b c d e f g h : Nat) (hb : b < 256) (hc : c < 256) (hd : d < 256) (he : e < 256) (hf : f < 256) (hg : g < 256) (hh : h < 256)
include hb hc hd he hf hg hh
theorem W8_and3 : W8 a b c d e f g h &&& 71777214294589695 = W8 0 b 0 d 0 f 0 h := by
  rw [show (71777214294589695 : Nat) = W8 0 255 0 255 0 255 0 255 from rfl]
  unfold W8
  rw [and_add _ _ _ _ hh (by decide), and_add _ _ _ _ hg (by decide), and_add _ _ _ _ hf (by decide), and_add _ _ _ _ he (by decide), and_add _ _ _ _ hd (by decide), and_add _ _ _ _ hc (by decide), and_add _ _ _ _ hb (by decide)]
  simp only [Nat.and_zero, and255 _ hb, and255 _ hd, and255 _ hf, and255 _ hh]
theorem W8_and4 : W8 a b c d e f g h &&& 281470681808895 = W8 0 0 c d 0 0 g h := by
  rw [show (281470681808895 : Nat) = W8 0 0 255 255 0 0 255 255 from rfl]
  unfold W8
  rw [and_add _ _ _ _ hh (by decide), and_add _ _ _ _ hg (by decide), and_add _ _ _ _ hf (by decide), and_add _ _ _ _ he (by decide), and_add _ _ _ _ hd (by decide), and_add _ _ _ _ hc (by decide), and_add _ _ _ _ hb (by decide)]
  simp only [Nat.and_zero, and255 _ hc, and255 _ hd, and255 _ hg, and255 _ hh]
theorem W8_or (a' b' c' d' e' f' g' h' : Nat) (hb' : b' < 256) (hc' : c' < 256) (hd' : d' < 256) (he' : e' < 256) (hf' : f' < 256) (hg' : g' < 256) (hh' : h' < 256) :
    W8 a b c d e f g h ||| W8 a' b' c' d' e' f' g' h' = W8 (a ||| a') (b ||| b') (c ||| c') (d ||| d') (e ||| e') (f ||| f') (g ||| g') (h ||| h') := by
  unfold W8
  rw [or_add _ _ _ _ hh hh', or_add _ _ _ _ hg hg', or_add _ _ _ _ hf hf', or_add _ _ _ _ he he', or_add _ _ _ _ hd hd', or_add _ _ _ _ hc hc', or_add _ _ _ _ hb hb']
end
/-- The number with the eight bytes of x in reverse order. -/
def rv (x : Int) : Int :=
  ((((((x % 256 * 256 + x / 256 % 256) * 256 + x / 256 / 256 % 256) * 256 + x / 256 / 256 / 256 % 256) * 256 + x / 256 / 256 / 256 / 256 % 256) * 256 + x / 256 / 256 / 256 / 256 / 256 % 256) * 256 + x / 256 / 256 / 256 / 256 / 256 / 256 % 256) * 256 + x / 256 / 256 / 256 / 256 / 256 / 256 / 256 % 256
theorem bytes8 (x : Int) (h0 : 0 ≤ x) (h1 : x < 18446744073709551616) : ∃ a b c d e f g h : Nat, a < 256 ∧ b < 256 ∧ c < 256 ∧ d < 256 ∧ e < 256 ∧ f < 256 ∧ g < 256 ∧ h < 256 ∧ x.toNat = W8 a b c d e f g h := by
  obtain ⟨n, rfl⟩ := Int.eq_ofNat_of_zero_le h0
  refine ⟨n / 72057594037927936, n / 281474976710656 % 256, n / 1099511627776 % 256, n / 4294967296 % 256, n / 16777216 % 256, n / 65536 % 256, n / 256 % 256, n % 256, ?_, ?_, ?_, ?_, ?_, ?_, ?_, ?_, ?_⟩
  all_goals first | omega | skip
  unfold W8
  omega
theorem W8_lt (a b c d e f g h : Nat) (ha : a < 256) (hb : b < 256) (hc : c < 256) (hd : d < 256) (he : e < 256) (hf : f < 256) (hg : g < 256) (hh : h < 256) : W8 a b c d e f g h < 18446744073709551616 := by
  unfold W8; omega
theorem rev1 (a b c d e f g h : Nat) (ha : a < 256) (hb : b < 256) (hc : c < 256) (hd : d < 256) (he : e < 256) (hf : f < 256) (hg : g < 256) (hh : h < 256) :
    ro (an (((W8 a b c d e f g h : Nat) : Int) / 256) 71777214294589695) (an ((W8 a b c d e f g h : Nat) : Int) 71777214294589695 * 256 % 18446744073709551616) = ((W8 b a d c f e h g : Nat) : Int) := by
  have z : (0 : Nat) < 256 := by decide
  have e1 : (((W8 a b c d e f g h : Nat) : Int) / 256).toNat = W8 0 a b c d e f g := by unfold W8; omega
  have e2 : (((W8 0 b 0 d 0 f 0 h : Nat) : Int) * 256 % 18446744073709551616).toNat = W8 b 0 d 0 f 0 h 0 := by unfold W8; omega
  unfold ro an
  rw [e1, Int.toNat_natCast, Int.toNat_natCast, show (71777214294589695 : Int).toNat = 71777214294589695 from rfl, W8_and3 _ _ _ _ _ _ _ _ hb hc hd he hf hg hh, W8_and3 _ _ _ _ _ _ _ _ ha hb hc hd he hf hg, e2,
    W8_or _ _ _ _ _ _ _ _ ha z hc z he z hg _ _ _ _ _ _ _ _ z hd z hf z hh z]
  simp only [Nat.zero_or, Nat.or_zero]
theorem rev2 (a b c d e f g h : Nat) (ha : a < 256) (hb : b < 256) (hc : c < 256) (hd : d < 256) (he : e < 256) (hf : f < 256) (hg : g < 256) (hh : h < 256) :
    ro (an (((W8 a b c d e f g h : Nat) : Int) / 65536) 281470681808895) (an ((W8 a b c d e f g h : Nat) : Int) 281470681808895 * 65536 % 18446744073709551616) = ((W8 c d a b g h e f : Nat) : Int) := by
  have z : (0 : Nat) < 256 := by decide
  have e1 : (((W8 a b c d e f g h : Nat) : Int) / 65536).toNat = W8 0 0 a b c d e f := by unfold W8; omega
  have e2 : (((W8 0 0 c d 0 0 g h : Nat) : Int) * 65536 % 18446744073709551616).toNat = W8 c d 0 0 g h 0 0 := by unfold W8; omega
  unfold ro an
  rw [e1, Int.toNat_natCast, Int.toNat_natCast, show (281470681808895 : Int).toNat = 281470681808895 from rfl, W8_and4 _ _ _ _ _ _ _ _ hb hc hd he hf hg hh, W8_and4 _ _ _ _ _ _ _ _ z ha hb hc hd he hf, e2,
    W8_or _ _ _ _ _ _ _ _ z ha hb z z he hf _ _ _ _ _ _ _ _ hd z z hg hh z z]
  simp only [Nat.zero_or, Nat.or_zero]
theorem W8_two (a b c d e f g h : Nat) : W8 a b c d e f g h = W8 0 0 0 0 a b c d * 4294967296 + W8 0 0 0 0 e f g h := by
  unfold W8; omega
theorem W8_low (e f g h : Nat) (he : e < 256) (hf : f < 256) (hg : g < 256) (hh : h < 256) : W8 0 0 0 0 e f g h < 4294967296 := by
  unfold W8; omega
theorem two_parts (A B : Nat) (hB : B < 4294967296) : (((A * 4294967296 + B : Nat) : Int) / 4294967296).toNat = A ∧ (((A * 4294967296 + B : Nat) : Int) * 4294967296 % 18446744073709551616).toNat = B * 4294967296 := by
  omega
theorem rev3 (a b c d e f g h : Nat) (ha : a < 256) (hb : b < 256) (hc : c < 256) (hd : d < 256) (he : e < 256) (hf : f < 256) (hg : g < 256) (hh : h < 256) :
    ro (((W8 a b c d e f g h : Nat) : Int) / 4294967296) (((W8 a b c d e f g h : Nat) : Int) * 4294967296 % 18446744073709551616) = ((W8 e f g h a b c d : Nat) : Int) := by
  have z : (0 : Nat) < 256 := by decide
  obtain ⟨e1, e2⟩ := two_parts (W8 0 0 0 0 a b c d) (W8 0 0 0 0 e f g h) (W8_low e f g h he hf hg hh)
  rw [← W8_two] at e1 e2
  have e3 : W8 0 0 0 0 e f g h * 4294967296 = W8 e f g h 0 0 0 0 := by
    have := W8_two e f g h 0 0 0 0
    have h0 : W8 0 0 0 0 0 0 0 0 = 0 := rfl
    omega
  rw [e3] at e2
  unfold ro
  rw [e1, e2, W8_or _ _ _ _ _ _ _ _ z z z ha hb hc hd _ _ _ _ _ _ _ _ hf hg hh z z z z]
  simp only [Nat.zero_or, Nat.or_zero]
theorem div256 (y h : Nat) (hh : h < 256) : ((y * 256 + h : Nat) : Int) / 256 = (y : Int) := by omega
theorem mod256 (y h : Nat) (hh : h < 256) : ((y * 256 + h : Nat) : Int) % 256 = (h : Int) := by omega
theorem W8_div (a b c d e f g h : Nat) (hh : h < 256) : ((W8 a b c d e f g h : Nat) : Int) / 256 = ((W8 0 a b c d e f g : Nat) : Int) := by
  have k : W8 0 a b c d e f g = (((((a * 256 + b) * 256 + c) * 256 + d) * 256 + e) * 256 + f) * 256 + g := by
    unfold W8; rw [Nat.zero_mul, Nat.zero_add]
  rw [k]
  exact div256 _ _ hh
theorem W8_mod (a b c d e f g h : Nat) (hh : h < 256) : ((W8 a b c d e f g h : Nat) : Int) % 256 = (h : Int) := mod256 _ _ hh
theorem rv_W8 (a b c d e f g h : Nat) (ha : a < 256) (hb : b < 256) (hc : c < 256) (hd : d < 256) (he : e < 256) (hf : f < 256) (hg : g < 256) (hh : h < 256) : rv ((W8 a b c d e f g h : Nat) : Int) = ((W8 h g f e d c b a : Nat) : Int) := by
  unfold rv
  simp only [W8_div _ _ _ _ _ _ _ _ hh, W8_div _ _ _ _ _ _ _ _ hg, W8_div _ _ _ _ _ _ _ _ hf, W8_div _ _ _ _ _ _ _ _ he, W8_div _ _ _ _ _ _ _ _ hd, W8_div _ _ _ _ _ _ _ _ hc, W8_div _ _ _ _ _ _ _ _ hb,
    W8_mod _ _ _ _ _ _ _ _ hh, W8_mod _ _ _ _ _ _ _ _ hg, W8_mod _ _ _ _ _ _ _ _ hf, W8_mod _ _ _ _ _ _ _ _ he, W8_mod _ _ _ _ _ _ _ _ hd, W8_mod _ _ _ _ _ _ _ _ hc, W8_mod _ _ _ _ _ _ _ _ hb, W8_mod _ _ _ _ _ _ _ _ ha]
  unfold W8
  simp only [Int.natCast_add, Int.natCast_mul]
  rfl
/-- The three steps by which the library turns a number's bytes round. -/
def r1 (x : Int) : Int := ro (an (x / 256) 71777214294589695) (an x 71777214294589695 * 256 % 18446744073709551616)
def r2 (x : Int) : Int := ro (an (x / 65536) 281470681808895) (an x 281470681808895 * 65536 % 18446744073709551616)
def r3 (x : Int) : Int := ro (x / 4294967296) (x * 4294967296 % 18446744073709551616)
theorem rev_eq (x : Int) (h0 : 0 ≤ x) (h1 : x < 18446744073709551616) : (0 ≤ r1 x ∧ r1 x < 18446744073709551616) ∧ (0 ≤ r2 (r1 x) ∧ r2 (r1 x) < 18446744073709551616) ∧ r3 (r2 (r1 x)) = rv x := by
  obtain ⟨a, b, c, d, e, f, g, h, ha, hb, hc, hd, he, hf, hg, hh, hx⟩ := bytes8 x h0 h1
  obtain rfl : x = ((W8 a b c d e f g h : Nat) : Int) := by omega
  have k1 : r1 ((W8 a b c d e f g h : Nat) : Int) = ((W8 b a d c f e h g : Nat) : Int) := rev1 a b c d e f g h ha hb hc hd he hf hg hh
  have k2 : r2 ((W8 b a d c f e h g : Nat) : Int) = ((W8 d c b a h g f e : Nat) : Int) := rev2 b a d c f e h g hb ha hd hc hf he hh hg
  have k3 : r3 ((W8 d c b a h g f e : Nat) : Int) = ((W8 h g f e d c b a : Nat) : Int) := rev3 d c b a h g f e hd hc hb ha hh hg hf he
  have l1 := W8_lt b a d c f e h g hb ha hd hc hf he hh hg
  have l2 := W8_lt d c b a h g f e hd hc hb ha hh hg hf he
  rw [k1, k2, k3]
  exact ⟨by omega, by omega, (rv_W8 a b c d e f g h ha hb hc hd he hf hg hh).symm⟩
theorem rv_parts (x : Int) : ∃ a b c d e f g h : Int, (0 ≤ a ∧ a < 256) ∧ (0 ≤ b ∧ b < 256) ∧ (0 ≤ c ∧ c < 256) ∧ (0 ≤ d ∧ d < 256) ∧ (0 ≤ e ∧ e < 256) ∧ (0 ≤ f ∧ f < 256) ∧ (0 ≤ g ∧ g < 256) ∧ (0 ≤ h ∧ h < 256) ∧
    a = x % 256 ∧ b = x / 256 % 256 ∧ c = x / 256 / 256 % 256 ∧ d = x / 256 / 256 / 256 % 256 ∧ rv x = ((((((a * 256 + b) * 256 + c) * 256 + d) * 256 + e) * 256 + f) * 256 + g) * 256 + h :=
  have k : ∀ y : Int, 0 ≤ y % 256 ∧ y % 256 < 256 := fun y => by omega
  ⟨_, _, _, _, _, _, _, _, k _, k _, k _, k _, k _, k _, k _, k _, rfl, rfl, rfl, rfl, rfl⟩
theorem rv_b (x : Int) : 0 ≤ rv x ∧ rv x < 18446744073709551616 := by
  obtain ⟨a, b, c, d, e, f, g, h, ha, hb, hc, hd, he, hf, hg, hh, -, -, -, -, hx⟩ := rv_parts x
  omega
/-- The last bytes of x, as many as n bits have, in reverse order. -/
def sw (n x : Int) : Int := if n = 16 then rv x / 281474976710656 else if n = 32 then rv x / 4294967296 else rv x
theorem sw16 (x : Int) : rv x / 281474976710656 = x % 256 * 256 + x / 256 % 256 := by
  obtain ⟨a, b, c, d, e, f, g, h, ha, hb, hc, hd, he, hf, hg, hh, h1, h2, -, -, hx⟩ := rv_parts x
  rw [← h1, ← h2, hx]
  clear hx h1 h2
  omega
theorem sw32 (x : Int) : rv x / 4294967296 = ((x % 256 * 256 + x / 256 % 256) * 256 + x / 256 / 256 % 256) * 256 + x / 256 / 256 / 256 % 256 := by
  obtain ⟨a, b, c, d, e, f, g, h, ha, hb, hc, hd, he, hf, hg, hh, h1, h2, h3, h4, hx⟩ := rv_parts x
  rw [← h1, ← h2, ← h3, ← h4, hx]
  clear hx h1 h2 h3 h4
  omega
/-! ### what the operations compute -/
def sx' (b x : Int) : Int :=
  if b = 8 then (x + 128) % 256 - 128 else if b = 16 then (x + 32768) % 65536 - 32768 else if b = 32 then (x + 2147483648) % 4294967296 - 2147483648 else (x + 9223372036854775808) % 18446744073709551616 - 9223372036854775808
/-- A number modulo 2 to the power of n. -/
def mo (n x : Int) : Int := if n = 64 then x % 18446744073709551616 else x % 4294967296
/-- The operations of the form Alu on numbers of n bits, by their index. -/
def aluL : Nat → Int → Int → Int → Int
  | 0, n, a, b => mo n (a + b)
  | 1, n, a, b => mo n (a - b)
  | 2, n, a, b => mo n (a * b)
  | 3, _, a, b => if b = 0 then 0 else a / b
  | 4, _, a, b => ro a b
  | 5, _, a, b => an a b
  | 6, n, a, b => mo n (a * 2 ^ (b % n).toNat)
  | 7, n, a, b => a / 2 ^ (b % n).toNat
  | 8, _, a, b => if b = 0 then a else a % b
  | 9, _, a, b => xo a b
  | 10, _, _, b => b
  | 11, n, a, b => mo n (sx' n a / 2 ^ (b % n).toNat)
  | 12, n, a, b => mo n (dq (sx' n a) (sx' n b))
  | _, n, a, b => mo n (dr (sx' n a) (sx' n b))
theorem ediv_b (a b : Int) (h0 : 0 ≤ a) (k0 : 0 ≤ b) : 0 ≤ a / b ∧ a / b ≤ a := ⟨Int.ediv_nonneg h0 k0, Int.ediv_le_self b h0⟩
theorem emod_b (a b : Int) (h0 : 0 ≤ a) (hb : b ≠ 0) (k0 : 0 ≤ b) : 0 ≤ a % b ∧ a % b ≤ a := by
  have h1 := Int.emod_nonneg a hb
  have h2 := Int.emod_add_mul_ediv a b
  have h3 := Int.mul_nonneg k0 (Int.ediv_nonneg h0 k0)
  omega
end Go.Proofs.Ytiklgnokojkoeaa.L6
