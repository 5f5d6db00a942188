/- The bytes of a number, the least significant first, and the bytes of an instruction: no program. No condition. -/
import Derived.Test.YthebdblncafijaaDoorL4Alive
import Derived.Test.YthebdblncafijaaDoorL3Idf
namespace Go.Proofs.YthebdblncafijaaDoor
open Go.RowKit L3 L1 L4

/-- The last n bytes of a number, the least significant first. -/
def le : Nat → Int → List UInt8
  | 0, _ => []
  | n + 1, z => UInt8.ofNat (z % 256).toNat :: le n (z / 256)
/-- The number of some bytes. -/
def va : List UInt8 → Int
  | [] => 0
  | c :: l => (c.toNat : Int) + 256 * va l

theorem le_length : ∀ (n : Nat) (z : Int), (le n z).length = n
  | 0, _ => rfl
  | n + 1, z => by simp [le, le_length n]

theorem byte_nat (z : Int) : ((UInt8.ofNat (z % 256).toNat).toNat : Int) = z % 256 := by
  rw [UInt8.toNat_ofNat']
  omega
theorem byte_mk (c : UInt8) (z : Int) (h : z % 256 = (c.toNat : Int)) : UInt8.ofNat (z % 256).toNat = c := by
  rw [h]
  simp

theorem va_bound : ∀ l : List UInt8, 0 ≤ va l ∧ va l < 256 ^ l.length
  | [] => by simp [va]
  | c :: l => by
    have := va_bound l
    have hc := c.toNat_lt
    have e : (256 : Int) ^ (l.length + 1) = 256 * 256 ^ l.length := by rw [Int.pow_succ]; omega
    simp only [va, List.length_cons, e]
    omega

theorem emod_256 (z M : Int) (hM : 0 < M) : z % (256 * M) = z % 256 + 256 * (z / 256 % M) := by
  have h2 := Int.emod_add_mul_ediv (z / 256) M
  have h3 := Int.emod_nonneg (z / 256) (show M ≠ 0 by omega)
  have h4 := Int.emod_lt_of_pos (z / 256) hM
  have h5 : z = (z % 256 + 256 * (z / 256 % M)) + (256 * M) * (z / 256 / M) := by
    rw [Int.mul_assoc]
    omega
  have h6 : ((z % 256 + 256 * (z / 256 % M)) + (256 * M) * (z / 256 / M)) % (256 * M) = z % 256 + 256 * (z / 256 % M) := by
    rw [Int.add_mul_emod_self_left, Int.emod_eq_of_lt (by omega) (by omega)]
  rw [← h5] at h6
  exact h6

/-- The bytes of a number that has the same last bytes as some bytes' number are these. -/
theorem le_va : ∀ (l : List UInt8) (z : Int), z % 256 ^ l.length = va l → le l.length z = l
  | [], _, _ => rfl
  | c :: l, z, h => by
    have hc := c.toNat_lt
    have e : (256 : Int) ^ (l.length + 1) = 256 * 256 ^ l.length := by rw [Int.pow_succ]; omega
    have hp : (0 : Int) < 256 ^ l.length := Int.pow_pos (by decide)
    simp only [va, List.length_cons, e] at h
    have h1 : z % 256 = (c.toNat : Int) := by
      have := emod_256 z _ hp
      omega
    have h2 : z / 256 % 256 ^ l.length = va l := by
      have : z % (256 * 256 ^ l.length) = z % 256 + 256 * (z / 256 % 256 ^ l.length) := emod_256 z _ hp
      omega
    simp only [le, List.length_cons, byte_mk c z h1, le_va l _ h2]
theorem va_le : ∀ (n : Nat) (z : Int), va (le n z) = z % 256 ^ n
  | 0, z => by simp [le, va, Int.emod_one]
  | n + 1, z => by
    have e : (256 : Int) ^ (n + 1) = 256 * 256 ^ n := by rw [Int.pow_succ]; omega
    have : z % (256 * 256 ^ n) = z % 256 + 256 * (z / 256 % 256 ^ n) := emod_256 z _ (Int.pow_pos (by decide))
    simp only [le, va, va_le n, byte_nat, e]
    omega
theorem le_mod {n : Nat} {z y : Int} (h : z % 256 ^ n = y % 256 ^ n) : le n z = le n y := by
  have := le_va (le n y) z (by rw [le_length, va_le, h])
  rwa [le_length] at this
theorem le_inj {n : Nat} {z y : Int} (h : le n z = le n y) : z % 256 ^ n = y % 256 ^ n := by rw [← va_le, ← va_le, h]
end Go.Proofs.YthebdblncafijaaDoor
