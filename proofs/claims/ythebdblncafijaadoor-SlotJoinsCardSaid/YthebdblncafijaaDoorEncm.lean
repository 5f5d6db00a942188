/- The bytes of an instruction, and what Check says of a correct one: no program. Condition: the immediate is one of 64 bits. -/
import Derived.Test.YthebdblncafijaaDoorLe
namespace Go.Proofs.YthebdblncafijaaDoor
open Go.RowKit L3 L1 L4

theorem wrap_i16 (n : Int) : IntKind.i16.wrap n = (n + 32768) % 65536 - 32768 := by simp [IntKind.wrap, IntKind.bits, IntKind.signed]; omega

/-- The bytes of a correct instruction. -/
def encL (j : Nat) (f : Int) (reg : Bool) (dst src off imm : Int) : List UInt8 :=
  UInt8.ofNat (cdV j reg % 256).toNat :: UInt8.ofNat ((16 * (src + sr j) + dst) % 256).toNat :: (le 2 (off + of j) ++ (le 4 (imm + im j) ++ if slo f = 2 then 0 :: 0 :: 0 :: 0 :: le 4 (imm / 4294967296) else []))

theorem encL_length (j : Nat) (f : Int) (reg : Bool) (dst src off imm : Int) : (encL j f reg dst src off imm).length = if slo f = 2 then 16 else 8 := by
  unfold encL
  split <;> simp [le_length]

/-- What a correct instruction is. -/
structure OkI (f : Int) (reg : Bool) (dst src off imm : Int) : Prop where
  hop : f ≠ -1
  hreg : (!reg || f == 0 || f == 4) = true
  ud : uD f = true ∨ dst = 0
  us : uS f reg = true ∨ src = 0
  uo : uO f = true ∨ off = 0
  ui : uI f reg = true ∨ imm = 0
  gd : 0 ≤ dst ∧ dst ≤ 10
  gs : 0 ≤ src ∧ src ≤ 10
  ro : -32768 ≤ off ∧ off ≤ 32767
  ri : rng f imm = true

theorem chk_ok (f : Int) (reg : Bool) (dst src off imm : Int) : chkF f reg dst src off imm = 0 ↔ OkI f reg dst src off imm := by
  unfold chkF
  constructor
  · intro h
    simp only [firstBad] at h
    repeat' (split at h)
    all_goals first | (exfalso; revert h; decide) | skip
    rename_i h1 h2 h3 h4 h5 h6 h7
    simp only [Bool.and_eq_true, Bool.or_eq_true, beq_iff_eq, isG, decide_eq_true_eq] at h3 h4 h5 h6
    refine ⟨by simpa using h1, h2, h3.1, h3.2, h4.1, h4.2, h5.1, h5.2, ?_, h7⟩
    unfold sx at h6
    simp at h6
    omega
  · intro h
    have h1 : (f != -1) = true := by simpa using h.hop
    have h3 : ((uD f || dst == 0) && (uS f reg || src == 0)) = true := by simpa using ⟨h.ud, h.us⟩
    have h4 : ((uO f || off == 0) && (uI f reg || imm == 0)) = true := by simpa using ⟨h.uo, h.ui⟩
    have h5 : (isG dst && isG src) = true := by simpa [isG] using ⟨h.gd, h.gs⟩
    have h6 : (sx 16 off == off) = true := by
      have := h.ro
      unfold sx
      simp
      omega
    simp [firstBad, h1, h.hreg, h3, h4, h5, h6, h.ri]
end Go.Proofs.YthebdblncafijaaDoor
