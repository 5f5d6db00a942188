/- What the reference's Read returns, for every text: the sign, the number, whether it is too great, whether the text is a numeral; it leaves memory alone. -/
import Derived.Test.YtbneaihpnfkcdaaDoorL1Parse
import Derived.Deep.DeepCutAuto
namespace Go.Proofs.YtbneaihpnfkcdaaDoor.L1
open Go.RowKit

/-- What the reference's Read returns. -/
def rdV (neg : Bool) (r : Option (Nat × Bool)) : Value := match r with
  | some (v, o) => .tuple #[.bool neg, .int .u64 (v : Int), .bool o, .bool true]
  | none => .tuple #[.bool false, .int .u64 0, .bool false, .bool false]

theorem ba_ext {s t : ByteArray} (h : s.data.toList = t.data.toList) : s = t := by
  cases s; cases t; congr; exact Array.toList_inj.1 h

theorem cons_of (s : ByteArray) (h : 0 < s.size) : s.data.toList = s[0] :: s.data.toList.drop 1 := by
  have := drop_at s 0 h; simpa using this

theorem nil_of (s : ByteArray) (h : ¬ 0 < s.size) : s.data.toList = [] := by
  have h3 : s.data.size = 0 := by have : s.size = s.data.size := rfl; omega
  have : s.data.toList.length = 0 := by rw [Array.length_toList]; exact h3
  exact List.eq_nil_of_length_eq_zero this

theorem u8_beq (a b : UInt8) : ((a.toNat : Int) == (b.toNat : Int)) = (a == b) := by
  rw [Bool.eq_iff_iff, beq_iff_eq, beq_iff_eq]
  constructor
  · intro h; exact UInt8.toNat_inj.1 (by omega)
  · intro h; rw [h]

theorem at0 (s : ByteArray) (c : UInt8) (h : 0 < s.size) : ((s[0].toNat : Int) == (c.toNat : Int)) = Lib.hasPrefix s.data.toList [c] := by
  rw [u8_beq, cons_of s h, Lib.hasPrefix, BEq.comm]
  simp [List.isPrefixOf]

theorem at01 (s : ByteArray) (c d : UInt8) (h : 1 < s.size) : (((s[0].toNat : Int) == (c.toNat : Int)) && ((s[1].toNat : Int) == (d.toNat : Int))) = Lib.hasPrefix s.data.toList [c, d] := by
  rw [u8_beq, u8_beq, cons_of s (by omega), drop_at s 1 h, Lib.hasPrefix, BEq.comm, BEq.comm (a := s[1])]
  simp [List.isPrefixOf]

theorem not01 (s : ByteArray) (c d : UInt8) (h : ¬ 1 < s.size) : Lib.hasPrefix s.data.toList [c, d] = false := by
  by_cases h0 : 0 < s.size
  · have : s.data.toList.length = 1 := by rw [Array.length_toList]; show s.size = 1; omega
    match hl : s.data.toList, this with
    | [x], _ => simp [Lib.hasPrefix, List.isPrefixOf]
  · rw [nil_of s h0]; rfl

theorem slice_eq (s : ByteArray) (k : Nat) : s.extract k s.size = ⟨(s.data.toList.drop k).toArray⟩ := by
  rw [Lib.extract_eq, List.take_of_length_le (by rw [List.length_drop, Array.length_toList]; exact Nat.le_refl _)]

theorem us_eq (t u : ByteArray) (x : Bool) (hx : Lib.hasPrefix t.data.toList [48, 120] = x) (hu : u = ⟨(Lib.trimPrefix t.data.toList [48, 120]).toArray⟩) (base : Nat) (hb : base = if x then 16 else 10) (hne : 0 < u.size) :
    us t.data.toList = rd base u.data.toList 0 false := by
  have hn : u.data.toList ≠ [] := by rw [cons_of u hne]; simp
  subst hu hb
  cases x
  · simp only [Lib.trimPrefix, hx] at hn ⊢
    have h : t.data.toList.isEmpty = false := by cases h : t.data.toList with
      | nil => exact absurd h hn
      | cons a l => rfl
    simp [us, hx, h]
  · simp only [Lib.trimPrefix, hx] at hn ⊢
    have h : (t.data.toList.drop 2).isEmpty = false := by cases h : t.data.toList.drop 2 with
      | nil => exact absurd h hn
      | cons a l => rfl
    simp only [us, hx, h]
    rfl

theorem us_nil (t u : ByteArray) (x : Bool) (hx : Lib.hasPrefix t.data.toList [48, 120] = x) (hu : u = ⟨(Lib.trimPrefix t.data.toList [48, 120]).toArray⟩) (hne : ¬ 0 < u.size) :
    us t.data.toList = none := by
  have hn := nil_of u hne
  subst hu
  cases x
  · simp only [Lib.trimPrefix, hx] at hn
    have h : t.data.toList.isEmpty = true := by rw [show t.data.toList = [] from hn]; rfl
    simp only [us, hx, h]
    rfl
  · simp only [Lib.trimPrefix, hx] at hn
    have h : (t.data.toList.drop 2).isEmpty = true := by rw [show t.data.toList.drop 2 = [] from hn]; rfl
    simp only [us, hx, h]
    rfl

theorem trim_le (l p : List UInt8) : (Lib.trimPrefix l p).length ≤ l.length := by
  unfold Lib.trimPrefix
  split
  · rw [List.length_drop]; omega
  · exact Nat.le_refl _

theorem trim_size (s t : ByteArray) (p : List UInt8) (h : t = ⟨(Lib.trimPrefix s.data.toList p).toArray⟩) : t.size ≤ s.size := by
  have h1 : t.size = (Lib.trimPrefix s.data.toList p).length := by rw [h]; show (List.toArray _).size = _; simp
  have h2 : s.size = s.data.toList.length := by rw [Array.length_toList]; rfl
  rw [h1, h2]; exact trim_le _ _

theorem rdg_of (c : UInt8) (base : Nat) : rdg c.toNat base = if dgn c < base then (dgn c : Int) else -1 := by
  unfold rdg
  rw [dgn_eq]
  by_cases h : dgn c < base
  · rw [if_pos h, if_pos (by omega)]
  · rw [if_neg h, if_neg (by omega)]

end Go.Proofs.YtbneaihpnfkcdaaDoor.L1
