/- What the reference's Decode reads is what Decode comes to. No program; no condition. -/
import Derived.Test.YthebdblncafijaaDoorInv
import Derived.Test.YthebdblncafijaaDoorRenca
namespace Go.Proofs.YthebdblncafijaaDoor
open Go.RowKit L3 L1 L4

theorem cdV_of {code s o i : Int} {j : Nat} {r : Bool} (hj : j < 86) (h : hitK code s o i j = true) (hr : r = regK code j) : cdV j r = code := by
  subst hr
  unfold hitK at h
  simp only [Bool.and_eq_true, Bool.or_eq_true, beq_iff_eq] at h
  obtain ⟨h, -⟩ := h
  unfold cdV cdB
  rw [decide_eq_true hj]
  cases e : regK code j
  · rw [e] at h
    simp at h ⊢
    exact h.symm
  · have e' := e
    unfold regK at e'
    simp only [Bool.and_eq_true, beq_iff_eq] at e'
    simp [e'.1, e'.2.symm]
theorem bytes_one (x : Ix) (hs : slo x.f = 1) : x.bytes = [UInt8.ofNat (cdV (ix x.op) x.reg % 256).toNat, UInt8.ofNat ((16 * (x.src + sr (ix x.op)) + x.dst) % 256).toNat] ++ le 2 (x.off + of (ix x.op)) ++ le 4 (x.imm + im (ix x.op)) := by
  unfold Ix.bytes encL
  rw [if_neg (by omega)]
  simp
theorem bytes_two (x : Ix) (hs : slo x.f = 2) : x.bytes = [UInt8.ofNat (cdV (ix x.op) x.reg % 256).toNat, UInt8.ofNat ((16 * (x.src + sr (ix x.op)) + x.dst) % 256).toNat] ++ le 2 (x.off + of (ix x.op)) ++ le 4 (x.imm + im (ix x.op)) ++ le 4 0 ++ le 4 (x.imm / 4294967296) := by
  unfold Ix.bytes encL
  rw [if_pos hs]
  simp [le4_zero]
theorem take8 (l : List UInt8) (h : 8 ≤ l.length) : l.take 8 = [bt' l 0, bt' l 1] ++ [bt' l 2, bt' l 3] ++ [bt' l 4, bt' l 5, bt' l 6, bt' l 7] := by
  match l, h with
  | _ :: _ :: _ :: _ :: _ :: _ :: _ :: _ :: _, _ => rfl
theorem take16 (l : List UInt8) (h : 16 ≤ l.length) : l.take 16 = [bt' l 0, bt' l 1] ++ [bt' l 2, bt' l 3] ++ [bt' l 4, bt' l 5, bt' l 6, bt' l 7] ++ [bt' l 8, bt' l 9, bt' l 10, bt' l 11] ++ [bt' l 12, bt' l 13, bt' l 14, bt' l 15] := by
  match l, h with
  | _ :: _ :: _ :: _ :: _ :: _ :: _ :: _ :: _ :: _ :: _ :: _ :: _ :: _ :: _ :: _ :: _, _ => rfl
theorem le2_iff (z : Int) (a b : UInt8) : le 2 z = [a, b] ↔ z % 65536 = (a.toNat : Int) * 1 + (b.toNat : Int) * 256 := by
  constructor
  · intro h
    have := congrArg va h
    rw [va_le] at this
    simp only [va] at this
    omega
  · intro h
    refine le_va [a, b] z ?_
    simp only [va, List.length_cons, List.length_nil]
    omega
theorem le4_iff (z : Int) (a b c d : UInt8) : le 4 z = [a, b, c, d] ↔ z % 4294967296 = (a.toNat : Int) * 1 + (b.toNat : Int) * 256 + (c.toNat : Int) * 65536 + (d.toNat : Int) * 16777216 := by
  constructor
  · intro h
    have := congrArg va h
    rw [va_le] at this
    simp only [va] at this
    omega
  · intro h
    refine le_va [a, b, c, d] z ?_
    simp only [va, List.length_cons, List.length_nil]
    omega
theorem one_parts {A B b0 b1 b2 b3 b4 b5 b6 b7 : UInt8} {U I : Int} (h : [A, B] ++ le 2 U ++ le 4 I = [b0, b1] ++ [b2, b3] ++ [b4, b5, b6, b7]) : A = b0 ∧ B = b1 ∧ le 2 U = [b2, b3] ∧ le 4 I = [b4, b5, b6, b7] := by
  have h1 := List.append_inj h (by simp [le_length])
  have h2 := List.append_inj h1.1 (by simp)
  have h3 := h2.1
  simp at h3
  exact ⟨h3.1, h3.2, h2.2, h1.2⟩
theorem two_parts {A B b0 b1 b2 b3 b4 b5 b6 b7 b8 b9 b10 b11 b12 b13 b14 b15 : UInt8} {U I J K : Int} (h : [A, B] ++ le 2 U ++ le 4 I ++ le 4 J ++ le 4 K = [b0, b1] ++ [b2, b3] ++ [b4, b5, b6, b7] ++ [b8, b9, b10, b11] ++ [b12, b13, b14, b15]) :
    A = b0 ∧ B = b1 ∧ le 2 U = [b2, b3] ∧ le 4 I = [b4, b5, b6, b7] ∧ le 4 J = [b8, b9, b10, b11] ∧ le 4 K = [b12, b13, b14, b15] := by
  have h1 := List.append_inj h (by simp [le_length])
  have h2 := List.append_inj h1.1 (by simp [le_length])
  obtain ⟨a, b, c, d⟩ := one_parts h2.1
  exact ⟨a, b, c, d, h2.2, h1.2⟩
theorem sx16_at (s z : Int) (h0 : -32768 ≤ z) (h1 : z ≤ 32767) (h : z % 65536 = s) : sx 16 s = z := by
  subst h
  unfold sx
  simp
  omega
theorem sx32_at (s z : Int) (h0 : -2147483648 ≤ z) (h1 : z ≤ 2147483647) (h : z % 4294967296 = s) : sx 32 s = z := by
  subst h
  unfold sx
  simp
  omega
theorem sx16_m (s : Int) (h0 : 0 ≤ s) (h1 : s < 65536) : sx 16 s % 65536 = s := by
  unfold sx
  simp
  omega
theorem sx32_m (s : Int) (h0 : 0 ≤ s) (h1 : s < 4294967296) : sx 32 s % 4294967296 = s := by
  unfold sx
  simp
  omega
theorem byte_eq (z : Int) (c : UInt8) (h0 : 0 ≤ z) (h1 : z ≤ 255) : UInt8.ofNat (z % 256).toNat = c ↔ z = (c.toNat : Int) := by
  constructor
  · intro h
    have := congrArg (fun c : UInt8 => (c.toNat : Int)) h
    simp only [byte_nat] at this
    omega
  · intro h
    exact byte_mk c z (by have := c.toNat_lt; omega)

theorem sum2 (a b : UInt8) : 0 ≤ (a.toNat : Int) * 1 + (b.toNat : Int) * 256 ∧ (a.toNat : Int) * 1 + (b.toNat : Int) * 256 < 18446744073709551616 := by
  have := a.toNat_lt
  have := b.toNat_lt
  omega
theorem sum4 (a b c d : UInt8) : 0 ≤ (a.toNat : Int) * 1 + (b.toNat : Int) * 256 + (c.toNat : Int) * 65536 + (d.toNat : Int) * 16777216 ∧ (a.toNat : Int) * 1 + (b.toNat : Int) * 256 + (c.toNat : Int) * 65536 + (d.toNat : Int) * 16777216 < 18446744073709551616 := by
  have := a.toNat_lt
  have := b.toNat_lt
  have := c.toNat_lt
  have := d.toNat_lt
  omega
theorem hi8 (c : UInt8) : 0 ≤ (c.toNat : Int) ∧ (c.toNat : Int) ≤ 255 := by have := c.toNat_lt; omega
theorem id_row {l : List UInt8} {op : Int} {r : Bool} (hid : idL l = (op, r, true)) : ix op < 86 ∧ cdV (ix op) r = ((bt' l 0).toNat : Int) := by
  obtain ⟨j, -, hj, hop, hh, hr⟩ := id_ok _ _ _ _ _ _ _ _ (show idF _ _ _ _ 86 0 = _ from hid)
  have hj' : ix op = j := by rw [hop, ix_nat (by omega)]
  rw [hj']
  exact ⟨by omega, cdV_of (by omega) hh hr⟩
theorem decF_way {l : List UInt8} {op : Int} {r : Bool} (hid : idL l = (op, r, true)) (h8 : 8 ≤ l.length) (h16 : slo (frm (ix op)) = 2 → 16 ≤ l.length) (g1 : ((bt' l 1).toNat : Int) % 16 ≤ 10) (g2 : ((bt' l 1).toNat : Int) / 16 ≤ 10) :
    decF l = (rdL l, slo (frm (ix op)), 0) ∨ decF l = (.z, 0, 12) := by
  have hfL : fL l = frm (ix op) := by unfold fL; rw [hid]
  unfold decF
  rw [if_neg (by omega), hid, hfL, if_neg (by simp), if_neg (by intro h; have := h16 h.1; omega), if_neg (by omega)]
  split
  · exact .inl rfl
  · exact .inr rfl
end Go.Proofs.YthebdblncafijaaDoor
