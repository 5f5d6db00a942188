/- What the reference's Format returns, for every number of 64 bits: its decimal numeral, as Format does; it leaves memory alone. -/
import Derived.Test.YtbneaihpnfkcdaaDoorL2Base
import Derived.Lib.ItoaMem
namespace Go.Proofs.YtbneaihpnfkcdaaDoor.L2
open Go.RowKit

/-- What is still to come of a numeral: the digits of r in front of t. -/
def fl (r : Nat) (t : List UInt8) : List UInt8 := if r = 0 ∧ t ≠ [] then t else Lib.decDigits r ++ t

def slen : Value → Nat
  | .string t => if t.size = 0 then 1 else 0
  | _ => 0

theorem fl_len (r : Nat) (t : List UInt8) : t.length ≤ (fl r t).length := by
  unfold fl
  split
  · exact Nat.le_refl _
  · rw [List.length_append]; omega

theorem dec_len : ∀ (n u : Nat), u < 10 ^ (n + 1) → (Lib.decDigits u).length ≤ n + 1
  | 0, u, h => by
    rw [Lib.decDigits, dif_pos (by simpa using h)]
    exact Nat.le_refl _
  | n + 1, u, h => by
    rw [Lib.decDigits]
    split
    · simp
    · have hd : u / 10 < 10 ^ (n + 1) := by
        have e : 10 ^ (n + 1 + 1) = 10 ^ (n + 1) * 10 := Nat.pow_succ 10 (n + 1)
        omega
      have := dec_len n (u / 10) hd
      rw [List.length_append]
      simp
      omega

theorem fl_step (r : Nat) (t : List UInt8) (c : UInt8) (hr : r ≠ 0 ∨ t = []) (hc : c = UInt8.ofNat (48 + r % 10)) : fl (r / 10) (c :: t) = fl r t := by
  subst hc
  have h1 : fl r t = Lib.decDigits r ++ t := by
    unfold fl
    rw [if_neg]
    rintro ⟨a, b⟩
    rcases hr with h | h
    · exact h a
    · exact b h
  rw [h1]
  unfold fl
  by_cases h10 : r < 10
  · rw [if_pos ⟨by omega, by simp⟩, Lib.decDigits, dif_pos h10, Nat.mod_eq_of_lt h10]
    rfl
  · rw [if_neg (by intro h; have := h.1; omega)]
    rw [Lib.decDigits.eq_1 r, dif_neg h10, List.append_assoc]
    rfl

theorem fl_nil (u : Nat) : fl u [] = Lib.decDigits u := by
  unfold fl; rw [if_neg (by simp), List.append_nil]

theorem dec_slice (d : Nat) (hd : d < 10) (w : World) :
    (Instr.slice 9 (.string ⟨#[48, 49, 50, 51, 52, 53, 54, 55, 56, 57]⟩) (some (.int .u64 (d : Int))) (some (.int .u64 ((d : Int) + 1))) none).run Tryd.prog w = .ok (.string ⟨#[UInt8.ofNat (48 + d)]⟩) w := by
  rcases (show d = 0 ∨ d = 1 ∨ d = 2 ∨ d = 3 ∨ d = 4 ∨ d = 5 ∨ d = 6 ∨ d = 7 ∨ d = 8 ∨ d = 9 by omega) with rfl | rfl | rfl | rfl | rfl | rfl | rfl | rfl | rfl | rfl <;> kernel_rfl

theorem size_list (t : ByteArray) : t.size = t.data.toList.length := by rw [Array.length_toList]; rfl

theorem app_list (c : UInt8) (t : ByteArray) : ((⟨#[c]⟩ : ByteArray) ++ t).data.toList = c :: t.data.toList := by simp

theorem app_eq (c : UInt8) (t : ByteArray) : ((⟨#[c]⟩ : ByteArray) ++ t) = ⟨(c :: t.data.toList).toArray⟩ := by
  have h := app_list c t
  cases hh : ((⟨#[c]⟩ : ByteArray) ++ t) with
  | mk a =>
    rw [hh] at h
    simp only at h
    rw [← h]

set_option maxHeartbeats 2000000 in
set_option maxRecDepth 100000 in
theorem rformat_any (x : Int) (w : World) (h0 : -9223372036854775808 ≤ x) (h1 : x ≤ 9223372036854775807) :
    Calls Tryd.prog 6 #[.int .i64 x] w fun e w' => e = .returned (.string ⟨(Lib.itoa x).toArray⟩) ∧ w = w' := by
  obtain ⟨u, hu⟩ : ∃ u : Nat, u = x.natAbs := ⟨_, rfl⟩
  have hub : u ≤ 9223372036854775808 := by omega
  by_cases hneg : x < 0
  · have HI : Hid (Lib.itoa x = 45 :: Lib.decDigits u) := Lib.hid (by rw [Lib.itoa, if_pos hneg, hu])
    have HW : Hid (IntKind.u64.wrap (-IntKind.u64.wrap x) = (u : Int)) := Lib.hid (by rw [IntKind.wrap_u64, IntKind.wrap_u64]; omega)
    clear hu
    go_enter Tryd.func6, Tryd.ntmps6
    go_wp2
    go_loop [4, 5] (fun r s => ∃ (k : Nat) (t : ByteArray), k ≤ u ∧ r = .int .u64 k ∧ s = .string t ∧ Hid (fl k t.data.toList = Lib.decDigits u)) (fun r s => (intOf r).toNat + slen s)
    case atStart => exact ⟨u, ⟨#[]⟩, Nat.le_refl _, by rw [HW.out], rfl, Lib.hid (fl_nil u)⟩
    case round =>
      obtain ⟨k, t, hk, rfl, rfl, hF⟩ := hrel
      have htl : t.size ≤ 20 := by
        have h1 := fl_len k t.data.toList
        rw [hF.out] at h1
        have h2 := dec_len 19 u (by omega)
        rw [size_list]
        omega
      by_cases hk0 : 0 < k
      · obtain ⟨c, hc⟩ : ∃ c : UInt8, c = UInt8.ofNat (48 + k % 10) := ⟨_, rfl⟩
        have hsl : ∀ w, (Instr.slice 9 (.string ⟨#[48, 49, 50, 51, 52, 53, 54, 55, 56, 57]⟩) (some (.int .u64 ((k : Int) % 10))) (some (.int .u64 ((k : Int) % 10 + 1))) none).run Tryd.prog w = .ok (.string ⟨#[c]⟩) w := fun w => by
          have := dec_slice (k % 10) (by omega) w
          rw [← hc] at this
          rwa [Int.natCast_emod] at this
        have HC := Lib.hid hc
        clear hc
        have hmx : ((1 : Nat) + t.size) ≤ maxLen := by unfold maxLen; omega
        go_wp2
        go_round
        case rel => exact ⟨k / 10, _, by omega, by go_num, rfl, Lib.hid (by rw [app_list, fl_step k _ _ (Or.inl (by omega)) HC.out]; exact hF.out)⟩
        case measure =>
          simp only [intOf, slen]
          have : ((⟨#[c]⟩ : ByteArray) ++ t).size ≠ 0 := by rw [size_list, app_list]; simp
          rw [if_neg this]
          omega
      · have hk00 : k = 0 := by omega
        subst hk00
        by_cases ht0 : t.data.toList = []
        · have e1 : t.toList = [] := by rw [Lib.toList_data]; exact ht0
          have e2 : t.toList.isEmpty = true := by rw [e1]; rfl
          have HT := Lib.hid ht0
          clear ht0
          go_wp2
          go_round
          case rel => exact ⟨0, _, by omega, rfl, rfl, Lib.hid (by rw [show (ByteArray.extract ⟨#[48, 49, 50, 51, 52, 53, 54, 55, 56, 57]⟩ 0 1) = ⟨#[48]⟩ from rfl, app_list, show (0 : Nat) = 0 / 10 from rfl, fl_step 0 _ 48 (Or.inr HT.out) rfl]; exact hF.out)⟩
          case measure =>
            simp only [intOf, slen]
            have h1 : (ByteArray.extract ⟨#[48, 49, 50, 51, 52, 53, 54, 55, 56, 57]⟩ 0 1 ++ t).size ≠ 0 := by
              rw [show (ByteArray.extract ⟨#[48, 49, 50, 51, 52, 53, 54, 55, 56, 57]⟩ 0 1) = ⟨#[48]⟩ from rfl, size_list, app_list]; simp
            have h2 : t.size = 0 := by rw [size_list, HT.out]; rfl
            rw [if_neg h1, if_pos h2]
            omega
        · have e2 : t.toList.isEmpty = false := by rw [Lib.toList_data]; simpa using ht0
          have hF' : t.data.toList = Lib.decDigits u := by
            have := hF.out
            unfold fl at this
            rwa [if_pos ⟨rfl, ht0⟩] at this
          have HG := Lib.hid hF'
          clear hF' ht0
          go_wp2
          go_ret
          refine ⟨?_, rfl⟩
          show Ending.returned (Value.string (⟨#[45]⟩ ++ t)) = _
          rw [HI.out, app_eq, HG.out]
  · have HI : Hid (Lib.itoa x = Lib.decDigits u) := Lib.hid (by rw [Lib.itoa, if_neg hneg, hu]; congr 1; omega)
    have HW : Hid (x = (u : Int)) := Lib.hid (by omega)
    clear hu
    go_enter Tryd.func6, Tryd.ntmps6
    go_wp2
    go_loop [4, 5] (fun r s => ∃ (k : Nat) (t : ByteArray), k ≤ u ∧ r = .int .u64 k ∧ s = .string t ∧ Hid (fl k t.data.toList = Lib.decDigits u)) (fun r s => (intOf r).toNat + slen s)
    case atStart => exact ⟨u, ⟨#[]⟩, Nat.le_refl _, by rw [← HW.out], rfl, Lib.hid (fl_nil u)⟩
    case round =>
      obtain ⟨k, t, hk, rfl, rfl, hF⟩ := hrel
      have htl : t.size ≤ 20 := by
        have h1 := fl_len k t.data.toList
        rw [hF.out] at h1
        have h2 := dec_len 19 u (by omega)
        rw [size_list]
        omega
      by_cases hk0 : 0 < k
      · obtain ⟨c, hc⟩ : ∃ c : UInt8, c = UInt8.ofNat (48 + k % 10) := ⟨_, rfl⟩
        have hsl : ∀ w, (Instr.slice 9 (.string ⟨#[48, 49, 50, 51, 52, 53, 54, 55, 56, 57]⟩) (some (.int .u64 ((k : Int) % 10))) (some (.int .u64 ((k : Int) % 10 + 1))) none).run Tryd.prog w = .ok (.string ⟨#[c]⟩) w := fun w => by
          have := dec_slice (k % 10) (by omega) w
          rw [← hc] at this
          rwa [Int.natCast_emod] at this
        have HC := Lib.hid hc
        clear hc
        have hmx : ((1 : Nat) + t.size) ≤ maxLen := by unfold maxLen; omega
        go_wp2
        go_round
        case rel => exact ⟨k / 10, _, by omega, by go_num, rfl, Lib.hid (by rw [app_list, fl_step k _ _ (Or.inl (by omega)) HC.out]; exact hF.out)⟩
        case measure =>
          simp only [intOf, slen]
          have : ((⟨#[c]⟩ : ByteArray) ++ t).size ≠ 0 := by rw [size_list, app_list]; simp
          rw [if_neg this]
          omega
      · have hk00 : k = 0 := by omega
        subst hk00
        by_cases ht0 : t.data.toList = []
        · have e1 : t.toList = [] := by rw [Lib.toList_data]; exact ht0
          have e2 : t.toList.isEmpty = true := by rw [e1]; rfl
          have HT := Lib.hid ht0
          clear ht0
          go_wp2
          go_round
          case rel => exact ⟨0, _, by omega, rfl, rfl, Lib.hid (by rw [show (ByteArray.extract ⟨#[48, 49, 50, 51, 52, 53, 54, 55, 56, 57]⟩ 0 1) = ⟨#[48]⟩ from rfl, app_list, show (0 : Nat) = 0 / 10 from rfl, fl_step 0 _ 48 (Or.inr HT.out) rfl]; exact hF.out)⟩
          case measure =>
            simp only [intOf, slen]
            have h1 : (ByteArray.extract ⟨#[48, 49, 50, 51, 52, 53, 54, 55, 56, 57]⟩ 0 1 ++ t).size ≠ 0 := by
              rw [show (ByteArray.extract ⟨#[48, 49, 50, 51, 52, 53, 54, 55, 56, 57]⟩ 0 1) = ⟨#[48]⟩ from rfl, size_list, app_list]; simp
            have h2 : t.size = 0 := by rw [size_list, HT.out]; rfl
            rw [if_neg h1, if_pos h2]
            omega
        · have e2 : t.toList.isEmpty = false := by rw [Lib.toList_data]; simpa using ht0
          have hF' : t.data.toList = Lib.decDigits u := by
            have := hF.out
            unfold fl at this
            rwa [if_pos ⟨rfl, ht0⟩] at this
          have HG := Lib.hid hF'
          clear hF' ht0
          go_wp2
          go_ret
          refine ⟨?_, rfl⟩
          show Ending.returned (Value.string t) = _
          rw [HI.out, ← HG.out]
end Go.Proofs.YtbneaihpnfkcdaaDoor.L2
