/- What the reference's functions of the layers below return: Format, Word, Register, Name, Valid. A text's length is within the greatest int; no other condition. -/
import Derived.Test.YtflegdijmkacdaaBase
import Derived.Laws.Strings
import Derived.Laws.Externs
import Derived.Lib.ItoaMem
namespace Go.Proofs.Ytflegdijmkacdaa.L2
open Go.RowKit

theorem ret_int {k : IntKind} {a b : Int} (h : a = b) : Ending.returned (.int k a) = .returned (.int k b) := by rw [h]
theorem ret_bool {a b : Bool} (h : a = b) : Ending.returned (.bool a) = .returned (.bool b) := by rw [h]

/-- Is it a digit? -/
def dgt (r : Int) : Bool := decide (48 ≤ r) && decide (r ≤ 57)

/-- Is it a word character? -/
def wch (r : Int) : Bool := (decide (65 ≤ r) && decide (r ≤ 90)) || (decide (97 ≤ r) && decide (r ≤ 122)) || dgt r || r == 95 || r == 46

set_option maxHeartbeats 1000000 in
set_option maxRecDepth 100000 in
theorem in_any (c : Int) (w : World) : Calls Try.prog 35 #[.int .u8 c] w fun e w' => e = .returned (.bool (wch c)) ∧ w = w' := by
  go_enter Try.func35, Try.ntmps35
  go_wp2
  all_goals
    go_ret
    exact ⟨ret_bool (by rw [Bool.eq_iff_iff]; simp [wch, dgt]; try omega), rfl⟩

theorem in_at (c : Int) (b : Bool) (w : World) (h : wch c = b) : Calls Try.prog 35 #[.int .u8 c] w fun e w' => e = .returned (.bool b) ∧ w = w' := by
  subst h; exact in_any c w

/-- How many word characters it begins with. -/
def wn : List UInt8 → Nat
  | [] => 0
  | c :: r => if wch (c.toNat : Int) then wn r + 1 else 0

theorem wn_le : ∀ l : List UInt8, wn l ≤ l.length
  | [] => Nat.le_refl _
  | c :: r => by
    have := wn_le r
    simp only [wn, List.length_cons]
    split <;> omega

theorem drop_at (t : ByteArray) (pos : Nat) (h : pos < t.size) : t.data.toList.drop pos = t[pos] :: t.data.toList.drop (pos + 1) := by
  rw [List.drop_eq_getElem_cons (by simpa using h)]; rfl

set_option maxHeartbeats 1000000 in
set_option maxRecDepth 100000 in
theorem rword_any (s : ByteArray) (w : World) (hs : s.size ≤ 9223372036854775807) : Calls Try.prog 33 #[.string s] w fun e w' => e = .returned (.int .i64 (wn s.data.toList)) ∧ w = w' := by
  go_enter Try.func33, Try.ntmps33
  go_wp2
  go_loop [3] (fun i => ∃ pos : Nat, i = .int .i64 pos ∧ pos ≤ s.size ∧ Hid (pos + wn (s.data.toList.drop pos) = wn s.data.toList)) (fun i => s.size - (intOf i).toNat)
  case atStart => exact ⟨0, rfl, Nat.zero_le _, Lib.hid (by simp)⟩
  case round =>
    obtain ⟨pos, rfl, hp, hR⟩ := hrel
    by_cases hlt : pos < s.size
    · have HE := Lib.hid (drop_at s pos hlt)
      cases hc : wch ((s[pos]'hlt).toNat : Int) with
      | true =>
        have HC := Lib.hid hc
        clear hc
        go_wp2_with (go_at_call 35; ((with_reducible refine (in_at _ true _ HC.out).mono ?_); rintro e w' ⟨rfl, rfl⟩))
        go_round
        case rel =>
          refine ⟨pos + 1, by go_num, by omega, Lib.hid ?_⟩
          have := hR.out
          rw [HE.out] at this
          simp only [wn, HC.out, if_true] at this
          omega
        case measure => simp [intOf]; omega
      | false =>
        have HC := Lib.hid hc
        clear hc
        go_wp2_with (go_at_call 35; ((with_reducible refine (in_at _ false _ HC.out).mono ?_); rintro e w' ⟨rfl, rfl⟩))
        go_ret
        refine ⟨ret_int ?_, rfl⟩
        have := hR.out
        rw [HE.out] at this
        simp only [wn, HC.out] at this
        simp only [Bool.false_eq_true, if_false] at this
        omega
    · go_wp2
      go_ret
      refine ⟨ret_int ?_, rfl⟩
      have := hR.out
      rw [List.drop_eq_nil_of_le (by simp; omega)] at this
      simp only [wn] at this
      omega

theorem rword_at (s : ByteArray) (n : Int) (w : World) (hs : s.size ≤ 9223372036854775807) (h : (wn s.data.toList : Int) = n) : Calls Try.prog 33 #[.string s] w fun e w' => e = .returned (.int .i64 n) ∧ w = w' := by
  subst h; exact rword_any s w hs

/-- What is still to come of a numeral: the digits of r in front of t. -/
def fl (r : Nat) (t : List UInt8) : List UInt8 := if r = 0 ∧ t ≠ [] then t else Lib.decDigits r ++ t

def slen : Value → Nat
  | .string t => if t.size = 0 then 1 else 0
  | _ => 0

theorem fl_len (r : Nat) (t : List UInt8) : t.length ≤ (fl r t).length := by
  unfold fl
  split
  · exact Nat.le_refl _
  · rw [List.length_append]; omega

theorem dec_len : ∀ (n u : Nat), u < 10 ^ (n + 1) → (Lib.decDigits u).length ≤ n + 1
  | 0, u, h => by
    rw [Lib.decDigits, dif_pos (by simpa using h)]
    exact Nat.le_refl _
  | n + 1, u, h => by
    rw [Lib.decDigits]
    split
    · simp
    · have hd : u / 10 < 10 ^ (n + 1) := by
        have e : 10 ^ (n + 1 + 1) = 10 ^ (n + 1) * 10 := Nat.pow_succ 10 (n + 1)
        omega
      have := dec_len n (u / 10) hd
      rw [List.length_append]
      simp
      omega

theorem fl_step (r : Nat) (t : List UInt8) (c : UInt8) (hr : r ≠ 0 ∨ t = []) (hc : c = UInt8.ofNat (48 + r % 10)) : fl (r / 10) (c :: t) = fl r t := by
  subst hc
  have h1 : fl r t = Lib.decDigits r ++ t := by
    unfold fl
    rw [if_neg]
    rintro ⟨a, b⟩
    rcases hr with h | h
    · exact h a
    · exact b h
  rw [h1]
  unfold fl
  by_cases h10 : r < 10
  · rw [if_pos ⟨by omega, by simp⟩, Lib.decDigits, dif_pos h10, Nat.mod_eq_of_lt h10]
    rfl
  · rw [if_neg (by intro h; have := h.1; omega)]
    rw [Lib.decDigits.eq_1 r, dif_neg h10, List.append_assoc]
    rfl

theorem fl_nil (u : Nat) : fl u [] = Lib.decDigits u := by
  unfold fl; rw [if_neg (by simp), List.append_nil]

theorem dec_slice (d : Nat) (hd : d < 10) (w : World) :
    (Instr.slice 9 (.string ⟨#[48, 49, 50, 51, 52, 53, 54, 55, 56, 57]⟩) (some (.int .u64 (d : Int))) (some (.int .u64 ((d : Int) + 1))) none).run Try.prog w = .ok (.string ⟨#[UInt8.ofNat (48 + d)]⟩) w := by
  rcases (show d = 0 ∨ d = 1 ∨ d = 2 ∨ d = 3 ∨ d = 4 ∨ d = 5 ∨ d = 6 ∨ d = 7 ∨ d = 8 ∨ d = 9 by omega) with rfl | rfl | rfl | rfl | rfl | rfl | rfl | rfl | rfl | rfl <;> kernel_rfl

theorem size_list (t : ByteArray) : t.size = t.data.toList.length := by rw [Array.length_toList]; rfl

theorem app_list (c : UInt8) (t : ByteArray) : ((⟨#[c]⟩ : ByteArray) ++ t).data.toList = c :: t.data.toList := by simp

theorem app_eq (c : UInt8) (t : ByteArray) : ((⟨#[c]⟩ : ByteArray) ++ t) = ⟨(c :: t.data.toList).toArray⟩ := by
  have h := app_list c t
  cases hh : ((⟨#[c]⟩ : ByteArray) ++ t) with
  | mk a =>
    rw [hh] at h
    simp only at h
    rw [← h]

set_option maxHeartbeats 2000000 in
set_option maxRecDepth 100000 in
theorem rformat_any (x : Int) (w : World) (h0 : -9223372036854775808 ≤ x) (h1 : x ≤ 9223372036854775807) :
    Calls Try.prog 36 #[.int .i64 x] w fun e w' => e = .returned (.string ⟨(Lib.itoa x).toArray⟩) ∧ w = w' := by
  obtain ⟨u, hu⟩ : ∃ u : Nat, u = x.natAbs := ⟨_, rfl⟩
  have hub : u ≤ 9223372036854775808 := by omega
  by_cases hneg : x < 0
  · have HI : Hid (Lib.itoa x = 45 :: Lib.decDigits u) := Lib.hid (by rw [Lib.itoa, if_pos hneg, hu])
    have HW : Hid (IntKind.u64.wrap (-IntKind.u64.wrap x) = (u : Int)) := Lib.hid (by rw [IntKind.wrap_u64, IntKind.wrap_u64]; omega)
    clear hu
    go_enter Try.func36, Try.ntmps36
    go_wp2
    go_loop [4, 5] (fun r s => ∃ (k : Nat) (t : ByteArray), k ≤ u ∧ r = .int .u64 k ∧ s = .string t ∧ Hid (fl k t.data.toList = Lib.decDigits u)) (fun r s => (intOf r).toNat + slen s)
    case atStart => exact ⟨u, ⟨#[]⟩, Nat.le_refl _, by rw [HW.out], rfl, Lib.hid (fl_nil u)⟩
    case round =>
      obtain ⟨k, t, hk, rfl, rfl, hF⟩ := hrel
      have htl : t.size ≤ 20 := by
        have h1 := fl_len k t.data.toList
        rw [hF.out] at h1
        have h2 := dec_len 19 u (by omega)
        rw [size_list]
        omega
      by_cases hk0 : 0 < k
      · obtain ⟨c, hc⟩ : ∃ c : UInt8, c = UInt8.ofNat (48 + k % 10) := ⟨_, rfl⟩
        have hsl : ∀ w, (Instr.slice 9 (.string ⟨#[48, 49, 50, 51, 52, 53, 54, 55, 56, 57]⟩) (some (.int .u64 ((k : Int) % 10))) (some (.int .u64 ((k : Int) % 10 + 1))) none).run Try.prog w = .ok (.string ⟨#[c]⟩) w := fun w => by
          have := dec_slice (k % 10) (by omega) w
          rw [← hc] at this
          rwa [Int.natCast_emod] at this
        have HC := Lib.hid hc
        clear hc
        have hmx : ((1 : Nat) + t.size) ≤ maxLen := by unfold maxLen; omega
        go_wp2
        go_round
        case rel => exact ⟨k / 10, _, by omega, by go_num, rfl, Lib.hid (by rw [app_list, fl_step k _ _ (Or.inl (by omega)) HC.out]; exact hF.out)⟩
        case measure =>
          simp only [intOf, slen]
          have : ((⟨#[c]⟩ : ByteArray) ++ t).size ≠ 0 := by rw [size_list, app_list]; simp
          rw [if_neg this]
          omega
      · have hk00 : k = 0 := by omega
        subst hk00
        by_cases ht0 : t.data.toList = []
        · have e1 : t.toList = [] := by rw [Lib.toList_data]; exact ht0
          have e2 : t.toList.isEmpty = true := by rw [e1]; rfl
          have HT := Lib.hid ht0
          clear ht0
          go_wp2
          go_round
          case rel => exact ⟨0, _, by omega, rfl, rfl, Lib.hid (by rw [show (ByteArray.extract ⟨#[48, 49, 50, 51, 52, 53, 54, 55, 56, 57]⟩ 0 1) = ⟨#[48]⟩ from rfl, app_list, show (0 : Nat) = 0 / 10 from rfl, fl_step 0 _ 48 (Or.inr HT.out) rfl]; exact hF.out)⟩
          case measure =>
            simp only [intOf, slen]
            have h1 : (ByteArray.extract ⟨#[48, 49, 50, 51, 52, 53, 54, 55, 56, 57]⟩ 0 1 ++ t).size ≠ 0 := by
              rw [show (ByteArray.extract ⟨#[48, 49, 50, 51, 52, 53, 54, 55, 56, 57]⟩ 0 1) = ⟨#[48]⟩ from rfl, size_list, app_list]; simp
            have h2 : t.size = 0 := by rw [size_list, HT.out]; rfl
            rw [if_neg h1, if_pos h2]
            omega
        · have e2 : t.toList.isEmpty = false := by rw [Lib.toList_data]; simpa using ht0
          have hF' : t.data.toList = Lib.decDigits u := by
            have := hF.out
            unfold fl at this
            rwa [if_pos ⟨rfl, ht0⟩] at this
          have HG := Lib.hid hF'
          clear hF' ht0
          go_wp2
          go_ret
          refine ⟨?_, rfl⟩
          show Ending.returned (Value.string (⟨#[45]⟩ ++ t)) = _
          rw [HI.out, app_eq, HG.out]
  · have HI : Hid (Lib.itoa x = Lib.decDigits u) := Lib.hid (by rw [Lib.itoa, if_neg hneg, hu]; congr 1; omega)
    have HW : Hid (x = (u : Int)) := Lib.hid (by omega)
    clear hu
    go_enter Try.func36, Try.ntmps36
    go_wp2
    go_loop [4, 5] (fun r s => ∃ (k : Nat) (t : ByteArray), k ≤ u ∧ r = .int .u64 k ∧ s = .string t ∧ Hid (fl k t.data.toList = Lib.decDigits u)) (fun r s => (intOf r).toNat + slen s)
    case atStart => exact ⟨u, ⟨#[]⟩, Nat.le_refl _, by rw [← HW.out], rfl, Lib.hid (fl_nil u)⟩
    case round =>
      obtain ⟨k, t, hk, rfl, rfl, hF⟩ := hrel
      have htl : t.size ≤ 20 := by
        have h1 := fl_len k t.data.toList
        rw [hF.out] at h1
        have h2 := dec_len 19 u (by omega)
        rw [size_list]
        omega
      by_cases hk0 : 0 < k
      · obtain ⟨c, hc⟩ : ∃ c : UInt8, c = UInt8.ofNat (48 + k % 10) := ⟨_, rfl⟩
        have hsl : ∀ w, (Instr.slice 9 (.string ⟨#[48, 49, 50, 51, 52, 53, 54, 55, 56, 57]⟩) (some (.int .u64 ((k : Int) % 10))) (some (.int .u64 ((k : Int) % 10 + 1))) none).run Try.prog w = .ok (.string ⟨#[c]⟩) w := fun w => by
          have := dec_slice (k % 10) (by omega) w
          rw [← hc] at this
          rwa [Int.natCast_emod] at this
        have HC := Lib.hid hc
        clear hc
        have hmx : ((1 : Nat) + t.size) ≤ maxLen := by unfold maxLen; omega
        go_wp2
        go_round
        case rel => exact ⟨k / 10, _, by omega, by go_num, rfl, Lib.hid (by rw [app_list, fl_step k _ _ (Or.inl (by omega)) HC.out]; exact hF.out)⟩
        case measure =>
          simp only [intOf, slen]
          have : ((⟨#[c]⟩ : ByteArray) ++ t).size ≠ 0 := by rw [size_list, app_list]; simp
          rw [if_neg this]
          omega
      · have hk00 : k = 0 := by omega
        subst hk00
        by_cases ht0 : t.data.toList = []
        · have e1 : t.toList = [] := by rw [Lib.toList_data]; exact ht0
          have e2 : t.toList.isEmpty = true := by rw [e1]; rfl
          have HT := Lib.hid ht0
          clear ht0
          go_wp2
          go_round
          case rel => exact ⟨0, _, by omega, rfl, rfl, Lib.hid (by rw [show (ByteArray.extract ⟨#[48, 49, 50, 51, 52, 53, 54, 55, 56, 57]⟩ 0 1) = ⟨#[48]⟩ from rfl, app_list, show (0 : Nat) = 0 / 10 from rfl, fl_step 0 _ 48 (Or.inr HT.out) rfl]; exact hF.out)⟩
          case measure =>
            simp only [intOf, slen]
            have h1 : (ByteArray.extract ⟨#[48, 49, 50, 51, 52, 53, 54, 55, 56, 57]⟩ 0 1 ++ t).size ≠ 0 := by
              rw [show (ByteArray.extract ⟨#[48, 49, 50, 51, 52, 53, 54, 55, 56, 57]⟩ 0 1) = ⟨#[48]⟩ from rfl, size_list, app_list]; simp
            have h2 : t.size = 0 := by rw [size_list, HT.out]; rfl
            rw [if_neg h1, if_pos h2]
            omega
        · have e2 : t.toList.isEmpty = false := by rw [Lib.toList_data]; simpa using ht0
          have hF' : t.data.toList = Lib.decDigits u := by
            have := hF.out
            unfold fl at this
            rwa [if_pos ⟨rfl, ht0⟩] at this
          have HG := Lib.hid hF'
          clear hF' ht0
          go_wp2
          go_ret
          refine ⟨?_, rfl⟩
          show Ending.returned (Value.string t) = _
          rw [HI.out, ← HG.out]

def regL : List ByteArray := [⟨#[114, 48]⟩, ⟨#[114, 49]⟩, ⟨#[114, 50]⟩, ⟨#[114, 51]⟩, ⟨#[114, 52]⟩, ⟨#[114, 53]⟩, ⟨#[114, 54]⟩, ⟨#[114, 55]⟩, ⟨#[114, 56]⟩, ⟨#[114, 57]⟩, ⟨#[114, 49, 48]⟩]

/-- The name of a register, or the empty text. -/
def regS (k : Nat) : ByteArray := regL.getD k ⟨#[]⟩

theorem txt_ne {a b : ByteArray} (h : ¬ a = b) : (a.toList == b.toList) = false := by
  rw [Lib.toList_data, Lib.toList_data, beq_eq_false_iff_ne]
  intro e
  apply h
  cases a; cases b
  simp only [ByteArray.mk.injEq]
  exact Array.toList_inj.1 e

theorem txt_eq {a b : ByteArray} (h : a = b) : (a.toList == b.toList) = true := by
  rw [h]; exact beq_self_eq_true _

/-- The number of the register with a name, from number k on, n of them at most. -/
def rgFrom : Nat → Nat → ByteArray → Nat × Bool
  | 0, _, _ => (0, false)
  | n + 1, k, s => if regS k = s then (k, true) else rgFrom n (k + 1) s

def rg (s : ByteArray) : Nat × Bool := rgFrom 11 0 s

/-- The name of register n, or the empty text. -/
def nmS (n : Int) : ByteArray := if 0 ≤ n ∧ n < 11 then regS n.toNat else ⟨#[]⟩

theorem itoa_len (n : Nat) (hn : n < 10 ^ 11) : (Lib.itoa n).length ≤ 11 := by
  have : Lib.itoa n = Lib.decDigits n := by rw [Lib.itoa, if_neg (by omega)]; rfl
  rw [this]
  exact dec_len 10 n hn

theorem regS_itoa (k : Nat) (hk : k < 11) : (⟨(114 :: Lib.itoa k).toArray⟩ : ByteArray) = regS k := by
  have : Lib.itoa k = Lib.decDigits k := by rw [Lib.itoa, if_neg (by omega)]; rfl
  rw [this]
  by_cases h : k < 10
  · rw [Lib.decDigits_one h]
    rcases (show k = 0 ∨ k = 1 ∨ k = 2 ∨ k = 3 ∨ k = 4 ∨ k = 5 ∨ k = 6 ∨ k = 7 ∨ k = 8 ∨ k = 9 by omega) with rfl | rfl | rfl | rfl | rfl | rfl | rfl | rfl | rfl | rfl <;> rfl
  · obtain rfl : k = 10 := by omega
    rw [Lib.decDigits_two (by omega) (by omega)]
    rfl

theorem rformat_at (x : Int) (t : ByteArray) (w : World) (h0 : -9223372036854775808 ≤ x) (h1 : x ≤ 9223372036854775807) (h : t = ⟨(Lib.itoa x).toArray⟩) :
    Calls Try.prog 36 #[.int .i64 x] w fun e w' => e = .returned (.string t) ∧ w = w' := by
  subst h; exact rformat_any x w h0 h1

set_option maxRecDepth 100000 in
theorem rname_any (n : Int) (w : World) : Calls Try.prog 34 #[.int .i64 n] w fun e w' => e = .returned (.string (nmS n)) ∧ w = w' := by
  by_cases h0 : n < 0
  · have HN : Hid (nmS n = ⟨#[]⟩) := Lib.hid (by rw [nmS, if_neg (by omega)])
    go_enter Try.func34, Try.ntmps34
    go_wp2
    go_ret
    exact ⟨by rw [HN.out] <;> rfl, rfl⟩
  · by_cases h1 : n < 11
    · obtain ⟨k, rfl⟩ : ∃ k : Nat, n = k := ⟨n.toNat, by omega⟩
      obtain ⟨t, ht⟩ : ∃ t : ByteArray, t = ⟨(Lib.itoa k).toArray⟩ := ⟨_, rfl⟩
      have HN : Hid ((⟨#[114]⟩ : ByteArray) ++ t = nmS k) := Lib.hid (by
        rw [nmS, if_pos (by omega), app_eq, ht]
        exact regS_itoa k (by omega))
      have hl : t.size ≤ 11 := by
        rw [size_list, ht]
        exact itoa_len k (by omega)
      have HT := Lib.hid ht
      have hmx : ((1 : Nat) + t.size) ≤ maxLen := by unfold maxLen; omega
      have hmx2 : ((1 : Nat) + t.size) ≤ 9223372036854775807 := by omega
      clear h0 ht hl
      go_enter Try.func34, Try.ntmps34
      go_wp2_with (go_at_call 36; ((with_reducible refine (rformat_at _ t _ (by omega) (by omega) HT.out).mono ?_); rintro e w' ⟨rfl, rfl⟩))
      go_ret
      exact ⟨by rw [HN.out] <;> rfl, rfl⟩
    · have HN : Hid (nmS n = ⟨#[]⟩) := Lib.hid (by rw [nmS, if_neg (by omega)])
      go_enter Try.func34, Try.ntmps34
      go_wp2
      go_ret
      exact ⟨by rw [HN.out] <;> rfl, rfl⟩

theorem rname_at (n : Int) (t : ByteArray) (w : World) (h : nmS n = t) : Calls Try.prog 34 #[.int .i64 n] w fun e w' => e = .returned (.string t) ∧ w = w' := by
  subst h; exact rname_any n w

set_option maxHeartbeats 1000000 in
set_option maxRecDepth 100000 in
theorem rregister_any (s : ByteArray) (w : World) : Calls Try.prog 32 #[.string s] w fun e w' => e = .returned (.tuple #[.int .i64 ((rg s).1 : Int), .bool (rg s).2]) ∧ w = w' := by
  go_enter Try.func32, Try.ntmps32
  go_wp2
  go_loop [4] (fun i => ∃ k : Nat, i = .int .i64 k ∧ k ≤ 11 ∧ Hid (rgFrom (11 - k) k s = rg s)) (fun i => 11 - (intOf i).toNat)
  case atStart => exact ⟨0, rfl, Nat.zero_le _, Lib.hid rfl⟩
  case round =>
    obtain ⟨k, rfl, hk, hR⟩ := hrel
    by_cases hlt : k < 11
    · have hsub : 11 - k = (11 - (k + 1)) + 1 := by omega
      have hle : k ≤ 10 := by omega
      have HN : Hid (nmS k = regS k) := Lib.hid (by rw [nmS, if_pos (by omega)]; rfl)
      by_cases he : s = regS k
      · have HR : Hid (rg s = (k, true)) := Lib.hid (by rw [← hR.out, hsub, rgFrom, if_pos he.symm])
        have he2 := txt_eq he
        clear he
        go_wp2_with (go_at_call 34; ((with_reducible refine (rname_at _ _ _ HN.out).mono ?_); rintro e w' ⟨rfl, rfl⟩))
        go_ret2
        exact ⟨by rw [HR.out] <;> rfl, rfl⟩
      · have HR : Hid (rgFrom (11 - (k + 1)) (k + 1) s = rg s) := Lib.hid (by rw [← hR.out, hsub, rgFrom, if_neg (fun h => he h.symm)])
        have he2 := txt_ne he
        go_wp2_with (go_at_call 34; ((with_reducible refine (rname_at _ _ _ HN.out).mono ?_); rintro e w' ⟨rfl, rfl⟩))
        go_round
        case rel => exact ⟨k + 1, by go_num, by omega, HR⟩
        case measure => simp [intOf]; omega
    · have HR : Hid (rg s = (0, false)) := Lib.hid (by rw [← hR.out, show 11 - k = 0 by omega]; rfl)
      go_wp2
      go_ret2
      exact ⟨by rw [HR.out] <;> rfl, rfl⟩

theorem rregister_at (s : ByteArray) (n : Int) (b : Bool) (w : World) (h1 : ((rg s).1 : Int) = n) (h2 : (rg s).2 = b) : Calls Try.prog 32 #[.string s] w fun e w' => e = .returned (.tuple #[.int .i64 n, .bool b]) ∧ w = w' := by
  subst h1; subst h2; exact rregister_any s w

/-- Does it begin with a digit? -/
def d0 : List UInt8 → Bool
  | [] => false
  | c :: _ => dgt (c.toNat : Int)

/-- Is it an identifier? -/
def vd (s : ByteArray) : Bool := decide (1 ≤ s.size) && decide (s.size ≤ 32) && !d0 s.data.toList && !(rg s).2 && decide (wn s.data.toList = s.size)

theorem first_at (s : ByteArray) (h : 0 < s.size) : d0 s.data.toList = dgt ((s[0]'h).toNat : Int) := by
  have := drop_at s 0 h
  rw [List.drop_zero] at this
  rw [this]
  rfl

set_option maxHeartbeats 2000000 in
set_option maxRecDepth 100000 in
theorem rvalid_any (s : ByteArray) (w : World) (hs : s.size ≤ 9223372036854775807) : Calls Try.prog 23 #[.string s] w fun e w' => e = .returned (.bool (vd s)) ∧ w = w' := by
  obtain ⟨n, hn⟩ : ∃ n : Int, ((rg s).1 : Int) = n := ⟨_, rfl⟩
  obtain ⟨r, hr⟩ : ∃ r : Bool, (rg s).2 = r := ⟨_, rfl⟩
  obtain ⟨m, hm⟩ : ∃ m : Nat, m = wn s.data.toList := ⟨_, rfl⟩
  have HG := Lib.hid hn
  have HR := Lib.hid hr
  have HM : Hid ((wn s.data.toList : Int) = (m : Int)) := Lib.hid (by rw [hm])
  by_cases h0 : s.size = 0
  · have HV : Hid (vd s = false) := Lib.hid (by simp [vd, h0])
    have f1 : decide ((1 : Int) ≤ (s.size : Int)) = false := by rw [decide_eq_false_iff_not]; omega
    clear hn hr hm
    go_enter Try.func23, Try.ntmps23
    go_wp2_with (go_at_call 32; ((with_reducible refine (rregister_at s n r _ HG.out HR.out).mono ?_); rintro e w' ⟨rfl, rfl⟩))
    go_ret
    exact ⟨by rw [HV.out] <;> rfl, rfl⟩
  · have hp : 0 < s.size := by omega
    have f1 : decide ((1 : Int) ≤ (s.size : Int)) = true := by rw [decide_eq_true_iff]; omega
    have e1 : decide (1 ≤ s.size) = true := by rw [decide_eq_true_iff]; omega
    by_cases h1 : 32 < s.size
    · have HV : Hid (vd s = false) := Lib.hid (by
        rw [vd, show decide (s.size ≤ 32) = false from by simp; omega]; simp)
      have f2 : decide ((s.size : Int) ≤ (32 : Int)) = false := by rw [decide_eq_false_iff_not]; omega
      clear hn hr hm
      go_enter Try.func23, Try.ntmps23
      go_wp2_with (go_at_call 32; ((with_reducible refine (rregister_at s n r _ HG.out HR.out).mono ?_); rintro e w' ⟨rfl, rfl⟩))
      go_ret
      exact ⟨by rw [HV.out] <;> rfl, rfl⟩
    · have f2 : decide ((s.size : Int) ≤ (32 : Int)) = true := by rw [decide_eq_true_iff]; omega
      have e2 : decide (s.size ≤ 32) = true := by rw [decide_eq_true_iff]; omega
      by_cases hms : m = s.size
      · obtain ⟨a, ha⟩ : ∃ a : Bool, decide ((48 : Int) ≤ ((s[0]'hp).toNat : Int)) = a := ⟨_, rfl⟩
        obtain ⟨b, hb⟩ : ∃ b : Bool, decide (((s[0]'hp).toNat : Int) ≤ 57) = b := ⟨_, rfl⟩
        have HV : Hid (vd s = (!(a && b) && !r)) := Lib.hid (by rw [vd, hr, first_at s hp, dgt, ha, hb, e1, e2, ← hm, hms]; simp)
        have f3 : ((m : Int) == (s.size : Int)) = true := by rw [beq_iff_eq, hms]
        clear hn hr hm e1 e2 hms
        cases a <;> cases b <;> cases r
        all_goals
          go_enter Try.func23, Try.ntmps23
          go_wp2_with (first | (go_at_call 32; ((with_reducible refine (rregister_at s n _ _ HG.out HR.out).mono ?_); rintro e w' ⟨rfl, rfl⟩)) | (go_at_call 33; ((with_reducible refine (rword_at s m _ hs HM.out).mono ?_); rintro e w' ⟨rfl, rfl⟩)))
          go_ret
          exact ⟨by rw [HV.out] <;> rfl, rfl⟩
      · have HV : Hid (vd s = false) := Lib.hid (by rw [vd, ← hm, show decide (m = s.size) = false from by simpa using hms]; simp)
        have f3 : ((m : Int) == (s.size : Int)) = false := by rw [beq_eq_false_iff_ne]; omega
        clear hn hr hm e1 e2
        go_enter Try.func23, Try.ntmps23
        go_wp2_with (first | (go_at_call 32; ((with_reducible refine (rregister_at s n _ _ HG.out HR.out).mono ?_); rintro e w' ⟨rfl, rfl⟩)) | (go_at_call 33; ((with_reducible refine (rword_at s m _ hs HM.out).mono ?_); rintro e w' ⟨rfl, rfl⟩)))
        go_ret
        exact ⟨by rw [HV.out] <;> rfl, rfl⟩

theorem rvalid_at (s : ByteArray) (b : Bool) (w : World) (hs : s.size ≤ 9223372036854775807) (h : vd s = b) : Calls Try.prog 23 #[.string s] w fun e w' => e = .returned (.bool b) ∧ w = w' := by
  subst h; exact rvalid_any s w hs
end Go.Proofs.Ytflegdijmkacdaa.L2
