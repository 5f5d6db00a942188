/- What Register and Name return, the program's and the reference's, where the table of names reads as the program's text lays it. -/
import Derived.Test.YtbneaihpnfkcdaaDoorL2Rformat
namespace Go.Proofs.YtbneaihpnfkcdaaDoor.L2
open Go.RowKit

def regL : List ByteArray := [⟨#[114, 48]⟩, ⟨#[114, 49]⟩, ⟨#[114, 50]⟩, ⟨#[114, 51]⟩, ⟨#[114, 52]⟩, ⟨#[114, 53]⟩, ⟨#[114, 54]⟩, ⟨#[114, 55]⟩, ⟨#[114, 56]⟩, ⟨#[114, 57]⟩, ⟨#[114, 49, 48]⟩]

/-- The name of a register, or the empty text. -/
def regS (k : Nat) : ByteArray := regL.getD k ⟨#[]⟩

abbrev regC : Array Value := #[.string ⟨#[114, 48]⟩, .string ⟨#[114, 49]⟩, .string ⟨#[114, 50]⟩, .string ⟨#[114, 51]⟩, .string ⟨#[114, 52]⟩, .string ⟨#[114, 53]⟩, .string ⟨#[114, 54]⟩, .string ⟨#[114, 55]⟩, .string ⟨#[114, 56]⟩, .string ⟨#[114, 57]⟩, .string ⟨#[114, 49, 48]⟩]

/-- Block 0 is the table of names. -/
def Regs (w : World) : Prop := ∃ t fr, w.heap[0]? = some (.cells regC t fr)

theorem reg_index (k : Nat) (hk : k < 11) (w : World) : (Instr.index 48 (.agg regC) (.int .i64 (k : Int))).run Tryd.prog w = .ok (.string (regS k)) w := by
  rcases (show k = 0 ∨ k = 1 ∨ k = 2 ∨ k = 3 ∨ k = 4 ∨ k = 5 ∨ k = 6 ∨ k = 7 ∨ k = 8 ∨ k = 9 ∨ k = 10 by omega) with rfl | rfl | rfl | rfl | rfl | rfl | rfl | rfl | rfl | rfl | rfl <;> kernel_rfl

theorem txt_ne {a b : ByteArray} (h : ¬ a = b) : (a.toList == b.toList) = false := by
  rw [Lib.toList_data, Lib.toList_data, beq_eq_false_iff_ne]
  intro e
  apply h
  cases a; cases b
  simp only [ByteArray.mk.injEq]
  exact Array.toList_inj.1 e

theorem txt_eq {a b : ByteArray} (h : a = b) : (a.toList == b.toList) = true := by
  rw [h]; exact beq_self_eq_true _

/-- The number of the register with a name, from number k on, n of them at most. -/
def rgFrom : Nat → Nat → ByteArray → Nat × Bool
  | 0, _, _ => (0, false)
  | n + 1, k, s => if regS k = s then (k, true) else rgFrom n (k + 1) s

def rg (s : ByteArray) : Nat × Bool := rgFrom 11 0 s

set_option maxHeartbeats 1000000 in
set_option maxRecDepth 100000 in
theorem register_any (s : ByteArray) (w : World) (hw : Regs w) : Calls Tryd.prog 84 #[.string s] w fun e w' => e = .returned (.tuple #[.int .i64 ((rg s).1 : Int), .bool (rg s).2]) ∧ w = w' := by
  obtain ⟨t, fr, hg⟩ := hw
  obtain ⟨C, hC⟩ : ∃ C, C = regC := ⟨_, rfl⟩
  rw [← hC] at hg
  have HC := Lib.hid hC
  clear hC
  go_enter Tryd.func84, Tryd.ntmps84
  go_wp2_with (refine wpList_load_row rfl 48 _ rfl 0 rfl t _ fr _ hg Tryd.underlying48 rfl (by rw [HC.out]; kernel_rfl) ?_)
  go_loop [7] (fun i => ∃ k : Nat, i = .int .i64 k ∧ k ≤ 11 ∧ Hid (rgFrom (11 - k) k s = rg s)) (fun i => 11 - (intOf i).toNat)
  case atStart => exact ⟨0, rfl, Nat.zero_le _, Lib.hid rfl⟩
  case round =>
    obtain ⟨k, rfl, hk, hR⟩ := hrel
    by_cases hlt : k < 11
    · have hix : ∀ w, (Instr.index 48 (.agg C) (.int .i64 (k : Int))).run Tryd.prog w = .ok (.string (regS k)) w := fun w => by rw [HC.out]; exact reg_index k hlt w
      have hsub : 11 - k = (11 - (k + 1)) + 1 := by omega
      by_cases he : regS k = s
      · have HR : Hid (rg s = (k, true)) := Lib.hid (by rw [← hR.out, hsub, rgFrom, if_pos he])
        go_wp2
        go_ret2
        exact ⟨by rw [HR.out] <;> rfl, rfl⟩
      · have HR : Hid (rgFrom (11 - (k + 1)) (k + 1) s = rg s) := Lib.hid (by rw [← hR.out, hsub, rgFrom, if_neg he])
        have he2 := txt_ne he
        go_wp2
        go_round
        case rel => exact ⟨k + 1, by go_num, by omega, HR⟩
        case measure => simp [intOf]; omega
    · have HR : Hid (rg s = (0, false)) := Lib.hid (by rw [← hR.out, show 11 - k = 0 by omega]; rfl)
      go_wp2
      go_ret2
      exact ⟨by rw [HR.out] <;> rfl, rfl⟩

theorem register_at (s : ByteArray) (n : Int) (b : Bool) (w : World) (hw : Regs w) (h1 : ((rg s).1 : Int) = n) (h2 : (rg s).2 = b) : Calls Tryd.prog 84 #[.string s] w fun e w' => e = .returned (.tuple #[.int .i64 n, .bool b]) ∧ w = w' := by
  subst h1; subst h2; exact register_any s w hw

/-- The name of register n, or the empty text. -/
def nmS (n : Int) : ByteArray := if 0 ≤ n ∧ n < 11 then regS n.toNat else ⟨#[]⟩

theorem reg_cell {w : World} (hw : Regs w) (k : Nat) (hk : k < 11) : w.cell? ⟨0, k, none⟩ = some (.string (regS k)) := by
  obtain ⟨t, fr, hg⟩ := hw
  simp only [World.cell?, hg]
  rcases (show k = 0 ∨ k = 1 ∨ k = 2 ∨ k = 3 ∨ k = 4 ∨ k = 5 ∨ k = 6 ∨ k = 7 ∨ k = 8 ∨ k = 9 ∨ k = 10 by omega) with rfl | rfl | rfl | rfl | rfl | rfl | rfl | rfl | rfl | rfl | rfl <;> rfl

set_option maxRecDepth 100000 in
theorem name_any (n : Int) (w : World) (hw : Regs w) : Calls Tryd.prog 13 #[.int .i64 n] w fun e w' => e = .returned (.string (nmS n)) ∧ w = w' := by
  by_cases h0 : n < 0
  · have HN : Hid (nmS n = ⟨#[]⟩) := Lib.hid (by rw [nmS, if_neg (by omega)])
    go_enter Tryd.func13, Tryd.ntmps13
    go_wp2
    go_ret
    exact ⟨by rw [HN.out] <;> rfl, rfl⟩
  · by_cases h1 : n < 11
    · obtain ⟨k, rfl⟩ : ∃ k : Nat, n = k := ⟨n.toNat, by omega⟩
      have HN : Hid (nmS k = regS k) := Lib.hid (by rw [nmS, if_pos (by omega)]; rfl)
      have hc := reg_cell hw k (by omega)
      clear h0
      go_enter Tryd.func13, Tryd.ntmps13
      go_wp2
      go_ret
      exact ⟨by rw [HN.out] <;> rfl, rfl⟩
    · have HN : Hid (nmS n = ⟨#[]⟩) := Lib.hid (by rw [nmS, if_neg (by omega)])
      go_enter Tryd.func13, Tryd.ntmps13
      go_wp2
      go_ret
      exact ⟨by rw [HN.out] <;> rfl, rfl⟩

theorem name_at (n : Int) (t : ByteArray) (w : World) (hw : Regs w) (h : nmS n = t) : Calls Tryd.prog 13 #[.int .i64 n] w fun e w' => e = .returned (.string t) ∧ w = w' := by
  subst h; exact name_any n w hw

theorem itoa_len (n : Nat) (hn : n < 10 ^ 11) : (Lib.itoa n).length ≤ 11 := by
  have : Lib.itoa n = Lib.decDigits n := by rw [Lib.itoa, if_neg (by omega)]; rfl
  rw [this]
  exact dec_len 10 n hn

theorem regS_itoa (k : Nat) (hk : k < 11) : (⟨(114 :: Lib.itoa k).toArray⟩ : ByteArray) = regS k := by
  have : Lib.itoa k = Lib.decDigits k := by rw [Lib.itoa, if_neg (by omega)]; rfl
  rw [this]
  by_cases h : k < 10
  · rw [Lib.decDigits_one h]
    rcases (show k = 0 ∨ k = 1 ∨ k = 2 ∨ k = 3 ∨ k = 4 ∨ k = 5 ∨ k = 6 ∨ k = 7 ∨ k = 8 ∨ k = 9 by omega) with rfl | rfl | rfl | rfl | rfl | rfl | rfl | rfl | rfl | rfl <;> rfl
  · obtain rfl : k = 10 := by omega
    rw [Lib.decDigits_two (by omega) (by omega)]
    rfl

theorem rformat_at (x : Int) (t : ByteArray) (w : World) (h0 : -9223372036854775808 ≤ x) (h1 : x ≤ 9223372036854775807) (h : t = ⟨(Lib.itoa x).toArray⟩) :
    Calls Tryd.prog 6 #[.int .i64 x] w fun e w' => e = .returned (.string t) ∧ w = w' := by
  subst h; exact rformat_any x w h0 h1

set_option maxRecDepth 100000 in
theorem rname_any (n : Int) (w : World) : Calls Tryd.prog 15 #[.int .i64 n] w fun e w' => e = .returned (.string (nmS n)) ∧ w = w' := by
  by_cases h0 : n < 0
  · have HN : Hid (nmS n = ⟨#[]⟩) := Lib.hid (by rw [nmS, if_neg (by omega)])
    go_enter Tryd.func15, Tryd.ntmps15
    go_wp2
    go_ret
    exact ⟨by rw [HN.out] <;> rfl, rfl⟩
  · by_cases h1 : n < 11
    · obtain ⟨k, rfl⟩ : ∃ k : Nat, n = k := ⟨n.toNat, by omega⟩
      obtain ⟨t, ht⟩ : ∃ t : ByteArray, t = ⟨(Lib.itoa k).toArray⟩ := ⟨_, rfl⟩
      have HN : Hid ((⟨#[114]⟩ : ByteArray) ++ t = nmS k) := Lib.hid (by
        rw [nmS, if_pos (by omega), app_eq, ht]
        exact regS_itoa k (by omega))
      have hl : t.size ≤ 11 := by
        rw [size_list, ht]
        exact itoa_len k (by omega)
      have HT := Lib.hid ht
      have hmx : ((1 : Nat) + t.size) ≤ maxLen := by unfold maxLen; omega
      have hmx2 : ((1 : Nat) + t.size) ≤ 9223372036854775807 := by omega
      clear h0 ht hl
      go_enter Tryd.func15, Tryd.ntmps15
      go_wp2_with (go_at_call 6; ((with_reducible refine (rformat_at _ t _ (by omega) (by omega) HT.out).mono ?_); rintro e w' ⟨rfl, rfl⟩))
      go_ret
      exact ⟨by rw [HN.out] <;> rfl, rfl⟩
    · have HN : Hid (nmS n = ⟨#[]⟩) := Lib.hid (by rw [nmS, if_neg (by omega)])
      go_enter Tryd.func15, Tryd.ntmps15
      go_wp2
      go_ret
      exact ⟨by rw [HN.out] <;> rfl, rfl⟩

theorem rname_at (n : Int) (t : ByteArray) (w : World) (h : nmS n = t) : Calls Tryd.prog 15 #[.int .i64 n] w fun e w' => e = .returned (.string t) ∧ w = w' := by
  subst h; exact rname_any n w

end Go.Proofs.YtbneaihpnfkcdaaDoor.L2
