/- The program's small functions of layer 8: which characters separate tokens, begin a comment, or are tokens of their own, asked of the byte that a character begins with. No condition. -/
import Derived.Test.YtdpdeelnabomlaaL8Rshp
namespace Go.Proofs.Ytdpdeelnabomlaa.L8
open Go.RowKit L2
attribute [local go_sem] Oper.semAt_some

def spI (r : Int) : Bool := r == 32 || r == 9 || r == 13
def cmI (r : Int) : Bool := r == 59 || r == 35
theorem cl_high {r : Int} (h : 128 ≤ r) : spI r = false ∧ cmI r = false ∧ puI r = false := by
  refine ⟨?_, ?_, ?_⟩
  · have h1 : ¬ r = 32 := by omega
    have h2 : ¬ r = 9 := by omega
    have h3 : ¬ r = 13 := by omega
    simp [spI, h1, h2, h3]
  · have h1 : ¬ r = 59 := by omega
    have h2 : ¬ r = 35 := by omega
    simp [cmI, h1, h2]
  · have h1 : ¬ r = 44 := by omega
    have h2 : ¬ r = 91 := by omega
    have h3 : ¬ r = 93 := by omega
    have h4 : ¬ r = 43 := by omega
    have h5 : ¬ r = 45 := by omega
    have h6 : ¬ r = 58 := by omega
    simp [puI, h1, h2, h3, h4, h5, h6]
theorem cl_byte (c : UInt8) : spI (c.toNat : Int) = spc c ∧ cmI (c.toNat : Int) = cmt c ∧ puI (c.toNat : Int) = pun c := by
  have h : ∀ n, n < 256 → (fun c : UInt8 => spI (c.toNat : Int) = spc c ∧ cmI (c.toNat : Int) = cmt c ∧ puI (c.toNat : Int) = pun c) (UInt8.ofNat n) := by decide +kernel
  have := h c.toNat c.toNat_lt
  simpa using this
/-- A rune of a text and the byte that it begins with are of one class. -/
theorem cl_decode (t : ByteArray) (pos : Nat) (h : pos < t.size) : spI (Utf8.decode t pos).1 = spc (t[pos]'h) ∧ cmI (Utf8.decode t pos).1 = cmt (t[pos]'h) ∧ puI (Utf8.decode t pos).1 = pun (t[pos]'h) := by
  by_cases ha : (t[pos]'h).toNat < 128
  · rw [decode_ascii t pos h ha]
    exact cl_byte _
  · have h1 := decode_high t pos h (by omega)
    obtain ⟨a1, a2, a3⟩ := cl_high (r := (Utf8.decode t pos).1) (by omega)
    obtain ⟨b1, b2, b3⟩ := cl_byte (t[pos]'h)
    obtain ⟨c1, c2, c3⟩ := cl_high (r := ((t[pos]'h).toNat : Int)) (by omega)
    exact ⟨by rw [a1, ← b1, c1], by rw [a2, ← b2, c2], by rw [a3, ← b3, c3]⟩
/-- A character whose byte is of a class takes one byte. -/
theorem decode_cl (t : ByteArray) (pos : Nat) (h : pos < t.size) (hd : spc (t[pos]'h) = true ∨ pun (t[pos]'h) = true ∨ wb (t[pos]'h) = true) : (Utf8.decode t pos).2 = 1 := by
  by_cases ha : (t[pos]'h).toNat < 128
  · rw [decode_ascii t pos h ha]
  · obtain ⟨b1, b2, b3⟩ := cl_byte (t[pos]'h)
    obtain ⟨c1, c2, c3⟩ := cl_high (r := ((t[pos]'h).toNat : Int)) (by omega)
    have hw : wb (t[pos]'h) = false := wch_high (by omega)
    rw [← b1, ← b3, c1, c3, hw] at hd
    simp at hd

theorem isSpace_any (r : Int) (w : World) : Calls Try.prog 23 #[.int .i32 r] w fun e w' => e = .returned (.bool (spI r)) ∧ w = w' := by
  go_enter Try.func23, Try.ntmps23
  go_wp2
  all_goals
    go_ret
    exact ⟨ret_bool (by rw [Bool.eq_iff_iff]; simp [spI]; try omega), rfl⟩
theorem isSpace_at (r : Int) (b : Bool) (w : World) (h : spI r = b) : Calls Try.prog 23 #[.int .i32 r] w fun e w' => e = .returned (.bool b) ∧ w = w' := by
  subst h; exact isSpace_any r w
theorem isCmt_any (r : Int) (w : World) : Calls Try.prog 24 #[.int .i32 r] w fun e w' => e = .returned (.bool (cmI r)) ∧ w = w' := by
  go_enter Try.func24, Try.ntmps24
  go_wp2
  all_goals
    go_ret
    exact ⟨ret_bool (by rw [Bool.eq_iff_iff]; simp [cmI]; try omega), rfl⟩
theorem isCmt_at (r : Int) (b : Bool) (w : World) (h : cmI r = b) : Calls Try.prog 24 #[.int .i32 r] w fun e w' => e = .returned (.bool b) ∧ w = w' := by
  subst h; exact isCmt_any r w
set_option maxHeartbeats 1000000 in
theorem isMark_any (r : Int) (w : World) : Calls Try.prog 26 #[.int .i32 r] w fun e w' => e = .returned (.bool (puI r)) ∧ w = w' := by
  go_enter Try.func26, Try.ntmps26
  go_wp2
  all_goals
    go_ret
    exact ⟨ret_bool (by simp only [puI]; simp only [*]; rfl), rfl⟩
theorem isMark_at (r : Int) (b : Bool) (w : World) (h : puI r = b) : Calls Try.prog 26 #[.int .i32 r] w fun e w' => e = .returned (.bool b) ∧ w = w' := by
  subst h; exact isMark_any r w
end Go.Proofs.Ytdpdeelnabomlaa.L8
