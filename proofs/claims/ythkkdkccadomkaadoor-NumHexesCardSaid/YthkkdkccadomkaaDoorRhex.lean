/- What the reference's Hex returns, for every slice of up to 3000 bytes whose cells are known, and for an empty one: the text that Hex returns; it only draws. -/
import Derived.Test.YthkkdkccadomkaaDoorHex
import Derived.Test.YthkkdkccadomkaaDoorRformat
namespace Go.Proofs.YthkkdkccadomkaaDoor
open Go.RowKit

theorem hex_slice (d : Nat) (hd : d < 16) (w : World) :
    (Instr.slice 9 (.string ⟨#[48, 49, 50, 51, 52, 53, 54, 55, 56, 57, 97, 98, 99, 100, 101, 102]⟩) (some (.int .i64 (d : Int))) (some (.int .i64 ((d : Int) + 1))) none).run Tryd.prog w = .ok (.string ⟨#[hx d]⟩) w := by
  rcases (show d = 0 ∨ d = 1 ∨ d = 2 ∨ d = 3 ∨ d = 4 ∨ d = 5 ∨ d = 6 ∨ d = 7 ∨ d = 8 ∨ d = 9 ∨ d = 10 ∨ d = 11 ∨ d = 12 ∨ d = 13 ∨ d = 14 ∨ d = 15 by omega) with rfl | rfl | rfl | rfl | rfl | rfl | rfl | rfl | rfl | rfl | rfl | rfl | rfl | rfl | rfl | rfl <;> kernel_rfl

theorem hexOf_len (l : List UInt8) : (hexOf l).length = 2 * l.length := by
  induction l with
  | nil => rfl
  | cons a l ih =>
    have e : hexOf (a :: l) = hex2 a ++ hexOf l := rfl
    rw [e, List.length_append, ih]
    simp [hex2]
    omega

theorem two_list (a b : UInt8) : ((⟨#[a]⟩ : ByteArray) ++ ⟨#[b]⟩).data.toList = [a, b] := by simp

set_option maxHeartbeats 2000000 in
set_option maxRecDepth 100000 in
theorem rhex_any (b off n cap : Nat) (l : List UInt8) (w : World) (hl : l.length = n) (hn : n ≤ 3000)
    (hc : ∀ j, j < n → w.cell? ⟨b, off + j, none⟩ = some (.int .u8 ((l.getD j 0).toNat : Int))) :
    Calls Tryd.prog 16 #[.slice (some ⟨b, off, none⟩) n cap] w fun e w' => e = .returned (.string ⟨(hexOf l).toArray⟩) ∧ ∃ m, w' = w.drewN m := by
  have HC := Lib.hid hc
  have HL := Lib.hid hl
  clear hc hl
  go_enter Tryd.func16, Tryd.ntmps16
  go_wp2
  go_loopw [4, 5] (fun s i wr => ∃ (k m : Nat) (t : ByteArray), k ≤ n ∧ s = .string t ∧ i = .int .i64 k ∧ wr = w.drewN m ∧ Hid (t.data.toList = hexOf (l.take k))) (fun _ i _ => n - (intOf i).toNat)
  case atStart => exact ⟨0, 0, ⟨#[]⟩, Nat.zero_le _, rfl, rfl, rfl, Lib.hid (by simp [hexOf])⟩
  case round =>
    obtain ⟨k, m, t, hk, rfl, rfl, rfl, hT⟩ := hrel
    have htl : t.size ≤ 6000 := by
      rw [size_list, hT.out, hexOf_len, List.length_take]
      have := HL.out
      omega
    by_cases hlt : k < n
    · have hce : w.cell? ⟨b, off + k, none⟩ = some (.int .u8 ((l.getD k 0).toNat : Int)) := HC.out k hlt
      obtain ⟨c, hcc⟩ : ∃ c, c = l.getD k 0 := ⟨_, rfl⟩
      rw [← hcc] at hce
      have HCC := Lib.hid hcc
      clear hcc
      have hc255 : c.toNat < 256 := c.toNat_lt
      obtain ⟨a1, ha1⟩ : ∃ a1, a1 = hx (c.toNat / 16) := ⟨_, rfl⟩
      obtain ⟨a2, ha2⟩ : ∃ a2, a2 = hx (c.toNat % 16) := ⟨_, rfl⟩
      have hx1 : ∀ w, (Instr.slice 9 (.string ⟨#[48, 49, 50, 51, 52, 53, 54, 55, 56, 57, 97, 98, 99, 100, 101, 102]⟩) (some (.int .i64 ((c.toNat : Int) / 16))) (some (.int .i64 ((c.toNat : Int) / 16 + 1))) none).run Tryd.prog w = .ok (.string ⟨#[a1]⟩) w := fun w => by
        have := hex_slice (c.toNat / 16) (by omega) w
        rw [← ha1] at this
        rwa [Int.natCast_ediv] at this
      have hx2 : ∀ w, (Instr.slice 9 (.string ⟨#[48, 49, 50, 51, 52, 53, 54, 55, 56, 57, 97, 98, 99, 100, 101, 102]⟩) (some (.int .i64 ((c.toNat : Int) % 16))) (some (.int .i64 ((c.toNat : Int) % 16 + 1))) none).run Tryd.prog w = .ok (.string ⟨#[a2]⟩) w := fun w => by
        have := hex_slice (c.toNat % 16) (by omega) w
        rw [← ha2] at this
        rwa [Int.natCast_emod] at this
      have HA1 := Lib.hid ha1
      have HA2 := Lib.hid ha2
      clear ha1 ha2
      go_wp2
      go_quiet (fail)
      go_wp2
      go_roundw
      case rel =>
        refine ⟨k + 1, m + nq, _, by omega, rfl, by go_num, rfl, Lib.hid ?_⟩
        rw [hexOf_take l k (by rw [HL.out]; exact hlt), ← HCC.out, ← HA1.out, ← HA2.out, ← hT.out]
        simp
      case measure => simp [intOf]; omega
    · have hkn : k = n := by omega
      have hT2 : t.data.toList = hexOf l := by
        rw [hT.out, List.take_of_length_le (by rw [HL.out]; omega)]
      have HT := Lib.hid hT2
      clear hT2 hkn
      go_wp2
      go_ret
      exact ⟨by rw [← HT.out]; rfl, m, rfl⟩

theorem rhex_nil (a : Option Addr) (cap : Nat) (w : World) :
    Calls Tryd.prog 16 #[.slice a 0 cap] w fun e w' => e = .returned (.string ⟨#[]⟩) ∧ ∃ m, w' = w.drewN m := by
  go_enter Tryd.func16, Tryd.ntmps16
  go_wp2
  refine wp_loop_rounds 1 ?_
  rw [rounds_succ]
  go_wp2
  go_ret
  exact ⟨rfl, 0, rfl⟩
end Go.Proofs.YthkkdkccadomkaaDoor
