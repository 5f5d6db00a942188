/- What the library's Equal and HasSuffix of bytes, Contains of texts (at a zero byte) and Equal of slices, and the reference's Same return for slices whose elements are known. Conditions: memory holds the elements, which are no more than 1000000000. -/
import Derived.Test.YtdamijicombmkaaL14Mm
namespace Go.Proofs.Ytdamijicombmkaa.L14
open Go.RowKit
attribute [local go_sem] Oper.semAt_some

set_option maxHeartbeats 1000000 in
theorem bequal_at (v1 v2 : Value) (l1 l2 : List UInt8) (b : Bool) (w : World) (h1 : Rw eB w v1 l1) (h2 : Rw eB w v2 l2) (hb : b = true ↔ l1 = l2) :
    Calls Try.prog 42 #[v1, v2] w fun e w' => e = .returned (.bool b) ∧ w = w' := by
  have k1 := conv_at h1
  have k2 := conv_at h2
  have ht : ((mkB l1).toList == (mkB l2).toList) = b := by
    cases b with
    | true => exact txt_eq (by rw [hb.1 rfl])
    | false => exact txt_ne (fun e => by simpa using hb.2 (mkB_inj e))
  obtain ⟨a1, c1, rfl, -⟩ := h1
  obtain ⟨a2, c2, rfl, -⟩ := h2
  generalize mkB l1 = T1 at k1 ht
  generalize mkB l2 = T2 at k2 ht
  generalize l1.length = n1 at k1 ⊢
  generalize l2.length = n2 at k2 ⊢
  clear hb
  go_enter Try.func42, Try.ntmps42
  go_wp2
  go_ret
  exact ⟨rfl, rfl⟩
/-! ### strings.Contains at a zero byte -/
/-! ### slices.Equal, Same: of the same elements -/
set_option maxHeartbeats 2000000 in
set_option maxRecDepth 100000 in
theorem same_at (v v' : Value) (l : List UInt8) (w : World) (hl : l.length ≤ 1000000000) (hv : Rw eB w v l) (hv' : Rw eB w v' l) :
    Calls Try.prog 16 #[v, v'] w fun e w' => e = .returned (.bool true) ∧ ∃ m, w' = w.drewN m := by
  obtain ⟨n, hn⟩ : ∃ n, l.length = n := ⟨_, rfl⟩
  obtain ⟨a, c, rfl, -, -, hc⟩ := hv.form hn
  obtain ⟨a', c', rfl, -, -, hc'⟩ := hv'.form hn
  rw [hn] at hl
  have HN := Lib.hid hn
  have HC := Lib.hid hc
  have HC' := Lib.hid hc'
  clear hn hc hc' hv hv'
  go_enter Try.func16, Try.ntmps16
  go_wp2
  go_loopw [5] (fun i wr => ∃ (k q : Nat), k ≤ n ∧ i = .int .i64 (k : Int) ∧ wr = w.drewN q) (fun i _ => n - (intOf i).toNat)
  case atStart => exact ⟨0, 0, Nat.zero_le _, rfl, rfl⟩
  case round =>
    obtain ⟨k, q, hk, rfl, rfl⟩ := hrel
    by_cases hlt : k < n
    · have hk1 : k < l.length := by rw [HN.out]; exact hlt
      obtain ⟨b1, o1, rfl, hb1, hc1⟩ := HC.out (by omega)
      obtain ⟨b2, o2, rfl, hb2, hc2⟩ := HC'.out (by omega)
      have hx := hc1 k hk1
      have hy := hc2 k hk1
      clear hc1 hc2
      have hlt' : (k : Int) < (n : Int) := by omega
      obtain ⟨d, hd⟩ : ∃ d, l[k].toNat = d := ⟨_, rfl⟩
      unfold eB at hx hy
      rw [hd] at hx hy
      clear hd
      go_wp2
      go_quiet (fail)
      go_wp2
      go_roundw
      case rel => exact ⟨k + 1, q + nq, by omega, by go_num, rfl⟩
      case measure => simp [intOf]; omega
    · obtain rfl : k = n := by omega
      go_wp2
      go_ret
      exact ⟨rfl, _, rfl⟩
end Go.Proofs.Ytdamijicombmkaa.L14
