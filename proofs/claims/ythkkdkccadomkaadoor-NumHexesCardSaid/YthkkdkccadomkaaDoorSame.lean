/- What the reference's Same returns for two slices of the same bytes: true; it only draws. -/
import Derived.Test.YthkkdkccadomkaaDoorUnhex
namespace Go.Proofs.YthkkdkccadomkaaDoor
open Go.RowKit

set_option maxHeartbeats 1000000 in
set_option maxRecDepth 100000 in
theorem same_some (b off cap b' off' cap' n : Nat) (l : List UInt8) (w : World) (hn : n ≤ 9223372036854775807)
    (hc : ∀ j, j < n → w.cell? ⟨b, off + j, none⟩ = some (.int .u8 ((l.getD j 0).toNat : Int)))
    (hc' : ∀ j, j < n → w.cell? ⟨b', off' + j, none⟩ = some (.int .u8 ((l.getD j 0).toNat : Int))) :
    Calls Tryd.prog 17 #[.slice (some ⟨b, off, none⟩) n cap, .slice (some ⟨b', off', none⟩) n cap'] w fun e w' => e = .returned (.bool true) ∧ ∃ m, w' = w.drewN m := by
  have HC := Lib.hid hc
  have HC' := Lib.hid hc'
  clear hc hc'
  go_enter Tryd.func17, Tryd.ntmps17
  go_wp2
  go_loopw [5] (fun i wr => ∃ (k m : Nat), k ≤ n ∧ i = .int .i64 k ∧ wr = w.drewN m) (fun i _ => n - (intOf i).toNat)
  case atStart => exact ⟨0, 0, Nat.zero_le _, rfl, rfl⟩
  case round =>
    obtain ⟨k, m, hk, rfl, rfl⟩ := hrel
    by_cases hlt : k < n
    · have h1 := HC.out k hlt
      have h2 := HC'.out k hlt
      go_wp2
      go_quiet (fail)
      go_wp2
      go_roundw
      case rel => exact ⟨k + 1, m + nq, by omega, by go_num, rfl⟩
      case measure => simp [intOf]; omega
    · go_wp2
      go_ret
      exact ⟨rfl, m, rfl⟩

theorem same_nil (a a' : Option Addr) (cap cap' : Nat) (w : World) :
    Calls Tryd.prog 17 #[.slice a 0 cap, .slice a' 0 cap'] w fun e w' => e = .returned (.bool true) ∧ ∃ m, w' = w.drewN m := by
  go_enter Tryd.func17, Tryd.ntmps17
  go_wp2
  refine wp_loop_rounds 1 ?_
  rw [rounds_succ]
  go_wp2
  go_ret
  exact ⟨rfl, 0, rfl⟩

theorem same_any (v v' : Value) (l : List UInt8) (w : World) (hn : l.length ≤ 9223372036854775807) (h : BytesAt w v l) (h' : BytesAt w v' l) :
    Calls Tryd.prog 17 #[v, v'] w fun e w' => e = .returned (.bool true) ∧ ∃ m, w' = w.drewN m := by
  rcases h with ⟨b, off, cap, rfl, hc⟩ | ⟨rfl, a, cap, rfl⟩
  · rcases h' with ⟨b', off', cap', rfl, hc'⟩ | ⟨rfl, a', cap', rfl⟩
    · exact same_some b off cap b' off' cap' _ l w hn hc hc'
    · exact same_nil _ _ _ _ w
  · rcases h' with ⟨b', off', cap', rfl, hc'⟩ | ⟨_, a', cap', rfl⟩
    · exact same_nil _ _ _ _ w
    · exact same_nil _ _ _ _ w
end Go.Proofs.YthkkdkccadomkaaDoor
