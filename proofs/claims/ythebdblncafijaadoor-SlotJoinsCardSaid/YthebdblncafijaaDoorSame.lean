/- What the reference's two Same return for equal lists: true; they only draw. No condition but that the cells are known. -/
import Derived.Test.YthebdblncafijaaDoorJoin
import Derived.Deep.QuietTactic
import Derived.BigQuiet
namespace Go.Proofs.YthebdblncafijaaDoor
open Go.RowKit L3 L1 L4

set_option maxHeartbeats 1000000 in
set_option maxRecDepth 100000 in
theorem same_some (b off cap b' off' cap' n : Nat) (l : List UInt8) (w : World) (hn : l.length = n) (hm : n ≤ 9223372036854775807) (hc : Bytes w b off l) (hc' : Bytes w b' off' l) :
    Calls Tryd.prog 12 #[.slice (some ⟨b, off, none⟩) n cap, .slice (some ⟨b', off', none⟩) n cap'] w fun e w' => e = .returned (.bool true) ∧ ∃ m, w' = w.drewN m := by
  have HC := Lib.hid hc
  have HC' := Lib.hid hc'
  have HN := Lib.hid hn
  clear hc hc' hn
  go_enter Tryd.func12, Tryd.ntmps12
  go_wp2
  go_loopw [5] (fun i wr => ∃ (k m : Nat), k ≤ n ∧ i = .int .i64 k ∧ wr = w.drewN m) (fun i _ => n - (intOf i).toNat)
  case atStart => exact ⟨0, 0, Nat.zero_le _, rfl, rfl⟩
  case round =>
    obtain ⟨k, m, hk, rfl, rfl⟩ := hrel
    by_cases hlt : k < n
    · have hkl : k < l.length := by rw [HN.out]; exact hlt
      have h1 := HC.out k hkl
      have h2 := HC'.out k hkl
      generalize l[k] = c at h1 h2
      go_wp2
      go_quiet (fail)
      go_wp2
      go_roundw
      case rel => exact ⟨k + 1, m + nq, by omega, by go_num, rfl⟩
      case measure => simp [intOf]; omega
    · go_wp2
      go_ret
      exact ⟨rfl, m, rfl⟩

theorem same_none (a a' : Option Addr) (cap cap' : Nat) (w : World) :
    Calls Tryd.prog 12 #[.slice a 0 cap, .slice a' 0 cap'] w fun e w' => e = .returned (.bool true) ∧ ∃ m, w' = w.drewN m := by
  go_enter Tryd.func12, Tryd.ntmps12
  go_wp2
  refine wp_loop_rounds 1 ?_
  rw [rounds_succ]
  go_wp2
  go_ret
  exact ⟨rfl, 0, rfl⟩

/-- v is a slice of the bytes l (whatever its capacity). -/
def BsV (w : World) (v : Value) (l : List UInt8) : Prop := ∃ a cap, v = .slice a l.length cap ∧ (l = [] ∨ ∃ k o, a = some ⟨k, o, none⟩ ∧ Bytes w k o l)
theorem BsAt.v {w : World} {v : Value} {l : List UInt8} (h : BsAt w v l) : BsV w v l := by
  obtain ⟨a, cap, h1, -, -, h4⟩ := h
  exact ⟨a, cap, h1, h4⟩
theorem BsV.below {w w' : World} {v : Value} {l : List UInt8} (h : BsV w v l) (hb : Below w.heap.size w w') : BsV w' v l := by
  obtain ⟨a, cap, rfl, h3⟩ := h
  refine ⟨a, cap, rfl, ?_⟩
  rcases h3 with h3 | ⟨k, o, rfl, h3⟩
  · exact .inl h3
  · exact .inr ⟨k, o, rfl, h3.up hb⟩
theorem own_bytes {w : World} {base : Nat} {v : Value} {n : Nat} {l : List UInt8} (h : w.ownsRow base 5 1 v n (byL l)) : BsAt w v l := by
  have hl : l.length = n := by have := h.1; rw [byL_len] at this; omega
  subst hl
  rcases h.2 with ⟨rfl, h0⟩ | ⟨g, cap, cur, rfl, hb, hg, hnc, hcm, hcs, htk⟩
  · have : l = [] := List.eq_nil_of_length_eq_zero h0
    subst this
    exact ⟨none, 0, rfl, by simp, by unfold maxLen; omega, .inl rfl⟩
  · refine ⟨_, cap, rfl, hnc, hcm, .inr ⟨g, 0, rfl, fun j hj => ?_⟩⟩
    have h1 : (cur.toList.take (l.length * 1))[j]? = some (.int .u8 (l[j].toNat : Int)) := by
      rw [htk]; simp [byL, hj]
    rw [List.getElem?_take] at h1
    simp [hj] at h1
    rw [Nat.zero_add]
    exact cell_of hg (by simpa using h1)
theorem row_bytes {w : World} {k : Nat} {l : List UInt8} {n : Nat} (h : w.heap[k]? = some (.cells (byC l) 5)) (hn : l.length = n) (hm : n ≤ maxLen) : BsAt w (.slice (some ⟨k, 0, none⟩) n n) l := by
  subst hn
  exact ⟨_, _, rfl, Nat.le_refl _, hm, .inr ⟨k, 0, rfl, .row h⟩⟩
theorem same_at (v v' : Value) (l : List UInt8) (w : World) (hm : l.length ≤ 9223372036854775807) (h : BsV w v l) (h' : BsV w v' l) :
    Calls Tryd.prog 12 #[v, v'] w fun e w' => e = .returned (.bool true) ∧ Below w.heap.size w w' := by
  have hh : Calls Tryd.prog 12 #[v, v'] w fun e w' => e = .returned (.bool true) ∧ ∃ m, w' = w.drewN m := by
    obtain ⟨a, cap, rfl, h⟩ := h
    obtain ⟨a', cap', rfl, h'⟩ := h'
    by_cases h0 : l = []
    · subst h0
      exact same_none _ _ _ _ w
    · obtain ⟨k, o, rfl, hb⟩ := h.resolve_left h0
      obtain ⟨k', o', rfl, hb'⟩ := h'.resolve_left h0
      exact same_some k o cap k' o' cap' _ l w rfl hm hb hb'
  refine hh.mono fun e w' h => ⟨h.1, ?_⟩
  obtain ⟨m, rfl⟩ := h.2
  exact below_drewN (Below.refl _ _) m

set_option maxHeartbeats 4000000 in
set_option maxRecDepth 100000 in
theorem isame_some (b off cap b' off' cap' n : Nat) (l : List Ix) (w : World) (hn : l.length = n) (hm : n ≤ 100000000) (hc : Inss w b off l) (hc' : Inss w b' off' l) :
    Calls Tryd.prog 19 #[.slice (some ⟨b, off, none⟩) n cap, .slice (some ⟨b', off', none⟩) n cap'] w fun e w' => e = .returned (.bool true) ∧ ∃ m, w' = w.drewN m := by
  have HC := Lib.hid hc
  have HC' := Lib.hid hc'
  have HN := Lib.hid hn
  clear hc hc' hn
  go_enter Tryd.func19, Tryd.ntmps19
  go_wp2
  go_loopw [5] (fun i wr => ∃ (k m : Nat), k ≤ n ∧ i = .int .i64 k ∧ wr = w.drewN m) (fun i _ => n - (intOf i).toNat)
  case atStart => exact ⟨0, 0, Nat.zero_le _, rfl, rfl⟩
  case round =>
    obtain ⟨k, m, hk, rfl, rfl⟩ := hrel
    by_cases hlt : k < n
    · have hkl : k < l.length := by rw [HN.out]; exact hlt
      have hI := HC.out k hkl
      have hI' := HC'.out k hkl
      obtain ⟨x, hx⟩ : ∃ x, l[k] = x := ⟨_, rfl⟩
      rw [hx] at hI hI'
      have a0 := hI 0 _ rfl
      have a1 := hI 1 _ rfl
      have a2 := hI 2 _ rfl
      have a3 := hI 3 _ rfl
      have a4 := hI 4 _ rfl
      have a5 := hI 5 _ rfl
      have b0 := hI' 0 _ rfl
      have b1 := hI' 1 _ rfl
      have b2 := hI' 2 _ rfl
      have b3 := hI' 3 _ rfl
      have b4 := hI' 4 _ rfl
      have b5 := hI' 5 _ rfl
      rw [Nat.add_zero] at a0 b0
      clear hI hI' hx
      go_wp2
      go_quiet (fail)
      go_wp2
      go_roundw
      case rel => exact ⟨k + 1, m + nq, by omega, by go_num, rfl⟩
      case measure => simp [intOf]; omega
    · go_wp2
      go_ret
      exact ⟨rfl, m, rfl⟩
theorem isame_none (a a' : Option Addr) (cap cap' : Nat) (w : World) :
    Calls Tryd.prog 19 #[.slice a 0 cap, .slice a' 0 cap'] w fun e w' => e = .returned (.bool true) ∧ ∃ m, w' = w.drewN m := by
  go_enter Tryd.func19, Tryd.ntmps19
  go_wp2
  refine wp_loop_rounds 1 ?_
  rw [rounds_succ]
  go_wp2
  go_ret
  exact ⟨rfl, 0, rfl⟩
theorem isame_at (v v' : Value) (l : List Ix) (w : World) (hm : l.length ≤ 100000000) (h : InAt w v l) (h' : InAt w v' l) :
    Calls Tryd.prog 19 #[v, v'] w fun e w' => e = .returned (.bool true) ∧ Below w.heap.size w w' := by
  have hh : Calls Tryd.prog 19 #[v, v'] w fun e w' => e = .returned (.bool true) ∧ ∃ m, w' = w.drewN m := by
    obtain ⟨a, cap, rfl, h⟩ := h
    obtain ⟨a', cap', rfl, h'⟩ := h'
    by_cases h0 : l = []
    · subst h0
      exact isame_none _ _ _ _ w
    · obtain ⟨k, o, rfl, hb⟩ := h.resolve_left h0
      obtain ⟨k', o', rfl, hb'⟩ := h'.resolve_left h0
      exact isame_some k o cap k' o' cap' _ l w rfl hm hb hb'
  refine hh.mono fun e w' h => ⟨h.1, ?_⟩
  obtain ⟨m, rfl⟩ := h.2
  exact below_drewN (Below.refl _ _) m
end Go.Proofs.YthebdblncafijaaDoor
