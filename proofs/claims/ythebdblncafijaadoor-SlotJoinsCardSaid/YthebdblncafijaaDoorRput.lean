/- What the reference's put, Get and Encode do. No condition but that the cells are known. -/
import Derived.Test.YthebdblncafijaaDoorJoin
import Derived.Test.YthebdblncafijaaDoorL3Rcd
import Derived.Test.YthebdblncafijaaDoorL3Rfx
namespace Go.Proofs.YthebdblncafijaaDoor
open Go.RowKit L3 L1 L4

theorem le_snoc : ∀ (j : Nat) (z : Int), le (j + 1) z = le j z ++ [UInt8.ofNat (z / 256 ^ j % 256).toNat]
  | 0, z => by simp [le]
  | j + 1, z => by
    have e : z / 256 ^ (j + 1) = z / 256 / 256 ^ j := by rw [Int.pow_succ', Int.ediv_ediv_of_nonneg (by decide)]
    rw [le, le_snoc j (z / 256), le, List.cons_append, e]

set_option maxHeartbeats 2000000 in
set_option maxRecDepth 100000 in
theorem rput_at (base m : Nat) (l : List UInt8) (v : Value) (z : Int) (n : Nat) (w : World) (hown : w.ownsRow base 5 1 v m (byL l)) (hb : base ≤ w.heap.size) (h0 : 0 ≤ z) (h1 : z < 18446744073709551616) (hn : n ≤ 8) (hm : m ≤ 10000000) :
    Calls Tryd.prog 37 #[v, .int .u64 z, .int .i64 (n : Int)] w fun e w' => ∃ v', e = .returned v' ∧ w'.ownsRow base 5 1 v' (m + n) (byL (l ++ le n z)) ∧ Below base w w' := by
  obtain ⟨i0, hi0, hz0, hz1, hz2⟩ := info_parts Tryd.info5
  obtain ⟨va, vc, rfl⟩ := owns_slice' hown
  go_enter Tryd.func37, Tryd.ntmps37
  go_wp2
  go_loopw [0, 1, 7] (fun b x i wr => ∃ (j : Nat) (y : Int), j ≤ n ∧ i = .int .i64 (j : Int) ∧ x = .int .u64 y ∧ 0 ≤ y ∧ y < 18446744073709551616 ∧ Hid (y = z / 256 ^ j) ∧ wr.ownsRow base 5 1 b (m + j) (byL (l ++ le j z)) ∧ Below base w wr) (fun _ _ i _ => n - (intOf i).toNat)
  case atStart => exact ⟨0, z, Nat.zero_le _, rfl, rfl, h0, h1, Lib.hid (by simp), by simpa [le] using hown, Below.refl _ _⟩
  case round =>
    obtain ⟨j, y, hj, rfl, rfl, hy0, hy1, hY, hown, hB⟩ := hrel
    by_cases hlt : j < n
    · have hlt' : (j : Int) < (n : Int) := by omega
      have hsz := hB.size
      go_wp2_with (at_builtin; refine wpList_append_own _ rfl _ _ 24 rfl base 5 i0 (.int .u8 0) 1 1 Tryd.underlying24 hi0 hz0 hz1 hz2 rfl (by decide) _ (m + j) _ rfl (hown.alloc _) ⟨wr.heap.size, 0, none⟩ 1 1 [.int .u8 (y % 256)] rfl rfl (cell_one_new _ _ _) (by simp [Value.oneCell']) (by unfold maxLen; omega) (by omega) (by simp; omega) ?_; intro v' w3 hown3 hgrow3 _)
      go_roundw
      case rel =>
        refine ⟨j + 1, y / 256, by omega, by go_num, rfl, by omega, by omega, Lib.hid ?_, ?_, (hB.alloc (by omega) _).grown hgrow3 (by simp; omega) (own_base hown)⟩
        · rw [hY.out, Int.ediv_ediv_of_nonneg (Int.pow_nonneg (by decide)), ← Int.pow_succ]
        · rw [le_snoc, ← List.append_assoc, byL_append, ← hY.out]
          have e : byL [UInt8.ofNat (y % 256).toNat] = [.int .u8 (y % 256)] := by simp only [byL, List.map_cons, List.map_nil, byte_nat]
          rw [e]
          exact hown3
      case measure => simp [intOf]; omega
    · have hge : ¬ (j : Int) < (n : Int) := by omega
      obtain rfl : j = n := by omega
      go_wp2
      go_ret
      exact ⟨_, rfl, hown, hB⟩

set_option maxHeartbeats 2000000 in
set_option maxRecDepth 100000 in
theorem rget_2 (k o len cap : Nat) (c0 c1 : UInt8) (v : Int) (w : World) (hn : 4 ≤ len) (h0 : w.cell? ⟨k, o + 2, none⟩ = some (.int .u8 (c0.toNat : Int))) (h1 : w.cell? ⟨k, o + 3, none⟩ = some (.int .u8 (c1.toNat : Int))) (hv : (c0.toNat : Int) * 1 + (c1.toNat : Int) * 256 = v) :
    Calls Tryd.prog 44 #[.slice (some ⟨k, o, none⟩) len cap, .int .i64 2, .int .i64 2] w fun e w' => e = .returned (.int .u64 v) ∧ w = w' := by
  have HV := Lib.hid hv
  clear hv
  have b0 := c0.toNat_lt
  have b1 := c1.toNat_lt
  have n0 : 2 < len := by omega
  have n1 : 3 < len := by omega
  have m0 : (2 : Int) < (len : Int) := by omega
  have m1 : (3 : Int) < (len : Int) := by omega
  go_enter Tryd.func44, Tryd.ntmps44
  go_wp2
  refine wp_loop_rounds 3 ?_
  repeat (rw [rounds_succ]; go_wp2)
  go_ret
  exact ⟨ret_int (by have := HV.out; omega), rfl⟩

set_option maxHeartbeats 2000000 in
set_option maxRecDepth 100000 in
theorem rget_4 (k o len cap : Nat) (c0 c1 c2 c3 : UInt8) (v : Int) (w : World) (hn : 8 ≤ len) (h0 : w.cell? ⟨k, o + 4, none⟩ = some (.int .u8 (c0.toNat : Int))) (h1 : w.cell? ⟨k, o + 5, none⟩ = some (.int .u8 (c1.toNat : Int))) (h2 : w.cell? ⟨k, o + 6, none⟩ = some (.int .u8 (c2.toNat : Int))) (h3 : w.cell? ⟨k, o + 7, none⟩ = some (.int .u8 (c3.toNat : Int))) (hv : (c0.toNat : Int) * 1 + (c1.toNat : Int) * 256 + (c2.toNat : Int) * 65536 + (c3.toNat : Int) * 16777216 = v) :
    Calls Tryd.prog 44 #[.slice (some ⟨k, o, none⟩) len cap, .int .i64 4, .int .i64 4] w fun e w' => e = .returned (.int .u64 v) ∧ w = w' := by
  have HV := Lib.hid hv
  clear hv
  have b0 := c0.toNat_lt
  have b1 := c1.toNat_lt
  have b2 := c2.toNat_lt
  have b3 := c3.toNat_lt
  have n0 : 4 < len := by omega
  have n1 : 5 < len := by omega
  have n2 : 6 < len := by omega
  have n3 : 7 < len := by omega
  have m0 : (4 : Int) < (len : Int) := by omega
  have m1 : (5 : Int) < (len : Int) := by omega
  have m2 : (6 : Int) < (len : Int) := by omega
  have m3 : (7 : Int) < (len : Int) := by omega
  go_enter Tryd.func44, Tryd.ntmps44
  go_wp2
  refine wp_loop_rounds 5 ?_
  repeat (rw [rounds_succ]; go_wp2)
  go_ret
  exact ⟨ret_int (by have := HV.out; omega), rfl⟩

set_option maxHeartbeats 2000000 in
set_option maxRecDepth 100000 in
theorem rget_8 (k o len cap : Nat) (c0 c1 c2 c3 : UInt8) (v : Int) (w : World) (hn : 12 ≤ len) (h0 : w.cell? ⟨k, o + 8, none⟩ = some (.int .u8 (c0.toNat : Int))) (h1 : w.cell? ⟨k, o + 9, none⟩ = some (.int .u8 (c1.toNat : Int))) (h2 : w.cell? ⟨k, o + 10, none⟩ = some (.int .u8 (c2.toNat : Int))) (h3 : w.cell? ⟨k, o + 11, none⟩ = some (.int .u8 (c3.toNat : Int))) (hv : (c0.toNat : Int) * 1 + (c1.toNat : Int) * 256 + (c2.toNat : Int) * 65536 + (c3.toNat : Int) * 16777216 = v) :
    Calls Tryd.prog 44 #[.slice (some ⟨k, o, none⟩) len cap, .int .i64 8, .int .i64 4] w fun e w' => e = .returned (.int .u64 v) ∧ w = w' := by
  have HV := Lib.hid hv
  clear hv
  have b0 := c0.toNat_lt
  have b1 := c1.toNat_lt
  have b2 := c2.toNat_lt
  have b3 := c3.toNat_lt
  have n0 : 8 < len := by omega
  have n1 : 9 < len := by omega
  have n2 : 10 < len := by omega
  have n3 : 11 < len := by omega
  have m0 : (8 : Int) < (len : Int) := by omega
  have m1 : (9 : Int) < (len : Int) := by omega
  have m2 : (10 : Int) < (len : Int) := by omega
  have m3 : (11 : Int) < (len : Int) := by omega
  go_enter Tryd.func44, Tryd.ntmps44
  go_wp2
  refine wp_loop_rounds 5 ?_
  repeat (rw [rounds_succ]; go_wp2)
  go_ret
  exact ⟨ret_int (by have := HV.out; omega), rfl⟩

set_option maxHeartbeats 2000000 in
set_option maxRecDepth 100000 in
theorem rget_12 (k o len cap : Nat) (c0 c1 c2 c3 : UInt8) (v : Int) (w : World) (hn : 16 ≤ len) (h0 : w.cell? ⟨k, o + 12, none⟩ = some (.int .u8 (c0.toNat : Int))) (h1 : w.cell? ⟨k, o + 13, none⟩ = some (.int .u8 (c1.toNat : Int))) (h2 : w.cell? ⟨k, o + 14, none⟩ = some (.int .u8 (c2.toNat : Int))) (h3 : w.cell? ⟨k, o + 15, none⟩ = some (.int .u8 (c3.toNat : Int))) (hv : (c0.toNat : Int) * 1 + (c1.toNat : Int) * 256 + (c2.toNat : Int) * 65536 + (c3.toNat : Int) * 16777216 = v) :
    Calls Tryd.prog 44 #[.slice (some ⟨k, o, none⟩) len cap, .int .i64 12, .int .i64 4] w fun e w' => e = .returned (.int .u64 v) ∧ w = w' := by
  have HV := Lib.hid hv
  clear hv
  have b0 := c0.toNat_lt
  have b1 := c1.toNat_lt
  have b2 := c2.toNat_lt
  have b3 := c3.toNat_lt
  have n0 : 12 < len := by omega
  have n1 : 13 < len := by omega
  have n2 : 14 < len := by omega
  have n3 : 15 < len := by omega
  have m0 : (12 : Int) < (len : Int) := by omega
  have m1 : (13 : Int) < (len : Int) := by omega
  have m2 : (14 : Int) < (len : Int) := by omega
  have m3 : (15 : Int) < (len : Int) := by omega
  go_enter Tryd.func44, Tryd.ntmps44
  go_wp2
  refine wp_loop_rounds 5 ?_
  repeat (rw [rounds_succ]; go_wp2)
  go_ret
  exact ⟨ret_int (by have := HV.out; omega), rfl⟩
end Go.Proofs.YthebdblncafijaaDoor
