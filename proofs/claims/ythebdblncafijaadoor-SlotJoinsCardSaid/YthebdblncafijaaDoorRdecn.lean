/- What the reference's Decode returns for all bytes: what the program's does. No condition but that the bytes are known. -/
import Derived.Test.YthebdblncafijaaDoorRdec
import Derived.Test.YthebdblncafijaaDoorRdech
namespace Go.Proofs.YthebdblncafijaaDoor
open Go.RowKit L3 L1 L4

theorem sx16_b (x : Int) : -32768 ≤ sx 16 x ∧ sx 16 x ≤ 32767 := by
  unfold sx
  simp
  omega
set_option maxHeartbeats 1000000 in
theorem rdec_any (v : Value) (l : List UInt8) (w : World) (hv : BsAt w v l) :
    Calls Tryd.prog 15 #[v] w fun e w' => e = .returned (.tuple #[.agg (decF l).1.cs, .int .i64 (decF l).2.1, .int .i64 (decF l).2.2]) ∧ Below w.heap.size w w' := by
  obtain ⟨a, cap, rfl, -, -, hb⟩ := hv
  by_cases h8 : l.length < 8
  · have hd : decF l = (.z, 0, 17) := by unfold decF; rw [if_pos h8]
    rw [hd]
    exact rdec_short a l.length cap w h8
  obtain ⟨k, o, rfl, hB⟩ : ∃ k o, a = some ⟨k, o, none⟩ ∧ Bytes w k o l := by
    rcases hb with rfl | h
    · simp at h8
    · exact h
  have hE := hB.eight (by omega)
  have hn : 8 ≤ l.length := by omega
  obtain ⟨⟨op, r, ok⟩, hid⟩ : ∃ i, idL l = i := ⟨_, rfl⟩
  cases ok
  · have hd : decF l = (.z, 0, 6) := by unfold decF; rw [if_neg h8, hid, if_pos rfl]
    rw [hd]
    exact rdec_op k o l.length cap (bt' l 0) (bt' l 1) (bt' l 2) (bt' l 3) (bt' l 4) (bt' l 5) (bt' l 6) (bt' l 7) (offL l) (immL l) w hE hn rfl rfl op r false hid rfl
  have hfL : fL l = frm (ix op) := by unfold fL; rw [hid]
  obtain ⟨hj, -⟩ := id_row hid
  have hs12 := (tab4 _ hj).1
  rw [← frm_fm hj] at hs12
  have t1 := tab1 _ hj
  obtain ⟨f, hf⟩ : ∃ f, frm (ix op) = f := ⟨_, rfl⟩
  have u1 : 0 ≤ sr (ix op) ∧ sr (ix op) ≤ 10 := by omega
  have u2 : -32768 ≤ of (ix op) ∧ of (ix op) ≤ 32767 := by omega
  have u3 : -2147483648 ≤ im (ix op) ∧ im (ix op) ≤ 2147483647 := by omega
  rcases hs12 with hs | hs
  · have hs' := hs
    rw [hf] at hs'
    by_cases hreg : 11 ≤ ((bt' l 1).toNat : Int) % 16 ∨ 11 ≤ ((bt' l 1).toNat : Int) / 16
    · have hd : decF l = (.z, 0, 5) := by
        unfold decF
        rw [if_neg h8, hid, hfL, if_neg (by simp), if_neg (by omega), if_pos hreg]
      rw [hd]
      exact rdec_reg1 k o l.length cap (bt' l 0) (bt' l 1) (bt' l 2) (bt' l 3) (bt' l 4) (bt' l 5) (bt' l 6) (bt' l 7) (offL l) (immL l) w hE hn rfl rfl op r true hid rfl f hf hs' hreg
    · obtain ⟨hfit, hd⟩ := rd_one hid hn hs (by omega) (by omega) _ rfl
      by_cases he : Ix.err ⟨op, r, ((bt' l 1).toNat : Int) % 16, ((bt' l 1).toNat : Int) / 16 - sr (ix op), offL l - of (ix op), immL l - im (ix op)⟩ = 0
      · rw [if_pos he] at hd
        rw [hd]
        exact rdec_one k o l.length cap (bt' l 0) (bt' l 1) (bt' l 2) (bt' l 3) (bt' l 4) (bt' l 5) (bt' l 6) (bt' l 7) (offL l) (immL l) w hE hn rfl rfl op r true hid rfl f hf hs' (by omega) (by omega) _ _ _ rfl rfl rfl u1 u2 u3 (sx16_b _) (sx32_b _) _ _ _ rfl rfl rfl he hfit
      · rw [if_neg he] at hd
        rw [hd]
        exact rdec_one_bad k o l.length cap (bt' l 0) (bt' l 1) (bt' l 2) (bt' l 3) (bt' l 4) (bt' l 5) (bt' l 6) (bt' l 7) (offL l) (immL l) w hE hn rfl rfl op r true hid rfl f hf hs' (by omega) (by omega) _ _ _ rfl rfl rfl u1 u2 u3 (sx16_b _) (sx32_b _) _ _ _ rfl rfl rfl _ rfl hfit (by simpa using he)
  · have hs' := hs
    rw [hf] at hs'
    by_cases h16 : l.length < 16
    · have hd : decF l = (.z, 0, 17) := by
        unfold decF
        rw [if_neg h8, hid, hfL, if_neg (by simp), if_pos ⟨hs, h16⟩]
      rw [hd]
      exact rdec_short2 k o l.length cap (bt' l 0) (bt' l 1) (bt' l 2) (bt' l 3) (bt' l 4) (bt' l 5) (bt' l 6) (bt' l 7) (offL l) (immL l) w hE hn rfl rfl op r true hid rfl f hf hs' h16
    have hn2 : 16 ≤ l.length := by omega
    by_cases hreg : 11 ≤ ((bt' l 1).toNat : Int) % 16 ∨ 11 ≤ ((bt' l 1).toNat : Int) / 16
    · have hd : decF l = (.z, 0, 5) := by
        unfold decF
        rw [if_neg h8, hid, hfL, if_neg (by simp), if_neg (fun h => h16 h.2), if_pos hreg]
      rw [hd]
      exact rdec_reg2 k o l.length cap (bt' l 0) (bt' l 1) (bt' l 2) (bt' l 3) (bt' l 4) (bt' l 5) (bt' l 6) (bt' l 7) (offL l) (immL l) w hE hn rfl rfl op r true hid rfl f hf hs' hn2 hreg
    · have hcells : ∀ W : World, Below w.heap.size w W → W.cell? ⟨k, o + 8, none⟩ = some (.int .u8 ((bt' l 8).toNat : Int)) ∧ W.cell? ⟨k, o + 9, none⟩ = some (.int .u8 ((bt' l 9).toNat : Int)) ∧ W.cell? ⟨k, o + 10, none⟩ = some (.int .u8 ((bt' l 10).toNat : Int)) ∧ W.cell? ⟨k, o + 11, none⟩ = some (.int .u8 ((bt' l 11).toNat : Int)) ∧ W.cell? ⟨k, o + 12, none⟩ = some (.int .u8 ((bt' l 12).toNat : Int)) ∧ W.cell? ⟨k, o + 13, none⟩ = some (.int .u8 ((bt' l 13).toNat : Int)) ∧ W.cell? ⟨k, o + 14, none⟩ = some (.int .u8 ((bt' l 14).toNat : Int)) ∧ W.cell? ⟨k, o + 15, none⟩ = some (.int .u8 ((bt' l 15).toNat : Int)) := fun W hb =>
        have h := hB.up hb
        ⟨h.get 8 (by omega), h.get 9 (by omega), h.get 10 (by omega), h.get 11 (by omega), h.get 12 (by omega), h.get 13 (by omega), h.get 14 (by omega), h.get 15 (by omega)⟩
      obtain ⟨V2, hV⟩ : ∃ V2, wrap64 (IntKind.u64.wrap (IntKind.u64.wrap ((((bt' l 12).toNat : Int) * 1 + ((bt' l 13).toNat : Int) * 256 + ((bt' l 14).toNat : Int) * 65536 + ((bt' l 15).toNat : Int) * 16777216) * 4294967296) + (((bt' l 4).toNat : Int) * 1 + ((bt' l 5).toNat : Int) * 256 + ((bt' l 6).toNat : Int) * 65536 + ((bt' l 7).toNat : Int) * 16777216))) = V2 := ⟨_, rfl⟩
      obtain ⟨hfit, hd0, hd1⟩ := rd_two hid hn2 hs (by omega) (by omega) V2 hV _ rfl
      by_cases hz : ((bt' l 8).toNat : Int) * 1 + ((bt' l 9).toNat : Int) * 256 + ((bt' l 10).toNat : Int) * 65536 + ((bt' l 11).toNat : Int) * 16777216 = 0
      · have hd := hd0 hz
        by_cases he : Ix.err ⟨op, r, ((bt' l 1).toNat : Int) % 16, ((bt' l 1).toNat : Int) / 16 - sr (ix op), offL l - of (ix op), V2⟩ = 0
        · rw [if_pos he] at hd
          rw [hd]
          exact rdec_two k o l.length cap (bt' l 0) (bt' l 1) (bt' l 2) (bt' l 3) (bt' l 4) (bt' l 5) (bt' l 6) (bt' l 7) (offL l) (immL l) w hE hn rfl rfl op r true hid rfl f hf hs' (by omega) (by omega) _ _ _ rfl rfl rfl u1 u2 u3 (sx16_b _) (sx32_b _) _ _ _ rfl rfl rfl hn2 (bt' l 8) (bt' l 9) (bt' l 10) (bt' l 11) (bt' l 12) (bt' l 13) (bt' l 14) (bt' l 15) hcells _ hz rfl V2 hV he hfit
        · rw [if_neg he] at hd
          rw [hd]
          exact rdec_two_bad k o l.length cap (bt' l 0) (bt' l 1) (bt' l 2) (bt' l 3) (bt' l 4) (bt' l 5) (bt' l 6) (bt' l 7) (offL l) (immL l) w hE hn rfl rfl op r true hid rfl f hf hs' (by omega) (by omega) _ _ _ rfl rfl rfl u1 u2 u3 (sx16_b _) (sx32_b _) _ _ _ rfl rfl rfl hn2 (bt' l 8) (bt' l 9) (bt' l 10) (bt' l 11) (bt' l 12) (bt' l 13) (bt' l 14) (bt' l 15) hcells _ hz rfl V2 hV _ rfl hfit (by simpa using he)
      · have hd := hd1 hz
        rw [hd]
        exact rdec_two_nz k o l.length cap (bt' l 0) (bt' l 1) (bt' l 2) (bt' l 3) (bt' l 4) (bt' l 5) (bt' l 6) (bt' l 7) (offL l) (immL l) w hE hn rfl rfl op r true hid rfl f hf hs' (by omega) (by omega) _ _ _ rfl rfl rfl u1 u2 u3 (sx16_b _) (sx32_b _) _ _ _ rfl rfl rfl hn2 (bt' l 8) (bt' l 9) (bt' l 10) (bt' l 11) (bt' l 12) (bt' l 13) (bt' l 14) (bt' l 15) hcells _ _ rfl rfl (by simpa using hz)
end Go.Proofs.YthebdblncafijaaDoor
