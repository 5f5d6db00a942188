/- The same for operations of one slot. No program; no condition. -/
import Derived.Test.YthebdblncafijaaDoorRdecg
namespace Go.Proofs.YthebdblncafijaaDoor
open Go.RowKit L3 L1 L4

theorem fit1 {a b c d e f i : Int} (h : -2147483648 ≤ i ∧ i ≤ 2147483647) (t : 0 ≤ a ∧ a ≤ 1 ∧ 0 ≤ b ∧ b ≤ 64 ∧ 0 ≤ c ∧ c ≤ 64) {op : Int} {r : Bool} : (Ix.mk op r d e f (i - c)).fits := by
  obtain ⟨h1, h2⟩ := h
  obtain ⟨-, -, -, -, h5, h6⟩ := t
  constructor <;> dsimp only <;> omega
theorem sub_of {a b c : Int} (h : a = b + c) : a - c = b := by omega
theorem immL_m (l : List UInt8) : immL l % 4294967296 = ((bt' l 4).toNat : Int) * 1 + ((bt' l 5).toNat : Int) * 256 + ((bt' l 6).toNat : Int) * 65536 + ((bt' l 7).toNat : Int) * 16777216 := by
  unfold immL
  generalize hs : ((bt' l 4).toNat : Int) * 1 + ((bt' l 5).toNat : Int) * 256 + ((bt' l 6).toNat : Int) * 65536 + ((bt' l 7).toNat : Int) * 16777216 = s
  exact sx32_m s (hs ▸ (sum4 (bt' l 4) (bt' l 5) (bt' l 6) (bt' l 7)).1) (hs ▸ sum4' (bt' l 4) (bt' l 5) (bt' l 6) (bt' l 7))
theorem offL_m (l : List UInt8) : offL l % 65536 = ((bt' l 2).toNat : Int) * 1 + ((bt' l 3).toNat : Int) * 256 := by
  unfold offL
  generalize hs : ((bt' l 2).toNat : Int) * 1 + ((bt' l 3).toNat : Int) * 256 = s
  exact sx16_m s (hs ▸ (sum2 (bt' l 2) (bt' l 3)).1) (hs ▸ sum2' (bt' l 2) (bt' l 3))
theorem immL_b (l : List UInt8) : -2147483648 ≤ immL l ∧ immL l ≤ 2147483647 := by
  unfold immL
  generalize ((bt' l 4).toNat : Int) * 1 + ((bt' l 5).toNat : Int) * 256 + ((bt' l 6).toNat : Int) * 65536 + ((bt' l 7).toNat : Int) * 16777216 = s
  exact sx32_b s
theorem immL_at (l : List UInt8) (z : Int) (h0 : -2147483648 ≤ z) (h1 : z ≤ 2147483647) (h : z % 4294967296 = ((bt' l 4).toNat : Int) * 1 + ((bt' l 5).toNat : Int) * 256 + ((bt' l 6).toNat : Int) * 65536 + ((bt' l 7).toNat : Int) * 16777216) : immL l = z := by
  unfold immL
  generalize ((bt' l 4).toNat : Int) * 1 + ((bt' l 5).toNat : Int) * 256 + ((bt' l 6).toNat : Int) * 65536 + ((bt' l 7).toNat : Int) * 16777216 = s at h ⊢
  exact sx32_at s z h0 h1 h
set_option maxHeartbeats 1000000 in
theorem rd_one {l : List UInt8} {op : Int} {r : Bool} (hid : idL l = (op, r, true)) (h8 : 8 ≤ l.length) (hs : slo (frm (ix op)) = 1) (g1 : ((bt' l 1).toNat : Int) % 16 ≤ 10) (g2 : ((bt' l 1).toNat : Int) / 16 ≤ 10)
    (x : Ix) (hx : x = ⟨op, r, ((bt' l 1).toNat : Int) % 16, ((bt' l 1).toNat : Int) / 16 - sr (ix op), offL l - of (ix op), immL l - im (ix op)⟩) :
    x.fits ∧ decF l = if x.err = 0 then (x, 1, 0) else (.z, 0, 12) := by
  obtain ⟨hj, hc⟩ := id_row hid
  have t1 := tab1 _ hj
  have b0 := hi8 (bt' l 0)
  have b1 := hi8 (bt' l 1)
  have hi' : -2147483648 ≤ immL l ∧ immL l ≤ 2147483647 := immL_b l
  have hop : x.op = op := by rw [hx]
  have hf : x.f = frm (ix op) := by rw [← hop]; rfl
  have hfits : x.fits := by
    rw [hx]
    exact fit1 hi' t1
  refine ⟨hfits, ?_⟩
  by_cases he : x.err = 0
  · rw [if_pos he]
    have hb : x.bytes = l.take 8 := by
      rw [bytes_one x (by rw [hf]; exact hs), take8 l h8, hx]
      dsimp only
      rw [hc, (byte_eq _ _ b0.1 b0.2).2 rfl, (byte_eq _ (bt' l 1) (by omega) (by omega)).2 (by omega)]
      rw [(le2_iff _ (bt' l 2) (bt' l 3)).2 (by rw [Int.sub_add_cancel]; exact offL_m l)]
      rw [(le4_iff _ (bt' l 4) (bt' l 5) (bt' l 6) (bt' l 7)).2 (by rw [Int.sub_add_cancel]; exact immL_m l)]
    have h := dec_enc x (l.drop 8) he hfits
    rw [hb, List.take_append_drop, hf, hs] at h
    exact h
  · rw [if_neg he]
    rcases decF_way hid h8 (by omega) g1 g2 with hd | hd
    · exfalso
      obtain ⟨s, q1, q2, q3, q4, q5, q6, q7⟩ := dec_good l (by rw [hd])
      rw [hd] at q1 q5 q6 q7
      dsimp only at q1 q5 q6 q7
      obtain rfl : s = 1 := by omega
      have yop : (rdL l).op = op := by unfold rdL; rw [hid]
      have yreg : (rdL l).reg = r := by unfold rdL; rw [hid]
      generalize rdL l = y at q5 q6 q7 yop yreg
      have hy : slo y.f = 1 := by rw [show y.f = frm (ix op) by rw [← yop]; rfl]; exact hs
      have gp := good_parts q5
      have gi := good_imm q5 hy
      rw [bytes_one y hy, take8 l h8] at q7
      obtain ⟨-, p1, p2, p3⟩ := one_parts q7
      rw [yop] at p1 p2 p3 gp gi
      rw [byte_eq _ _ (by omega) (by omega)] at p1
      rw [le2_iff] at p2
      rw [le4_iff] at p3
      have p2' : offL l = y.off + of (ix op) := sx16_at _ _ (by omega) (by omega) p2
      have p3' : immL l = y.imm + im (ix op) := immL_at l _ gi.1 gi.2 p3
      apply he
      have : x = y := by
        rw [hx, ← yop, ← yreg]
        have e1 : ((bt' l 1).toNat : Int) % 16 = y.dst := by omega
        have e2 : ((bt' l 1).toNat : Int) / 16 - sr (ix y.op) = y.src := by rw [yop]; omega
        have e3 : offL l - of (ix y.op) = y.off := by rw [yop]; exact sub_of p2'
        have e4 : immL l - im (ix y.op) = y.imm := by rw [yop]; exact sub_of p3'
        rw [e1, e2, e3, e4]
      rw [this]
      exact q5
    · exact hd
end Go.Proofs.YthebdblncafijaaDoor
