/- The same for operations of two slots. No program; no condition. -/
import Derived.Test.YthebdblncafijaaDoorRdecf
namespace Go.Proofs.YthebdblncafijaaDoor
open Go.RowKit L3 L1 L4

theorem v2_parts (a b V : Int) (a0 : 0 ≤ a) (a1 : a < 4294967296) (b0 : 0 ≤ b) (b1 : b < 4294967296) (h : wrap64 (IntKind.u64.wrap (IntKind.u64.wrap (a * 4294967296) + b)) = V) :
    V % 4294967296 = b ∧ V / 4294967296 % 4294967296 = a ∧ -9223372036854775808 ≤ V ∧ V ≤ 9223372036854775807 := by
  subst h
  rw [IntKind.wrap_u64, IntKind.wrap_u64]
  have e : (a * 4294967296 % 18446744073709551616 + b) % 18446744073709551616 = a * 4294967296 + b := by omega
  rw [e]
  unfold wrap64
  omega
theorem v2_eq (V z a b : Int) (h0 : -9223372036854775808 ≤ V) (h1 : V ≤ 9223372036854775807) (h2 : -9223372036854775808 ≤ z) (h3 : z ≤ 9223372036854775807) (e1 : V % 4294967296 = b) (e2 : V / 4294967296 % 4294967296 = a) (e3 : z % 4294967296 = b) (e4 : z / 4294967296 % 4294967296 = a) : V = z := by omega
theorem sum4' (a b c d : UInt8) : (a.toNat : Int) * 1 + (b.toNat : Int) * 256 + (c.toNat : Int) * 65536 + (d.toNat : Int) * 16777216 < 4294967296 := by
  have := hi8 a
  have := hi8 b
  have := hi8 c
  have := hi8 d
  omega
theorem sum2' (a b : UInt8) : (a.toNat : Int) * 1 + (b.toNat : Int) * 256 < 65536 := by
  have := hi8 a
  have := hi8 b
  omega
theorem rd_two {l : List UInt8} {op : Int} {r : Bool} (hid : idL l = (op, r, true)) (h16 : 16 ≤ l.length) (hs : slo (frm (ix op)) = 2) (g1 : ((bt' l 1).toNat : Int) % 16 ≤ 10) (g2 : ((bt' l 1).toNat : Int) / 16 ≤ 10)
    (V2 : Int) (hV : wrap64 (IntKind.u64.wrap (IntKind.u64.wrap ((((bt' l 12).toNat : Int) * 1 + ((bt' l 13).toNat : Int) * 256 + ((bt' l 14).toNat : Int) * 65536 + ((bt' l 15).toNat : Int) * 16777216) * 4294967296) + (((bt' l 4).toNat : Int) * 1 + ((bt' l 5).toNat : Int) * 256 + ((bt' l 6).toNat : Int) * 65536 + ((bt' l 7).toNat : Int) * 16777216))) = V2)
    (x : Ix) (hx : x = ⟨op, r, ((bt' l 1).toNat : Int) % 16, ((bt' l 1).toNat : Int) / 16 - sr (ix op), offL l - of (ix op), V2⟩) :
    x.fits ∧ (((bt' l 8).toNat : Int) * 1 + ((bt' l 9).toNat : Int) * 256 + ((bt' l 10).toNat : Int) * 65536 + ((bt' l 11).toNat : Int) * 16777216 = 0 → decF l = if x.err = 0 then (x, 2, 0) else (.z, 0, 12)) ∧ (((bt' l 8).toNat : Int) * 1 + ((bt' l 9).toNat : Int) * 256 + ((bt' l 10).toNat : Int) * 65536 + ((bt' l 11).toNat : Int) * 16777216 ≠ 0 → decF l = (.z, 0, 12)) := by
  obtain ⟨hj, hc⟩ := id_row hid
  have t1 := tab1 _ hj
  have t4 := (tab4 _ hj).2 (by rw [← frm_fm hj]; exact hs)
  have b0 := hi8 (bt' l 0)
  have b1 := hi8 (bt' l 1)
  have b2 := sum2 (bt' l 2) (bt' l 3)
  have b2' := sum2' (bt' l 2) (bt' l 3)
  obtain ⟨w1, w2, w3, w4⟩ := v2_parts _ _ V2 (sum4 (bt' l 12) (bt' l 13) (bt' l 14) (bt' l 15)).1 (sum4' (bt' l 12) (bt' l 13) (bt' l 14) (bt' l 15)) (sum4 (bt' l 4) (bt' l 5) (bt' l 6) (bt' l 7)).1 (sum4' (bt' l 4) (bt' l 5) (bt' l 6) (bt' l 7)) hV
  have hop : x.op = op := by rw [hx]
  have hf : x.f = frm (ix op) := by rw [← hop]; rfl
  have hfits : x.fits := by
    rw [hx]
    exact ⟨w3, w4⟩
  -- a success has x
  have win : (decF l).2.2 = 0 → decF l = (rdL l, slo (frm (ix op)), 0) → x = rdL l ∧ (rdL l).err = 0 ∧ ((bt' l 8).toNat : Int) * 1 + ((bt' l 9).toNat : Int) * 256 + ((bt' l 10).toNat : Int) * 65536 + ((bt' l 11).toNat : Int) * 16777216 = 0 := by
    intro he hd
    obtain ⟨s, q1, q2, q3, q4, q5, q6, q7⟩ := dec_good l he
    rw [hd] at q1 q5 q6 q7
    dsimp only at q1 q5 q6 q7
    obtain rfl : s = 2 := by omega
    have yop : (rdL l).op = op := by unfold rdL; rw [hid]
    have yreg : (rdL l).reg = r := by unfold rdL; rw [hid]
    generalize rdL l = y at q5 q6 q7 yop yreg ⊢
    have hy : slo y.f = 2 := by rw [show y.f = frm (ix op) by rw [← yop]; rfl]; exact hs
    have gp := good_parts q5
    have gi := q6
    rw [bytes_two y hy, take16 l h16] at q7
    obtain ⟨-, p1, p2, p3, p4, p5⟩ := two_parts q7
    rw [yop] at p1 p2 p3 gp
    rw [byte_eq _ _ (by omega) (by omega)] at p1
    rw [le2_iff] at p2
    rw [le4_iff] at p3 p4 p5
    have p2' : offL l = y.off + of (ix op) := sx16_at _ _ (by omega) (by omega) p2
    rw [t4.2.1, Int.add_zero] at p3
    have e5 : V2 = y.imm := v2_eq V2 y.imm _ _ w3 w4 gi.1 gi.2 w1 w2 p3 p5
    have e1 : ((bt' l 1).toNat : Int) % 16 = y.dst := by omega
    have e2 : ((bt' l 1).toNat : Int) / 16 - sr (ix y.op) = y.src := by rw [yop]; omega
    have e3 : offL l - of (ix y.op) = y.off := by rw [yop]; omega
    refine ⟨?_, q5, p4.symm.trans (by decide)⟩
    rw [hx, ← yop, ← yreg, e1, e2, e3, e5]
  refine ⟨hfits, fun h0 => ?_, fun h0 => ?_⟩
  · by_cases he : x.err = 0
    · rw [if_pos he]
      have hb : x.bytes = l.take 16 := by
        rw [bytes_two x (by rw [hf]; exact hs), take16 l h16, hx]
        dsimp only
        rw [hc, (byte_eq _ _ b0.1 b0.2).2 rfl, (byte_eq _ (bt' l 1) (by omega) (by omega)).2 (by omega)]
        rw [(le2_iff _ (bt' l 2) (bt' l 3)).2 (by rw [show offL l - of (ix op) + of (ix op) = offL l by omega]; exact sx16_m _ b2.1 b2')]
        rw [t4.2.1, Int.add_zero, (le4_iff _ (bt' l 4) (bt' l 5) (bt' l 6) (bt' l 7)).2 w1]
        rw [(le4_iff 0 (bt' l 8) (bt' l 9) (bt' l 10) (bt' l 11)).2 (by rw [h0]; decide), (le4_iff _ (bt' l 12) (bt' l 13) (bt' l 14) (bt' l 15)).2 w2]
      have h := dec_enc x (l.drop 16) he hfits
      rw [hb, List.take_append_drop, hf, hs] at h
      exact h
    · rw [if_neg he]
      rcases decF_way hid (by omega) (fun _ => h16) g1 g2 with hd | hd
      · obtain ⟨a, b, -⟩ := win (by rw [hd]) hd
        exact absurd (a ▸ b) he
      · exact hd
  · rcases decF_way hid (by omega) (fun _ => h16) g1 g2 with hd | hd
    · exact absurd (win (by rw [hd]) hd).2.2 h0
    · exact hd
end Go.Proofs.YthebdblncafijaaDoor
