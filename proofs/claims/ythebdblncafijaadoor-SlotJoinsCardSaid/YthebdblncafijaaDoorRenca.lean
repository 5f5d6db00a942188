/- What the reference's Encode and Check return for every instruction, in the words of the model. Condition: the immediate is one of 64 bits. -/
import Derived.Test.YthebdblncafijaaDoorLaw
import Derived.Test.YthebdblncafijaaDoorRenc
import Derived.Test.YthebdblncafijaaDoorL4Facts
namespace Go.Proofs.YthebdblncafijaaDoor
open Go.RowKit L3 L1 L4

theorem rchk_is (x : Ix) (R : Int) (w : World) (hx : x.fits) (h : x.err = R) :
    Calls Tryd.prog 10 #[.agg #[.int .i64 x.op, .bool x.reg, .int .i64 x.dst, .int .i64 x.src, .int .i64 x.off, .int .i64 x.imm]] w fun e w' => e = .returned (.int .i64 R) ∧ Below w.heap.size w w' :=
  rcheck_is x.op x.reg x.dst x.src x.off x.imm x.f R w rfl ((chk_eq x.f (frm_isF x.op) x.reg x.dst x.src x.off x.imm hx.1 hx.2).symm.trans h)

theorem renc_ok (x : Ix) (w : World) (h0 : x.err = 0) :
    Calls Tryd.prog 13 #[.agg #[.int .i64 x.op, .bool x.reg, .int .i64 x.dst, .int .i64 x.src, .int .i64 x.off, .int .i64 x.imm]] w fun e w' => ∃ v, e = .returned v ∧ w'.ownsRow w.heap.size 5 1 v x.bytes.length (byL x.bytes) ∧ Below w.heap.size w w' := by
  have hc := (chk_ok _ _ _ _ _ _).1 h0
  have hj : ix x.op < 86 := frm_lt hc.hop
  have hfm : fm (ix x.op) = x.f := (frm_fm hj).symm
  have t1 := tab1 _ hj
  have t3 := tab3 _ hj x.reg
  have t4 := tab4 _ hj
  rw [hfm] at t4
  have gd := hc.gd
  have gs := hc.gs
  have ro := hc.ro
  have ha : cdV (ix x.op) x.reg = ((UInt8.ofNat (cdV (ix x.op) x.reg % 256).toNat).toNat : Int) := by rw [byte_nat]; omega
  have hb : 16 * (sr (ix x.op) + x.src) + x.dst = ((UInt8.ofNat ((16 * (x.src + sr (ix x.op)) + x.dst) % 256).toNat).toNat : Int) := by rw [byte_nat]; omega
  rcases t4.1 with hs | hs
  · have hl : x.bytes = [UInt8.ofNat (cdV (ix x.op) x.reg % 256).toNat, UInt8.ofNat ((16 * (x.src + sr (ix x.op)) + x.dst) % 256).toNat] ++ le 2 (x.off + of (ix x.op)) ++ le 4 (x.imm + im (ix x.op)) := by
      unfold Ix.bytes encL
      rw [if_neg (by omega)]
      simp
    have hn : x.bytes.length = 8 := by unfold Ix.bytes; rw [encL_length, if_neg (by omega)]
    rw [hn, hl]
    exact renc_1 x.op x.reg x.dst x.src x.off x.imm x.f w rfl hs _ _ _ _ _ _ ha rfl rfl rfl rfl hb (by omega) (by omega) (by omega) (by omega)
  · have hl : x.bytes = [UInt8.ofNat (cdV (ix x.op) x.reg % 256).toNat, UInt8.ofNat ((16 * (x.src + sr (ix x.op)) + x.dst) % 256).toNat] ++ le 2 (x.off + of (ix x.op)) ++ le 4 (x.imm + im (ix x.op)) ++ le 4 0 ++ le 4 (x.imm / 4294967296) := by
      unfold Ix.bytes encL
      rw [if_pos hs]
      simp [le4_zero]
    have hn : x.bytes.length = 16 := by unfold Ix.bytes; rw [encL_length, if_pos hs]
    rw [hn, hl]
    exact renc_2 x.op x.reg x.dst x.src x.off x.imm x.f w rfl hs _ _ _ _ _ _ ha rfl rfl rfl rfl hb (by omega) (by omega) (by omega) (by omega)
end Go.Proofs.YthebdblncafijaaDoor
