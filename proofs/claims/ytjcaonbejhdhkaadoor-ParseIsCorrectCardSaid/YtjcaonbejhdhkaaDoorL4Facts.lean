/- The program's Check and the reference's come to the same number: no program here. Condition: the immediate is one of 64 bits. -/
import Derived.Test.YtjcaonbejhdhkaaDoorM9
import Derived.Test.YtjcaonbejhdhkaaDoorM8
namespace Go.Proofs.YtjcaonbejhdhkaaDoor.L4
open Go.RowKit L3 L1

/-- What the reference's Check comes to. -/
def rchF (f : Int) (reg : Bool) (dst src off imm : Int) : Int :=
  rchk (decide (f < 0)) (rZ f reg (uD f) (uS f reg) (uO f) (uI f reg) dst src off imm) (isG dst && isG src) (rY off) (rX f imm)

theorem off_range (off : Int) : (sx 16 off == off) = !rY off := by
  unfold rY sx
  rw [Bool.eq_iff_iff]
  simp
  omega

theorem imm_range (f imm : Int) (h0 : -9223372036854775808 ≤ imm) (h1 : imm ≤ 9223372036854775807) : rng f imm = !rX f imm := by
  unfold rng rX
  by_cases h5 : f = 5
  · subst h5
    rw [Bool.eq_iff_iff]
    simp [sx]
    omega
  by_cases h11 : f = 11
  · subst h11
    rw [Bool.eq_iff_iff]
    simp [sx]
    omega
  by_cases h10 : f = 10
  · subst h10
    rw [Bool.eq_iff_iff]
    simp [sx]
    omega
  · have e5 : (f == 5) = false := by simpa using h5
    have e11 : (f == 11) = false := by simpa using h11
    have e10 : (f == 10) = false := by simpa using h10
    have n10 : (f != 10) = true := by rw [bne, e10]; rfl
    rw [e5, e11, e10, n10]
    simp [bne]

theorem field_bad (reg e0 e4 vD vS vO vI d0 s0 o0 i0 : Bool) :
    (!((!reg || e0 || e4) && ((vD || d0) && (vS || s0)) && ((vO || o0) && (vI || i0)))) = (((((reg && !e0 && !e4) || (!vD && !d0)) || (!vS && !s0)) || (!vO && !o0)) || (!vI && !i0)) := by
  cases reg <;> cases e0 <;> cases e4 <;> cases vD <;> cases vS <;> cases vO <;> cases vI <;> cases d0 <;> cases s0 <;> cases o0 <;> cases i0 <;> rfl

theorem first_is (b1 b2 b3 b4 b5 b6 b7 n z y x : Bool) (hn : b1 = !n) (hz : (!(b2 && b3 && b4)) = z) (h6 : b6 = !y) (h7 : b7 = !x) :
    firstBad [(b1, 6), (b2, 12), (b3, 12), (b4, 12), (b5, 5), (b6, 4), (b7, 4)] = rchk n z b5 y x := by
  subst hn hz h6 h7
  cases n <;> cases b2 <;> cases b3 <;> cases b4 <;> cases b5 <;> cases y <;> cases x <;> rfl

theorem chk_eq (f : Int) (hF : IsF f) (reg : Bool) (dst src off imm : Int) (h0 : -9223372036854775808 ≤ imm) (h1 : imm ≤ 9223372036854775807) : chkF f reg dst src off imm = rchF f reg dst src off imm := by
  unfold chkF rchF
  refine first_is _ _ _ _ _ _ _ _ _ _ _ ?_ ?_ (off_range off) (imm_range f imm h0 h1)
  · rcases hF with rfl | rfl | rfl | rfl | rfl | rfl | rfl | rfl | rfl | rfl | rfl | rfl | rfl <;> rfl
  · rw [field_bad]
    rfl

theorem rcheck_is (op : Int) (reg : Bool) (dst src off imm f R : Int) (w : World) (hf : frm (ix op) = f) (hR : rchF f reg dst src off imm = R) :
    Calls Tryd.prog 18 #[.agg #[.int .i64 op, .bool reg, .int .i64 dst, .int .i64 src, .int .i64 off, .int .i64 imm]] w fun e w' => e = .returned (.int .i64 R) ∧ Below w.heap.size w w' := by
  subst hR
  exact rcheck_at op reg dst src off imm f _ _ _ _ _ _ _ _ _ w hf rfl rfl rfl rfl rfl rfl rfl rfl rfl
end Go.Proofs.YtjcaonbejhdhkaaDoor.L4
