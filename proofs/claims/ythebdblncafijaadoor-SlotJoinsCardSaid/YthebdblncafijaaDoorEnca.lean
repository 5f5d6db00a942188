/- What Encode returns for every correct instruction, in one contract: the bytes, in memory of its own. Condition: the table of widths reads as laid, and the immediate is one of 64 bits. -/
import Derived.Test.YthebdblncafijaaDoorEnc
import Derived.Test.YthebdblncafijaaDoorEncm
namespace Go.Proofs.YthebdblncafijaaDoor
open Go.RowKit L3 L1 L4

theorem tab1 : ∀ j, j < 86 → 0 ≤ sr j ∧ sr j ≤ 1 ∧ 0 ≤ of j ∧ of j ≤ 64 ∧ 0 ≤ im j ∧ im j ≤ 64 := by decide +kernel
theorem tab2 : ∀ j, j < 86 → ∀ r : Bool, (uS (fm j) r = true → sr j = 0) ∧ (uO (fm j) = true → of j = 0) ∧ (uI (fm j) r = true → im j = 0) := by decide +kernel
theorem tab3 : ∀ j, j < 86 → ∀ r : Bool, 0 ≤ cdV j r ∧ cdV j r ≤ 255 := by decide +kernel
theorem tab4 : ∀ j, j < 86 → (slo (fm j) = 1 ∨ slo (fm j) = 2) ∧ (slo (fm j) = 2 → of j = 0 ∧ im j = 0 ∧ uI (fm j) true = true ∧ uI (fm j) false = true) := by decide +kernel

theorem frm_lt {j : Nat} (h : frm j ≠ -1) : j < 86 := by
  by_cases hj : j < 86
  · exact hj
  · exact absurd (by unfold frm; rw [if_neg hj]) h
theorem frm_fm {j : Nat} (h : j < 86) : frm j = fm j := by unfold frm; rw [if_pos h]

/-- The cells of some bytes. -/
def byC (l : List UInt8) : Array Value := (l.map fun c => Value.int .u8 (c.toNat : Int)).toArray

theorem or_16 (a b : Int) (ha : 0 ≤ a) (ha2 : a ≤ 15) (hb : 0 ≤ b) (hb2 : b ≤ 15) : bits .or .i64 (a * 16) b = 16 * a + b := by
  have h : ∀ a : Fin 16, ∀ b : Fin 16, bits .or .i64 (((a.val : Nat) : Int) * 16) ((b.val : Nat) : Int) = 16 * ((a.val : Nat) : Int) + ((b.val : Nat) : Int) := by decide +kernel
  have := h ⟨a.toNat, by omega⟩ ⟨b.toNat, by omega⟩
  simpa [Int.toNat_of_nonneg ha, Int.toNat_of_nonneg hb] using this

theorem wrap32_is (n : Int) : wrap32 n = (n + 2147483648) % 4294967296 - 2147483648 := by
  unfold wrap32
  omega

theorem le2_16 (z : Int) : le 2 (IntKind.i16.wrap z) = le 2 z := le_mod (by rw [wrap_i16]; omega)
theorem le4_32 (z : Int) : le 4 (wrap32 z) = le 4 z := le_mod (by rw [wrap32_is]; omega)

theorem le2_eq (z : Int) : le 2 z = [UInt8.ofNat (z % 256).toNat, UInt8.ofNat (z / 256 % 256).toNat] := rfl
theorem le4_eq (z : Int) : le 4 z = [UInt8.ofNat (z % 256).toNat, UInt8.ofNat (z / 256 % 256).toNat, UInt8.ofNat (z / 256 / 256 % 256).toNat, UInt8.ofNat (z / 256 / 256 / 256 % 256).toNat] := rfl

set_option maxHeartbeats 1000000 in
theorem encode_at (op : Int) (reg : Bool) (dst src off imm f : Int) (l : List UInt8) (n : Nat) (w : World) (hw : Wid w) (hf : frm (ix op) = f) (hc : OkI f reg dst src off imm) (i0 : -9223372036854775808 ≤ imm) (i1 : imm ≤ 9223372036854775807) (hl : encL (ix op) f reg dst src off imm = l) (hn : l.length = n) :
    Calls Tryd.prog 9 #[.agg #[.int .i64 op, .bool reg, .int .i64 dst, .int .i64 src, .int .i64 off, .int .i64 imm]] w fun e w' => ∃ k, w.heap.size ≤ k ∧ e = .returned (.tuple #[.slice (some ⟨k, 0, none⟩) n n, .int .i64 0]) ∧ w'.heap[k]? = some (.cells (byC l) 5) ∧ Below w.heap.size w w' := by
  subst hl hn
  have hj : ix op < 86 := frm_lt (by rw [hf]; exact hc.hop)
  have hfm : fm (ix op) = f := (frm_fm hj).symm.trans hf
  have hchk := (chk_ok f reg dst src off imm).2 hc
  have t1 := tab1 _ hj
  have t2 := tab2 _ hj reg
  have t3 := tab3 _ hj reg
  have t4 := tab4 _ hj
  rw [hfm] at t2 t4
  have hK : cdB (ix op) reg = true := by
    unfold cdB
    rw [hfm]
    simpa [hj, isR, Bool.or_assoc] using hc.hreg
  have gd := hc.gd
  have gs := hc.gs
  have ro := hc.ro
  have hor := or_16 (src + sr (ix op)) dst (by omega) (by omega) (by omega) (by omega)
  have m0 : cdV (ix op) reg % 256 = cdV (ix op) reg := by omega
  have m1 : (16 * (src + sr (ix op)) + dst) % 256 = 16 * (src + sr (ix op)) + dst := by omega
  have him : -9223372036854775808 ≤ imm + im (ix op) ∧ imm + im (ix op) ≤ 9223372036854775807 := by
    rcases hc.ui with h | h
    · have := t2.2.2 h
      omega
    · omega
  rcases t4.1 with hs | hs
  · refine (encode_8 op reg dst src off imm f w hw hf hchk hs _ _ _ _ rfl hK rfl rfl rfl _ (by omega) (by omega) hor (by omega) (by omega) (by omega) him.1 him.2 _ _ _ _ _ _ rfl rfl rfl rfl rfl rfl).mono fun e w' h => ?_
    obtain ⟨k, hk, he, hh, hb⟩ := h
    refine ⟨k, hk, ?_, ?_, hb⟩
    · rw [encL_length, if_neg (by omega)]; exact he
    · rw [hh]
      unfold encL byC
      rw [if_neg (by omega), ← le2_16, ← le4_32, le2_eq, le4_eq]
      simp only [List.append_nil, List.cons_append, List.nil_append, List.map_cons, List.map_nil, byte_nat]
      rw [m0, m1]
  · refine (encode_16 op reg dst src off imm f w hw hf hchk hs _ _ _ _ rfl hK rfl rfl rfl _ (by omega) (by omega) hor (by omega) (by omega) (by omega) him.1 him.2 i0 i1 _ _ _ _ _ _ _ _ _ _ rfl rfl rfl rfl rfl rfl rfl rfl rfl rfl).mono fun e w' h => ?_
    obtain ⟨k, hk, he, hh, hb⟩ := h
    refine ⟨k, hk, ?_, ?_, hb⟩
    · rw [encL_length, if_pos hs]; exact he
    · rw [hh]
      unfold encL byC
      rw [if_pos hs, ← le2_16, ← le4_32 (imm + _), le2_eq, le4_eq, le4_eq]
      simp only [List.cons_append, List.nil_append, List.map_cons, List.map_nil, byte_nat]
      rw [m0, m1]
      rfl
end Go.Proofs.YthebdblncafijaaDoor
