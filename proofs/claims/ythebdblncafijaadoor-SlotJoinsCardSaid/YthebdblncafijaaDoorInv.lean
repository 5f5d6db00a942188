/- Decode inverts Encode, in the model: no program. Condition: the instruction is correct, and its immediate one of 64 bits. -/
import Derived.Test.YthebdblncafijaaDoorLaw
namespace Go.Proofs.YthebdblncafijaaDoor
open Go.RowKit L3 L1 L4

theorem id_inv : ∀ k, k < 86 → ∀ reg : Bool, cdB k reg = true → idF (cdV k reg) (sr k) (of k) (im k) 86 0 = ((k : Int), reg, true) := by decide +kernel
def kinQ (j k : Nat) (reg : Bool) : Bool := !(regK (cdV j reg) k || cdV j reg == cd k) || ((!(fm k == 10 || fm k == 11) || !uS (fm j) reg) && ((!(fm k == 0 || fm k == 2) || !uO (fm j)) && (!(fm k == 1 && im k != 0) || !uI (fm j) reg)))
theorem kin0 : ((List.range 86).all fun j => (List.range 86).all fun k => (!cdB j true || kinQ j k true) && (!cdB j false || kinQ j k false)) = true := by decide +kernel
theorem kin1 (j : Nat) (hj : j < 86) (reg : Bool) (hr : cdB j reg = true) (k : Nat) (hk : k < 86) (hh : (regK (cdV j reg) k || cdV j reg == cd k) = true) :
    ((fm k == 10 || fm k == 11) = true → uS (fm j) reg = false) ∧ ((fm k == 0 || fm k == 2) = true → uO (fm j) = false) ∧ ((fm k == 1 && im k != 0) = true → uI (fm j) reg = false) := by
  have h := List.all_eq_true.1 (List.all_eq_true.1 kin0 j (List.mem_range.2 hj)) k (List.mem_range.2 hk)
  have hq : kinQ j k reg = true := by
    rw [Bool.and_eq_true] at h
    cases reg
    · simpa [hr] using h.2
    · simpa [hr] using h.1
  unfold kinQ at hq
  rw [hh] at hq
  simp only [Bool.not_true, Bool.false_or, Bool.and_eq_true, Bool.or_eq_true, Bool.not_eq_true'] at hq
  obtain ⟨q1, q2, q3⟩ := hq
  refine ⟨fun h => ?_, fun h => ?_, fun h => ?_⟩
  · rcases q1 with q | q
    · rw [h] at q; cases q
    · exact q
  · rcases q2 with q | q
    · rw [h] at q; cases q
    · exact q
  · rcases q3 with q | q
    · rw [h] at q; cases q
    · exact q

theorem idF_same (c s o i s' o' i' : Int) : ∀ n k : Nat, (∀ q, k ≤ q → q < k + n → hitK c s o i q = hitK c s' o' i' q) → idF c s o i n k = idF c s' o' i' n k
  | 0, _, _ => rfl
  | n + 1, k, h => by
    unfold idF
    rw [h k (Nat.le_refl _) (by omega), idF_same c s o i s' o' i' n (k + 1) (fun q h1 h2 => h q (by omega) (by omega))]

/-- The fields that an instruction uses don't turn the look-up of its operation. -/
theorem id_of {x : Ix} (h0 : x.err = 0) (I : Int) (hI : uI x.f x.reg = false → I = im (ix x.op)) : idF (cdV (ix x.op) x.reg) (x.src + sr (ix x.op)) (x.off + of (ix x.op)) I 86 0 = (x.op, x.reg, true) := by
  have hc := (chk_ok _ _ _ _ _ _).1 h0
  have hj : ix x.op < 86 := frm_lt hc.hop
  have hfm : fm (ix x.op) = x.f := (frm_fm hj).symm
  have hK : cdB (ix x.op) x.reg = true := by
    unfold cdB
    rw [hfm]
    simpa [hj, isR, Bool.or_assoc] using hc.hreg
  have hop : ((ix x.op : Nat) : Int) = x.op := by
    unfold ix at hj ⊢
    split at hj
    · rw [if_pos (by assumption)]; omega
    · omega
  have h1 := id_inv _ hj x.reg hK
  rw [hop] at h1
  rw [← h1]
  refine idF_same _ _ _ _ _ _ _ 86 0 fun q _ hq => ?_
  unfold hitK
  cases hh : (regK (cdV (ix x.op) x.reg) q || cdV (ix x.op) x.reg == cd q)
  · simp
  · obtain ⟨k1, k2, k3⟩ := kin1 _ hj x.reg hK q (by omega) hh
    rw [hfm] at k1 k2 k3
    congr 1
    unfold sameK
    have e1 : wiR (fm q) (x.src + sr (ix x.op)) (sr q) = wiR (fm q) (sr (ix x.op)) (sr q) := by
      unfold wiR
      cases h : (fm q == 10 || fm q == 11)
      · rfl
      · have := hc.us.resolve_left (by rw [k1 h]; decide)
        simp [this]
    have e2 : wiO (fm q) (x.off + of (ix x.op)) (of q) = wiO (fm q) (of (ix x.op)) (of q) := by
      unfold wiO
      cases h : (fm q == 0 || fm q == 2)
      · rfl
      · have := hc.uo.resolve_left (by rw [k2 h]; decide)
        simp [this]
    have e3 : wiI (fm q) I (im q) = wiI (fm q) (im (ix x.op)) (im q) := by
      unfold wiI
      cases h : (fm q == 1 && im q != 0)
      · rfl
      · rw [hI (k3 h)]
    rw [e1, e2, e3]

theorem sx16_two (z : Int) (h0 : -32768 ≤ z) (h1 : z ≤ 32767) : sx 16 (((UInt8.ofNat (z % 256).toNat).toNat : Int) * 1 + ((UInt8.ofNat (z / 256 % 256).toNat).toNat : Int) * 256) = z := by
  rw [byte_nat, byte_nat]
  unfold sx
  simp
  omega
theorem four_sum (z : Int) : ((UInt8.ofNat (z % 256).toNat).toNat : Int) * 1 + ((UInt8.ofNat (z / 256 % 256).toNat).toNat : Int) * 256 + ((UInt8.ofNat (z / 256 / 256 % 256).toNat).toNat : Int) * 65536 + ((UInt8.ofNat (z / 256 / 256 / 256 % 256).toNat).toNat : Int) * 16777216 = z % 4294967296 := by
  rw [byte_nat, byte_nat, byte_nat, byte_nat]
  omega
theorem sx32_mod (z : Int) : sx 32 (z % 4294967296) = sx 32 z := by
  unfold sx
  simp
theorem sx32_id (z : Int) (h0 : -2147483648 ≤ z) (h1 : z ≤ 2147483647) : sx 32 z = z := by
  unfold sx
  simp
  omega
theorem sx32_low (z : Int) : sx 32 z % 4294967296 = z % 4294967296 := by
  unfold sx
  simp
theorem glue (z : Int) : z % 4294967296 + z / 4294967296 * 4294967296 = z := by omega
theorem hi_b (z : Int) (h0 : -9223372036854775808 ≤ z) (h1 : z ≤ 9223372036854775807) : -2147483648 ≤ z / 4294967296 ∧ z / 4294967296 ≤ 2147483647 := by omega

/-- The words of a good instruction's bytes. -/
theorem good_parts {x : Ix} (h0 : x.err = 0) : ix x.op < 86 ∧ 0 ≤ cdV (ix x.op) x.reg ∧ cdV (ix x.op) x.reg ≤ 255 ∧ 0 ≤ x.dst ∧ x.dst ≤ 10 ∧ 0 ≤ x.src + sr (ix x.op) ∧ x.src + sr (ix x.op) ≤ 10 ∧ -32768 ≤ x.off + of (ix x.op) ∧ x.off + of (ix x.op) ≤ 32767 := by
  have hc := (chk_ok _ _ _ _ _ _).1 h0
  have hj : ix x.op < 86 := frm_lt hc.hop
  have hfm : fm (ix x.op) = x.f := (frm_fm hj).symm
  have t1 := tab1 _ hj
  have t2 := tab2 _ hj x.reg
  have t3 := tab3 _ hj x.reg
  rw [hfm] at t2
  have gd := hc.gd
  have gs := hc.gs
  have ro := hc.ro
  refine ⟨hj, t3.1, t3.2, gd.1, gd.2, by omega, ?_, ?_, ?_⟩
  · rcases hc.us with h | h
    · have := t2.1 h; omega
    · omega
  · rcases hc.uo with h | h
    · have := t2.2.1 h; omega
    · omega
  · rcases hc.uo with h | h
    · have := t2.2.1 h; omega
    · omega
/-- The immediate of an operation of one slot fits 32 bits. -/
theorem good_imm {x : Ix} (h0 : x.err = 0) (hs : slo x.f = 1) : -2147483648 ≤ x.imm + im (ix x.op) ∧ x.imm + im (ix x.op) ≤ 2147483647 := by
  have hc := (chk_ok _ _ _ _ _ _).1 h0
  have hj : ix x.op < 86 := frm_lt hc.hop
  have hfm : fm (ix x.op) = x.f := (frm_fm hj).symm
  have t1 := tab1 _ hj
  have t2 := tab2 _ hj x.reg
  rw [hfm] at t2
  rcases hc.ui with h | h
  · have h2 := t2.2.2 h
    have hr := hc.ri
    have hF : IsF x.f := frm_isF x.op
    unfold rng at hr
    by_cases h5 : x.f = 5
    · rw [h5] at hr
      simp at hr
      omega
    by_cases h11 : x.f = 11
    · rw [h11] at hs
      exact absurd hs (by decide)
    by_cases h10 : x.f = 10
    · rw [h10] at hs
      exact absurd hs (by decide)
    · have e5 : (x.f == 5) = false := by simpa using h5
      have e11 : (x.f == 11) = false := by simpa using h11
      have e10 : (x.f == 10) = false := by simpa using h10
      rw [e5, e11, e10] at hr
      simp only [Bool.false_eq_true, if_false, beq_iff_eq] at hr
      have := sx32_b x.imm
      omega
  · omega

set_option maxHeartbeats 1000000 in
/-- Decode inverts Encode, whatever follows. -/
theorem dec_enc (x : Ix) (r : List UInt8) (h0 : x.err = 0) (hf : x.fits) : decF (x.bytes ++ r) = (x, slo x.f, 0) := by
  have hc := (chk_ok _ _ _ _ _ _).1 h0
  obtain ⟨hj, c0, c1, d0, d1, s0, s1, o0, o1⟩ := good_parts h0
  have hfm : fm (ix x.op) = x.f := (frm_fm hj).symm
  have t2 := tab2 _ hj x.reg
  have t4 := tab4 _ hj
  rw [hfm] at t2 t4
  obtain ⟨a, ha⟩ : ∃ a, UInt8.ofNat (cdV (ix x.op) x.reg % 256).toNat = a := ⟨_, rfl⟩
  obtain ⟨b, hb⟩ : ∃ b, UInt8.ofNat ((16 * (x.src + sr (ix x.op)) + x.dst) % 256).toNat = b := ⟨_, rfl⟩
  have ha' : (a.toNat : Int) = cdV (ix x.op) x.reg := by rw [← ha, byte_nat]; omega
  have hb' : (b.toNat : Int) = 16 * (x.src + sr (ix x.op)) + x.dst := by rw [← hb, byte_nat]; omega
  obtain ⟨q, hq⟩ : ∃ q, (if slo x.f = 2 then 0 :: 0 :: 0 :: 0 :: le 4 (x.imm / 4294967296) else []) ++ r = q := ⟨_, rfl⟩
  have hl : x.bytes ++ r = a :: b :: (le 2 (x.off + of (ix x.op)) ++ (le 4 (x.imm + im (ix x.op)) ++ q)) := by
    rw [← hq, ← ha, ← hb]
    unfold Ix.bytes encL
    simp only [List.cons_append, List.append_assoc]
  have hoff : offL (x.bytes ++ r) = x.off + of (ix x.op) := by
    rw [hl, le2_eq]
    exact sx16_two _ o0 o1
  have himm : immL (x.bytes ++ r) = sx 32 (x.imm + im (ix x.op)) := by
    rw [hl, le2_eq, le4_eq]
    show sx 32 _ = _
    exact (congrArg (sx 32) (four_sum _)).trans (sx32_mod _)
  have hb0 : bt' (x.bytes ++ r) 0 = a := by rw [hl]; rfl
  have hb1 : bt' (x.bytes ++ r) 1 = b := by rw [hl]; rfl
  have hI : uI x.f x.reg = false → sx 32 (x.imm + im (ix x.op)) = im (ix x.op) := by
    intro h
    have := hc.ui.resolve_left (by rw [h]; decide)
    have t1 := tab1 _ hj
    rw [this, Int.zero_add]
    exact sx32_id _ (by omega) (by omega)
  have hid : idL (x.bytes ++ r) = (x.op, x.reg, true) := by
    unfold idL
    rw [hb0, hb1, hoff, himm, ha', hb']
    have e : (16 * (x.src + sr (ix x.op)) + x.dst) / 16 = x.src + sr (ix x.op) := by omega
    rw [e]
    exact id_of h0 _ hI
  have hfL : fL (x.bytes ++ r) = x.f := by unfold fL; rw [hid]; rfl
  have hlen := bytes_length x
  have hn : x.bytes.length = if slo x.f = 2 then 16 else 8 := encL_length _ _ _ _ _ _ _
  have hiv : ivL (x.bytes ++ r) = if uI x.f x.reg then sx 32 (x.imm + im (ix x.op)) else 0 := by unfold ivL; rw [hfL, hid, himm]
  have hrd : rdL (x.bytes ++ r) = x := by
    have e1 : (if uD x.f then ((b.toNat : Int)) % 16 else 0) = x.dst := by
      rw [hb']
      rcases hc.ud with h | h
      · rw [if_pos h]; omega
      · split <;> omega
    have e2 : (if uS x.f x.reg then ((b.toNat : Int)) / 16 else 0) = x.src := by
      rw [hb']
      rcases hc.us with h | h
      · have := t2.1 h
        rw [if_pos h]; omega
      · split
        · rename_i h'
          have := t2.1 h'
          omega
        · exact h.symm
    have e3 : (if uO x.f then x.off + of (ix x.op) else 0) = x.off := by
      rcases hc.uo with h | h
      · have := t2.2.1 h
        rw [if_pos h]; omega
      · split
        · rename_i h'
          have := t2.2.1 h'
          omega
        · exact h.symm
    have e4 : (if slo x.f = 2 then bits .or .i64 (wrap64 (ivL (x.bytes ++ r) % 4294967296)) (hiL (x.bytes ++ r) * 4294967296) else ivL (x.bytes ++ r)) = x.imm := by
      by_cases hs : slo x.f = 2
      · rw [if_pos hs]
        obtain ⟨q1, q2, q3, q4⟩ := t4.2 hs
        have hu : uI x.f x.reg = true := by cases x.reg <;> assumption
        have hhi : hiL (x.bytes ++ r) = x.imm / 4294967296 := by
          rw [if_pos hs] at hq
          rw [hl, ← hq, le2_eq, le4_eq, le4_eq]
          show sx 32 _ = _
          have hbd := hi_b _ hf.1 hf.2
          exact (congrArg (sx 32) (four_sum _)).trans ((sx32_mod _).trans (sx32_id _ hbd.1 hbd.2))
        have hbd := hi_b _ hf.1 hf.2
        rw [hiv, if_pos hu, q2, Int.add_zero, sx32_low, hhi, show wrap64 (x.imm % 4294967296) = x.imm % 4294967296 by unfold wrap64; omega, or_hi _ _ (Int.emod_nonneg _ (by decide)) (Int.emod_lt_of_pos _ (by decide)) hbd.1 hbd.2]
        exact glue x.imm
      · rw [if_neg hs, hiv]
        have hs1 : slo x.f = 1 := t4.1.resolve_right hs
        have hbd := good_imm h0 hs1
        rcases hc.ui with h | h
        · have h2 := t2.2.2 h
          rw [if_pos h, sx32_id _ hbd.1 hbd.2]; omega
        · split
          · rename_i h'
            have h2 := t2.2.2 h'
            rw [sx32_id _ hbd.1 hbd.2]; omega
          · exact h.symm
    unfold rdL
    rw [hfL, hid, hb1, hoff, e1, e2, e3, e4]
  unfold decF
  rw [if_neg (by rw [List.length_append, hn]; split <;> omega), hid, hfL, hrd, hb1, hb']
  rw [if_neg (by simp), if_neg (by rw [List.length_append, hn]; intro h; rw [if_pos h.1] at h; omega), if_neg (by omega)]
  have hpre : (x.bytes ++ r).take x.bytes.length = x.bytes := by rw [List.take_left']; rfl
  rw [if_pos ⟨h0, hpre⟩]
end Go.Proofs.YthebdblncafijaaDoor
