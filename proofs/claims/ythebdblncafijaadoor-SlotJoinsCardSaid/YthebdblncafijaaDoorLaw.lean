/- What each law of layer 5 needs at its row: bytes handed over are known, and lie as they lay behind the call; facts on what Decode returns. No condition of its own. -/
import Derived.Test.YthebdblncafijaaDoorL4Law
import Derived.Test.YthebdblncafijaaDoorAlive
import Derived.Carry
namespace Go.Proofs.YthebdblncafijaaDoor
open Go.ChangeShapes Go.WideShapes Go.ChangeAt Go.RowKit L3 L1 L4

theorem law_post_at {H : Type} {enc : TypeId × Value → H} {P : Program} {f : Func} {s : ChangeSpec} {W W' : World} {args : Array Value} {ds : List (DataW H)} {before : List MemPlace}
    (hW : DataW.Whole enc P f.params.toList s.vars false W args.toList ds [] before) (hv : s.vars = []) (ht : f.resultTypes = #[4]) (hu : P.underlying 4 = some .bool)
    (hfn : s.fn H (ds ++ []) = { results := [.lit (.bool true)], args := ds })
    (hargs : DataW.TrodAll enc P W' 0 (fun b => decide (b < W.heap.size)) true f.params.toList args.toList ds before)
    (hb : Below W.heap.size W W') : s.post enc P f false true false false W args (.bool true) W' := by
  refine ⟨ds, [], before, [], before, [], hW, ?_, ?_, ?_, World.keptBut_mono (fun p hp => ⟨hp, ?_⟩) (hb.frame (· ∈ before)), fun h => by cases h⟩
  · rw [hfn, ht]
    exact trodAll_cons_mk (shut_bool hu _) trodAll_mk0
  · rw [hfn]; exact hargs
  · rw [hfn, hv]; exact rfl
  · exact Or.inr (Or.inl hp)
theorem laidOut : laidOutB Tryd.prog = true := by kernel_rfl
theorem cells5 : Tryd.prog.cellsOf 5 = 1 := by kernel_rfl
theorem byte_of {z : Int} (h : (Lit.int .u8 z).wf = true) : ((UInt8.ofNat z.toNat).toNat : Int) = z := by
  have := bounds_u8 h
  rw [UInt8.toNat_ofNat', Nat.mod_eq_of_lt (by omega)]
  omega

/-- A slice of bytes that is handed over reads as some bytes. -/
theorem open_bytes {H : Type} {enc : TypeId × Value → H} {W : World} {r : Reach} {b0 base : Nat} {v : Value} {d : DataW H} {ps : List MemPlace} {sp : Nat → Bool}
    (hval : Value.okWide Tryd.prog W r b0 24 v) (hd : DataW.Trod enc Tryd.prog W base sp true 24 v d ps) : ∃ l, BsAt W v l := by
  obtain ⟨a0, len, cap, rfl⟩ := okWide_slice Tryd.underlying24 hval
  obtain ⟨fuel, hf⟩ := hd
  rcases open_ints Tryd.underlying24 Tryd.underlying5 cells5 hf with ⟨hcs, hx⟩ | ⟨a, len', cap', zs, hcs, _, hl, hm, hz, hx, hcell, hwz⟩
  · simp [Value.cells] at hcs
    obtain ⟨rfl, rfl, rfl⟩ := hcs
    exact ⟨[], none, 0, rfl, by simp, by unfold maxLen; omega, .inl rfl⟩
  · simp [Value.cells] at hcs
    obtain ⟨rfl, rfl, rfl⟩ := hcs
    obtain ⟨l, hle⟩ : ∃ l : List UInt8, l = (zs.take len).map fun z => UInt8.ofNat z.toNat := ⟨_, rfl⟩
    have hzl : len ≤ zs.length := by split at hz <;> omega
    have hll : l.length = len := by rw [hle, List.length_map, List.length_take]; omega
    refine ⟨l, some a, cap, by rw [hll], by omega, by omega, ?_⟩
    by_cases hl0 : len = 0
    · exact .inl (List.eq_nil_of_length_eq_zero (by omega))
    · obtain ⟨b, off, spot⟩ := a
      have hspot : spot = none := by simpa [Addr.add] using World.cell?_spot (hcell 0 (by omega))
      subst hspot
      refine .inr ⟨b, off, rfl, fun j hj => ?_⟩
      have hjl : j < len := by omega
      have h1 : (l[j].toNat : Int) = zs.getD j 0 := by
        have e : l[j] = UInt8.ofNat (zs[j]'(by omega)).toNat := by simp [hle]
        rw [e, byte_of (hwz _ (List.getElem_mem _))]
        simp [List.getD, show j < zs.length by omega]
      rw [h1, ← add_plain]
      exact hcell j (by omega)

/-! ### what Decode returns -/
theorem dec_err (l : List UInt8) (h : (decF l).2.2 ≠ 0) : decF l = (.z, 0, (decF l).2.2) := by
  revert h
  unfold decF
  repeat' split
  all_goals simp
theorem hiL_b (l : List UInt8) : -2147483648 ≤ hiL l ∧ hiL l ≤ 2147483647 := sx32_b _
theorem ivL_b (l : List UInt8) : -2147483648 ≤ ivL l ∧ ivL l ≤ 2147483647 := by
  unfold ivL
  split
  · exact sx32_b _
  · omega
theorem rdL_fits (l : List UInt8) : (rdL l).fits := by
  have h1 := ivL_b l
  have h2 := hiL_b l
  show -9223372036854775808 ≤ (if slo (fL l) = 2 then bits .or .i64 (wrap64 (ivL l % 4294967296)) (hiL l * 4294967296) else ivL l) ∧ (if slo (fL l) = 2 then bits .or .i64 (wrap64 (ivL l % 4294967296)) (hiL l * 4294967296) else ivL l) ≤ 9223372036854775807
  split
  · rw [show wrap64 (ivL l % 4294967296) = ivL l % 4294967296 by unfold wrap64; omega, or_hi _ _ (Int.emod_nonneg _ (by decide)) (Int.emod_lt_of_pos _ (by decide)) h2.1 h2.2]
    exact vb _ _ (Int.emod_nonneg _ (by decide)) (Int.emod_lt_of_pos _ (by decide)) h2.1 h2.2
  · omega
theorem dec_good (l : List UInt8) (h : (decF l).2.2 = 0) : ∃ s : Nat, (decF l).2.1 = (s : Int) ∧ 1 ≤ s ∧ s ≤ 2 ∧ 8 * s ≤ l.length ∧ (decF l).1.err = 0 ∧ (decF l).1.fits ∧ (decF l).1.bytes = l.take (8 * s) := by
  obtain ⟨s, hs, h1, h2, h3⟩ := decF_ok l h
  refine ⟨s, hs, h1, h2, h3, ?_⟩
  have key : ∀ x : Ix, ∀ n e : Int, decF l = (x, n, e) → e = 0 → x = rdL l ∧ (rdL l).chk (fL l) = 0 ∧ l.take ((rdL l).enc (ix (idL l).1) (fL l)).length = (rdL l).enc (ix (idL l).1) (fL l) ∧ n = slo (fL l) := by
    intro x n e hd he
    unfold decF at hd
    repeat' split at hd
    all_goals simp only [Prod.mk.injEq] at hd
    all_goals obtain ⟨d1, d2, d3⟩ := hd
    all_goals first | (exfalso; omega) | skip
    rename_i hh
    exact ⟨d1.symm, hh.1, hh.2, d2.symm⟩
  obtain ⟨⟨x, n, e⟩, hd⟩ : ∃ d, decF l = d := ⟨_, rfl⟩
  rw [hd] at h hs ⊢
  obtain ⟨k1, k2, k3, k4⟩ := key x n e hd h
  subst k1
  have hs' : n = (s : Int) := hs
  have hlen : ((rdL l).enc (ix (idL l).1) (fL l)).length = 8 * s := by
    show (encL _ _ _ _ _ _ _).length = _
    rw [encL_length]
    split <;> omega
  rw [hlen] at k3
  exact ⟨k2, rdL_fits l, k3.symm⟩
end Go.Proofs.YthebdblncafijaaDoor
