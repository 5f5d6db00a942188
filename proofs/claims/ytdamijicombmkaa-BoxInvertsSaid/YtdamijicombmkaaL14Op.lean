/- A slice of bytes and a slice of texts that are handed over read as some bytes and some texts, which take no more memory than a reading may. No condition. -/
import Derived.Test.YtdamijicombmkaaL14Mm
import Derived.WideShapes
import Derived.SliceStrings
import Derived.ChangeSlices
import Derived.SizedLaws
namespace Go.Proofs.Ytdamijicombmkaa.L14
open Go.ChangeShapes Go.WideShapes Go.ChangeAt Go.RowKit Go.Deep

theorem cells5 : Try.prog.cellsOf 5 = 1 := by kernel_rfl
theorem cells9 : Try.prog.cellsOf 9 = 1 := by kernel_rfl
theorem bT : Try.prog.bytesOf 9 = 16 := by kernel_rfl
theorem byte_of {z : Int} (h : (Lit.int .u8 z).wf = true) : ((UInt8.ofNat z.toNat).toNat : Int) = z := by
  have := bounds_u8 h
  rw [UInt8.toNat_ofNat', Nat.mod_eq_of_lt (by omega)]
  omega
/-- What a reading's data weigh, each. -/
def Wt {H : Type} (t : TypeId) (d : DataW H) : Prop := ∀ n ∈ d.weights Try.prog t, n ≤ reachBytes
theorem mem_wAll {H : Type} {P : Program} {e : TypeId} {n : Nat} : ∀ (ds : List (DataW H)) (d : DataW H), d ∈ ds → n ∈ d.weights P e → n ∈ DataW.weightsAll P e ds
  | a :: r, d, h, hn => by
    rw [DataW.weightsAll, List.mem_append]
    rcases List.mem_cons.1 h with rfl | h
    · exact .inl hn
    · exact .inr (mem_wAll r d h hn)
section
variable {H : Type} {enc : TypeId × Value → H} {W : World} {base : Nat} {sp : Nat → Bool} {held : Bool} {r : Reach} {b0 : Nat} {v : Value} {d : DataW H} {ps : List MemPlace}

theorem open_bs (hval : Value.okWide Try.prog W r b0 25 v) (hd : DataW.Trod enc Try.prog W base sp held 25 v d ps) : ∃ l, Rw eB W v l := by
  obtain ⟨a0, len, cap, rfl⟩ := okWide_slice Try.underlying25 hval
  obtain ⟨fuel, hf⟩ := hd
  rcases open_ints Try.underlying25 Try.underlying5 cells5 hf with ⟨hcs, hx⟩ | ⟨a, len', cap', zs, hcs, _, hl, hm, hz, hx, hcell, hwz⟩
  · simp [Value.cells] at hcs
    obtain ⟨rfl, rfl, rfl⟩ := hcs
    exact ⟨[], Rw.nil _ _⟩
  · simp [Value.cells] at hcs
    obtain ⟨rfl, rfl, rfl⟩ := hcs
    obtain ⟨l, hle⟩ : ∃ l : List UInt8, l = (zs.take len).map fun z => UInt8.ofNat z.toNat := ⟨_, rfl⟩
    have hzl : len ≤ zs.length := by split at hz <;> omega
    have hll : l.length = len := by rw [hle, List.length_map, List.length_take]; omega
    refine ⟨l, some a, cap, by rw [hll], by omega, fun e => (by cases e), fun hp => ?_⟩
    obtain ⟨b, off, spot⟩ := a
    have hspot : spot = none := by simpa [Addr.add] using World.cell?_spot (hcell 0 (by omega))
    subst hspot
    refine ⟨b, off, rfl, World.block_lt_of_cell? W _ (hcell 0 (by omega)), fun j hj => ?_⟩
    have hjl : j < len := by omega
    have h1 : (l[j].toNat : Int) = zs.getD j 0 := by
      have e : l[j] = UInt8.ofNat (zs[j]'(by omega)).toNat := by simp [hle]
      rw [e, byte_of (hwz _ (List.getElem_mem _))]
      simp [List.getD, show j < zs.length by omega]
    unfold eB
    rw [h1, ← Go.WideShapes.add_plain]
    exact hcell j (by omega)
end  -- of the section
end Go.Proofs.Ytdamijicombmkaa.L14
