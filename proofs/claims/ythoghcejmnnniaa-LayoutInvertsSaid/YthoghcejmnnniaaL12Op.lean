/- A slice of instructions that is handed over reads as some instructions. No condition. -/
import Derived.Test.YthoghcejmnnniaaL12Mem
import Derived.WideShapes
namespace Go.Proofs.Ythoghcejmnnniaa.L12
open Go.ChangeShapes Go.WideShapes Go.ChangeAt Go.RowKit Go.Deep

section
variable {H : Type} {enc : TypeId × Value → H} {W : World} {base : Nat} {sp : Nat → Bool} {held : Bool}
theorem open_isl {fuel : Nat} {cs : List Value} {x : DataW H × List MemPlace} (h : DataW.trod enc Try.prog W base sp held fuel 22 cs = some x) :
    ∃ v l, cs = [v] ∧ IsAt W v l ∧ l.length ≤ maxLen := by
  rcases open_slice Try.underlying22 h with ⟨hcs, -⟩ | ⟨a, len, cap, m, n, D, Pl, hcs, -, hl, hcm, hmm, -, hi⟩
  · exact ⟨_, [], hcs, .inr ⟨rfl, none, 0, rfl⟩, by simp⟩
  · rw [L10.cI] at hi
    have each : ∀ i, i < len → ∃ d : L9.Ins, ∀ k u, (L10.inL d)[k]? = some u → W.cell? (a.add (i * 6 + k)) = some u := by
      intro i hil
      obtain ⟨cs', hc, ht⟩ := hi i (by split at hmm <;> omega)
      obtain ⟨d, hd, -⟩ := L10.open_insC ht
      obtain ⟨_, hcl, hat⟩ := World.cells?_some hc
      refine ⟨d, fun k u hu => ?_⟩
      have hk : k < 6 := by
        have := (List.getElem?_eq_some_iff.1 hu).1
        simpa using this
      rw [← Go.Deep.add_add, hat k hk, hd]; exact hu
    obtain ⟨l, hll, hp⟩ := L10.list_of len each
    subst hll
    refine ⟨_, l, hcs, ?_, by omega⟩
    by_cases h0 : l = []
    · exact .inr ⟨h0, some a, cap, by rw [h0]; rfl⟩
    · have hpos : 0 < l.length := List.length_pos_iff.2 h0
      have hc0 := hp 0 hpos 0 _ rfl
      obtain ⟨b, off, spot⟩ := a
      have hspot : spot = none := by simpa [Addr.add] using World.cell?_spot hc0
      subst hspot
      have hb := World.block_lt_of_cell? W _ hc0
      refine .inl ⟨b, off, cap, rfl, hb, fun j hj i u hu => ?_⟩
      rw [Nat.add_assoc, ← add_plain]
      exact hp j hj i u hu
theorem open_isv {r : Reach} {b0 : Nat} {v : Value} {d : DataW H} {ps : List MemPlace} (hval : Value.okWide Try.prog W r b0 22 v) (hd : DataW.Trod enc Try.prog W base sp held 22 v d ps) : ∃ l, IsAt W v l ∧ l.length ≤ maxLen := by
  obtain ⟨a, n, c, rfl⟩ := okWide_slice Try.underlying22 hval
  obtain ⟨fuel, hf⟩ := hd
  obtain ⟨v', l, hcs, h1, h2⟩ := open_isl hf
  simp only [Value.cells, List.cons.injEq, and_true] at hcs
  subst hcs
  exact ⟨l, h1, h2⟩
end
end Go.Proofs.Ythoghcejmnnniaa.L12
