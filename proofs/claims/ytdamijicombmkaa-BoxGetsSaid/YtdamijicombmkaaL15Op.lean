/- A slice of sections that is handed over reads as some sections. No condition. -/
import Derived.Test.YtdamijicombmkaaL14Op
import Derived.Test.YtdamijicombmkaaL15Mm
namespace Go.Proofs.Ytdamijicombmkaa.L15
open Go.ChangeShapes Go.WideShapes Go.ChangeAt Go.RowKit Go.Deep L14

theorem cellsS : Try.prog.cellsOf 46 = 2 := by kernel_rfl
theorem cellsI : Try.prog.cellsOf 3 = 1 := by kernel_rfl
theorem cellsB : Try.prog.cellsOf 25 = 1 := by kernel_rfl
theorem list_of {α : Type} {P : Nat → α → Prop} : ∀ (n : Nat), (∀ i, i < n → ∃ a, P i a) → ∃ l : List α, l.length = n ∧ ∀ i, (h : i < l.length) → P i l[i]
  | 0, _ => ⟨[], rfl, fun i h => absurd h (by simp)⟩
  | n + 1, h => by
    obtain ⟨l, hl, hp⟩ := list_of n fun i hi => h i (by omega)
    obtain ⟨a, ha⟩ := h n (by omega)
    refine ⟨l ++ [a], by simp [hl], fun i hi => ?_⟩
    by_cases e : i < l.length
    · rw [List.getElem_append_left e]; exact hp i e
    · have e2 : i = n := by rw [List.length_append, List.length_singleton] at hi; omega
      subst e2
      rw [List.getElem_append_right (by omega)]
      simpa using ha
section
variable {H : Type} {enc : TypeId × Value → H} {W : World} {base : Nat} {sp : Nat → Bool} {held : Bool}

theorem open_data {fuel : Nat} {c0 : Value} {x : DataW H × List MemPlace} (h : DataW.trod enc Try.prog W base sp held fuel 25 [c0] = some x) : ∃ l, Rw eB W c0 l := by
  rcases open_ints Try.underlying25 Try.underlying5 cells5 h with ⟨hcs, -⟩ | ⟨a, len, cap, zs, hcs, _, hl, hm, hz, -, hcell, hwz⟩
  · obtain rfl := (List.cons.inj hcs).1
    exact ⟨[], Rw.nil _ _⟩
  · obtain rfl := (List.cons.inj hcs).1
    obtain ⟨l, hle⟩ : ∃ l : List UInt8, l = (zs.take len).map fun z => UInt8.ofNat z.toNat := ⟨_, rfl⟩
    have hzl : len ≤ zs.length := by split at hz <;> omega
    have hll : l.length = len := by rw [hle, List.length_map, List.length_take]; omega
    refine ⟨l, some a, cap, by rw [hll], by omega, fun e => (by cases e), fun hp => ?_⟩
    obtain ⟨b, off, spot⟩ := a
    have hspot : spot = none := by simpa [Addr.add] using World.cell?_spot (hcell 0 (by omega))
    subst hspot
    refine ⟨b, off, rfl, World.block_lt_of_cell? W _ (hcell 0 (by omega)), fun j hj => ?_⟩
    have hjl : j < len := by omega
    have h1 : (l[j].toNat : Int) = zs.getD j 0 := by
      have e : l[j] = UInt8.ofNat (zs[j]'(by omega)).toNat := by simp [hle]
      rw [e, byte_of (hwz _ (List.getElem_mem _))]
      simp [List.getD, show j < zs.length by omega]
    unfold eB
    rw [h1, ← Go.WideShapes.add_plain]
    exact hcell j (by omega)
set_option maxRecDepth 100000 in
theorem open_sec {fuel : Nat} {cs : List Value} {x : DataW H × List MemPlace} (h : DataW.trod enc Try.prog W base sp held fuel 46 cs = some x) :
    ∃ (s : Sc) (dv : Value), cs = [.int .i64 s.1, dv] ∧ Rw eB W dv s.2 := by
  obtain ⟨xs, n, _, -, hcl, hlen, hg⟩ := DataW.trod_struct Try.underlying46 h
  rw [cellsS] at hcl
  match cs, hcl, xs, hlen with
  | [c0, c1], _, [y0, y1], _ =>
    have g0 : DataW.trod enc Try.prog W base sp held n 3 [c0] = some y0 := by simpa [cellsI] using hg 0 _ rfl
    have g1 : DataW.trod enc Try.prog W base sp held n 25 [c1] = some y1 := by simpa [cellsB] using hg 1 _ rfl
    obtain ⟨k, e0, -, -⟩ := DataW.trod_int Try.underlying3 g0
    obtain ⟨d, hd⟩ := open_data g1
    simp only [List.cons.injEq, and_true] at e0
    subst e0
    exact ⟨(k, d), c1, rfl, hd⟩
theorem open_ss {r : Reach} {b0 : Nat} {v : Value} {d : DataW H} {ps : List MemPlace} (hval : Value.okWide Try.prog W r b0 22 v) (hd : DataW.Trod enc Try.prog W base sp held 22 v d ps) :
    ∃ l, Ss W v l ∧ l.length ≤ 9223372036854775807 := by
  obtain ⟨a0, len0, cap0, rfl⟩ := okWide_slice Try.underlying22 hval
  obtain ⟨fuel, hf⟩ := hd
  rcases open_slice Try.underlying22 hf with ⟨hcs, -⟩ | ⟨a, len, cap, m, n, D, Pl, hcs, hlc, hl, hcm, hmm, hx, hi⟩
  · simp [Value.cells] at hcs
    obtain ⟨rfl, rfl, rfl⟩ := hcs
    exact ⟨[], Ss.nil _, by simp⟩
  · simp [Value.cells] at hcs
    obtain ⟨rfl, rfl, rfl⟩ := hcs
    rw [cellsS] at hi
    have each : ∀ i, i < len0 → ∃ s : Sc, W.cell? (a.add (i * 2)) = some (.int .i64 s.1) ∧ ∃ dv, W.cell? (a.add (i * 2 + 1)) = some dv ∧ Rw eB W dv s.2 := by
      intro i hil
      obtain ⟨cs', hc, ht⟩ := hi i (by split at hmm <;> omega)
      obtain ⟨s, dv, hd, hr⟩ := open_sec ht
      obtain ⟨_, hcl, hat⟩ := World.cells?_some hc
      refine ⟨s, ?_, dv, ?_, hr⟩
      · have h0 := hat 0 (by omega)
        rw [hd] at h0
        simpa [Addr.add] using h0
      · have h1 := hat 1 (by omega)
        rw [hd, Go.Deep.add_add] at h1
        exact h1
    obtain ⟨l, hll, hp⟩ := list_of len0 each
    subst hll
    refine ⟨l, ⟨some a, cap0, rfl, by omega, fun e => (by cases e), fun h0 => ?_⟩, by unfold maxLen at hcm; omega⟩
    have hc0 := (hp 0 h0).1
    obtain ⟨b, off, spot⟩ := a
    have hspot : spot = none := by simpa [Addr.add] using World.cell?_spot hc0
    subst hspot
    have hb := World.block_lt_of_cell? W _ hc0
    refine ⟨b, off, rfl, hb, fun j hj => ?_⟩
    obtain ⟨h1, dv, h2, h3⟩ := hp j hj
    exact ⟨by rw [← add_plain]; exact h1, dv, by rw [Nat.add_assoc, ← add_plain]; exact h2, h3⟩
end  -- of the section
end Go.Proofs.Ytdamijicombmkaa.L15
