/- What the reference's Line needs besides: how long the tokens of a line are together, the operands of every form in a slice that a call has made, the places of a list of shapes. Condition: the line has at most 100000 bytes. -/
import Derived.Test.YtjcaonbejhdhkaaDoorL9Rlb
namespace Go.Proofs.YtjcaonbejhdhkaaDoor.L9
open Go.RowKit

theorem chain_sum (N : Nat) : ∀ (l : List (Nat × Nat)) (e : Nat), L8.Chain e l → (∀ p ∈ l, p.2 ≤ N) → e ≤ N → (l.map (fun p => p.2 - p.1)).sum ≤ N - e
  | [], e, _, _, _ => by simp
  | p :: r, e, hc, hN, he => by
    obtain ⟨h1, h2, h3⟩ := hc
    have hp := hN p (by simp)
    have ih := chain_sum N r p.2 h3 (fun x hx => hN x (List.mem_cons_of_mem _ hx)) hp
    rw [List.map_cons, List.sum_cons]
    omega
theorem ext_le (s : ByteArray) (i j : Nat) : (s.extract i j).size ≤ j - i := by
  rw [← L8.size_list, L8.ext_list, List.length_take]; omega
theorem sum_le {α : Type} (f g : α → Nat) : ∀ l : List α, (∀ x ∈ l, f x ≤ g x) → (l.map f).sum ≤ (l.map g).sum
  | [], _ => by simp
  | x :: r, h => by
    rw [List.map_cons, List.map_cons, List.sum_cons, List.sum_cons]
    have h1 := h x (by simp)
    have h2 := sum_le f g r fun y hy => h y (List.mem_cons_of_mem _ hy)
    omega
theorem toks_sum (s : ByteArray) : sumT (txs (L8.tkX s (L8.tks s))) ≤ s.size := by
  have h1 : sumT (txs (L8.tkX s (L8.tks s))) = ((L8.tks s).map (fun p => (s.extract p.1 p.2).size)).sum := by
    unfold sumT txs L8.tkX
    rw [List.map_map, List.map_map]; rfl
  have h2 := sum_le (fun p : Nat × Nat => (s.extract p.1 p.2).size) (fun p => p.2 - p.1) (L8.tks s) fun p _ => ext_le s p.1 p.2
  have h3 := chain_sum s.size (L8.tks s) 0 (L8.tk_chain _ _ _) (fun p hp => by
    have := (L8.tk_places s.size 0 s.data.toList (by rw [L8.size_list]; exact Nat.le_refl _) p hp).2.2.1
    rw [L8.size_list] at this; omega) (Nat.zero_le _)
  rw [h1]; omega
theorem sumT_drop (l : List ByteArray) (j : Nat) : sumT (l.drop j) ≤ sumT l := by
  have e : sumT (l.take j ++ l.drop j) = sumT (l.take j) + sumT (l.drop j) := by simp only [sumT, List.map_append, List.sum_append]
  rw [List.take_append_drop] at e
  omega
theorem toks_sum_drop (s : ByteArray) {xs : L8.Tks} (h : ∃ k, xs = (L8.tkX s (L8.tks s)).drop k) : sumT (txs xs) ≤ s.size := by
  obtain ⟨k, rfl⟩ := h
  have h1 := toks_sum s
  have h2 := sumT_drop (txs (L8.tkX s (L8.tks s))) k
  have e : txs ((L8.tkX s (L8.tks s)).drop k) = (txs (L8.tkX s (L8.tks s))).drop k := by unfold txs; rw [List.map_drop]
  rw [e]; omega
theorem spl_sizes (q : List ByteArray) : ∀ t ∈ spl q, t.size ≤ sumT q := by
  have H : ∀ (l : List ByteArray) (st : List ByteArray × ByteArray) (S : Nat), (∀ x ∈ st.1, x.size ≤ S) → st.2.size ≤ S → (∀ x ∈ (l.foldl spS st).1, x.size ≤ S + sumT l) ∧ (l.foldl spS st).2.size ≤ S + sumT l := by
    intro l
    induction l with
    | nil => intro st S h1 h2; exact ⟨by simpa [sumT] using h1, by simpa [sumT] using h2⟩
    | cons t r ih =>
      intro st S h1 h2
      rw [List.foldl_cons]
      have e : S + sumT (t :: r) = (S + t.size) + sumT r := by simp [sumT]; omega
      rw [e]
      refine ih _ _ ?_ ?_
      · unfold spS
        split
        · intro x hx
          simp only [fls] at hx
          split at hx
          · have := h1 x hx; omega
          · rw [List.mem_append] at hx
            rcases hx with hx | hx
            · have := h1 x hx; omega
            · simp only [List.mem_cons, List.not_mem_nil, or_false] at hx
              rw [hx]; omega
        · intro x hx
          have := h1 x hx; omega
      · unfold spS
        split
        · show (if t = tMin then tMin else eB).size ≤ _
          split
          · rename_i h; rw [h]; omega
          · exact Nat.zero_le _
        · show (st.2 ++ t).size ≤ _
          rw [ByteArray.size_append]; omega
  intro t ht
  obtain ⟨h1, h2⟩ := H q ([], eB) 0 (by simp) (by decide)
  have h0 : spF q = q.foldl spS ([], eB) := rfl
  unfold spl fls at ht
  rw [h0] at ht
  split at ht
  · have := h1 t ht; omega
  · rw [List.mem_append] at ht
    rcases ht with ht | ht
    · have := h1 t ht; omega
    · simp only [List.mem_cons, List.not_mem_nil, or_false] at ht
      rw [ht]; omega
theorem rope_own (op : Int) {v : Value} {n : Nat} {l : List ByteArray} (off : Bool) (w : World) {base : Nat} (h : w.ownsRow base 9 1 v n (L8.stC l)) (hl : l.length = n) (f : Int) (hf : L3.frm (L3.ix op) = f) (h0 : 0 ≤ f) (h11 : f ≤ 11) (hn : need f off ≤ n) (hz : ∀ t ∈ l, t.size ≤ 100000) (r : Rs) (x : Int) (hv : opV f op l off = (r, x)) :
    Calls Tryd.prog 33 #[.int .i64 op, v, .bool off] w fun e w' => e = .returned (.tuple #[.agg (rsA (.slice none 0 0) r), .int .i64 x]) ∧ Below w.heap.size w w' := by
  have hst := L8.own_st (v := v) (l := l) (w := w) (base := base) (e := 9) (by rw [hl]; exact h)
  rcases h.2 with ⟨rfl, rfl⟩ | ⟨g, cap, cur, rfl, _, hh, hcp, _, _, _⟩
  · have h6 : f = 6 := by
      rcases (show f = 0 ∨ f = 1 ∨ f = 2 ∨ f = 3 ∨ f = 4 ∨ f = 5 ∨ f = 6 ∨ f = 7 ∨ f = 8 ∨ f = 9 ∨ f = 10 ∨ f = 11 by omega) with rfl | rfl | rfl | rfl | rfl | rfl | rfl | rfl | rfl | rfl | rfl | rfl
      all_goals first
        | rfl
        | (exfalso; cases off <;> simp [need] at hn)
    subst h6
    have e : opV 6 op l off = (⟨2, Df.z, ⟨op, false, 0, 0, 0, 0⟩, eB, eB⟩, 0) := by simp [opV]
    rw [e] at hv
    cases hv
    exact rops_6 op _ off w hf
  · refine roperands_at op g 0 n cap l off w ⟨lt_of_block hh, hl, hcp, fun j hj => ?_⟩ f hf h0 h11 hn hz r x hv
    rcases hst with ⟨b, o, c, hv', hb, hc⟩ | ⟨rfl, a, c, hv'⟩
    · cases hv'
      exact hc j (by omega)
    · simp only [List.length_nil] at hl
      omega
theorem sh_form {w : World} {v : Value} {f : Int} {M : Nat} (hM : (shV f).length = M) (h : L8.StAt w v (shV f)) : ∃ sb so scap, v = .slice (some ⟨sb, so, none⟩) M scap ∧ sb < w.heap.size ∧ ∀ j, j < M → w.cell? ⟨sb, so + j, none⟩ = some (.string ((shV f).getD j ByteArray.empty)) := by
  rcases h with ⟨sb, so, scap, rfl, hb, hc⟩ | ⟨h0, a, cap, rfl⟩
  · exact ⟨sb, so, scap, by rw [hM], hb, fun j hj => hc j (by omega)⟩
  · exfalso
    unfold shV at h0
    split at h0
    · cases h0
    split at h0
    · cases h0
    split at h0
    · cases h0
    split at h0
    · cases h0
    split at h0
    · cases h0
    split at h0
    · cases h0
    split at h0
    · cases h0
    · cases h0
theorem off_step (m : ByteArray) (j : Nat) : (List.range (j + 1)).any (offAt m) = ((List.range j).any (offAt m) || offAt m j) := by
  rw [List.range_succ, List.any_append]; simp
end Go.Proofs.YtjcaonbejhdhkaaDoor.L9
