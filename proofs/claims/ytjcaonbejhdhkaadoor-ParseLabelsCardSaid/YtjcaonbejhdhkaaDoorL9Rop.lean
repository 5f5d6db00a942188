/- What the reference's operands returns for every form. Conditions: the operands are as many as the form asks for, and no longer than memory allows. -/
import Derived.Test.YtjcaonbejhdhkaaDoorL9Ropa
import Derived.Test.YtjcaonbejhdhkaaDoorL9Ropb
import Derived.Test.YtjcaonbejhdhkaaDoorL9Ropc
import Derived.Test.YtjcaonbejhdhkaaDoorL9Rdef
namespace Go.Proofs.YtjcaonbejhdhkaaDoor.L9
open Go.RowKit

theorem reV_rg (s : ByteArray) : ((L2.rg s).2 = true ∧ reV s = (((L2.rg s).1 : Int), 0)) ∨ ((L2.rg s).2 = false ∧ reV s = (0, 5)) := by
  unfold reV
  cases h : (L2.rg s).2
  · exact .inr ⟨rfl, rfl⟩
  · exact .inl ⟨rfl, rfl⟩
/-- The slice of the operands: so many texts, which lie in memory. -/
def OpAt (w : World) (k o n cap : Nat) (l : List ByteArray) : Prop :=
  k < w.heap.size ∧ l.length = n ∧ n ≤ cap ∧ ∀ j, j < n → w.cell? ⟨k, o + j, none⟩ = some (.string (g0 l j))
theorem OpAt.c0 {w : World} {k o n cap : Nat} {l : List ByteArray} (h : OpAt w k o n cap l) (h0 : 0 < n) : w.cell? ⟨k, o, none⟩ = some (.string (g0 l 0)) := h.2.2.2 0 h0
/-- Where the operands behind a memory operand stand. -/
def moO (l : List ByteArray) (off : Bool) (o cap : Nat) : Nat := if (reV (g0 l 0)).2 ≠ 0 ∨ off = false then (if cap = 1 then o else o + 1) else (if cap = 2 then o else o + 2)
def moN (l : List ByteArray) (off : Bool) (n : Nat) : Nat := if (reV (g0 l 0)).2 ≠ 0 ∨ off = false then n - 1 else n - 2
theorem rmem_fix (k o n cap : Nat) (l : List ByteArray) (off : Bool) (w : World) (h : OpAt w k o n cap l) (h1 : 1 ≤ n) (h2 : off = true → 2 ≤ n) (hz : ∀ t ∈ l, t.size ≤ 100000) :
    moN l off n = (meV l off).2.2.1.length ∧ (∀ W, Below w.heap.size w W → Calls Tryd.prog 62 #[.slice (some ⟨k, o, none⟩) n cap, .bool off] W (fun e w' => e = .returned (.tuple #[.int .i64 (meV l off).1, .int .i64 (meV l off).2.1, .slice (some ⟨k, moO l off o cap, none⟩) (moN l off n) (moN l off cap), .int .i64 (meV l off).2.2.2]) ∧ w' = W.drew)) ∧ (0 < moN l off n → w.cell? ⟨k, moO l off o cap, none⟩ = some (.string (g0 (meV l off).2.2.1 0))) := by
  obtain ⟨hk, hl, hc, hx⟩ := h
  have c0 : ∀ W, Below w.heap.size w W → W.cell? ⟨k, o, none⟩ = some (.string (g0 l 0)) := fun W hB => (hB.cell (p := ⟨k, o, none⟩) hk).trans (hx 0 (by omega))
  have hd : ∀ a, a ≤ n → n - a = (l.drop a).length := fun a _ => by rw [List.length_drop, hl]
  have hg : ∀ a, a < n → w.cell? ⟨k, if cap = a then o else o + a, none⟩ = some (.string (g0 (l.drop a) 0)) := fun a ha => by
    rw [if_neg (by omega), hx a ha]
    simp [g0, List.getD, List.getElem?_drop]
  by_cases he : (reV (g0 l 0)).2 = 0
  · cases off
    · have e : meV l false = ((reV (g0 l 0)).1, 0, l.drop 1, (reV (g0 l 0)).2) := by unfold meV; rw [if_pos (.inr rfl)]
      have e1 : ∀ m, moN l false m = m - 1 := fun m => by unfold moN; rw [if_pos (.inr rfl)]
      have e2 : moO l false o cap = if cap = 1 then o else o + 1 := by unfold moO; rw [if_pos (.inr rfl)]
      rw [e, e1, e1, e2]
      refine ⟨hd 1 h1, fun W hB => (rmem_2 k o n cap (g0 l 0) _ W h1 hc (c0 W hB) rfl he).mono fun e w' h => ?_, fun hp => hg 1 (by omega)⟩
      exact ⟨by rw [he]; exact h.1, h.2⟩
    · have h2' := h2 rfl
      have e : meV l true = ((reV (g0 l 0)).1, (nuV (g0 l 1) 16).1, l.drop 2, (nuV (g0 l 1) 16).2) := by unfold meV; rw [if_neg (by simp [he])]
      have e1 : ∀ m, moN l true m = m - 2 := fun m => by unfold moN; rw [if_neg (by simp [he])]
      have e2 : moO l true o cap = if cap = 2 then o else o + 2 := by unfold moO; rw [if_neg (by simp [he])]
      have c1 : ∀ W, Below w.heap.size w W → W.cell? ⟨k, o + 1, none⟩ = some (.string (g0 l 1)) := fun W hB => (hB.cell (p := ⟨k, o + 1, none⟩) hk).trans (hx 1 (by omega))
      have hz1 : (g0 l 1).size ≤ maxLen := by
        have : g0 l 1 ∈ l := by
          unfold g0 List.getD
          rw [List.getElem?_eq_getElem (show 1 < l.length by omega)]
          exact List.getElem_mem _
        have := hz _ this
        unfold maxLen; omega
      rw [e, e1, e1, e2]
      exact ⟨hd 2 h2', fun W hB => rmem_3 k o n cap (g0 l 0) (g0 l 1) _ _ _ W h2' hc (c0 W hB) (c1 W hB) hz1 rfl he rfl rfl, fun hp => hg 2 (by omega)⟩
  · have e : meV l off = ((reV (g0 l 0)).1, 0, l.drop 1, (reV (g0 l 0)).2) := by unfold meV; rw [if_pos (.inl he)]
    have e1 : ∀ m, moN l off m = m - 1 := fun m => by unfold moN; rw [if_pos (.inl he)]
    have e2 : moO l off o cap = if cap = 1 then o else o + 1 := by unfold moO; rw [if_pos (.inl he)]
    rw [e, e1, e1, e2]
    exact ⟨hd 1 h1, fun W hB => rmem_1 k o n cap (g0 l 0) off _ _ W h1 hc (c0 W hB) rfl rfl he, fun hp => hg 1 (by omega)⟩
theorem me_more (l : List ByteArray) (off : Bool) {n : Nat} (hl : l.length = n) (h2 : 2 ≤ n ∧ (off = true → 3 ≤ n)) (he : (meV l off).2.2.2 = 0) : 0 < (meV l off).2.2.1.length ∧ g0 (meV l off).2.2.1 0 ∈ l := by
  have hm : ∀ a, a < n → 0 < (l.drop a).length ∧ g0 (l.drop a) 0 ∈ l := fun a ha => by
    have hp : 0 < (l.drop a).length := by rw [List.length_drop]; omega
    refine ⟨hp, List.mem_of_mem_drop (i := a) ?_⟩
    unfold g0 List.getD
    rw [List.getElem?_eq_getElem hp]
    exact List.getElem_mem _
  by_cases h : (reV (g0 l 0)).2 ≠ 0 ∨ off = false
  · have e : meV l off = ((reV (g0 l 0)).1, 0, l.drop 1, (reV (g0 l 0)).2) := by unfold meV; rw [if_pos h]
    rw [e]; exact hm 1 (by omega)
  · have e : meV l off = ((reV (g0 l 0)).1, (nuV (g0 l 1) 16).1, l.drop 2, (nuV (g0 l 1) 16).2) := by unfold meV; rw [if_neg h]
    rw [e]
    exact hm 2 (by have := h2.2 (by cases off <;> simp_all); omega)

theorem g0_mem {l : List ByteArray} {i : Nat} (h : i < l.length) : g0 l i ∈ l := by
  unfold g0 List.getD
  rw [List.getElem?_eq_getElem h]
  exact List.getElem_mem _
/-- What the reference's second returns: one of two. -/
theorem rsec_any (op v : Int) (s : ByteArray) (hs : s.size ≤ 100000) : ∃ (rg : Bool) (sr im z : Int), seV ⟨op, false, v, 0, 0, 0⟩ s = (⟨op, rg, v, sr, 0, im⟩, z) ∧ ∀ W, Calls Tryd.prog 64 #[.agg #[.int .i64 op, .bool false, .int .i64 v, .int .i64 0, .int .i64 0, .int .i64 0], .string s] W fun e w' => e = .returned (.tuple #[.agg #[.int .i64 op, .bool rg, .int .i64 v, .int .i64 sr, .int .i64 0, .int .i64 im], .int .i64 z]) ∧ w' = (W.alloc (.cells #[.int .i64 op, .bool rg, .int .i64 v, .int .i64 sr, .int .i64 0, .int .i64 im] 31)).alloc (.cells #[.int .i64 op, .bool rg, .int .i64 v, .int .i64 sr, .int .i64 0, .int .i64 im] 31) := by
  cases h : (L2.rg s).2
  · exact ⟨false, 0, (nuV s 32).1, (nuV s 32).2, by unfold seV; rw [h]; rfl, fun W => rsecond_imm op false v 0 0 0 s _ _ W (by unfold maxLen; omega) h rfl rfl⟩
  · exact ⟨true, ((L2.rg s).1 : Int), 0, 0, by unfold seV; rw [h]; rfl, fun W => rsecond_reg op false v 0 0 0 s _ W rfl h⟩
theorem roperands_at (op : Int) (k o n cap : Nat) (l : List ByteArray) (off : Bool) (w : World) (h : OpAt w k o n cap l) (f : Int) (hf : L3.frm (L3.ix op) = f) (h0 : 0 ≤ f) (h11 : f ≤ 11) (hn : need f off ≤ n) (hz : ∀ t ∈ l, t.size ≤ 100000) (r : Rs) (x : Int) (hv : opV f op l off = (r, x)) :
    Calls Tryd.prog 33 #[.int .i64 op, .slice (some ⟨k, o, none⟩) n cap, .bool off] w fun e w' => e = .returned (.tuple #[.agg (rsA (.slice none 0 0) r), .int .i64 x]) ∧ Below w.heap.size w w' := by
  have hk := h.1
  have hl := h.2.1
  have hx := h.2.2.2
  have hsz : ∀ i, i < n → (g0 l i).size ≤ 100000 := fun i hi => hz _ (g0_mem (by omega))
  have hbig : ∀ i, i < n → (g0 l i).size ≤ 9223372036854775807 := fun i hi => by have := hsz i hi; omega
  have hmx : ∀ i, i < n → (g0 l i).size ≤ maxLen := fun i hi => by have := hsz i hi; unfold maxLen; omega
  have hfs : f = 0 ∨ f = 1 ∨ f = 2 ∨ f = 3 ∨ f = 4 ∨ f = 5 ∨ f = 6 ∨ f = 7 ∨ f = 8 ∨ f = 9 ∨ f = 10 ∨ f = 11 := by omega
  rcases hfs with rfl | rfl | rfl | rfl | rfl | rfl | rfl | rfl | rfl | rfl | rfl | rfl
  · -- 0
    have h2 : 2 ≤ n := by simpa [need] using hn
    by_cases he : (reV (g0 l 0)).2 = 0
    · obtain ⟨rg, sr, im, z, es, HS⟩ := rsec_any op (reV (g0 l 0)).1 (g0 l 1) (hsz 1 (by omega))
      have e : opV 0 op l off = (⟨2, Df.z, ⟨op, rg, (reV (g0 l 0)).1, sr, 0, im⟩, eB, eB⟩, z) := by simp [opV, he, es]
      rw [e] at hv
      cases hv
      by_cases hzz : x = 0
      · subst hzz
        exact rops_0z op k o n cap off w hk hf _ (by omega) (h.c0 (by omega)) _ rfl he _ (by omega) (hx 1 (by omega)) rg sr im 0 HS rfl
      · exact rops_0 op k o n cap off w hk hf _ (by omega) (h.c0 (by omega)) _ rfl he _ (by omega) (hx 1 (by omega)) rg sr im x HS hzz
    · have e : opV 0 op l off = (⟨2, Df.z, ⟨op, false, (reV (g0 l 0)).1, 0, 0, 0⟩, eB, eB⟩, (reV (g0 l 0)).2) := by simp [opV, he]
      rw [e] at hv
      cases hv
      exact rops_de op k o n cap off w hk 0 hf (by decide) (by decide) (by decide) (by decide) (by decide) _ (by omega) (h.c0 (by omega)) _ rfl _ he rfl
  · -- 1
    have h2 : 1 ≤ n := by simpa [need] using hn
    by_cases he : (reV (g0 l 0)).2 = 0
    · have e : opV 1 op l off = (⟨2, Df.z, ⟨op, false, (reV (g0 l 0)).1, 0, 0, 0⟩, eB, eB⟩, 0) := by simp [opV, he]
      rw [e] at hv
      cases hv
      exact rops_1 op k o n cap off w hk hf _ (by omega) (h.c0 (by omega)) _ rfl he
    · have e : opV 1 op l off = (⟨2, Df.z, ⟨op, false, (reV (g0 l 0)).1, 0, 0, 0⟩, eB, eB⟩, (reV (g0 l 0)).2) := by simp [opV, he]
      rw [e] at hv
      cases hv
      exact rops_de op k o n cap off w hk 1 hf (by decide) (by decide) (by decide) (by decide) (by decide) _ (by omega) (h.c0 (by omega)) _ rfl _ he rfl
  · -- 2
    have h2 : 2 ≤ n := by simpa [need] using hn
    by_cases he : (reV (g0 l 0)).2 = 0
    · have e : opV 2 op l off = (⟨2, Df.z, ⟨op, false, (reV (g0 l 0)).1, (reV (g0 l 1)).1, 0, 0⟩, eB, eB⟩, (reV (g0 l 1)).2) := by simp [opV, he]
      rw [e] at hv
      cases hv
      exact rops_2 op k o n cap off w hk hf _ (by omega) (h.c0 (by omega)) _ rfl he _ (by omega) (hx 1 (by omega)) _ _ rfl rfl
    · have e : opV 2 op l off = (⟨2, Df.z, ⟨op, false, (reV (g0 l 0)).1, 0, 0, 0⟩, eB, eB⟩, (reV (g0 l 0)).2) := by simp [opV, he]
      rw [e] at hv
      cases hv
      exact rops_de op k o n cap off w hk 2 hf (by decide) (by decide) (by decide) (by decide) (by decide) _ (by omega) (h.c0 (by omega)) _ rfl _ he rfl
  · -- 3
    have h2 : 1 ≤ n := by simpa [need] using hn
    have e : opV 3 op l off = (⟨2, Df.z, ⟨op, false, 0, 0, 0, 0⟩, g0 l 0, eB⟩, naV (g0 l 0)) := by simp [opV]
    rw [e] at hv
    cases hv
    exact rops_3 op k o n cap off w hk hf _ (by omega) (h.c0 (by omega)) _ (hbig 0 (by omega)) rfl
  · -- 4
    have h2 : 3 ≤ n := by simpa [need] using hn
    by_cases he : (reV (g0 l 0)).2 = 0
    · obtain ⟨rg, sr, im, z, es, HS⟩ := rsec_any op (reV (g0 l 0)).1 (g0 l 1) (hsz 1 (by omega))
      by_cases hzz : z = 0
      · subst hzz
        have e : opV 4 op l off = (⟨2, Df.z, ⟨op, rg, (reV (g0 l 0)).1, sr, 0, im⟩, g0 l 2, eB⟩, naV (g0 l 2)) := by simp [opV, he, es]
        rw [e] at hv
        cases hv
        exact rops_4 op k o n cap off w hk hf _ (by omega) (h.c0 (by omega)) _ rfl he _ (by omega) (hx 1 (by omega)) _ (by omega) (hx 2 (by omega)) rg sr im 0 HS rfl _ (hbig 2 (by omega)) rfl
      · have e : opV 4 op l off = (⟨2, Df.z, ⟨op, rg, (reV (g0 l 0)).1, sr, 0, im⟩, eB, eB⟩, z) := by simp [opV, he, es, hzz]
        rw [e] at hv
        cases hv
        exact rops_4e op k o n cap off w hk hf _ (by omega) (h.c0 (by omega)) _ rfl he _ (by omega) (hx 1 (by omega)) rg sr im x HS hzz
    · have e : opV 4 op l off = (⟨2, Df.z, ⟨op, false, (reV (g0 l 0)).1, 0, 0, 0⟩, eB, eB⟩, (reV (g0 l 0)).2) := by simp [opV, he]
      rw [e] at hv
      cases hv
      exact rops_de op k o n cap off w hk 4 hf (by decide) (by decide) (by decide) (by decide) (by decide) _ (by omega) (h.c0 (by omega)) _ rfl _ he rfl
  · -- 5
    have h2 : 1 ≤ n := by simpa [need] using hn
    by_cases he : heV (g0 l 0) = 0
    · have e : opV 5 op l off = (⟨2, Df.z, ⟨op, false, 0, 0, 0, 0⟩, eB, eB⟩, 7) := by simp [opV, he]
      rw [e] at hv
      cases hv
      exact rops_5z op k o n cap off w hk hf _ (by omega) (h.c0 (by omega)) he
    · have e : opV 5 op l off = (⟨2, Df.z, ⟨op, false, 0, 0, 0, heV (g0 l 0)⟩, eB, eB⟩, 0) := by simp [opV, he]
      rw [e] at hv
      cases hv
      exact rops_5 op k o n cap off w hk hf _ (by omega) (h.c0 (by omega)) _ he rfl
  · -- 6
    have e : opV 6 op l off = (⟨2, Df.z, ⟨op, false, 0, 0, 0, 0⟩, eB, eB⟩, 0) := by simp [opV]
    rw [e] at hv
    cases hv
    exact rops_6 op _ off w hf
  · -- 7
    have h2 : 2 ≤ n ∧ (off = true → 3 ≤ n) := by cases off <;> simp [need] at hn <;> simp <;> omega
    by_cases he : (reV (g0 l 0)).2 = 0
    · have e : opV 7 op l off = (⟨2, Df.z, ⟨op, false, (reV (g0 l 0)).1, (meV (l.drop 1) off).1, (meV (l.drop 1) off).2.1, 0⟩, eB, eB⟩, (meV (l.drop 1) off).2.2.2) := by simp [opV, he]
      rw [e] at hv
      cases hv
      have hO : OpAt w k (if cap = 1 then o else o + 1) (n - 1) (cap - 1) (l.drop 1) := by
        refine ⟨hk, by rw [List.length_drop, hl], by have := h.2.2.1; omega, fun j hj => ?_⟩
        rw [if_neg (by have := h.2.2.1; omega)]
        have := hx (j + 1) (by omega)
        rw [show o + 1 + j = o + (j + 1) by omega, this]
        simp [g0, List.getD]
      exact (rops_7 op k o n cap off w hk hf _ (by omega) (h.c0 (by omega)) _ rfl he (meV (l.drop 1) off).1 (meV (l.drop 1) off).2.1 (meV (l.drop 1) off).2.2.2 _ (n - 1) (cap - 1) _ _ _ (fun W => st_from k o n cap 1 (by omega) h.2.2.1 W) (rmem_fix k _ _ _ (l.drop 1) off w hO (by omega) (fun ho => by have := h2.2 ho; omega) (fun t ht => hz t (List.mem_of_mem_drop ht))).2.1)
    · have e : opV 7 op l off = (⟨2, Df.z, ⟨op, false, (reV (g0 l 0)).1, 0, 0, 0⟩, eB, eB⟩, (reV (g0 l 0)).2) := by simp [opV, he]
      rw [e] at hv
      cases hv
      exact rops_de op k o n cap off w hk 7 hf (by decide) (by decide) (by decide) (by decide) (by decide) _ (by omega) (h.c0 (by omega)) _ rfl _ he rfl
  · -- 8
    have h2 : 2 ≤ n ∧ (off = true → 3 ≤ n) := by cases off <;> simp [need] at hn <;> simp <;> omega
    obtain ⟨hl2, HM, hc2⟩ := rmem_fix k o n cap l off w h (by omega) (fun ho => by have := h2.2 ho; omega) hz
    by_cases he : (meV l off).2.2.2 = 0
    · have hp := me_more l off hl h2 he
      have e : opV 8 op l off = (⟨2, Df.z, ⟨op, false, (meV l off).1, 0, (meV l off).2.1, (nuV (g0 (meV l off).2.2.1 0) 32).1⟩, eB, eB⟩, (nuV (g0 (meV l off).2.2.1 0) 32).2) := by simp [opV, he]
      rw [e] at hv
      cases hv
      exact rops_8 op k o n cap off w hk hf _ _ _ _ _ _ HM he _ (by rw [hl2]; exact hp.1) (hc2 (by rw [hl2]; exact hp.1)) _ _ (by have := hz _ hp.2; unfold maxLen; omega) rfl rfl
    · have e : opV 8 op l off = (⟨2, Df.z, ⟨op, false, (meV l off).1, 0, (meV l off).2.1, 0⟩, eB, eB⟩, (meV l off).2.2.2) := by simp [opV, he]
      rw [e] at hv
      cases hv
      exact rops_me8 op k o n cap off w hk hf _ _ _ _ _ _ HM he
  · -- 9
    have h2 : 2 ≤ n ∧ (off = true → 3 ≤ n) := by cases off <;> simp [need] at hn <;> simp <;> omega
    obtain ⟨hl2, HM, hc2⟩ := rmem_fix k o n cap l off w h (by omega) (fun ho => by have := h2.2 ho; omega) hz
    by_cases he : (meV l off).2.2.2 = 0
    · have hp := me_more l off hl h2 he
      have e : opV 9 op l off = (⟨2, Df.z, ⟨op, false, (meV l off).1, (reV (g0 (meV l off).2.2.1 0)).1, (meV l off).2.1, 0⟩, eB, eB⟩, (reV (g0 (meV l off).2.2.1 0)).2) := by simp [opV, he]
      rw [e] at hv
      cases hv
      exact rops_9 op k o n cap off w hk hf _ _ _ _ _ _ HM he _ (by rw [hl2]; exact hp.1) (hc2 (by rw [hl2]; exact hp.1)) _ _ rfl rfl
    · have e : opV 9 op l off = (⟨2, Df.z, ⟨op, false, (meV l off).1, 0, (meV l off).2.1, 0⟩, eB, eB⟩, (meV l off).2.2.2) := by simp [opV, he]
      rw [e] at hv
      cases hv
      exact rops_me9 op k o n cap off w hk hf _ _ _ _ _ _ HM he
  · -- 10
    have h2 : 2 ≤ n := by simpa [need] using hn
    by_cases he : (reV (g0 l 0)).2 = 0
    · have e : opV 10 op l off = (⟨2, Df.z, ⟨op, false, (reV (g0 l 0)).1, 0, 0, (nuV (g0 l 1) 64).1⟩, eB, eB⟩, (nuV (g0 l 1) 64).2) := by simp [opV, he]
      rw [e] at hv
      cases hv
      exact rops_10 op k o n cap off w hk hf _ (by omega) (h.c0 (by omega)) _ rfl he _ (by omega) (hx 1 (by omega)) _ _ (hmx 1 (by omega)) rfl rfl
    · have e : opV 10 op l off = (⟨2, Df.z, ⟨op, false, (reV (g0 l 0)).1, 0, 0, 0⟩, eB, eB⟩, (reV (g0 l 0)).2) := by simp [opV, he]
      rw [e] at hv
      cases hv
      exact rops_de op k o n cap off w hk 10 hf (by decide) (by decide) (by decide) (by decide) (by decide) _ (by omega) (h.c0 (by omega)) _ rfl _ he rfl
  · -- 11
    have h2 : 2 ≤ n := by simpa [need] using hn
    by_cases he : (reV (g0 l 0)).2 = 0
    · have e : opV 11 op l off = (⟨2, Df.z, ⟨op, false, (reV (g0 l 0)).1, 0, 0, 0⟩, eB, g0 l 1⟩, naV (g0 l 1)) := by simp [opV, he]
      rw [e] at hv
      cases hv
      exact rops_11 op k o n cap off w hk hf _ (by omega) (h.c0 (by omega)) _ rfl he _ (by omega) (hx 1 (by omega)) _ (hbig 1 (by omega)) rfl
    · have e : opV 11 op l off = (⟨2, Df.z, ⟨op, false, (reV (g0 l 0)).1, 0, 0, 0⟩, eB, eB⟩, (reV (g0 l 0)).2) := by simp [opV, he]
      rw [e] at hv
      cases hv
      exact rops_de op k o n cap off w hk 11 hf (by decide) (by decide) (by decide) (by decide) (by decide) _ (by omega) (h.c0 (by omega)) _ rfl _ he rfl
end Go.Proofs.YtjcaonbejhdhkaaDoor.L9
