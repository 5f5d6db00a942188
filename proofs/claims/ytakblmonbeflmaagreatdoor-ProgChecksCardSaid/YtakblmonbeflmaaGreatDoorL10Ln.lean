/- What the reader's lineOf returns. Condition: memory holds the reader. -/
import Derived.Test.YtakblmonbeflmaaGreatDoorL10Am
namespace Go.Proofs.YtakblmonbeflmaaGreatDoor.L10
open Go.RowKit Go.Maps
attribute [local go_sem] Oper.semAt_some

/-- The line of a breach. -/
def lnO (s : Rd) (b : Bool) (k : Nat) : Int := if h : k < (if b then s.ml else s.sl).length then (if b then s.ml else s.sl)[k] else s.line
theorem own_int {W : World} {B e : TypeId} {v : Value} {xs : List Int} (h : W.ownsRow B e 1 v xs.length (inI xs)) : ∃ a c, v = .slice a xs.length c ∧ (∀ k, (h : k < xs.length) → ∃ b, a = some ⟨b, 0, none⟩ ∧ W.cell? ⟨b, k, none⟩ = some (.int .i64 xs[k])) := by
  rcases h.2 with ⟨rfl, h0⟩ | ⟨g, cap, cur, rfl, _, hh, _⟩
  · exact ⟨none, 0, by rw [h0], fun k hk => by omega⟩
  · refine ⟨_, _, rfl, fun k hk => ⟨g, rfl, ?_⟩⟩
    have := h.cells (g := g) rfl k (.int .i64 xs[k]) (by simp [inI, List.getElem?_eq_getElem hk])
    rwa [L8.add0] at this
set_option maxHeartbeats 2000000 in
set_option maxRecDepth 100000 in
theorem lineOf_at (B kr : Nat) (l : List (Value × Stm)) (s : Rd) (b : Bool) (k : Nat) (w : World) (h : RdM B kr w l s) (r : Int) (hr : lnO s b k = r) :
    Calls Tryz.prog 41 #[.pointer (some ⟨kr, 0, none⟩), .agg #[.bool b, .int .i64 (k : Int)]] w fun e w' => e = .returned (.int .i64 r) ∧ Below w.heap.size w w' := by
  obtain ⟨vm, vs, mv, sv, lv, hrow, hR⟩ := h
  obtain ⟨ma, mc, rfl, hmc⟩ := own_int hR.oml
  obtain ⟨sa, sc, rfl, hsc⟩ := own_int hR.osl
  obtain ⟨x0, x1, x2, x3, x4, x5, x6⟩ := cells7 hrow
  have hkl := lt_of_block hrow
  have hw : w.heap.size ≠ kr := by omega
  clear hR hrow
  unfold lnO at hr
  cases b
  · simp only [Bool.false_eq_true, if_false] at hr
    by_cases hkn : k < s.sl.length
    · rw [dif_pos hkn] at hr
      obtain ⟨bb, rfl, hc⟩ := hsc k hkn
      rw [hr] at hc
      have hbl := World.block_lt_of_cell? w _ hc
      have hk1 : (k : Int) < (s.sl.length : Int) := by omega
      have hk2 : ¬ (s.sl.length : Int) ≤ (k : Int) := by omega
      clear hmc hsc hr
      go_enter Tryz.func41, Tryz.ntmps41
      go_wp2
      go_ret
      exact ⟨rfl, L8.bnew _ _⟩
    · rw [dif_neg hkn] at hr
      subst hr
      have hk2 : (s.sl.length : Int) ≤ (k : Int) := by omega
      clear hmc hsc
      go_enter Tryz.func41, Tryz.ntmps41
      go_wp2
      go_ret
      exact ⟨rfl, L8.bnew _ _⟩
  · simp only [if_true] at hr
    by_cases hkn : k < s.ml.length
    · rw [dif_pos hkn] at hr
      obtain ⟨bb, rfl, hc⟩ := hmc k hkn
      rw [hr] at hc
      have hbl := World.block_lt_of_cell? w _ hc
      have hk1 : (k : Int) < (s.ml.length : Int) := by omega
      have hk2 : ¬ (s.ml.length : Int) ≤ (k : Int) := by omega
      clear hmc hsc hr
      go_enter Tryz.func41, Tryz.ntmps41
      go_wp2
      go_ret
      exact ⟨rfl, L8.bnew _ _⟩
    · rw [dif_neg hkn] at hr
      subst hr
      have hk2 : (s.ml.length : Int) ≤ (k : Int) := by omega
      clear hmc hsc
      go_enter Tryz.func41, Tryz.ntmps41
      go_wp2
      go_ret
      exact ⟨rfl, L8.bnew _ _⟩
end Go.Proofs.YtakblmonbeflmaaGreatDoor.L10
