/- What each law of this layer needs at its row: the last step of a law that returns true and turns nothing. No condition of its own. -/
import Derived.Test.YtdamijicombmkaaL15Mm
import Derived.Test.YtdamijicombmkaaRows
import Derived.ProofKit
import Derived.OpenShut
namespace Go.Proofs.Ytdamijicombmkaa
open Go.ChangeShapes Go.WideShapes Go.ChangeAt Go.RowKit

theorem own : ownKnob Try.prog.godebug = none := by kernel_rfl
theorem laidOut : laidOutB Try.prog = true := by kernel_rfl

/-- The last step of a law's row: it returned true, and all that was there is as it was. -/
theorem law_post {H : Type} {enc : TypeId × Value → H} {P : Program} {f : Func} {s : ChangeSpec} {W W' : World} {args : Array Value} {ds : List (DataW H)} {before : List MemPlace}
    (hW : DataW.Whole enc P f.params.toList s.vars false W args.toList ds [] before) (hv : s.vars = []) (ht : f.resultTypes = #[4]) (hu : P.underlying 4 = some .bool)
    (hfn : s.fn H (ds ++ []) = { results := [.lit (.bool true)], args := ds })
    (hargs : ∀ sp : Nat → Bool, (∀ p ∈ before, sp p.block = true) → DataW.TrodAll enc P W' 0 sp true f.params.toList args.toList ds before)
    (hb : Below W.heap.size W W') : s.post enc P f false true false false W args (.bool true) W' := by
  have hold : ∀ p ∈ before, (fun b => decide (b < W.heap.size)) p.block = true := fun p hp => by simpa using hW.lt p hp
  refine ⟨ds, [], before, [], before, [], hW, ?_, ?_, ?_, World.keptBut_mono (fun p hp => ⟨hp, ?_⟩) (hb.frame (· ∈ before)), fun h => by cases h⟩
  · rw [hfn, ht]
    exact trodAll_cons_mk (shut_bool hu _) trodAll_mk0
  · rw [hfn]; exact hargs _ hold
  · rw [hfn, hv]; exact rfl
  · exact Or.inr (Or.inl hp)

/-- The same, where the arguments read as before through what was there already. -/
theorem law_post_at {H : Type} {enc : TypeId × Value → H} {P : Program} {f : Func} {s : ChangeSpec} {W W' : World} {args : Array Value} {ds : List (DataW H)} {before : List MemPlace}
    (hW : DataW.Whole enc P f.params.toList s.vars false W args.toList ds [] before) (hv : s.vars = []) (ht : f.resultTypes = #[4]) (hu : P.underlying 4 = some .bool)
    (hfn : s.fn H (ds ++ []) = { results := [.lit (.bool true)], args := ds })
    (hargs : DataW.TrodAll enc P W' 0 (fun b => decide (b < W.heap.size)) true f.params.toList args.toList ds before)
    (hb : Below W.heap.size W W') : s.post enc P f false true false false W args (.bool true) W' := by
  refine ⟨ds, [], before, [], before, [], hW, ?_, ?_, ?_, World.keptBut_mono (fun p hp => ⟨hp, ?_⟩) (hb.frame (· ∈ before)), fun h => by cases h⟩
  · rw [hfn, ht]
    exact trodAll_cons_mk (shut_bool hu _) trodAll_mk0
  · rw [hfn]; exact hargs
  · rw [hfn, hv]; exact rfl
  · exact Or.inr (Or.inl hp)

/-- An array of two integers, by value: its cells and its reading. -/
theorem two_of {P : Program} {t : TypeId} {e : TypeId} {v : Value} {W : World} {r : Reach} {base : Nat} (ht : P.underlying t = some (.array 2 e)) (hct : P.cellsOf t = 2) (hv : Value.okWide P W r base t v) :
    ∃ c0 c1, v = .agg #[c0, c1] := by
  obtain ⟨cs, rfl, hsz, _⟩ : ∃ cs, v = .agg cs ∧ cs.size = P.cellsOf t ∧ Row.okWide P W r base t cs := by
    simpa [Value.okWide, ht] using hv
  rw [hct] at hsz
  obtain ⟨l⟩ := cs
  match l, hsz with
  | [a, b], _ => exact ⟨a, b, rfl⟩

/-- Its two elements. -/
theorem two_ints {H : Type} {enc : TypeId × Value → H} {P : Program} {W : World} {base : Nat} {sp : Nat → Bool} {held : Bool} {fuel : Nat} {t e : TypeId} {c0 c1 : Value} {d : DataW H} {p : List MemPlace} (ht : P.underlying t = some (.array 2 e)) (he : P.underlying e = some (.int .i64)) (hce : P.cellsOf e = 1)
    (h : DataW.trod enc P W base sp held fuel t [c0, c1] = some (d, p)) :
    ∃ x0 x1, c0 = .int .i64 x0 ∧ c1 = .int .i64 x1 ∧ (Lit.int .i64 x0).wf = true ∧ (Lit.int .i64 x1).wf = true ∧ p = [] := by
  obtain ⟨xs, m, rfl, hx, hl, hn, hi⟩ := DataW.trod_array ht h
  have h0 := hi 0 (by omega)
  have h1 := hi 1 (by omega)
  rw [hce] at h0 h1
  match xs, hn with
  | [y0, y1], _ =>
    obtain ⟨x0, e0, rfl, w0⟩ := DataW.trod_int he (show DataW.trod enc P W base sp held m e [c0] = some y0 from h0)
    obtain ⟨x1, e1, rfl, w1⟩ := DataW.trod_int he (show DataW.trod enc P W base sp held m e [c1] = some y1 from h1)
    simp at e0 e1
    simp at hx
    exact ⟨x0, x1, e0, e1, w0, w1, hx.2⟩
end Go.Proofs.Ytdamijicombmkaa
