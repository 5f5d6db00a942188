/- What each law of this layer needs at its row: the last step of a law that returns true and turns nothing. No condition of its own. -/
import Derived.Test.YtiklgnokojkoeaaRhold
import Derived.Test.YtiklgnokojkoeaaRpair
import Derived.Test.YtiklgnokojkoeaaAlive
import Derived.Test.YtiklgnokojkoeaaRows
import Derived.ProofKit
import Derived.OpenShut
namespace Go.Proofs.Ytiklgnokojkoeaa
open Go.ChangeShapes Go.WideShapes Go.ChangeAt Go.RowKit

theorem own : ownKnob Try.prog.godebug = none := by kernel_rfl
theorem laidOut : laidOutB Try.prog = true := by kernel_rfl

/-- The last step of a law's row: it returned true, and all that was there is as it was. -/
theorem law_post {H : Type} {enc : TypeId × Value → H} {P : Program} {f : Func} {s : ChangeSpec} {W W' : World} {args : Array Value} {ds : List (DataW H)} {before : List MemPlace}
    (hW : DataW.Whole enc P f.params.toList s.vars false W args.toList ds [] before) (hv : s.vars = []) (ht : f.resultTypes = #[4]) (hu : P.underlying 4 = some .bool)
    (hfn : s.fn H (ds ++ []) = { results := [.lit (.bool true)], args := ds })
    (hargs : ∀ sp : Nat → Bool, (∀ p ∈ before, sp p.block = true) → DataW.TrodAll enc P W' 0 sp true f.params.toList args.toList ds before)
    (hb : Below W.heap.size W W') : s.post enc P f false true false false W args (.bool true) W' := by
  have hold : ∀ p ∈ before, (fun b => decide (b < W.heap.size)) p.block = true := fun p hp => by simpa using hW.lt p hp
  refine ⟨ds, [], before, [], before, [], hW, ?_, ?_, ?_, World.keptBut_mono (fun p hp => ⟨hp, ?_⟩) (hb.frame (· ∈ before)), fun h => by cases h⟩
  · rw [hfn, ht]
    exact trodAll_cons_mk (shut_bool hu _) trodAll_mk0
  · rw [hfn]; exact hargs _ hold
  · rw [hfn, hv]; exact rfl
  · exact Or.inr (Or.inl hp)

/-- The same, where the arguments read as before through what was there already. -/
theorem law_post_at {H : Type} {enc : TypeId × Value → H} {P : Program} {f : Func} {s : ChangeSpec} {W W' : World} {args : Array Value} {ds : List (DataW H)} {before : List MemPlace}
    (hW : DataW.Whole enc P f.params.toList s.vars false W args.toList ds [] before) (hv : s.vars = []) (ht : f.resultTypes = #[4]) (hu : P.underlying 4 = some .bool)
    (hfn : s.fn H (ds ++ []) = { results := [.lit (.bool true)], args := ds })
    (hargs : DataW.TrodAll enc P W' 0 (fun b => decide (b < W.heap.size)) true f.params.toList args.toList ds before)
    (hb : Below W.heap.size W W') : s.post enc P f false true false false W args (.bool true) W' := by
  refine ⟨ds, [], before, [], before, [], hW, ?_, ?_, ?_, World.keptBut_mono (fun p hp => ⟨hp, ?_⟩) (hb.frame (· ∈ before)), fun h => by cases h⟩
  · rw [hfn, ht]
    exact trodAll_cons_mk (shut_bool hu _) trodAll_mk0
  · rw [hfn]; exact hargs
  · rw [hfn, hv]; exact rfl
  · exact Or.inr (Or.inl hp)

theorem size6 : Try.prog.cellsOf 23 = 6 := by kernel_rfl
theorem size3 : Try.prog.cellsOf 3 = 1 := by kernel_rfl
theorem size4 : Try.prog.cellsOf 4 = 1 := by kernel_rfl
theorem size2 : Try.prog.cellsOf 2 = 1 := by kernel_rfl

/-- An instruction by value reads as six plain data. -/
theorem open_ins {H : Type} {enc : TypeId × Value → H} {w : World} {base : Nat} {sp : Nat → Bool} {held : Bool} {r : Reach} {b0 : Nat} {v : Value} {d : DataW H} {ps : List MemPlace}
    (hval : Value.okWide Try.prog w r b0 23 v) (hd : DataW.Trod enc Try.prog w base sp held 23 v d ps) :
    ∃ (op : Int) (reg : Bool) (dst src off imm : Int), v = .agg #[.int .i64 op, .bool reg, .int .i64 dst, .int .i64 src, .int .i64 off, .int .i64 imm] ∧
      d = .agg [.lit (.int .i64 op), .lit (.bool reg), .lit (.int .i64 dst), .lit (.int .i64 src), .lit (.int .i64 off), .lit (.int .i64 imm)] ∧ ps = [] ∧
      (Lit.int .i64 op).wf = true ∧ (Lit.int .i64 dst).wf = true ∧ (Lit.int .i64 src).wf = true ∧ (Lit.int .i64 off).wf = true ∧ (Lit.int .i64 imm).wf = true := by
  obtain ⟨cs, rfl, hsz⟩ := okWide_struct Try.underlying23 hval
  rw [size6] at hsz
  obtain ⟨l⟩ := cs
  obtain ⟨fuel, hf⟩ := hd
  obtain ⟨xs, n, _, hx, _, hlen, hg⟩ := DataW.trod_struct Try.underlying23 hf
  match l, hsz, xs, hlen with
  | [c0, c1, c2, c3, c4, c5], _, [y0, y1, y2, y3, y4, y5], _ =>
    have g0 : DataW.trod enc Try.prog w base sp held n 3 [c0] = some y0 := by simpa [Value.cells, size3] using hg 0 _ rfl
    have g1 : DataW.trod enc Try.prog w base sp held n 4 [c1] = some y1 := by simpa [Value.cells, size4] using hg 1 _ rfl
    have g2 : DataW.trod enc Try.prog w base sp held n 3 [c2] = some y2 := by simpa [Value.cells, size3] using hg 2 _ rfl
    have g3 : DataW.trod enc Try.prog w base sp held n 3 [c3] = some y3 := by simpa [Value.cells, size3] using hg 3 _ rfl
    have g4 : DataW.trod enc Try.prog w base sp held n 3 [c4] = some y4 := by simpa [Value.cells, size3] using hg 4 _ rfl
    have g5 : DataW.trod enc Try.prog w base sp held n 2 [c5] = some y5 := by simpa [Value.cells, size2] using hg 5 _ rfl
    obtain ⟨n0, e0, rfl, k0⟩ := DataW.trod_int Try.underlying3 g0
    obtain ⟨n1, e1, rfl⟩ := DataW.trod_bool Try.underlying4 g1
    obtain ⟨n2, e2, rfl, k2⟩ := DataW.trod_int Try.underlying3 g2
    obtain ⟨n3, e3, rfl, k3⟩ := DataW.trod_int Try.underlying3 g3
    obtain ⟨n4, e4, rfl, k4⟩ := DataW.trod_int Try.underlying3 g4
    obtain ⟨n5, e5, rfl, k5⟩ := DataW.trod_int Try.underlying2 g5
    simp only [List.cons.injEq, and_true] at e0 e1 e2 e3 e4 e5
    subst e0 e1 e2 e3 e4 e5
    simp only [Prod.mk.injEq] at hx
    exact ⟨n0, n1, n2, n3, n4, n5, rfl, hx.1, hx.2, k0, k2, k3, k4, k5⟩

theorem shut_ins {H : Type} {enc : TypeId × Value → H} {w : World} {base : Nat} {sp : Nat → Bool} {held : Bool} {op : Int} {reg : Bool} {dst src off imm : Int}
    (k0 : (Lit.int .i64 op).wf = true) (k2 : (Lit.int .i64 dst).wf = true) (k3 : (Lit.int .i64 src).wf = true) (k4 : (Lit.int .i64 off).wf = true) (k5 : (Lit.int .i64 imm).wf = true) :
    DataW.Trod enc Try.prog w base sp held 23 (.agg #[.int .i64 op, .bool reg, .int .i64 dst, .int .i64 src, .int .i64 off, .int .i64 imm])
      (.agg [.lit (.int .i64 op), .lit (.bool reg), .lit (.int .i64 dst), .lit (.int .i64 src), .lit (.int .i64 off), .lit (.int .i64 imm)]) [] := by
  have h := trod_struct_mk (enc := enc) (w := w) (base := base) (spare := sp) (held := held) (n := 1) (cs := [.int .i64 op, .bool reg, .int .i64 dst, .int .i64 src, .int .i64 off, .int .i64 imm])
    (xs := [(.lit (.int .i64 op), []), (.lit (.bool reg), []), (.lit (.int .i64 dst), []), (.lit (.int .i64 src), []), (.lit (.int .i64 off), []), (.lit (.int .i64 imm), [])])
    Try.underlying23 (by simp [size6]) (by simp [size3, size4, size2, DataW.trod, Try.underlying3, Try.underlying4, Try.underlying2, k0, k2, k3, k4, k5])
  exact ⟨2, by simpa [Value.cells] using h⟩

theorem size24 : Try.prog.cellsOf 24 = 1 := by kernel_rfl
theorem size26 : Try.prog.cellsOf 26 = 8 := by kernel_rfl
theorem open_ins_cells {H : Type} {enc : TypeId × Value → H} {w : World} {base : Nat} {sp : Nat → Bool} {held : Bool} {n : Nat} {c0 c1 c2 c3 c4 c5 : Value} {y : DataW H × List MemPlace}
    (hf : DataW.trod enc Try.prog w base sp held n 23 [c0, c1, c2, c3, c4, c5] = some y) :
    ∃ (op : Int) (reg : Bool) (dst src off imm : Int), c0 = .int .i64 op ∧ c1 = .bool reg ∧ c2 = .int .i64 dst ∧ c3 = .int .i64 src ∧ c4 = .int .i64 off ∧ c5 = .int .i64 imm ∧
      y = (.agg [.lit (.int .i64 op), .lit (.bool reg), .lit (.int .i64 dst), .lit (.int .i64 src), .lit (.int .i64 off), .lit (.int .i64 imm)], []) ∧
      (Lit.int .i64 op).wf = true ∧ (Lit.int .i64 dst).wf = true ∧ (Lit.int .i64 src).wf = true ∧ (Lit.int .i64 off).wf = true ∧ (Lit.int .i64 imm).wf = true := by
  obtain ⟨xs, n, _, hx, _, hlen, hg⟩ := DataW.trod_struct Try.underlying23 hf
  match xs, hlen with
  | [y0, y1, y2, y3, y4, y5], _ =>
    have g0 : DataW.trod enc Try.prog w base sp held n 3 [c0] = some y0 := by simpa [Value.cells, size3] using hg 0 _ rfl
    have g1 : DataW.trod enc Try.prog w base sp held n 4 [c1] = some y1 := by simpa [Value.cells, size4] using hg 1 _ rfl
    have g2 : DataW.trod enc Try.prog w base sp held n 3 [c2] = some y2 := by simpa [Value.cells, size3] using hg 2 _ rfl
    have g3 : DataW.trod enc Try.prog w base sp held n 3 [c3] = some y3 := by simpa [Value.cells, size3] using hg 3 _ rfl
    have g4 : DataW.trod enc Try.prog w base sp held n 3 [c4] = some y4 := by simpa [Value.cells, size3] using hg 4 _ rfl
    have g5 : DataW.trod enc Try.prog w base sp held n 2 [c5] = some y5 := by simpa [Value.cells, size2] using hg 5 _ rfl
    obtain ⟨n0, e0, rfl, k0⟩ := DataW.trod_int Try.underlying3 g0
    obtain ⟨n1, e1, rfl⟩ := DataW.trod_bool Try.underlying4 g1
    obtain ⟨n2, e2, rfl, k2⟩ := DataW.trod_int Try.underlying3 g2
    obtain ⟨n3, e3, rfl, k3⟩ := DataW.trod_int Try.underlying3 g3
    obtain ⟨n4, e4, rfl, k4⟩ := DataW.trod_int Try.underlying3 g4
    obtain ⟨n5, e5, rfl, k5⟩ := DataW.trod_int Try.underlying2 g5
    simp only [List.cons.injEq, and_true] at e0 e1 e2 e3 e4 e5
    exact ⟨n0, n1, n2, n3, n4, n5, e0, e1, e2, e3, e4, e5, hx, k0, k2, k3, k4, k5⟩
/-- A case by value: an instruction and two numbers. -/
theorem open_case {H : Type} {enc : TypeId × Value → H} {w : World} {base : Nat} {sp : Nat → Bool} {held : Bool} {r : Reach} {b0 : Nat} {v : Value} {d : DataW H} {ps : List MemPlace}
    (hval : Value.okWide Try.prog w r b0 26 v) (hd : DataW.Trod enc Try.prog w base sp held 26 v d ps) :
    ∃ (op : Int) (reg : Bool) (dst src off imm a s : Int), v = .agg #[.int .i64 op, .bool reg, .int .i64 dst, .int .i64 src, .int .i64 off, .int .i64 imm, .int .u64 a, .int .u64 s] ∧
      d = .agg [.agg [.lit (.int .i64 op), .lit (.bool reg), .lit (.int .i64 dst), .lit (.int .i64 src), .lit (.int .i64 off), .lit (.int .i64 imm)], .lit (.int .u64 a), .lit (.int .u64 s)] ∧ ps = [] ∧
      ((Lit.int .i64 op).wf = true ∧ (Lit.int .i64 dst).wf = true ∧ (Lit.int .i64 src).wf = true ∧ (Lit.int .i64 off).wf = true ∧ (Lit.int .i64 imm).wf = true) ∧ (Lit.int .u64 a).wf = true ∧ (Lit.int .u64 s).wf = true := by
  obtain ⟨cs, rfl, hsz⟩ := okWide_struct Try.underlying26 hval
  rw [size26] at hsz
  obtain ⟨l⟩ := cs
  obtain ⟨fuel, hf⟩ := hd
  obtain ⟨xs, n, _, hx, _, hlen, hg⟩ := DataW.trod_struct Try.underlying26 hf
  match l, hsz, xs, hlen with
  | [c0, c1, c2, c3, c4, c5, c6, c7], _, [y0, y1, y2], _ =>
    have g0 : DataW.trod enc Try.prog w base sp held n 23 [c0, c1, c2, c3, c4, c5] = some y0 := by simpa [Value.cells, size6] using hg 0 _ rfl
    have g1 : DataW.trod enc Try.prog w base sp held n 24 [c6] = some y1 := by simpa [Value.cells, size24] using hg 1 _ rfl
    have g2 : DataW.trod enc Try.prog w base sp held n 24 [c7] = some y2 := by simpa [Value.cells, size24] using hg 2 _ rfl
    obtain ⟨op, reg, dst, src, off, imm, rfl, rfl, rfl, rfl, rfl, rfl, rfl, k0, k2, k3, k4, k5⟩ := open_ins_cells g0
    obtain ⟨n1, e1, rfl, k6⟩ := DataW.trod_int Try.underlying24 g1
    obtain ⟨n2, e2, rfl, k7⟩ := DataW.trod_int Try.underlying24 g2
    simp only [List.cons.injEq, and_true] at e1 e2
    subst e1 e2
    simp only [Prod.mk.injEq] at hx
    exact ⟨op, reg, dst, src, off, imm, n1, n2, rfl, hx.1, hx.2, ⟨k0, k2, k3, k4, k5⟩, k6, k7⟩
theorem shut_case {H : Type} {enc : TypeId × Value → H} {w : World} {base : Nat} {sp : Nat → Bool} {held : Bool} {op : Int} {reg : Bool} {dst src off imm a s : Int}
    (k : (Lit.int .i64 op).wf = true ∧ (Lit.int .i64 dst).wf = true ∧ (Lit.int .i64 src).wf = true ∧ (Lit.int .i64 off).wf = true ∧ (Lit.int .i64 imm).wf = true) (k6 : (Lit.int .u64 a).wf = true) (k7 : (Lit.int .u64 s).wf = true) :
    DataW.Trod enc Try.prog w base sp held 26 (.agg #[.int .i64 op, .bool reg, .int .i64 dst, .int .i64 src, .int .i64 off, .int .i64 imm, .int .u64 a, .int .u64 s])
      (.agg [.agg [.lit (.int .i64 op), .lit (.bool reg), .lit (.int .i64 dst), .lit (.int .i64 src), .lit (.int .i64 off), .lit (.int .i64 imm)], .lit (.int .u64 a), .lit (.int .u64 s)]) [] := by
  obtain ⟨k0, k2, k3, k4, k5⟩ := k
  have hi := trod_struct_mk (enc := enc) (w := w) (base := base) (spare := sp) (held := held) (n := 1) (cs := [.int .i64 op, .bool reg, .int .i64 dst, .int .i64 src, .int .i64 off, .int .i64 imm])
    (xs := [(.lit (.int .i64 op), []), (.lit (.bool reg), []), (.lit (.int .i64 dst), []), (.lit (.int .i64 src), []), (.lit (.int .i64 off), []), (.lit (.int .i64 imm), [])])
    Try.underlying23 (by simp [size6]) (by simp [size3, size4, size2, DataW.trod, Try.underlying3, Try.underlying4, Try.underlying2, k0, k2, k3, k4, k5])
  have h := trod_struct_mk (enc := enc) (w := w) (base := base) (spare := sp) (held := held) (n := 2) (cs := [.int .i64 op, .bool reg, .int .i64 dst, .int .i64 src, .int .i64 off, .int .i64 imm, .int .u64 a, .int .u64 s])
    (xs := [(.agg [.lit (.int .i64 op), .lit (.bool reg), .lit (.int .i64 dst), .lit (.int .i64 src), .lit (.int .i64 off), .lit (.int .i64 imm)], []), (.lit (.int .u64 a), []), (.lit (.int .u64 s), [])])
    Try.underlying26 (by simp [size26]) (by
      simp only [List.map_cons, List.map_nil] at hi
      have hi' : DataW.trod enc Try.prog w base sp held 2 23 [.int .i64 op, .bool reg, .int .i64 dst, .int .i64 src, .int .i64 off, .int .i64 imm] = some (.agg [.lit (.int .i64 op), .lit (.bool reg), .lit (.int .i64 dst), .lit (.int .i64 src), .lit (.int .i64 off), .lit (.int .i64 imm)], []) := hi
      have ha : DataW.trod enc Try.prog w base sp held 2 24 [.int .u64 a] = some (.lit (.int .u64 a), []) := by simp [DataW.trod, Try.underlying24, k6]
      have hs : DataW.trod enc Try.prog w base sp held 2 24 [.int .u64 s] = some (.lit (.int .u64 s), []) := by simp [DataW.trod, Try.underlying24, k7]
      simp [size6, size24, hi', ha, hs])
  exact ⟨3, by simpa [Value.cells] using h⟩
theorem bu64 {a : Int} (h : (Lit.int .u64 a).wf = true) : 0 ≤ a ∧ a < 18446744073709551616 := by
  have := bounds_u64 h
  omega
theorem bu32 {a : Int} (h : (Lit.int .u32 a).wf = true) : 0 ≤ a ∧ a < 4294967296 := by
  have := bounds_u32 h
  omega
end Go.Proofs.Ytiklgnokojkoeaa
