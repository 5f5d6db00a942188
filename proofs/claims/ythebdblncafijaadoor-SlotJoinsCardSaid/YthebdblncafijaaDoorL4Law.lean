/- What each law of layer 4 needs at its row: the listed variable gives the table that the walks read; an instruction by value is opened and shut; a law that returns true and turns nothing keeps its row. No condition of its own. -/
import Derived.Test.YthebdblncafijaaDoorL4Alive
import Derived.Test.YthebdblncafijaaDoorRows
import Derived.ProofKit
import Derived.LaidMore
import Derived.OpenShut
import Derived.Lib.LaidTab
import Derived.Stop.Joined
import Derived.Stop.LaidErr
namespace Go.Proofs.YthebdblncafijaaDoor.L4
open Go.ChangeShapes Go.WideShapes Go.ChangeAt Go.RowKit L1

theorem own : ownKnob Tryd.prog.godebug = none := by kernel_rfl

/-- What the rows list of the package-level variables. -/
abbrev laid4 : List (String × DataW Unit) := [("slotcode/num.widths", Rows.laid_slotcode_num_widths)]

theorem gWid : Tryd.prog.globalNamed "slotcode/num.widths" = some 0 := by kernel_rfl
theorem tWid : (Tryd.prog.globals[0]?).map (·.type) = some 98 := by kernel_rfl

/-- What the row's condition on its variables gives the walks. -/
theorem tabs_of {W : World} (h : laidMetH Tryd.prog laid4 W) : Wid W := by
  rw [MakeChecks.laidMetH_plain _ _ _ (by kernel_rfl)] at h
  have hw : Lib.TabIs Tryd.prog W "slotcode/num.widths" .i64 [8, 16, 32, 64] :=
    Lib.tabIs_of_head (rest := []) gWid tWid Tryd.underlying98 Tryd.underlying3 (by kernel_rfl) (by kernel_rfl) h
  unfold Lib.TabIs World.var? at hw
  rw [gWid] at hw
  simp only [Option.bind_some] at hw
  split at hw
  · rename_i cs t fr he
    refine ⟨t, fr, ?_⟩
    rw [he]
    simp only [Option.some.injEq] at hw
    rw [hw]; rfl
  · cases hw

/-- The door's own heap meets the condition. -/
theorem door_met (os : Os) (args : Array Value) : laidMetH Tryd.prog laid4 ((World.doorLaid Tryd.prog 4000 os).forCall (fun _ _ => 0) ⟨#[], args, []⟩).memory :=
  laidMetH_of_parts3 (fuel := 8) (laidMet_of_run' 8 (by kernel_rfl) (by kernel_rfl)) (by kernel_rfl) (by kernel_rfl)

theorem size6 : Tryd.prog.cellsOf 23 = 6 := by kernel_rfl
theorem size3 : Tryd.prog.cellsOf 3 = 1 := by kernel_rfl
theorem size4 : Tryd.prog.cellsOf 4 = 1 := by kernel_rfl
theorem size2 : Tryd.prog.cellsOf 2 = 1 := by kernel_rfl

/-- An instruction by value reads as six plain data. -/
theorem open_ins {H : Type} {enc : TypeId × Value → H} {w : World} {base : Nat} {sp : Nat → Bool} {held : Bool} {r : Reach} {b0 : Nat} {v : Value} {d : DataW H} {ps : List MemPlace}
    (hval : Value.okWide Tryd.prog w r b0 23 v) (hd : DataW.Trod enc Tryd.prog w base sp held 23 v d ps) :
    ∃ (op : Int) (reg : Bool) (dst src off imm : Int), v = .agg #[.int .i64 op, .bool reg, .int .i64 dst, .int .i64 src, .int .i64 off, .int .i64 imm] ∧
      d = .agg [.lit (.int .i64 op), .lit (.bool reg), .lit (.int .i64 dst), .lit (.int .i64 src), .lit (.int .i64 off), .lit (.int .i64 imm)] ∧ ps = [] ∧
      (Lit.int .i64 op).wf = true ∧ (Lit.int .i64 dst).wf = true ∧ (Lit.int .i64 src).wf = true ∧ (Lit.int .i64 off).wf = true ∧ (Lit.int .i64 imm).wf = true := by
  obtain ⟨cs, rfl, hsz⟩ := okWide_struct Tryd.underlying23 hval
  rw [size6] at hsz
  obtain ⟨l⟩ := cs
  obtain ⟨fuel, hf⟩ := hd
  obtain ⟨xs, n, _, hx, _, hlen, hg⟩ := DataW.trod_struct Tryd.underlying23 hf
  match l, hsz, xs, hlen with
  | [c0, c1, c2, c3, c4, c5], _, [y0, y1, y2, y3, y4, y5], _ =>
    have g0 : DataW.trod enc Tryd.prog w base sp held n 3 [c0] = some y0 := by simpa [Value.cells, size3] using hg 0 _ rfl
    have g1 : DataW.trod enc Tryd.prog w base sp held n 4 [c1] = some y1 := by simpa [Value.cells, size4] using hg 1 _ rfl
    have g2 : DataW.trod enc Tryd.prog w base sp held n 3 [c2] = some y2 := by simpa [Value.cells, size3] using hg 2 _ rfl
    have g3 : DataW.trod enc Tryd.prog w base sp held n 3 [c3] = some y3 := by simpa [Value.cells, size3] using hg 3 _ rfl
    have g4 : DataW.trod enc Tryd.prog w base sp held n 3 [c4] = some y4 := by simpa [Value.cells, size3] using hg 4 _ rfl
    have g5 : DataW.trod enc Tryd.prog w base sp held n 2 [c5] = some y5 := by simpa [Value.cells, size2] using hg 5 _ rfl
    obtain ⟨n0, e0, rfl, k0⟩ := DataW.trod_int Tryd.underlying3 g0
    obtain ⟨n1, e1, rfl⟩ := DataW.trod_bool Tryd.underlying4 g1
    obtain ⟨n2, e2, rfl, k2⟩ := DataW.trod_int Tryd.underlying3 g2
    obtain ⟨n3, e3, rfl, k3⟩ := DataW.trod_int Tryd.underlying3 g3
    obtain ⟨n4, e4, rfl, k4⟩ := DataW.trod_int Tryd.underlying3 g4
    obtain ⟨n5, e5, rfl, k5⟩ := DataW.trod_int Tryd.underlying2 g5
    simp only [List.cons.injEq, and_true] at e0 e1 e2 e3 e4 e5
    subst e0 e1 e2 e3 e4 e5
    simp only [Prod.mk.injEq] at hx
    exact ⟨n0, n1, n2, n3, n4, n5, rfl, hx.1, hx.2, k0, k2, k3, k4, k5⟩

theorem shut_ins {H : Type} {enc : TypeId × Value → H} {w : World} {base : Nat} {sp : Nat → Bool} {held : Bool} {op : Int} {reg : Bool} {dst src off imm : Int}
    (k0 : (Lit.int .i64 op).wf = true) (k2 : (Lit.int .i64 dst).wf = true) (k3 : (Lit.int .i64 src).wf = true) (k4 : (Lit.int .i64 off).wf = true) (k5 : (Lit.int .i64 imm).wf = true) :
    DataW.Trod enc Tryd.prog w base sp held 23 (.agg #[.int .i64 op, .bool reg, .int .i64 dst, .int .i64 src, .int .i64 off, .int .i64 imm])
      (.agg [.lit (.int .i64 op), .lit (.bool reg), .lit (.int .i64 dst), .lit (.int .i64 src), .lit (.int .i64 off), .lit (.int .i64 imm)]) [] := by
  have h := trod_struct_mk (enc := enc) (w := w) (base := base) (spare := sp) (held := held) (n := 1) (cs := [.int .i64 op, .bool reg, .int .i64 dst, .int .i64 src, .int .i64 off, .int .i64 imm])
    (xs := [(.lit (.int .i64 op), []), (.lit (.bool reg), []), (.lit (.int .i64 dst), []), (.lit (.int .i64 src), []), (.lit (.int .i64 off), []), (.lit (.int .i64 imm), [])])
    Tryd.underlying23 (by simp [size6]) (by simp [size3, size4, size2, DataW.trod, Tryd.underlying3, Tryd.underlying4, Tryd.underlying2, k0, k2, k3, k4, k5])
  exact ⟨2, by simpa [Value.cells] using h⟩

/-- The last step of a law's row: it returned true, and all that was there is as it was. -/
theorem law_post {H : Type} {enc : TypeId × Value → H} {P : Program} {f : Func} {s : ChangeSpec} {W W' : World} {args : Array Value} {ds : List (DataW H)} {before : List MemPlace}
    (hW : DataW.Whole enc P f.params.toList s.vars false W args.toList ds [] before) (hv : s.vars = []) (ht : f.resultTypes = #[4]) (hu : P.underlying 4 = some .bool)
    (hfn : s.fn H (ds ++ []) = { results := [.lit (.bool true)], args := ds })
    (hargs : ∀ sp : Nat → Bool, (∀ p ∈ before, sp p.block = true) → DataW.TrodAll enc P W' 0 sp true f.params.toList args.toList ds before)
    (hb : Below W.heap.size W W') : s.post enc P f false true false false W args (.bool true) W' := by
  have hold : ∀ p ∈ before, (fun b => decide (b < W.heap.size)) p.block = true := fun p hp => by simpa using hW.lt p hp
  refine ⟨ds, [], before, [], before, [], hW, ?_, ?_, ?_, World.keptBut_mono (fun p hp => ⟨hp, ?_⟩) (hb.frame (· ∈ before)), fun h => by cases h⟩
  · rw [hfn, ht]
    exact trodAll_cons_mk (shut_bool hu _) trodAll_mk0
  · rw [hfn]; exact hargs _ hold
  · rw [hfn, hv]; exact rfl
  · exact Or.inr (Or.inl hp)
end Go.Proofs.YthebdblncafijaaDoor.L4
