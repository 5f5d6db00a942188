/- What each law of layer 11 needs at its row: the listed variables give the tables that the walks read; a law that returns true and turns nothing keeps its row. No condition of its own. -/
import Derived.Test.YtbneaihpnfkcdaaGreatDoorM21
import Derived.Test.YtbneaihpnfkcdaaGreatDoorM15
import Derived.Test.YtbneaihpnfkcdaaGreatDoorRows
import Derived.ProofKit
import Derived.LaidMore
import Derived.OpenShut
import Derived.Lib.LaidTab
import Derived.Stop.Joined
import Derived.Stop.LaidErr
namespace Go.Proofs.YtbneaihpnfkcdaaGreatDoor
open Go.ChangeShapes Go.WideShapes Go.ChangeAt Go.RowKit

theorem own : ownKnob Tryz.prog.godebug = none := by kernel_rfl

theorem cells_of_texts {H : Type} {enc : TypeId × Value → H} {P : Program} {w : World} {base : Nat} {sp : Nat → Bool} {held : Bool} {fuel : Nat} {t e : TypeId} {n : Nat} {cs : List Value} {zs : List (List UInt8)} {p : List MemPlace}
    (ht : P.underlying t = some (.array n e)) (he : P.underlying e = some .string) (hce : P.cellsOf e = 1) (hct : P.cellsOf t = n)
    (h : DataW.trod enc P w base sp held fuel t cs = some (.agg (zs.map fun z => .lit (.string z)), p)) : cs = zs.map fun z => Value.string ⟨z.toArray⟩ := by
  cases fuel with
  | zero => simp [DataW.trod] at h
  | succ fuel =>
    simp only [DataW.trod, ht, hce, hct, Nat.mul_one] at h
    split at h
    · rename_i hl
      obtain ⟨xs, hm, hx⟩ := Option.map_eq_some_iff.1 h
      have hxs : xs.map (·.1) = zs.map fun z => (DataW.lit (.string z) : DataW H) := by
        have := congrArg Prod.fst hx
        simpa using this
      have hxl : xs.length = n := by simpa using Lib.mapM_length hm
      have hzl : zs.length = n := by
        have := congrArg List.length hxs
        simp at this
        omega
      apply List.ext_getElem?
      intro i
      by_cases hi : i < n
      · obtain ⟨b, hb, hf⟩ := Lib.mapM_at hm i i (by simp [hi])
        obtain ⟨z, hc, rfl, _⟩ := DataW.trod_string he hf
        have h1 : cs[i]? = some (.string z) := by
          have := congrArg (·[0]?) hc
          simpa [List.getElem?_take, List.getElem?_drop] using this
        have h2 : (xs.map (·.1))[i]? = some (DataW.lit (.string z.data.toList) : DataW H) := by simp [hb]
        rw [hxs] at h2
        simp only [List.getElem?_map, Option.map_eq_some_iff, DataW.lit.injEq, Lit.string.injEq] at h2
        obtain ⟨z', hz', rfl⟩ := h2
        simp [h1, hz']
      · rw [List.getElem?_eq_none (by omega), List.getElem?_eq_none (by simp; omega)]
    · cases h

abbrev laid5 : List (String × DataW Unit) := [("math/bits.deBruijn32tab", Rows.laid_math_bits_deBruijn32tab), ("math/bits.deBruijn64tab", Rows.laid_math_bits_deBruijn64tab), ("internal/strconv.uint64pow10", Rows.laid_internal_strconv_uint64pow10), ("slotcode/ident.registers", Rows.laid_slotcode_ident_registers), ("slotcode/num.widths", Rows.laid_slotcode_num_widths)]

theorem gReg : Tryz.prog.globalNamed "slotcode/ident.registers" = some 0 := by kernel_rfl
theorem tReg : (Tryz.prog.globals[0]?).map (·.type) = some 120 := by kernel_rfl
theorem gWid : Tryz.prog.globalNamed "slotcode/num.widths" = some 2 := by kernel_rfl
theorem tWid : (Tryz.prog.globals[2]?).map (·.type) = some 153 := by kernel_rfl
theorem tPow : (Tryz.prog.globals[5]?).map (·.type) = some 202 := by kernel_rfl
abbrev regD : DataW Unit := .agg (([[114, 48], [114, 49], [114, 50], [114, 51], [114, 52], [114, 53], [114, 54], [114, 55], [114, 56], [114, 57], [114, 49, 48]] : List (List UInt8)).map fun z => .lit (.string z))
theorem tb_parts {W : World} (hp : Lib.TabIs Tryz.prog W "internal/strconv.uint64pow10" .u64 Lib.pow10Tab) (hw : Lib.TabIs Tryz.prog W "slotcode/num.widths" .i64 [8, 16, 32, 64]) {rest : List (String × DataW Unit)} (h3 : laidMet Tryz.prog (("slotcode/ident.registers", regD) :: rest) W) : L11.Tb W := by
  refine ⟨⟨?_, ?_⟩, hp, ?_⟩
  · unfold Lib.TabIs World.var? at hw
    rw [gWid] at hw
    simp only [Option.bind_some] at hw
    split at hw
    · rename_i cs t fr he
      refine ⟨t, fr, ?_⟩
      rw [he]
      simp only [Option.some.injEq] at hw
      rw [hw]; rfl
    · cases hw
  · obtain ⟨ps, ⟨g', t', cs, fuel, p, q, hg', ht', hvar, hd, _, _⟩, _⟩ := h3
    obtain rfl := Option.some.inj (gReg.symm.trans hg')
    obtain rfl := Option.some.inj (tReg.symm.trans ht')
    have hcs := cells_of_texts Tryz.underlying120 Tryz.underlying9 (by kernel_rfl) (by kernel_rfl) hd
    unfold World.var? at hvar
    rw [gReg] at hvar
    simp only [Option.bind_some] at hvar
    split at hvar
    · rename_i cs2 t fr he
      refine ⟨t, fr, ?_⟩
      rw [he]
      simp only [Option.some.injEq] at hvar
      rw [hvar, show cs = L2.regC from Array.toList_inj.1 hcs]
    · cases hvar
  · unfold Lib.TabIs World.var? at hp
    rw [L11.gPow] at hp
    simp only [Option.bind_some] at hp
    split at hp
    · rename_i cs t fr he
      exact lt_of_block he
    · cases hp
set_option maxRecDepth 100000 in
/-- What the row's condition on its variables gives the walks. -/
theorem tabs_of {W : World} (h : laidMetH Tryz.prog laid5 W) : L11.Tb W := by
  rw [MakeChecks.laidMetH_plain _ _ _ (by kernel_rfl)] at h
  have h2 := h.tail.tail
  have hp : Lib.TabIs Tryz.prog W "internal/strconv.uint64pow10" .u64 Lib.pow10Tab :=
    Lib.tabIs_of_head (rest := [("slotcode/ident.registers", Rows.laid_slotcode_ident_registers), ("slotcode/num.widths", Rows.laid_slotcode_num_widths)]) L11.gPow tPow Tryz.underlying202 Tryz.underlying71 (by kernel_rfl) (by kernel_rfl) h2
  have hw : Lib.TabIs Tryz.prog W "slotcode/num.widths" .i64 [8, 16, 32, 64] :=
    Lib.tabIs_of_head (rest := []) gWid tWid Tryz.underlying153 Tryz.underlying3 (by kernel_rfl) (by kernel_rfl) h2.tail.tail
  have h3 : laidMet Tryz.prog [("slotcode/ident.registers", regD), ("slotcode/num.widths", Rows.laid_slotcode_num_widths)] W := h2.tail
  exact tb_parts hp hw h3

set_option maxRecDepth 100000 in
/-- The door's own heap meets the condition. -/
theorem door_met (os : Os) (args : Array Value) : laidMetH Tryz.prog laid5 ((World.doorLaid Tryz.prog 4000 os).forCall (fun _ _ => 0) ⟨#[], args, []⟩).memory :=
  laidMetH_of_parts3 (fuel := 8) (laidMet_of_run' 8 (by kernel_rfl) (by kernel_rfl)) (by kernel_rfl) (by kernel_rfl)
section
variable {H : Type} {enc : TypeId × Value → H} {W : World} {base : Nat} {sp : Nat → Bool} {held : Bool}

set_option maxRecDepth 100000 in
theorem open_defv {r : Reach} {b0 : Nat} {v : Value} {d : DataW H} {ps : List MemPlace} (hval : Value.okWide Tryz.prog W r b0 23 v) (hd : DataW.Trod enc Tryz.prog W base sp held 23 v d ps) :
    ∃ g : L9.Df, v = .agg #[.string g.nm, .int .i64 g.key, .int .i64 g.val, .int .i64 g.ent] ∧ L10.DfFit g := by
  obtain ⟨cs, rfl, hsz⟩ := okWide_struct Tryz.underlying23 hval
  obtain ⟨l⟩ := cs
  obtain ⟨fuel, hf⟩ := hd
  obtain ⟨g, e, hg⟩ := L10.open_def hf
  refine ⟨g, ?_, hg⟩
  have e' : l = L10.dfL g := e
  rw [e']
end

theorem law_post {H : Type} {enc : TypeId × Value → H} {P : Program} {f : Func} {s : ChangeSpec} {W W' : World} {args : Array Value} {ds : List (DataW H)} {before : List MemPlace}
    (hW : DataW.Whole enc P f.params.toList s.vars false W args.toList ds [] before) (hv : s.vars = []) (ht : f.resultTypes = #[4]) (hu : P.underlying 4 = some .bool)
    (hfn : s.fn H (ds ++ []) = { results := [.lit (.bool true)], args := ds })
    (hargs : ∀ sp : Nat → Bool, (∀ p ∈ before, sp p.block = true) → DataW.TrodAll enc P W' 0 sp true f.params.toList args.toList ds before)
    (hb : Below W.heap.size W W') : s.post enc P f false true false false W args (.bool true) W' := by
  have hold : ∀ p ∈ before, (fun b => decide (b < W.heap.size)) p.block = true := fun p hp => by simpa using hW.lt p hp
  refine ⟨ds, [], before, [], before, [], hW, ?_, ?_, ?_, World.keptBut_mono (fun p hp => ⟨hp, ?_⟩) (hb.frame (· ∈ before)), fun h => by cases h⟩
  · rw [hfn, ht]
    exact trodAll_cons_mk (shut_bool hu _) trodAll_mk0
  · rw [hfn]; exact hargs _ hold
  · rw [hfn, hv]; exact rfl
  · exact Or.inr (Or.inl hp)

theorem law_post_at {H : Type} {enc : TypeId × Value → H} {P : Program} {f : Func} {s : ChangeSpec} {W W' : World} {args : Array Value} {ds : List (DataW H)} {before : List MemPlace}
    (hW : DataW.Whole enc P f.params.toList s.vars false W args.toList ds [] before) (hv : s.vars = []) (ht : f.resultTypes = #[4]) (hu : P.underlying 4 = some .bool)
    (hfn : s.fn H (ds ++ []) = { results := [.lit (.bool true)], args := ds })
    (hargs : DataW.TrodAll enc P W' 0 (fun b => decide (b < W.heap.size)) true f.params.toList args.toList ds before)
    (hb : Below W.heap.size W W') : s.post enc P f false true false false W args (.bool true) W' := by
  refine ⟨ds, [], before, [], before, [], hW, ?_, ?_, ?_, World.keptBut_mono (fun p hp => ⟨hp, ?_⟩) (hb.frame (· ∈ before)), fun h => by cases h⟩
  · rw [hfn, ht]
    exact trodAll_cons_mk (shut_bool hu _) trodAll_mk0
  · rw [hfn]; exact hargs
  · rw [hfn, hv]; exact rfl
  · exact Or.inr (Or.inl hp)

theorem laidOut : laidOutB Tryz.prog = true := by kernel_rfl
end Go.Proofs.YtbneaihpnfkcdaaGreatDoor
