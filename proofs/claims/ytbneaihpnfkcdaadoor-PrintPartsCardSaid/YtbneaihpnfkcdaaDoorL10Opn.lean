/- A program that is handed over by value reads as some plain program. No condition. -/
import Derived.Test.YtbneaihpnfkcdaaDoorL10Pg
import Derived.Deep.Slices
import Derived.ProofKit
import Derived.OpenShut
import Derived.SliceStrings
namespace Go.Proofs.YtbneaihpnfkcdaaDoor.L10
open Go.ChangeShapes Go.WideShapes Go.ChangeAt Go.RowKit Go.Deep

/-- The bounds of what a program's parts hold. -/
structure DfFit (d : L9.Df) : Prop where
  nm : d.nm.size ≤ maxLen
  key : (Lit.int .i64 d.key).wf = true
  val : (Lit.int .i64 d.val).wf = true
  ent : (Lit.int .i64 d.ent).wf = true
structure SmFit (s : Stm) : Prop where
  lb : ∀ t ∈ s.labs, t.size ≤ maxLen
  tg : s.tg.size ≤ maxLen
  mp : s.mp.size ≤ maxLen
  op : (Lit.int .i64 s.x.op).wf = true
  dst : (Lit.int .i64 s.x.dst).wf = true
  src : (Lit.int .i64 s.x.src).wf = true
  off : (Lit.int .i64 s.x.off).wf = true
  imm : (Lit.int .i64 s.x.imm).wf = true
structure PgFit (p : Pg) : Prop where
  maps : ∀ d ∈ p.maps, DfFit d
  stmts : ∀ s ∈ p.stmts, SmFit s

theorem list_of {α : Type} {P : Nat → α → Prop} : ∀ n : Nat, (∀ i, i < n → ∃ x, P i x) → ∃ l : List α, l.length = n ∧ ∀ i, (hi : i < l.length) → P i l[i]
  | 0, _ => ⟨[], rfl, fun i hi => absurd hi (by simp)⟩
  | n + 1, h => by
    obtain ⟨l, hl, hp⟩ := list_of n (fun i hi => h i (by omega))
    obtain ⟨x, hx⟩ := h n (by omega)
    refine ⟨l ++ [x], by simp [hl], fun i hi => ?_⟩
    by_cases hlt : i < l.length
    · rw [List.getElem_append_left hlt]; exact hp i hlt
    · have : i = n := by simp at hi; omega
      subst this
      rw [List.getElem_append_right (by omega)]
      simpa [hl] using hx

theorem cD : Tryd.prog.cellsOf 34 = 4 := by kernel_rfl
theorem cS : Tryd.prog.cellsOf 30 = 9 := by kernel_rfl
theorem cI : Tryd.prog.cellsOf 27 = 6 := by kernel_rfl
theorem cT : Tryd.prog.cellsOf 9 = 1 := by kernel_rfl
theorem cN : Tryd.prog.cellsOf 3 = 1 := by kernel_rfl
theorem cL : Tryd.prog.cellsOf 2 = 1 := by kernel_rfl
theorem cB : Tryd.prog.cellsOf 4 = 1 := by kernel_rfl
theorem cP : Tryd.prog.cellsOf 39 = 2 := by kernel_rfl
theorem cTs : Tryd.prog.cellsOf 28 = 1 := by kernel_rfl
theorem cDs : Tryd.prog.cellsOf 37 = 1 := by kernel_rfl
theorem cSs : Tryd.prog.cellsOf 36 = 1 := by kernel_rfl

/-- A slice of ints. -/
def InAt (w : World) (v : Value) (l : List Int) : Prop :=
  (∃ b o cap, v = .slice (some ⟨b, o, none⟩) l.length cap ∧ b < w.heap.size ∧ ∀ j, (h : j < l.length) → w.cell? ⟨b, o + j, none⟩ = some (.int .i64 l[j])) ∨ (l = [] ∧ ∃ a cap, v = .slice a 0 cap)
theorem cells2p {w : World} {k : Nat} {a b : Value} {t : TypeId} (h : w.heap[k]? = some (.cells #[a, b] t)) : w.cell? ⟨k, 0, none⟩ = some a ∧ w.cell? ⟨k, 1, none⟩ = some b := by
  simp [World.cell?, h]
theorem InAt.below {w w' : World} {v : Value} {l : List Int} (h : InAt w v l) (hb : Below w.heap.size w w') : InAt w' v l := by
  rcases h with ⟨b, o, cap, rfl, hlt, hc⟩ | h
  · exact .inl ⟨b, o, cap, rfl, Nat.lt_of_lt_of_le hlt hb.size, fun j hj => (hb.cell (by exact hlt)).trans (hc j hj)⟩
  · exact .inr h
theorem in_form {w : World} {v : Value} {l : List Int} {n : Nat} (hn : l.length = n) (h : InAt w v l) : ∃ a c, v = .slice a n c ∧ (0 < n → ∃ b o, a = some ⟨b, o, none⟩ ∧ b < w.heap.size ∧ ∀ j, (h : j < l.length) → w.cell? ⟨b, o + j, none⟩ = some (.int .i64 l[j])) := by
  subst hn
  rcases h with ⟨b, o, cap, rfl, hb, hc⟩ | ⟨rfl, a, cap, rfl⟩
  · exact ⟨_, _, rfl, fun _ => ⟨b, o, rfl, hb, hc⟩⟩
  · exact ⟨a, cap, rfl, fun h => absurd h (by simp)⟩
section
variable {H : Type} {enc : TypeId × Value → H} {W : World} {base : Nat} {sp : Nat → Bool} {held : Bool}

theorem open_texts {fuel : Nat} {cs : List Value} {x : DataW H × List MemPlace} (h : DataW.trod enc Tryd.prog W base sp held fuel 28 cs = some x) :
    ∃ v l, cs = [v] ∧ L8.StAt W v l ∧ ∀ t ∈ l, t.size ≤ maxLen := by
  rcases open_strings Tryd.underlying28 Tryd.underlying9 cT h with ⟨hcs, -⟩ | ⟨a, len, cap, ss, hcs, -, hl, -, hz, -, hcell, hws⟩
  · exact ⟨_, [], hcs, .inr ⟨rfl, none, 0, rfl⟩, by simp⟩
  · have hsl : len ≤ ss.length := by rw [hz]; split <;> omega
    have hll : (ss.take len).length = len := by rw [List.length_take]; omega
    refine ⟨_, ss.take len, hcs, ?_, fun s hs => hws s (List.mem_of_mem_take hs)⟩
    by_cases hl0 : len = 0
    · exact .inr ⟨List.eq_nil_of_length_eq_zero (by omega), some a, cap, by rw [hl0]⟩
    · obtain ⟨b, off, spot⟩ := a
      have hspot : spot = none := by simpa [Addr.add] using World.cell?_spot (hcell 0 (by omega))
      subst hspot
      have hb := World.block_lt_of_cell? W _ (hcell 0 (by omega))
      refine .inl ⟨b, off, cap, by rw [hll], hb, fun j hj => ?_⟩
      rw [hll] at hj
      have e : (ss.take len).getD j ByteArray.empty = ss.getD j ByteArray.empty := by simp [List.getD, hj]
      rw [e, ← add_plain]
      exact hcell j (by omega)

set_option maxRecDepth 100000 in
/-- A declaration's cells. -/
theorem open_def {fuel : Nat} {cs : List Value} {x : DataW H × List MemPlace} (h : DataW.trod enc Tryd.prog W base sp held fuel 34 cs = some x) :
    ∃ d : L9.Df, cs = dfL d ∧ DfFit d := by
  obtain ⟨xs, n, _, _, hcl, hlen, hg⟩ := DataW.trod_struct Tryd.underlying34 h
  rw [cD] at hcl
  match cs, hcl, xs, hlen with
  | [c0, c1, c2, c3], _, [y0, y1, y2, y3], _ =>
    have g0 : DataW.trod enc Tryd.prog W base sp held n 9 [c0] = some y0 := by simpa [cT] using hg 0 _ rfl
    have g1 : DataW.trod enc Tryd.prog W base sp held n 3 [c1] = some y1 := by simpa [cN] using hg 1 _ rfl
    have g2 : DataW.trod enc Tryd.prog W base sp held n 3 [c2] = some y2 := by simpa [cN] using hg 2 _ rfl
    have g3 : DataW.trod enc Tryd.prog W base sp held n 3 [c3] = some y3 := by simpa [cN] using hg 3 _ rfl
    obtain ⟨s0, e0, -, k0⟩ := DataW.trod_string Tryd.underlying9 g0
    obtain ⟨n1, e1, -, k1⟩ := DataW.trod_int Tryd.underlying3 g1
    obtain ⟨n2, e2, -, k2⟩ := DataW.trod_int Tryd.underlying3 g2
    obtain ⟨n3, e3, -, k3⟩ := DataW.trod_int Tryd.underlying3 g3
    simp only [List.cons.injEq, and_true] at e0 e1 e2 e3
    subst e0 e1 e2 e3
    exact ⟨⟨s0, n1, n2, n3⟩, rfl, k0, k1, k2, k3⟩

set_option maxRecDepth 100000 in
/-- An instruction's cells. -/
theorem open_insC {fuel : Nat} {cs : List Value} {x : DataW H × List MemPlace} (h : DataW.trod enc Tryd.prog W base sp held fuel 27 cs = some x) :
    ∃ d : L9.Ins, cs = inL d ∧ (Lit.int .i64 d.op).wf = true ∧ (Lit.int .i64 d.dst).wf = true ∧ (Lit.int .i64 d.src).wf = true ∧ (Lit.int .i64 d.off).wf = true ∧ (Lit.int .i64 d.imm).wf = true := by
  obtain ⟨xs, n, _, _, hcl, hlen, hg⟩ := DataW.trod_struct Tryd.underlying27 h
  rw [cI] at hcl
  match cs, hcl, xs, hlen with
  | [c0, c1, c2, c3, c4, c5], _, [y0, y1, y2, y3, y4, y5], _ =>
    have g0 : DataW.trod enc Tryd.prog W base sp held n 3 [c0] = some y0 := by simpa [cN] using hg 0 _ rfl
    have g1 : DataW.trod enc Tryd.prog W base sp held n 4 [c1] = some y1 := by simpa [cB] using hg 1 _ rfl
    have g2 : DataW.trod enc Tryd.prog W base sp held n 3 [c2] = some y2 := by simpa [cN] using hg 2 _ rfl
    have g3 : DataW.trod enc Tryd.prog W base sp held n 3 [c3] = some y3 := by simpa [cN] using hg 3 _ rfl
    have g4 : DataW.trod enc Tryd.prog W base sp held n 3 [c4] = some y4 := by simpa [cN] using hg 4 _ rfl
    have g5 : DataW.trod enc Tryd.prog W base sp held n 2 [c5] = some y5 := by simpa [cL] using hg 5 _ rfl
    obtain ⟨n0, e0, -, k0⟩ := DataW.trod_int Tryd.underlying3 g0
    obtain ⟨n1, e1, -⟩ := DataW.trod_bool Tryd.underlying4 g1
    obtain ⟨n2, e2, -, k2⟩ := DataW.trod_int Tryd.underlying3 g2
    obtain ⟨n3, e3, -, k3⟩ := DataW.trod_int Tryd.underlying3 g3
    obtain ⟨n4, e4, -, k4⟩ := DataW.trod_int Tryd.underlying3 g4
    obtain ⟨n5, e5, -, k5⟩ := DataW.trod_int Tryd.underlying2 g5
    simp only [List.cons.injEq, and_true] at e0 e1 e2 e3 e4 e5
    subst e0 e1 e2 e3 e4 e5
    exact ⟨⟨n0, n1, n2, n3, n4, n5⟩, rfl, k0, k2, k3, k4, k5⟩

set_option maxRecDepth 100000 in
/-- A statement's cells. -/
theorem open_stm {fuel : Nat} {cs : List Value} {x : DataW H × List MemPlace} (h : DataW.trod enc Tryd.prog W base sp held fuel 30 cs = some x) :
    ∃ (lv : Value) (s : Stm), cs = smL lv s ∧ L8.StAt W lv s.labs ∧ SmFit s := by
  obtain ⟨xs, n, _, _, hcl, hlen, hg⟩ := DataW.trod_struct Tryd.underlying30 h
  rw [cS] at hcl
  match cs, hcl, xs, hlen with
  | [c0, c1, c2, c3, c4, c5, c6, c7, c8], _, [y0, y1, y2, y3], _ =>
    have g0 : DataW.trod enc Tryd.prog W base sp held n 28 [c0] = some y0 := by simpa [cTs] using hg 0 _ rfl
    have g1 : DataW.trod enc Tryd.prog W base sp held n 27 [c1, c2, c3, c4, c5, c6] = some y1 := by simpa [cI] using hg 1 _ rfl
    have g2 : DataW.trod enc Tryd.prog W base sp held n 9 [c7] = some y2 := by simpa [cT] using hg 2 _ rfl
    have g3 : DataW.trod enc Tryd.prog W base sp held n 9 [c8] = some y3 := by simpa [cT] using hg 3 _ rfl
    obtain ⟨lv, l, e0, hl, hz⟩ := open_texts g0
    obtain ⟨d, e1, k0, k1, k2, k3, k4⟩ := open_insC g1
    obtain ⟨s2, e2, -, z2⟩ := DataW.trod_string Tryd.underlying9 g2
    obtain ⟨s3, e3, -, z3⟩ := DataW.trod_string Tryd.underlying9 g3
    simp only [List.cons.injEq, and_true] at e0 e1 e2 e3
    obtain ⟨rfl, rfl, rfl, rfl, rfl, rfl⟩ := e1
    subst e0 e2 e3
    exact ⟨c0, ⟨l, d, s2, s3⟩, rfl, hl, hz, z2, z3, k0, k1, k2, k3, k4⟩

theorem open_defs {fuel : Nat} {cs : List Value} {x : DataW H × List MemPlace} (h : DataW.trod enc Tryd.prog W base sp held fuel 37 cs = some x) :
    ∃ v l, cs = [v] ∧ DfAt W v l ∧ ∀ d ∈ l, DfFit d := by
  rcases open_slice Tryd.underlying37 h with ⟨hcs, -⟩ | ⟨a, len, cap, m, n, D, Pl, hcs, -, hl, -, hmm, -, hi⟩
  · exact ⟨_, [], hcs, .inr ⟨rfl, none, 0, rfl⟩, by simp⟩
  · rw [cD] at hi
    have each : ∀ i, i < len → ∃ d : L9.Df, DfFit d ∧ ∀ k u, (dfL d)[k]? = some u → W.cell? (a.add (i * 4 + k)) = some u := by
      intro i hil
      obtain ⟨cs', hc, ht⟩ := hi i (by split at hmm <;> omega)
      obtain ⟨d, hd, hfit⟩ := open_def ht
      obtain ⟨_, hcl, hat⟩ := World.cells?_some hc
      refine ⟨d, hfit, fun k u hu => ?_⟩
      have hk : k < 4 := by
        have := (List.getElem?_eq_some_iff.1 hu).1
        simpa using this
      rw [← Go.Deep.add_add, hat k hk, hd]; exact hu
    obtain ⟨l, hll, hp⟩ := list_of len each
    subst hll
    refine ⟨_, l, hcs, ?_, fun d hd => ?_⟩
    · by_cases h0 : l = []
      · exact .inr ⟨h0, some a, cap, by rw [h0]; rfl⟩
      · have hpos : 0 < l.length := List.length_pos_iff.2 h0
        have hc0 := (hp 0 hpos).2 0 _ rfl
        obtain ⟨b, off, spot⟩ := a
        have hspot : spot = none := by simpa [Addr.add] using World.cell?_spot hc0
        subst hspot
        have hb := World.block_lt_of_cell? W _ hc0
        refine .inl ⟨b, off, cap, rfl, hb, fun j hj i u hu => ?_⟩
        rw [Nat.add_assoc, ← add_plain]
        exact (hp j hj).2 i u hu
    · obtain ⟨i, hi, rfl⟩ := List.mem_iff_getElem.1 hd
      exact (hp i hi).1

theorem open_stms {fuel : Nat} {cs : List Value} {x : DataW H × List MemPlace} (h : DataW.trod enc Tryd.prog W base sp held fuel 36 cs = some x) :
    ∃ v l, cs = [v] ∧ SmAt W v l ∧ ∀ d ∈ l, SmFit d := by
  rcases open_slice Tryd.underlying36 h with ⟨hcs, -⟩ | ⟨a, len, cap, m, n, D, Pl, hcs, -, hl, -, hmm, -, hi⟩
  · exact ⟨_, [], hcs, .inr ⟨rfl, none, 0, rfl⟩, by simp⟩
  · rw [cS] at hi
    have each : ∀ i, i < len → ∃ s : Stm, SmFit s ∧ ∃ lv, L8.StAt W lv s.labs ∧ ∀ k u, (smL lv s)[k]? = some u → W.cell? (a.add (i * 9 + k)) = some u := by
      intro i hil
      obtain ⟨cs', hc, ht⟩ := hi i (by split at hmm <;> omega)
      obtain ⟨lv, d, hd, hst, hfit⟩ := open_stm ht
      obtain ⟨_, hcl, hat⟩ := World.cells?_some hc
      refine ⟨d, hfit, lv, hst, fun k u hu => ?_⟩
      have hk : k < 9 := by
        have := (List.getElem?_eq_some_iff.1 hu).1
        simpa using this
      rw [← Go.Deep.add_add, hat k hk, hd]; exact hu
    obtain ⟨l, hll, hp⟩ := list_of len each
    subst hll
    refine ⟨_, l, hcs, ?_, fun d hd => ?_⟩
    · by_cases h0 : l = []
      · exact .inr ⟨h0, some a, cap, by rw [h0]; rfl⟩
      · have hpos : 0 < l.length := List.length_pos_iff.2 h0
        obtain ⟨lv0, _, hq0⟩ := (hp 0 hpos).2
        have hc0 := hq0 0 _ rfl
        obtain ⟨b, off, spot⟩ := a
        have hspot : spot = none := by simpa [Addr.add] using World.cell?_spot hc0
        subst hspot
        have hb := World.block_lt_of_cell? W _ hc0
        refine .inl ⟨b, off, cap, rfl, hb, fun j hj => ?_⟩
        obtain ⟨lv, hst, hq⟩ := (hp j hj).2
        refine ⟨lv, hst, fun i u hu => ?_⟩
        rw [Nat.add_assoc, ← add_plain]
        exact hq i u hu
    · obtain ⟨i, hi, rfl⟩ := List.mem_iff_getElem.1 hd
      exact (hp i hi).1

set_option maxRecDepth 100000 in
/-- A program by value. -/
theorem open_pg {r : Reach} {b0 : Nat} {v : Value} {d : DataW H} {ps : List MemPlace} (hval : Value.okWide Tryd.prog W r b0 39 v) (hd : DataW.Trod enc Tryd.prog W base sp held 39 v d ps) :
    ∃ (vm vs : Value) (p : Pg), v = .agg #[vm, vs] ∧ PgAt W vm vs p ∧ PgFit p := by
  obtain ⟨cs, rfl, hsz⟩ := okWide_struct Tryd.underlying39 hval
  rw [cP] at hsz
  obtain ⟨l⟩ := cs
  obtain ⟨fuel, hf⟩ := hd
  obtain ⟨xs, n, _, hx, _, hlen, hg⟩ := DataW.trod_struct Tryd.underlying39 hf
  match l, hsz, xs, hlen with
  | [c0, c1], _, [y0, y1], _ =>
    have g0 : DataW.trod enc Tryd.prog W base sp held n 37 [c0] = some y0 := by simpa [Value.cells, cDs] using hg 0 _ rfl
    have g1 : DataW.trod enc Tryd.prog W base sp held n 36 [c1] = some y1 := by simpa [Value.cells, cSs] using hg 1 _ rfl
    obtain ⟨v0, l0, e0, h0, f0⟩ := open_defs g0
    obtain ⟨v1, l1, e1, h1, f1⟩ := open_stms g1
    simp only [List.cons.injEq, and_true] at e0 e1
    subst e0 e1
    exact ⟨c0, c1, ⟨l0, l1⟩, rfl, ⟨h0, h1⟩, f0, f1⟩
end
end Go.Proofs.YtbneaihpnfkcdaaDoor.L10
