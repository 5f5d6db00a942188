/- A program that is handed over by value reads as some plain program. No condition. -/
/- A program that is handed over by value reads as some plain program, whose labels take no more memory than a reading may. No condition. -/
/- What slices.Equal returns at lists of declarations, texts and numbers, and what the program's Same returns: whether the two are equal. Condition: memory holds them, and they are not too long. -/
/- What the reference's Few returns: whether a program is small. Condition: memory holds the program, whose labels take no more memory than a reading may. -/
/- What the reference's Same returns: whether two programs are the same. Condition: memory holds them, and they are not too long. -/
import Derived.Test.YtbneaihpnfkcdaaGreatDoorM13
import Derived.Deep.Slices
import Derived.ProofKit
import Derived.OpenShut
import Derived.SliceStrings
import Derived.Deep.QuietTactic
import Derived.BigQuiet

section
namespace Go.Proofs.YtbneaihpnfkcdaaGreatDoor.L10
open Go.ChangeShapes Go.WideShapes Go.ChangeAt Go.RowKit Go.Deep

structure DfFit (d : L9.Df) : Prop where
  nm : d.nm.size ≤ maxLen
  key : (Lit.int .i64 d.key).wf = true
  val : (Lit.int .i64 d.val).wf = true
  ent : (Lit.int .i64 d.ent).wf = true
structure SmFit (s : Stm) : Prop where
  lb : ∀ t ∈ s.labs, t.size ≤ maxLen
  tg : s.tg.size ≤ maxLen
  mp : s.mp.size ≤ maxLen
  op : (Lit.int .i64 s.x.op).wf = true
  dst : (Lit.int .i64 s.x.dst).wf = true
  src : (Lit.int .i64 s.x.src).wf = true
  off : (Lit.int .i64 s.x.off).wf = true
  imm : (Lit.int .i64 s.x.imm).wf = true
structure PgFit (p : Pg) : Prop where
  maps : ∀ d ∈ p.maps, DfFit d
  stmts : ∀ s ∈ p.stmts, SmFit s

theorem list_of {α : Type} {P : Nat → α → Prop} : ∀ n : Nat, (∀ i, i < n → ∃ x, P i x) → ∃ l : List α, l.length = n ∧ ∀ i, (hi : i < l.length) → P i l[i]
  | 0, _ => ⟨[], rfl, fun i hi => absurd hi (by simp)⟩
  | n + 1, h => by
    obtain ⟨l, hl, hp⟩ := list_of n (fun i hi => h i (by omega))
    obtain ⟨x, hx⟩ := h n (by omega)
    refine ⟨l ++ [x], by simp [hl], fun i hi => ?_⟩
    by_cases hlt : i < l.length
    · rw [List.getElem_append_left hlt]; exact hp i hlt
    · have : i = n := by simp at hi; omega
      subst this
      rw [List.getElem_append_right (by omega)]
      simpa [hl] using hx

theorem cD : Tryz.prog.cellsOf 23 = 4 := by kernel_rfl
theorem cS : Tryz.prog.cellsOf 46 = 9 := by kernel_rfl
theorem cI : Tryz.prog.cellsOf 43 = 6 := by kernel_rfl
theorem cT : Tryz.prog.cellsOf 9 = 1 := by kernel_rfl
theorem cN : Tryz.prog.cellsOf 3 = 1 := by kernel_rfl
theorem cL : Tryz.prog.cellsOf 2 = 1 := by kernel_rfl
theorem cB : Tryz.prog.cellsOf 4 = 1 := by kernel_rfl
theorem cP : Tryz.prog.cellsOf 30 = 2 := by kernel_rfl
theorem cTs : Tryz.prog.cellsOf 44 = 1 := by kernel_rfl
theorem cDs : Tryz.prog.cellsOf 27 = 1 := by kernel_rfl
theorem cSs : Tryz.prog.cellsOf 28 = 1 := by kernel_rfl

def InAt (w : World) (v : Value) (l : List Int) : Prop :=
  (∃ b o cap, v = .slice (some ⟨b, o, none⟩) l.length cap ∧ b < w.heap.size ∧ ∀ j, (h : j < l.length) → w.cell? ⟨b, o + j, none⟩ = some (.int .i64 l[j])) ∨ (l = [] ∧ ∃ a cap, v = .slice a 0 cap)
theorem cells2p {w : World} {k : Nat} {a b : Value} {t : TypeId} (h : w.heap[k]? = some (.cells #[a, b] t)) : w.cell? ⟨k, 0, none⟩ = some a ∧ w.cell? ⟨k, 1, none⟩ = some b := by
  simp [World.cell?, h]
theorem InAt.below {w w' : World} {v : Value} {l : List Int} (h : InAt w v l) (hb : Below w.heap.size w w') : InAt w' v l := by
  rcases h with ⟨b, o, cap, rfl, hlt, hc⟩ | h
  · exact .inl ⟨b, o, cap, rfl, Nat.lt_of_lt_of_le hlt hb.size, fun j hj => (hb.cell (by exact hlt)).trans (hc j hj)⟩
  · exact .inr h
theorem in_form {w : World} {v : Value} {l : List Int} {n : Nat} (hn : l.length = n) (h : InAt w v l) : ∃ a c, v = .slice a n c ∧ (0 < n → ∃ b o, a = some ⟨b, o, none⟩ ∧ b < w.heap.size ∧ ∀ j, (h : j < l.length) → w.cell? ⟨b, o + j, none⟩ = some (.int .i64 l[j])) := by
  subst hn
  rcases h with ⟨b, o, cap, rfl, hb, hc⟩ | ⟨rfl, a, cap, rfl⟩
  · exact ⟨_, _, rfl, fun _ => ⟨b, o, rfl, hb, hc⟩⟩
  · exact ⟨a, cap, rfl, fun h => absurd h (by simp)⟩
section
variable {H : Type} {enc : TypeId × Value → H} {W : World} {base : Nat} {sp : Nat → Bool} {held : Bool}

set_option maxRecDepth 100000 in
/-- A declaration's cells. -/
theorem open_def {fuel : Nat} {cs : List Value} {x : DataW H × List MemPlace} (h : DataW.trod enc Tryz.prog W base sp held fuel 23 cs = some x) :
    ∃ d : L9.Df, cs = dfL d ∧ DfFit d := by
  obtain ⟨xs, n, _, _, hcl, hlen, hg⟩ := DataW.trod_struct Tryz.underlying23 h
  rw [cD] at hcl
  match cs, hcl, xs, hlen with
  | [c0, c1, c2, c3], _, [y0, y1, y2, y3], _ =>
    have g0 : DataW.trod enc Tryz.prog W base sp held n 9 [c0] = some y0 := by simpa [cT] using hg 0 _ rfl
    have g1 : DataW.trod enc Tryz.prog W base sp held n 3 [c1] = some y1 := by simpa [cN] using hg 1 _ rfl
    have g2 : DataW.trod enc Tryz.prog W base sp held n 3 [c2] = some y2 := by simpa [cN] using hg 2 _ rfl
    have g3 : DataW.trod enc Tryz.prog W base sp held n 3 [c3] = some y3 := by simpa [cN] using hg 3 _ rfl
    obtain ⟨s0, e0, -, k0⟩ := DataW.trod_string Tryz.underlying9 g0
    obtain ⟨n1, e1, -, k1⟩ := DataW.trod_int Tryz.underlying3 g1
    obtain ⟨n2, e2, -, k2⟩ := DataW.trod_int Tryz.underlying3 g2
    obtain ⟨n3, e3, -, k3⟩ := DataW.trod_int Tryz.underlying3 g3
    simp only [List.cons.injEq, and_true] at e0 e1 e2 e3
    subst e0 e1 e2 e3
    exact ⟨⟨s0, n1, n2, n3⟩, rfl, k0, k1, k2, k3⟩

set_option maxRecDepth 100000 in
/-- An instruction's cells. -/
theorem open_insC {fuel : Nat} {cs : List Value} {x : DataW H × List MemPlace} (h : DataW.trod enc Tryz.prog W base sp held fuel 43 cs = some x) :
    ∃ d : L9.Ins, cs = inL d ∧ (Lit.int .i64 d.op).wf = true ∧ (Lit.int .i64 d.dst).wf = true ∧ (Lit.int .i64 d.src).wf = true ∧ (Lit.int .i64 d.off).wf = true ∧ (Lit.int .i64 d.imm).wf = true := by
  obtain ⟨xs, n, _, _, hcl, hlen, hg⟩ := DataW.trod_struct Tryz.underlying43 h
  rw [cI] at hcl
  match cs, hcl, xs, hlen with
  | [c0, c1, c2, c3, c4, c5], _, [y0, y1, y2, y3, y4, y5], _ =>
    have g0 : DataW.trod enc Tryz.prog W base sp held n 3 [c0] = some y0 := by simpa [cN] using hg 0 _ rfl
    have g1 : DataW.trod enc Tryz.prog W base sp held n 4 [c1] = some y1 := by simpa [cB] using hg 1 _ rfl
    have g2 : DataW.trod enc Tryz.prog W base sp held n 3 [c2] = some y2 := by simpa [cN] using hg 2 _ rfl
    have g3 : DataW.trod enc Tryz.prog W base sp held n 3 [c3] = some y3 := by simpa [cN] using hg 3 _ rfl
    have g4 : DataW.trod enc Tryz.prog W base sp held n 3 [c4] = some y4 := by simpa [cN] using hg 4 _ rfl
    have g5 : DataW.trod enc Tryz.prog W base sp held n 2 [c5] = some y5 := by simpa [cL] using hg 5 _ rfl
    obtain ⟨n0, e0, -, k0⟩ := DataW.trod_int Tryz.underlying3 g0
    obtain ⟨n1, e1, -⟩ := DataW.trod_bool Tryz.underlying4 g1
    obtain ⟨n2, e2, -, k2⟩ := DataW.trod_int Tryz.underlying3 g2
    obtain ⟨n3, e3, -, k3⟩ := DataW.trod_int Tryz.underlying3 g3
    obtain ⟨n4, e4, -, k4⟩ := DataW.trod_int Tryz.underlying3 g4
    obtain ⟨n5, e5, -, k5⟩ := DataW.trod_int Tryz.underlying2 g5
    simp only [List.cons.injEq, and_true] at e0 e1 e2 e3 e4 e5
    subst e0 e1 e2 e3 e4 e5
    exact ⟨⟨n0, n1, n2, n3, n4, n5⟩, rfl, k0, k2, k3, k4, k5⟩

theorem open_defs {fuel : Nat} {cs : List Value} {x : DataW H × List MemPlace} (h : DataW.trod enc Tryz.prog W base sp held fuel 27 cs = some x) :
    ∃ v l, cs = [v] ∧ DfAt W v l ∧ ∀ d ∈ l, DfFit d := by
  rcases open_slice Tryz.underlying27 h with ⟨hcs, -⟩ | ⟨a, len, cap, m, n, D, Pl, hcs, -, hl, -, hmm, -, hi⟩
  · exact ⟨_, [], hcs, .inr ⟨rfl, none, 0, rfl⟩, by simp⟩
  · rw [cD] at hi
    have each : ∀ i, i < len → ∃ d : L9.Df, DfFit d ∧ ∀ k u, (dfL d)[k]? = some u → W.cell? (a.add (i * 4 + k)) = some u := by
      intro i hil
      obtain ⟨cs', hc, ht⟩ := hi i (by split at hmm <;> omega)
      obtain ⟨d, hd, hfit⟩ := open_def ht
      obtain ⟨_, hcl, hat⟩ := World.cells?_some hc
      refine ⟨d, hfit, fun k u hu => ?_⟩
      have hk : k < 4 := by
        have := (List.getElem?_eq_some_iff.1 hu).1
        simpa using this
      rw [← Go.Deep.add_add, hat k hk, hd]; exact hu
    obtain ⟨l, hll, hp⟩ := list_of len each
    subst hll
    refine ⟨_, l, hcs, ?_, fun d hd => ?_⟩
    · by_cases h0 : l = []
      · exact .inr ⟨h0, some a, cap, by rw [h0]; rfl⟩
      · have hpos : 0 < l.length := List.length_pos_iff.2 h0
        have hc0 := (hp 0 hpos).2 0 _ rfl
        obtain ⟨b, off, spot⟩ := a
        have hspot : spot = none := by simpa [Addr.add] using World.cell?_spot hc0
        subst hspot
        have hb := World.block_lt_of_cell? W _ hc0
        refine .inl ⟨b, off, cap, rfl, hb, fun j hj i u hu => ?_⟩
        rw [Nat.add_assoc, ← add_plain]
        exact (hp j hj).2 i u hu
    · obtain ⟨i, hi, rfl⟩ := List.mem_iff_getElem.1 hd
      exact (hp i hi).1

end
end Go.Proofs.YtbneaihpnfkcdaaGreatDoor.L10
end

section
namespace Go.Proofs.YtbneaihpnfkcdaaGreatDoor.L10
open Go.ChangeShapes Go.WideShapes Go.ChangeAt Go.RowKit Go.Deep

def Wt {H : Type} (t : TypeId) (d : DataW H) : Prop := ∀ n ∈ d.weights Tryz.prog t, n ≤ reachBytes
def TxRoom (l : List ByteArray) : Prop := l.length ≤ 8796093022208 ∧ ∀ t ∈ l, t.size ≤ 140737488351232
theorem mem_wAll {H : Type} {P : Program} {e : TypeId} {n : Nat} : ∀ (ds : List (DataW H)) (d : DataW H), d ∈ ds → n ∈ d.weights P e → n ∈ DataW.weightsAll P e ds
  | a :: r, d, h, hn => by
    rw [DataW.weightsAll, List.mem_append]
    rcases List.mem_cons.1 h with rfl | h
    · exact .inl hn
    · exact .inr (mem_wAll r d h hn)
theorem bT : Tryz.prog.bytesOf 9 = 16 := by kernel_rfl
section
variable {H : Type} {enc : TypeId × Value → H} {W : World} {base : Nat} {sp : Nat → Bool} {held : Bool}

theorem open_textsw {fuel : Nat} {cs : List Value} {x : DataW H × List MemPlace} (h : DataW.trod enc Tryz.prog W base sp held fuel 44 cs = some x) :
    ∃ v l, cs = [v] ∧ L8.StAt W v l ∧ (∀ t ∈ l, t.size ≤ maxLen) ∧ (Wt 44 x.1 → TxRoom l) := by
  rcases open_strings Tryz.underlying44 Tryz.underlying9 cT h with ⟨hcs, -⟩ | ⟨a, len, cap, ss, hcs, -, hl, -, hz, hx, hcell, hws⟩
  · exact ⟨_, [], hcs, .inr ⟨rfl, none, 0, rfl⟩, by simp, fun _ => ⟨by simp, by simp⟩⟩
  · have hsl : len ≤ ss.length := by rw [hz]; split <;> omega
    have hll : (ss.take len).length = len := by rw [List.length_take]; omega
    refine ⟨_, ss.take len, hcs, ?_, fun s hs => hws s (List.mem_of_mem_take hs), fun hw => ?_⟩
    · by_cases hl0 : len = 0
      · exact .inr ⟨List.eq_nil_of_length_eq_zero (by omega), some a, cap, by rw [hl0]⟩
      · obtain ⟨b, off, spot⟩ := a
        have hspot : spot = none := by simpa [Addr.add] using World.cell?_spot (hcell 0 (by omega))
        subst hspot
        have hb := World.block_lt_of_cell? W _ (hcell 0 (by omega))
        refine .inl ⟨b, off, cap, by rw [hll], hb, fun j hj => ?_⟩
        rw [hll] at hj
        have e : (ss.take len).getD j ByteArray.empty = ss.getD j ByteArray.empty := by simp [List.getD, hj]
        rw [e, ← add_plain]
        exact hcell j (by omega)
    · subst hx
      unfold Wt at hw
      simp only [DataW.weights, Tryz.underlying44, bT] at hw
      have hlen : ∀ l : List ByteArray, (strs (H := H) l).length = l.length := fun l => by simp [strs]
      refine ⟨?_, fun t ht => ?_⟩
      · have := hw _ (List.mem_cons_self ..)
        rw [hlen, hlen, hll] at this
        rw [hll]
        unfold reachBytes at this
        omega
      · have hm : (DataW.lit (.string t.data.toList) : DataW H) ∈ strs (ss.take len) := by
          unfold strs
          exact List.mem_map.2 ⟨t, ht, rfl⟩
        have := hw t.data.toList.length (List.mem_cons_of_mem _ (List.mem_append_left _ (mem_wAll _ _ hm (by simp [DataW.weights]))))
        rw [L8.size_list] at this
        exact this

set_option maxRecDepth 100000 in
theorem open_stmw {fuel : Nat} {cs : List Value} {x : DataW H × List MemPlace} (h : DataW.trod enc Tryz.prog W base sp held fuel 46 cs = some x) :
    ∃ (lv : Value) (s : Stm), cs = smL lv s ∧ L8.StAt W lv s.labs ∧ SmFit s ∧ (Wt 46 x.1 → TxRoom s.labs) := by
  obtain ⟨xs, n, _, hx, hcl, hlen, hg⟩ := DataW.trod_struct Tryz.underlying46 h
  rw [cS] at hcl
  match cs, hcl, xs, hlen with
  | [c0, c1, c2, c3, c4, c5, c6, c7, c8], _, [y0, y1, y2, y3], _ =>
    have g0 : DataW.trod enc Tryz.prog W base sp held n 44 [c0] = some y0 := by simpa [cTs] using hg 0 _ rfl
    have g1 : DataW.trod enc Tryz.prog W base sp held n 43 [c1, c2, c3, c4, c5, c6] = some y1 := by simpa [cI] using hg 1 _ rfl
    have g2 : DataW.trod enc Tryz.prog W base sp held n 9 [c7] = some y2 := by simpa [cT] using hg 2 _ rfl
    have g3 : DataW.trod enc Tryz.prog W base sp held n 9 [c8] = some y3 := by simpa [cT] using hg 3 _ rfl
    obtain ⟨lv, l, e0, hl, hz, hr⟩ := open_textsw g0
    obtain ⟨d, e1, k0, k1, k2, k3, k4⟩ := open_insC g1
    obtain ⟨s2, e2, -, z2⟩ := DataW.trod_string Tryz.underlying9 g2
    obtain ⟨s3, e3, -, z3⟩ := DataW.trod_string Tryz.underlying9 g3
    simp only [List.cons.injEq, and_true] at e0 e1 e2 e3
    obtain ⟨rfl, rfl, rfl, rfl, rfl, rfl⟩ := e1
    subst e0 e2 e3
    refine ⟨c0, ⟨l, d, s2, s3⟩, rfl, hl, ⟨hz, z2, z3, k0, k1, k2, k3, k4⟩, fun hw => hr fun n hn => hw n ?_⟩
    rw [hx]
    simp only [DataW.weights, Tryz.underlying46, List.map_cons, DataW.weightsEach]
    exact List.mem_append_left _ hn

theorem open_stmsw {fuel : Nat} {cs : List Value} {x : DataW H × List MemPlace} (h : DataW.trod enc Tryz.prog W base sp held fuel 28 cs = some x) :
    ∃ v l, cs = [v] ∧ SmAt W v l ∧ (∀ d ∈ l, SmFit d) ∧ (Wt 28 x.1 → ∀ d ∈ l, TxRoom d.labs) := by
  rcases open_slice Tryz.underlying28 h with ⟨hcs, -⟩ | ⟨a, len, cap, m, n, D, Pl, hcs, -, hl, -, hmm, hx, hi⟩
  · exact ⟨_, [], hcs, .inr ⟨rfl, none, 0, rfl⟩, by simp, by simp⟩
  · rw [cS] at hi
    have each : ∀ i, i < len → ∃ s : Stm, (SmFit s ∧ (Wt 46 (D i) → TxRoom s.labs)) ∧ ∃ lv, L8.StAt W lv s.labs ∧ ∀ k u, (smL lv s)[k]? = some u → W.cell? (a.add (i * 9 + k)) = some u := by
      intro i hil
      obtain ⟨cs', hc, ht⟩ := hi i (by split at hmm <;> omega)
      obtain ⟨lv, d, hd, hst, hfit, hrm⟩ := open_stmw ht
      obtain ⟨_, hcl, hat⟩ := World.cells?_some hc
      refine ⟨d, ⟨hfit, hrm⟩, lv, hst, fun k u hu => ?_⟩
      have hk : k < 9 := by
        have := (List.getElem?_eq_some_iff.1 hu).1
        simpa using this
      rw [← Go.Deep.add_add, hat k hk, hd]; exact hu
    obtain ⟨l, hll, hp⟩ := list_of len each
    subst hll
    refine ⟨_, l, hcs, ?_, fun d hd => ?_, fun hw d hd => ?_⟩
    · by_cases h0 : l = []
      · exact .inr ⟨h0, some a, cap, by rw [h0]; rfl⟩
      · have hpos : 0 < l.length := List.length_pos_iff.2 h0
        obtain ⟨lv0, _, hq0⟩ := (hp 0 hpos).2
        have hc0 := hq0 0 _ rfl
        obtain ⟨b, off, spot⟩ := a
        have hspot : spot = none := by simpa [Addr.add] using World.cell?_spot hc0
        subst hspot
        have hb := World.block_lt_of_cell? W _ hc0
        refine .inl ⟨b, off, cap, rfl, hb, fun j hj => ?_⟩
        obtain ⟨lv, hst, hq⟩ := (hp j hj).2
        refine ⟨lv, hst, fun i u hu => ?_⟩
        rw [Nat.add_assoc, ← add_plain]
        exact hq i u hu
    · obtain ⟨i, hi, rfl⟩ := List.mem_iff_getElem.1 hd
      exact (hp i hi).1.1
    · obtain ⟨i, hi, rfl⟩ := List.mem_iff_getElem.1 hd
      refine (hp i hi).1.2 fun n hn => hw n ?_
      rw [hx]
      simp only [DataW.weights, Tryz.underlying28]
      exact List.mem_cons_of_mem _ (List.mem_append_left _ (mem_wAll _ _ (List.mem_map.2 ⟨i, List.mem_range.2 hi, rfl⟩) hn))

set_option maxRecDepth 100000 in
/-- A program by value. -/
theorem open_pgw {r : Reach} {b0 : Nat} {v : Value} {d : DataW H} {ps : List MemPlace} (hval : Value.okWide Tryz.prog W r b0 30 v) (hd : DataW.Trod enc Tryz.prog W base sp held 30 v d ps) :
    ∃ (vm vs : Value) (p : Pg), v = .agg #[vm, vs] ∧ PgAt W vm vs p ∧ PgFit p ∧ (Wt 30 d → ∀ s ∈ p.stmts, TxRoom s.labs) := by
  obtain ⟨cs, rfl, hsz⟩ := okWide_struct Tryz.underlying30 hval
  rw [cP] at hsz
  obtain ⟨l⟩ := cs
  obtain ⟨fuel, hf⟩ := hd
  obtain ⟨xs, n, _, hx, _, hlen, hg⟩ := DataW.trod_struct Tryz.underlying30 hf
  match l, hsz, xs, hlen with
  | [c0, c1], _, [y0, y1], _ =>
    have g0 : DataW.trod enc Tryz.prog W base sp held n 27 [c0] = some y0 := by simpa [Value.cells, cDs] using hg 0 _ rfl
    have g1 : DataW.trod enc Tryz.prog W base sp held n 28 [c1] = some y1 := by simpa [Value.cells, cSs] using hg 1 _ rfl
    obtain ⟨v0, l0, e0, h0, f0⟩ := open_defs g0
    obtain ⟨v1, l1, e1, h1, f1, r1⟩ := open_stmsw g1
    simp only [List.cons.injEq, and_true] at e0 e1
    subst e0 e1
    refine ⟨c0, c1, ⟨l0, l1⟩, rfl, ⟨h0, h1⟩, ⟨f0, f1⟩, fun hw => r1 fun n hn => hw n ?_⟩
    have hx1 := congrArg Prod.fst hx
    simp only at hx1
    rw [hx1]
    simp only [DataW.weights, Tryz.underlying30, List.map_cons, DataW.weightsEach]
    exact List.mem_append_right _ (List.mem_append_left _ hn)
end
end Go.Proofs.YtbneaihpnfkcdaaGreatDoor.L10
end

section
namespace Go.Proofs.YtbneaihpnfkcdaaGreatDoor.L10
open Go.RowKit Go.Maps
attribute [local go_sem] Oper.semAt_some

theorem bx (P : Prop) : ∃ b : Bool, b = true ↔ P := by
  by_cases h : P
  · exact ⟨true, by simp [h]⟩
  · exact ⟨false, by simp [h]⟩
theorem tl_iff {a b : ByteArray} : a.toList = b.toList ↔ a = b :=
  ⟨fun h => Classical.byContradiction fun hn => by have := L2.txt_ne hn; rw [h] at this; simp at this, fun h => by rw [h]⟩
theorem tl_beq {a b : ByteArray} {x : Bool} (h : x = true ↔ a = b) : (a.toList == b.toList) = x := by
  by_cases e : a = b
  · rw [L2.txt_eq e, (h.2 e)]
  · rw [L2.txt_ne e]
    cases x
    · rfl
    · exact absurd (h.1 rfl) e
theorem nq_df (d e : L9.Df) (b : Bool) (h : b = true ↔ d = e) (w : World) : (binOp .neq 23 (.agg #[.string d.nm, .int .i64 d.key, .int .i64 d.val, .int .i64 d.ent]) (.agg #[.string e.nm, .int .i64 e.key, .int .i64 e.val, .int .i64 e.ent])).run Tryz.prog w = .ok (.bool (!b)) w := by
  have hp : Tryz.prog.stoodInHeld 23 = false := by kernel_rfl
  have a9 : ∀ w, (isAgg 9).run Tryz.prog w = .ok false w := fun w => by kernel_rfl
  have a3 : ∀ w, (isAgg 3).run Tryz.prog w = .ok false w := fun w => by kernel_rfl
  obtain ⟨x1, x2, x3, x4⟩ := d
  obtain ⟨y1, y2, y3, y4⟩ := e
  simp only [L9.Df.mk.injEq] at h ⊢
  simp [go_sem, hp, Tryz.underlying23, Tryz.underlying9, Tryz.underlying3, part, a9, a3]
  simp only [tl_iff]
  by_cases e1 : x1 = y1 <;> by_cases e2 : x2 = y2 <;> by_cases e3 : x3 = y3 <;> by_cases e4 : x4 = y4 <;> cases b <;> simp_all
theorem nq_ins (x y : L9.Ins) (b : Bool) (h : b = true ↔ x = y) (w : World) : (binOp .neq 43 (.agg #[.int .i64 x.op, .bool x.reg, .int .i64 x.dst, .int .i64 x.src, .int .i64 x.off, .int .i64 x.imm]) (.agg #[.int .i64 y.op, .bool y.reg, .int .i64 y.dst, .int .i64 y.src, .int .i64 y.off, .int .i64 y.imm])).run Tryz.prog w = .ok (.bool (!b)) w := by
  have hp : Tryz.prog.stoodInHeld 43 = false := by kernel_rfl
  have a4 : ∀ w, (isAgg 4).run Tryz.prog w = .ok false w := fun w => by kernel_rfl
  have a3 : ∀ w, (isAgg 3).run Tryz.prog w = .ok false w := fun w => by kernel_rfl
  have a2 : ∀ w, (isAgg 2).run Tryz.prog w = .ok false w := fun w => by kernel_rfl
  obtain ⟨x1, x2, x3, x4, x5, x6⟩ := x
  obtain ⟨y1, y2, y3, y4, y5, y6⟩ := y
  simp only [L9.Ins.mk.injEq] at h ⊢
  simp [go_sem, hp, Tryz.underlying43, Tryz.underlying4, Tryz.underlying3, Tryz.underlying2, part, a4, a3, a2]
  by_cases e1 : x1 = y1 <;> by_cases e2 : x2 = y2 <;> by_cases e3 : x3 = y3 <;> by_cases e4 : x4 = y4 <;> by_cases e5 : x5 = y5 <;> by_cases e6 : x6 = y6 <;> cases b <;> simp_all
theorem take_eq {α : Type} {l m : List α} {k : Nat} (h1 : k < l.length) (h2 : k < m.length) (h : l.take k = m.take k) (e : l[k] = m[k]) : l.take (k + 1) = m.take (k + 1) := by
  rw [List.take_add_one, List.take_add_one, h, List.getElem?_eq_getElem h1, List.getElem?_eq_getElem h2, e]
theorem take_all {α : Type} {l m : List α} {n : Nat} (h1 : l.length = n) (h2 : m.length = n) (h : l.take n = m.take n) : l = m := by
  rwa [List.take_of_length_le (by omega), List.take_of_length_le (by omega)] at h
theorem df_form4 {w : World} {v : Value} {l : List L9.Df} {n : Nat} (hn : l.length = n) (h : DfAt w v l) : ∃ a c, v = .slice a n c ∧ (0 < n → ∃ b o, a = some ⟨b, o, none⟩ ∧ b < w.heap.size ∧ ∀ j, (h : j < l.length) → w.cell? ⟨b, o + j * 4, none⟩ = some (.string l[j].nm) ∧ w.cell? ⟨b, o + j * 4 + 1, none⟩ = some (.int .i64 l[j].key) ∧ w.cell? ⟨b, o + j * 4 + 2, none⟩ = some (.int .i64 l[j].val) ∧ w.cell? ⟨b, o + j * 4 + 3, none⟩ = some (.int .i64 l[j].ent)) := by
  obtain ⟨a, c, rfl, hc⟩ := df_form hn h
  refine ⟨a, c, rfl, fun h0 => ?_⟩
  obtain ⟨b, o, rfl, hb, hc⟩ := hc h0
  exact ⟨b, o, rfl, hb, fun j hj => ⟨hc j hj 0 _ rfl, hc j hj 1 _ rfl, hc j hj 2 _ rfl, hc j hj 3 _ rfl⟩⟩

structure Sml (p : Pg) : Prop where
  maps : p.maps.length ≤ 100000
  stmts : p.stmts.length ≤ 100000
  labs : ∀ s ∈ p.stmts, s.labs.length ≤ 100000
end Go.Proofs.YtbneaihpnfkcdaaGreatDoor.L10
end

section
namespace Go.Proofs.YtbneaihpnfkcdaaGreatDoor.L10
open Go.RowKit
attribute [local go_sem] Oper.semAt_some

def lsum : List Stm → Nat
  | [] => 0
  | s :: r => s.labs.length + lsum r
theorem lsum_snoc (l : List Stm) (k : Nat) (h : k < l.length) : lsum (l.take (k + 1)) = lsum (l.take k) + l[k].labs.length := by
  have e : ∀ (a : List Stm) (s : Stm), lsum (a ++ [s]) = lsum a + s.labs.length := fun a s => by
    induction a with
    | nil => simp [lsum]
    | cons x r ih => simp only [List.cons_append, lsum, ih]; omega
  rw [List.take_add_one, List.getElem?_eq_getElem h, Option.toList, e]
theorem lsum_le (l : List Stm) (R : Nat) (h : ∀ s ∈ l, s.labs.length ≤ R) : ∀ k, lsum (l.take k) ≤ k * R := by
  intro k
  induction k with
  | zero => simp [lsum]
  | succ k ih =>
    by_cases hk : k < l.length
    · rw [lsum_snoc l k hk, Nat.add_mul]
      have := h l[k] (List.getElem_mem hk)
      omega
    · rw [List.take_of_length_le (by omega)] at ih ⊢
      rw [Nat.add_mul]; omega
theorem lsum_flat (l : List Stm) : (l.flatMap (fun s => s.labs)).length = lsum l := by
  induction l with
  | nil => rfl
  | cons s r ih => rw [List.flatMap_cons, List.length_append, ih, lsum]
theorem lsum_mem : ∀ (l : List Stm) (s : Stm), s ∈ l → s.labs.length ≤ lsum l
  | a :: r, s, h => by
    rw [lsum]
    rcases List.mem_cons.1 h with rfl | h
    · omega
    · have := lsum_mem r s h; omega
set_option maxHeartbeats 2000000 in
set_option maxRecDepth 100000 in
theorem few_at (vm vs : Value) (p : Pg) (w : World) (hp : PgAt w vm vs p) (hr : ∀ s ∈ p.stmts, TxRoom s.labs) (b1 b2 b3 : Bool) (h1 : decide (p.maps.length ≤ 300) = b1) (h2 : decide (p.stmts.length ≤ 60) = b2) (h3 : decide (lsum (p.stmts.take 61) ≤ 200) = b3) :
    Calls Tryz.prog 10 #[.agg #[vm, vs]] w fun e w' => e = .returned (.bool ((b1 && b2) && b3)) ∧ Below w.heap.size w w' := by
  obtain ⟨n1, hn1⟩ : ∃ n, p.maps.length = n := ⟨_, rfl⟩
  obtain ⟨n2, hn2⟩ : ∃ n, p.stmts.length = n := ⟨_, rfl⟩
  obtain ⟨a1, c1, rfl, -⟩ := df_form hn1 hp.1
  obtain ⟨a2, c2, rfl, hc⟩ := sm_form hn2 hp.2
  rw [hn1] at h1
  rw [hn2] at h2
  have hle := lsum_le p.stmts 8796093022208 (fun s hs => (hr s hs).1)
  have HC := Lib.hid hc
  have HN := Lib.hid hn2
  have HR := Lib.hid hr
  have HLE := Lib.hid hle
  have H3 := Lib.hid h3
  have hb0 := L8.bnew w (.cells #[.slice a1 n1 c1, .slice a2 n2 c2] 30)
  have HB := Lib.hid hb0
  have g1 : decide ((n1 : Int) ≤ 300) = b1 := by rw [← h1, decide_eq_decide]; omega
  have g2 : decide ((n2 : Int) ≤ 60) = b2 := by rw [← h2, decide_eq_decide]; omega
  have G1 := Lib.hid g1
  have G2 := Lib.hid g2
  clear hp hr hn1 hn2 hc hle h1 h2 h3 g1 g2 hb0
  go_enter Tryz.func10, Tryz.ntmps10
  go_wp2
  go_loop [3, 4] (fun n i => ∃ k : Nat, k ≤ n2 ∧ k ≤ 61 ∧ i = .int .i64 (k : Int) ∧ n = .int .i64 (lsum (p.stmts.take k) : Int)) (fun _ i => 61 - (intOf i).toNat)
  case atStart => exact ⟨0, Nat.zero_le _, by omega, rfl, rfl⟩
  case round =>
    obtain ⟨k, hk, hk2, rfl, rfl⟩ := hrel
    have hle := HLE.out k
    by_cases hlt : k < n2 ∧ k ≤ 60
    · obtain ⟨hlt, hl6⟩ := hlt
      have hkl : k < p.stmts.length := by rw [HN.out]; exact hlt
      obtain ⟨b, o, rfl, hbl, hc⟩ := HC.out (by omega)
      obtain ⟨lv, hst, hx⟩ := hc k hkl
      obtain ⟨ln, hln⟩ : ∃ ln, p.stmts[k].labs.length = ln := ⟨_, rfl⟩
      have hrm := (HR.out _ (List.getElem_mem hkl)).1
      rw [hln] at hrm
      obtain ⟨la, lc, rfl, -⟩ := st_form hln hst
      have x0 := hx 0 _ rfl
      rw [Nat.add_zero] at x0
      have hs := lsum_snoc p.stmts k hkl
      rw [hln] at hs
      have HS := Lib.hid hs
      obtain ⟨m, hm⟩ : ∃ m, lsum (p.stmts.take k) = m := ⟨_, rfl⟩
      rw [hm] at hle HS ⊢
      have hmb : m ≤ 60 * 8796093022208 := Nat.le_trans hle (Nat.mul_le_mul_right _ hl6)
      clear hx hc hst hln hs hm hle
      go_wp2
      go_round
      case rel => exact ⟨k + 1, by omega, by omega, by go_num, by rw [HS.out]; go_num⟩
      case measure => simp [intOf]; omega
    · have hk61 : p.stmts.take k = p.stmts.take 61 := by
        by_cases hlt2 : k < n2
        · have : k = 61 := by omega
          rw [this]
        · rw [List.take_of_length_le (by rw [HN.out]; omega), List.take_of_length_le (by rw [HN.out]; omega)]
      rw [hk61] at hle ⊢
      have g3 : decide ((lsum (p.stmts.take 61) : Int) ≤ 200) = b3 := by rw [← H3.out, decide_eq_decide]; omega
      obtain ⟨m, hm⟩ : ∃ m, lsum (p.stmts.take 61) = m := ⟨_, rfl⟩
      rw [hm] at g3 ⊢
      have g1 := G1.out
      have g2 := G2.out
      clear hk61 hm hle
      by_cases hlt2 : k < n2
      · have h6 : ¬ (k : Int) ≤ 60 := by omega
        clear hlt
        cases b1 <;> cases b2 <;> cases b3
        all_goals
          go_wp2
          go_ret
          exact ⟨rfl, HB.out⟩
      · clear hlt
        cases b1 <;> cases b2 <;> cases b3
        all_goals
          go_wp2
          go_ret
          exact ⟨rfl, HB.out⟩
theorem few_ex (vm vs : Value) (p : Pg) (w : World) (hp : PgAt w vm vs p) (hr : ∀ s ∈ p.stmts, TxRoom s.labs) :
    ∃ b : Bool, (b = true → p.maps.length ≤ 300 ∧ p.stmts.length ≤ 60 ∧ lsum p.stmts ≤ 200) ∧ ∀ W, Below w.heap.size w W → Calls Tryz.prog 10 #[.agg #[vm, vs]] W fun e w' => e = .returned (.bool b) ∧ Below W.heap.size W w' := by
  refine ⟨_, fun h => ?_, fun W hb => few_at vm vs p W (hp.below hb) hr _ _ _ rfl rfl rfl⟩
  simp only [Bool.and_eq_true, decide_eq_true_eq] at h
  obtain ⟨⟨h1, h2⟩, h3⟩ := h
  rw [List.take_of_length_le (by omega)] at h3
  exact ⟨h1, h2, h3⟩
theorem sml_few {p : Pg} (h : p.maps.length ≤ 300 ∧ p.stmts.length ≤ 60 ∧ lsum p.stmts ≤ 200) : Sml p :=
  ⟨by omega, by omega, fun s hs => by have := lsum_mem p.stmts s hs; omega⟩
end Go.Proofs.YtbneaihpnfkcdaaGreatDoor.L10
end

section
namespace Go.Proofs.YtbneaihpnfkcdaaGreatDoor.L10
open Go.RowKit
attribute [local go_sem] Oper.semAt_some

theorem rb_false {b : Bool} {P : Prop} (h : b = true ↔ P) (hn : ¬ P) : b = false := by
  cases b
  · rfl
  · exact absurd (h.1 rfl) hn
set_option maxHeartbeats 16000000 in
set_option maxRecDepth 100000 in
theorem rsame_at (vm vs vm' vs' : Value) (p q : Pg) (b : Bool) (w : World) (hp : PgAt w vm vs p) (hq : PgAt w vm' vs' q) (hs : Sml p) (hs' : Sml q) (hb : b = true ↔ p = q) :
    Calls Tryz.prog 14 #[.agg #[vm, vs], .agg #[vm', vs']] w fun e w' => e = .returned (.bool b) ∧ Below w.heap.size w w' := by
  obtain ⟨n1, hn1⟩ : ∃ n, p.maps.length = n := ⟨_, rfl⟩
  obtain ⟨n2, hn2⟩ : ∃ n, p.stmts.length = n := ⟨_, rfl⟩
  obtain ⟨n3, hn3⟩ : ∃ n, q.maps.length = n := ⟨_, rfl⟩
  obtain ⟨n4, hn4⟩ : ∃ n, q.stmts.length = n := ⟨_, rfl⟩
  obtain ⟨a1, c1, rfl, d1⟩ := df_form4 hn1 hp.1
  obtain ⟨a2, c2, rfl, d2⟩ := sm_form hn2 hp.2
  obtain ⟨a3, c3, rfl, d3⟩ := df_form4 hn3 hq.1
  obtain ⟨a4, c4, rfl, d4⟩ := sm_form hn4 hq.2
  have m1 := hs.maps
  have m2 := hs.stmts
  rw [hn1] at m1
  rw [hn2] at m2
  have hb0 : Below w.heap.size w ((w.alloc (.cells #[.slice a1 n1 c1, .slice a2 n2 c2] 30)).alloc (.cells #[.slice a3 n3 c3, .slice a4 n4 c4] 30)) := L2.bch (L8.bnew w _) (L8.bnew _ _)
  have k0 := L8.row_up (heap_alloc_last w (.cells #[.slice a1 n1 c1, .slice a2 n2 c2] 30)) (L8.bnew _ (.cells #[.slice a3 n3 c3, .slice a4 n4 c4] 30))
  have k1 : ((w.alloc (.cells #[.slice a1 n1 c1, .slice a2 n2 c2] 30)).alloc (.cells #[.slice a3 n3 c3, .slice a4 n4 c4] 30)).heap[w.heap.size + 1]? = some (.cells #[.slice a3 n3 c3, .slice a4 n4 c4] 30) := by have := heap_alloc_last (w.alloc (.cells #[.slice a1 n1 c1, .slice a2 n2 c2] 30)) (.cells #[.slice a3 n3 c3, .slice a4 n4 c4] 30); simpa using this
  have HB := Lib.hid hb0
  by_cases e1 : n1 = n3
  · by_cases e2 : n2 = n4
    · subst e1 e2
      have HBB := Lib.hid hb
      have HD1 := Lib.hid d1
      have HD2 := Lib.hid d2
      have HD3 := Lib.hid d3
      have HD4 := Lib.hid d4
      have HN1 := Lib.hid hn1
      have HN2 := Lib.hid hn2
      have HN3 := Lib.hid hn3
      have HN4 := Lib.hid hn4
      have HL := Lib.hid hs.labs
      have HL' := Lib.hid hs'.labs
      have K0 := Lib.hid k0
      have K1 := Lib.hid k1
      clear hb d1 d2 d3 d4 hn1 hn2 hn3 hn4 hs hs' hp hq k0 k1 hb0
      go_enter Tryz.func14, Tryz.ntmps14
      go_upto_region 4 with (fail)
      generalize ((w.alloc (.cells #[.slice a1 n1 c1, .slice a2 n2 c2] 30)).alloc (.cells #[.slice a3 n1 c3, .slice a4 n2 c4] 30)) = W0 at K0 K1 HB ⊢
      have HI := Lib.hid (Below.refl W0.heap.size W0)
      go_loopw [5] (fun i wr => ∃ k : Nat, k ≤ n1 ∧ i = .int .i64 (k : Int) ∧ Hid (Below W0.heap.size W0 wr) ∧ Hid (p.maps.take k = q.maps.take k)) (fun i _ => n1 - (intOf i).toNat)
      case atStart => exact ⟨0, Nat.zero_le _, rfl, HI, Lib.hid rfl⟩
      case round =>
        obtain ⟨k, hk, rfl, hB, hT⟩ := hrel
        obtain ⟨z0, z1⟩ := cells2p (L8.row_up K0.out hB.out)
        obtain ⟨u0, u1⟩ := cells2p (L8.row_up K1.out hB.out)
        by_cases hlt : k < n1
        · have hk1 : k < p.maps.length := by rw [HN1.out]; exact hlt
          have hk2 : k < q.maps.length := by rw [HN3.out]; exact hlt
          obtain ⟨b1, o1, rfl, hb1, hc1⟩ := HD1.out (by omega)
          obtain ⟨b2, o2, rfl, hb2, hc2⟩ := HD3.out (by omega)
          obtain ⟨x0, x1, x2, x3⟩ := hc1 k hk1
          obtain ⟨y0, y1, y2, y3⟩ := hc2 k hk2
          have hBw := L2.bch HB.out hB.out
          have hc := fun (b o : Nat) (v : Value) (hb : b < w.heap.size) (h : w.cell? ⟨b, o, none⟩ = some v) => (hBw.cell (p := ⟨b, o, none⟩) hb).trans h
          replace x0 := hc _ _ _ hb1 x0
          replace x1 := hc _ _ _ hb1 x1
          replace x2 := hc _ _ _ hb1 x2
          replace x3 := hc _ _ _ hb1 x3
          replace y0 := hc _ _ _ hb2 y0
          replace y1 := hc _ _ _ hb2 y1
          replace y2 := hc _ _ _ hb2 y2
          replace y3 := hc _ _ _ hb2 y3
          clear hc1 hc2 hc
          have hlt' : (k : Int) < (n1 : Int) := by omega
          obtain ⟨d, hd⟩ : ∃ d, p.maps[k] = d := ⟨_, rfl⟩
          obtain ⟨d', hd'⟩ : ∃ d, q.maps[k] = d := ⟨_, rfl⟩
          by_cases he : d = d'
          · have HT := Lib.hid (take_eq hk1 hk2 hT.out (by rw [hd, hd', he]))
            subst he
            rw [hd] at x0 x1 x2 x3
            rw [hd'] at y0 y1 y2 y3
            have hq := nq_df d d true (by simp)
            simp only [Bool.not_true] at hq
            have HBw := Lib.hid hBw
            clear hd hd' hT hBw
            go_wp2
            go_quiet (fail)
            go_wp2
            go_roundw
            case rel => exact ⟨k + 1, by omega, by go_num, Lib.hid (L8.bdN hB.out _), HT⟩
            case measure => simp [intOf]; omega
          · have HF : Hid (b = false) := Lib.hid (rb_false HBB.out (by
              rintro rfl
              exact he (hd.symm.trans hd')))
            rw [hd] at x0 x1 x2 x3
            rw [hd'] at y0 y1 y2 y3
            have hq := nq_df d d' false (by simp [he])
            simp only [Bool.not_false] at hq
            have HBw := Lib.hid hBw
            clear hd hd' hT hBw he
            go_wp2
            go_quiet (fail)
            go_wp2
            go_ret
            rw [HF.out]
            exact ⟨rfl, L8.bdN HBw.out _⟩
        · obtain rfl : k = n1 := by omega
          have HM : Hid (p.maps = q.maps) := Lib.hid (take_all HN1.out HN3.out hT.out)
          have HW1 := Lib.hid (L2.bch HB.out hB.out)
          have KW0 := Lib.hid (L8.row_up K0.out hB.out)
          have KW1 := Lib.hid (L8.row_up K1.out hB.out)
          obtain ⟨wo, rfl⟩ : ∃ wo, wo = wr := ⟨_, rfl⟩
          have HI2 := Lib.hid (Below.refl wo.heap.size wo)
          clear hT hB hlt HI
          go_upto_region 9 with (fail)
          go_loopw [6, 7, 8, 9] (fun i _ _ _ wx => ∃ k2 : Nat, k2 ≤ n2 ∧ i = .int .i64 (k2 : Int) ∧ Hid (Below wo.heap.size wo wx) ∧ Hid (p.stmts.take k2 = q.stmts.take k2)) (fun i _ _ _ _ => n2 - (intOf i).toNat)
          case atStart => exact ⟨0, Nat.zero_le _, rfl, HI2, Lib.hid rfl⟩
          case round =>
            obtain ⟨k2, hk2, rfl, hB, hT⟩ := hrel
            clear z0 z1 u0 u1
            obtain ⟨z0, z1⟩ := cells2p (L8.row_up KW0.out hB.out)
            obtain ⟨u0, u1⟩ := cells2p (L8.row_up KW1.out hB.out)
            by_cases hlt : k2 < n2
            · have hk1 : k2 < p.stmts.length := by rw [HN2.out]; exact hlt
              have hk2' : k2 < q.stmts.length := by rw [HN4.out]; exact hlt
              obtain ⟨b1, o1, rfl, hb1, hc1⟩ := HD2.out (by omega)
              obtain ⟨b2, o2, rfl, hb2, hc2⟩ := HD4.out (by omega)
              obtain ⟨lv, hst, hx⟩ := hc1 k2 hk1
              obtain ⟨lv', hst', hy⟩ := hc2 k2 hk2'
              have hz := HL.out _ (List.getElem_mem hk1)
              have hz' := HL'.out _ (List.getElem_mem hk2')
              have hBw := L2.bch HW1.out hB.out
              have hX := fun i u hu => (hBw.cell (by exact hb1)).trans (hx i u hu)
              have hY := fun i u hu => (hBw.cell (by exact hb2)).trans (hy i u hu)
              have x0 := hX 0 _ rfl
              have x1 := hX 1 _ rfl
              have x2 := hX 2 _ rfl
              have x3 := hX 3 _ rfl
              have x4 := hX 4 _ rfl
              have x5 := hX 5 _ rfl
              have x6 := hX 6 _ rfl
              have x7 := hX 7 _ rfl
              have x8 := hX 8 _ rfl
              have y0 := hY 0 _ rfl
              have y1 := hY 1 _ rfl
              have y2 := hY 2 _ rfl
              have y3 := hY 3 _ rfl
              have y4 := hY 4 _ rfl
              have y5 := hY 5 _ rfl
              have y6 := hY 6 _ rfl
              have y7 := hY 7 _ rfl
              have y8 := hY 8 _ rfl
              rw [Nat.add_zero] at x0 y0
              have hw1 := World.block_lt_of_cell? wr _ x0
              have hw2 := World.block_lt_of_cell? wr _ y0
              have hw3 := World.block_lt_of_cell? wr _ z1
              have hw4 := World.block_lt_of_cell? wr _ u1
              simp only at hw1 hw2 hw3 hw4
              have HT := Lib.hid (fun he => take_eq hk1 hk2' hT.out he)
              have HNE := Lib.hid (fun (he : ¬ p.stmts[k2] = q.stmts[k2]) => rb_false HBB.out (by rintro rfl; exact he rfl))
              obtain ⟨s, hs⟩ : ∃ s, p.stmts[k2] = s := ⟨_, rfl⟩
              obtain ⟨t, ht⟩ : ∃ t, q.stmts[k2] = t := ⟨_, rfl⟩
              rw [hs] at x1 x2 x3 x4 x5 x6 x7 x8 hst hz
              rw [ht] at y1 y2 y3 y4 y5 y6 y7 y8 hst' hz'
              rw [hs, ht] at HT HNE
              obtain ⟨ln, hln⟩ : ∃ ln, s.labs.length = ln := ⟨_, rfl⟩
              obtain ⟨ln', hln'⟩ : ∃ ln, t.labs.length = ln := ⟨_, rfl⟩
              obtain ⟨la, lc, rfl, hla⟩ := st_form hln hst
              obtain ⟨la', lc', rfl, hla'⟩ := st_form hln' hst'
              rw [hln] at hz
              rw [hln'] at hz'
              obtain ⟨e1, he1⟩ := bx (s.x = t.x)
              obtain ⟨e2, he2⟩ := bx (s.tg = t.tg)
              obtain ⟨e3, he3⟩ := bx (s.mp = t.mp)
              obtain ⟨e4, he4⟩ := bx (ln = ln')
              have hq := nq_ins s.x t.x e1 he1
              have t2 := tl_beq he2
              have t3 := tl_beq he3
              have t4 : ((ln : Int) == (ln' : Int)) = e4 := by
                rw [Bool.eq_iff_iff, he4]; simp; omega
              have t5 : ((ln : Int) != (ln' : Int)) = !e4 := by rw [bne, t4]
              have HE := Lib.hid (And.intro he1 (And.intro he2 (And.intro he3 (And.intro he4 (And.intro hln hln')))))
              have hw2b : Below w.heap.size w ((wr.alloc (.cells #[(.slice la ln lc), .int .i64 s.x.op, .bool s.x.reg, .int .i64 s.x.dst, .int .i64 s.x.src, .int .i64 s.x.off, .int .i64 s.x.imm, .string s.tg, .string s.mp] 46)).alloc (.cells #[(.slice la' ln' lc'), .int .i64 t.x.op, .bool t.x.reg, .int .i64 t.x.dst, .int .i64 t.x.src, .int .i64 t.x.off, .int .i64 t.x.imm, .string t.tg, .string t.mp] 46)) := (hBw.trans ((L8.bnew wr _).mono hBw.size)).trans ((L8.bnew _ _).mono (by have := hBw.size; simp; omega))
              have HW2 := Lib.hid hw2b
              have HWO : Hid (Below wo.heap.size wo ((wr.alloc (.cells #[(.slice la ln lc), .int .i64 s.x.op, .bool s.x.reg, .int .i64 s.x.dst, .int .i64 s.x.src, .int .i64 s.x.off, .int .i64 s.x.imm, .string s.tg, .string s.mp] 46)).alloc (.cells #[(.slice la' ln' lc'), .int .i64 t.x.op, .bool t.x.reg, .int .i64 t.x.dst, .int .i64 t.x.src, .int .i64 t.x.off, .int .i64 t.x.imm, .string t.tg, .string t.mp] 46))) := Lib.hid ((hB.out.trans ((L8.bnew wr _).mono hB.out.size)).trans ((L8.bnew _ _).mono (by have := hB.out.size; simp; omega)))
              have R7 : Hid (((wr.alloc (.cells #[(.slice la ln lc), .int .i64 s.x.op, .bool s.x.reg, .int .i64 s.x.dst, .int .i64 s.x.src, .int .i64 s.x.off, .int .i64 s.x.imm, .string s.tg, .string s.mp] 46)).alloc (.cells #[(.slice la' ln' lc'), .int .i64 t.x.op, .bool t.x.reg, .int .i64 t.x.dst, .int .i64 t.x.src, .int .i64 t.x.off, .int .i64 t.x.imm, .string t.tg, .string t.mp] 46)).heap[wr.heap.size]? = some (.cells #[(.slice la ln lc), .int .i64 s.x.op, .bool s.x.reg, .int .i64 s.x.dst, .int .i64 s.x.src, .int .i64 s.x.off, .int .i64 s.x.imm, .string s.tg, .string s.mp] 46)) := Lib.hid (L8.row_up (heap_alloc_last wr _) (L8.bnew _ _))
              have R8 : Hid (((wr.alloc (.cells #[(.slice la ln lc), .int .i64 s.x.op, .bool s.x.reg, .int .i64 s.x.dst, .int .i64 s.x.src, .int .i64 s.x.off, .int .i64 s.x.imm, .string s.tg, .string s.mp] 46)).alloc (.cells #[(.slice la' ln' lc'), .int .i64 t.x.op, .bool t.x.reg, .int .i64 t.x.dst, .int .i64 t.x.src, .int .i64 t.x.off, .int .i64 t.x.imm, .string t.tg, .string t.mp] 46)).heap[wr.heap.size + 1]? = some (.cells #[(.slice la' ln' lc'), .int .i64 t.x.op, .bool t.x.reg, .int .i64 t.x.dst, .int .i64 t.x.src, .int .i64 t.x.off, .int .i64 t.x.imm, .string t.tg, .string t.mp] 46)) := Lib.hid (by have := heap_alloc_last (wr.alloc (.cells #[(.slice la ln lc), .int .i64 s.x.op, .bool s.x.reg, .int .i64 s.x.dst, .int .i64 s.x.src, .int .i64 s.x.off, .int .i64 s.x.imm, .string s.tg, .string s.mp] 46)) (.cells #[(.slice la' ln' lc'), .int .i64 t.x.op, .bool t.x.reg, .int .i64 t.x.dst, .int .i64 t.x.src, .int .i64 t.x.off, .int .i64 t.x.imm, .string t.tg, .string t.mp] 46); simpa using this)
              have HLA := Lib.hid hla
              have HLA' := Lib.hid hla'
              clear hla hla' hln hln' hs ht hst hst' hx hy hX hY hc1 hc2 he1 he2 he3 he4 hw2b hT hBw
              by_cases hall : e1 = true ∧ e2 = true ∧ e3 = true ∧ e4 = true
              · obtain ⟨rfl, rfl, rfl, rfl⟩ := hall
                simp only [Bool.not_true] at hq t5
                obtain rfl : ln = ln' := HE.out.2.2.2.1.1 rfl
                have HE2 : Hid ((s.x = t.x ∧ s.tg = t.tg ∧ s.mp = t.mp) ∧ s.labs.length = ln ∧ t.labs.length = ln) := Lib.hid (by
                  obtain ⟨h1, h2, h3, h4, h5, h6⟩ := HE.out
                  exact ⟨⟨h1.1 rfl, h2.1 rfl, h3.1 rfl⟩, h5, h6⟩)
                go_upto_region 16 with (fail)
                clear HE hq t2 t3 t4 t5 x0 x1 x2 x3 x4 x5 x6 x7 x8 y0 y1 y2 y3 y4 y5 y6 y7 y8 z0 z1 u0 u1 hw1 hw2 hw3 hw4
                generalize ((wr.alloc (.cells #[(.slice la ln lc), .int .i64 s.x.op, .bool s.x.reg, .int .i64 s.x.dst, .int .i64 s.x.src, .int .i64 s.x.off, .int .i64 s.x.imm, .string s.tg, .string s.mp] 46)).alloc (.cells #[(.slice la' ln lc'), .int .i64 t.x.op, .bool t.x.reg, .int .i64 t.x.dst, .int .i64 t.x.src, .int .i64 t.x.off, .int .i64 t.x.imm, .string t.tg, .string t.mp] 46)) = w2 at R7 R8 HW2 HWO ⊢
                generalize wr.heap.size = k7 at R7 R8 ⊢
                have HI3 := Lib.hid (Below.refl w2.heap.size w2)
                clear hB
                go_loopw [9] (fun i wx => ∃ j : Nat, j ≤ ln ∧ i = .int .i64 (j : Int) ∧ Hid (Below w2.heap.size w2 wx) ∧ Hid (s.labs.take j = t.labs.take j)) (fun i _ => ln - (intOf i).toNat)
                case atStart => exact ⟨0, Nat.zero_le _, rfl, HI3, Lib.hid rfl⟩
                case round =>
                  obtain ⟨j, hj, rfl, hB3, hT3⟩ := hrel
                  clear HI3
                  obtain ⟨v0, -⟩ := cells9 (L8.row_up R7.out hB3.out)
                  obtain ⟨q0, -⟩ := cells9 (L8.row_up R8.out hB3.out)
                  by_cases hjl : j < ln
                  · have hj1 : j < s.labs.length := by rw [HE2.out.2.1]; exact hjl
                    have hj2 : j < t.labs.length := by rw [HE2.out.2.2]; exact hjl
                    obtain ⟨p1, r1, rfl, hp1, hr1⟩ := HLA.out (by omega)
                    obtain ⟨p2, r2, rfl, hp2, hr2⟩ := HLA'.out (by omega)
                    have hBx := L2.bch HW2.out hB3.out
                    have g1 := (hBx.cell (p := ⟨p1, r1 + j, none⟩) hp1).trans (hr1 j hj1)
                    have g2 := (hBx.cell (p := ⟨p2, r2 + j, none⟩) hp2).trans (hr2 j hj2)
                    have hjI : (j : Int) < (ln : Int) := by omega
                    have HBx := Lib.hid hBx
                    obtain ⟨d, hd⟩ : ∃ d, s.labs[j] = d := ⟨_, rfl⟩
                    obtain ⟨d', hd'⟩ : ∃ d, t.labs[j] = d := ⟨_, rfl⟩
                    rw [hd] at g1
                    rw [hd'] at g2
                    clear hr1 hr2 hBx
                    by_cases he : d = d'
                    · have HT4 := Lib.hid (take_eq hj1 hj2 hT3.out (by rw [hd, hd', he]))
                      subst he
                      have ht : (d.toList == d.toList) = true := by simp
                      clear hd hd' hT3
                      go_wp2
                      go_quiet (fail)
                      go_wp2
                      go_roundw
                      case rel => exact ⟨j + 1, by omega, by go_num, Lib.hid (L8.bdN hB3.out _), HT4⟩
                      case measure => simp [intOf]; omega
                    · have HF : Hid (b = false) := Lib.hid (HNE.out (by
                        rintro rfl
                        exact he (hd.symm.trans hd')))
                      have ht : (d.toList == d'.toList) = false := L2.txt_ne he
                      clear hd hd' hT3 he
                      go_wp2
                      go_quiet (fail)
                      go_wp2
                      go_ret
                      rw [HF.out]
                      exact ⟨rfl, L8.bdN HBx.out _⟩
                  · obtain rfl : j = ln := by omega
                    have HT4 : Hid (p.stmts.take (k2 + 1) = q.stmts.take (k2 + 1)) := Lib.hid (HT.out (by
                      obtain ⟨sl, sx, sg, sm⟩ := s
                      obtain ⟨tl, tx, tg, tm⟩ := t
                      obtain ⟨⟨h1, h2, h3⟩, h4, h5⟩ := HE2.out
                      have h6 : sl = tl := take_all h4 h5 hT3.out
                      simp only at h1 h2 h3
                      rw [h1, h2, h3, h6]))
                    clear hT3
                    go_wp2
                    go_roundw
                    case rel => exact ⟨k2 + 1, by omega, by go_num, Lib.hid (L2.bch HWO.out hB3.out), HT4⟩
                    case measure => simp [intOf]; omega
              · have HF : Hid (b = false) := Lib.hid (HNE.out (by
                  rintro rfl
                  obtain ⟨h1, h2, h3, h4, h5, h6⟩ := HE.out
                  exact hall ⟨h1.2 rfl, h2.2 rfl, h3.2 rfl, h4.2 (h5.symm.trans h6)⟩))
                cases e1 <;> cases e2 <;> cases e3 <;> cases e4
                all_goals first | exact absurd ⟨rfl, rfl, rfl, rfl⟩ hall | skip
                all_goals
                  clear hall
                  simp only [Bool.not_true, Bool.not_false] at hq t5
                  go_wp2
                  go_ret
                  rw [HF.out]
                  exact ⟨rfl, HW2.out⟩
            · obtain rfl : k2 = n2 := by omega
              have HF : Hid (b = true) := Lib.hid (HBB.out.2 (by
                obtain ⟨pm, ps⟩ := p
                obtain ⟨qm, qs⟩ := q
                have h1 : pm = qm := HM.out
                have h2 : ps = qs := take_all HN2.out HN4.out hT.out
                rw [h1, h2]))
              have HW2 := Lib.hid (L2.bch HW1.out hB.out)
              clear hT
              go_wp2
              go_ret
              rw [HF.out]
              exact ⟨rfl, HW2.out⟩
    · subst e1
      have hbf : b = false := rb_false hb (by rintro rfl; exact e2 (hn2.symm.trans hn4))
      subst hbf
      have t1 : ((n2 : Int) == (n4 : Int)) = false := by simpa using (show ¬ (n2 : Int) = (n4 : Int) by omega)
      have t2 : ((n2 : Int) != (n4 : Int)) = true := by simpa using (show ¬ (n2 : Int) = (n4 : Int) by omega)
      clear hb d1 d2 d3 d4 hn1 hn2 hn3 hn4 hs hs' hp hq k0 k1 hb0
      go_enter Tryz.func14, Tryz.ntmps14
      go_wp2
      go_ret
      exact ⟨rfl, HB.out⟩
  · have hbf : b = false := rb_false hb (by rintro rfl; exact e1 (hn1.symm.trans hn3))
    subst hbf
    have t1 : ((n1 : Int) == (n3 : Int)) = false := by simpa using (show ¬ (n1 : Int) = (n3 : Int) by omega)
    have t2 : ((n1 : Int) != (n3 : Int)) = true := by simpa using (show ¬ (n1 : Int) = (n3 : Int) by omega)
    clear hb d1 d2 d3 d4 hn1 hn2 hn3 hn4 hs hs' hp hq k0 k1 hb0
    go_enter Tryz.func14, Tryz.ntmps14
    go_wp2
    go_ret
    exact ⟨rfl, HB.out⟩
end Go.Proofs.YtbneaihpnfkcdaaGreatDoor.L10
end
