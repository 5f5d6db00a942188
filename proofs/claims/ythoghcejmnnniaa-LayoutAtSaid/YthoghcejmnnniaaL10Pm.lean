/- A program in memory and plain, and no more of layers 8 to 10: instructions, declarations, statements, how a program that is handed over reads, what the reference's Few and Map return. No condition. -/
import Derived.Test.YthoghcejmnnniaaL4Small
import Derived.OwnWalk
import Derived.Deep.DeepCutAuto
import Derived.Deep.Slices
import Derived.ProofKit
import Derived.OpenShut
import Derived.SliceStrings
import Derived.Deep.QuietTactic
import Derived.BigQuiet
namespace Go.Proofs.Ythoghcejmnnniaa.L2
open Go.RowKit
theorem bch {w a b : World} (h : Below w.heap.size w a) (k : Below a.heap.size a b) : Below w.heap.size w b := h.trans (k.mono h.size)
theorem txt_ne {a b : ByteArray} (h : ¬ a = b) : (a.toList == b.toList) = false := by
  rw [Lib.toList_data, Lib.toList_data, beq_eq_false_iff_ne]
  intro e
  apply h
  cases a; cases b
  simp only [ByteArray.mk.injEq]
  exact Array.toList_inj.1 e
theorem txt_eq {a b : ByteArray} (h : a = b) : (a.toList == b.toList) = true := by
  rw [h]; exact beq_self_eq_true _
end Go.Proofs.Ythoghcejmnnniaa.L2
namespace Go.Proofs.Ythoghcejmnnniaa.L8
open Go.RowKit L2
theorem size_list (s : ByteArray) : s.data.toList.length = s.size := by rw [Array.length_toList]; rfl
theorem bnew (w : World) (o : Obj) : Below w.heap.size w (w.alloc o) := (Below.refl _ _).alloc (Nat.le_refl _) _
theorem own_below {w w' : World} {base e : TypeId} {size : Nat} {v : Value} {n : Nat} {xs : List Value} (h : w.ownsRow base e size v n xs) (hb : Below w.heap.size w w') : w'.ownsRow base e size v n xs := by
  refine ⟨h.1, ?_⟩
  rcases h.2 with h | ⟨g, cap, cur, hv, hg, hh, r⟩
  · exact .inl h
  · exact .inr ⟨g, cap, cur, hv, hg, (hb.block _ (lt_of_block hh)).trans hh, r⟩
theorem own_base {w : World} {base : Nat} {e : TypeId} {size : Nat} {v : Value} {n : Nat} {xs : List Value} (h : w.ownsRow base e size v n xs) : ∀ k, v.ownBlock = some k → base ≤ k := by
  intro k hk
  rcases h.2 with ⟨rfl, _⟩ | ⟨g, cap, cur, rfl, hb, _⟩
  · cases hk
  · simp [Value.ownBlock] at hk
    omega
theorem add0 (g j : Nat) : (⟨g, 0, none⟩ : Addr).add j = ⟨g, j, none⟩ := by
  unfold Addr.add; split <;> simp_all
/-- v is a slice of texts. -/
def StAt (w : World) (v : Value) (l : List ByteArray) : Prop :=
  (∃ b o cap, v = .slice (some ⟨b, o, none⟩) l.length cap ∧ b < w.heap.size ∧ ∀ j, j < l.length → w.cell? ⟨b, o + j, none⟩ = some (.string (l.getD j ByteArray.empty))) ∨ (l = [] ∧ ∃ a cap, v = .slice a 0 cap)
theorem StAt.below {w w' : World} {v : Value} {l : List ByteArray} (h : StAt w v l) (hb : Below w.heap.size w w') : StAt w' v l := by
  rcases h with ⟨b, o, cap, rfl, hlt, hc⟩ | h
  · exact .inl ⟨b, o, cap, rfl, Nat.lt_of_lt_of_le hlt hb.size, fun j hj => (hb.cell (by exact hlt)).trans (hc j hj)⟩
  · exact .inr h
theorem bdN {B : Nat} {w w' : World} (h : Below B w w') (m : Nat) : Below B w (w'.drewN m) := ⟨h.1, h.2, h.3, h.4, h.5⟩
theorem cells2 {w : World} {k : Nat} {a b : Value} {t : TypeId} (h : w.heap[k]? = some (.cells #[a, b] t)) : w.cell? ⟨k, 0, none⟩ = some a ∧ w.cell? ⟨k, 1, none⟩ = some b := by
  simp [World.cell?, h]
theorem row_up {w w' : World} {k : Nat} {cs : Array Value} {t : TypeId} (h : w.heap[k]? = some (.cells cs t)) (hb : Below w.heap.size w w') : w'.heap[k]? = some (.cells cs t) := (hb.block _ (lt_of_block h)).trans h
end Go.Proofs.Ythoghcejmnnniaa.L8
namespace Go.Proofs.Ythoghcejmnnniaa.L9
/-- An instruction; a declaration; what a line has. -/
structure Ins where
  op : Int
  reg : Bool
  dst : Int
  src : Int
  off : Int
  imm : Int
structure Df where
  nm : ByteArray
  key : Int
  val : Int
  ent : Int
end Go.Proofs.Ythoghcejmnnniaa.L9
namespace Go.Proofs.Ythoghcejmnnniaa.L10
open Go.ChangeShapes Go.WideShapes Go.ChangeAt Go.RowKit Go.Deep
attribute [local go_sem] Oper.semAt_some
/-- A statement; a program. -/
structure Stm where
  labs : List ByteArray
  x : L9.Ins
  tg : ByteArray
  mp : ByteArray
structure Pg where
  maps : List L9.Df
  stmts : List Stm
abbrev dfL (d : L9.Df) : List Value := [.string d.nm, .int .i64 d.key, .int .i64 d.val, .int .i64 d.ent]
abbrev inL (x : L9.Ins) : List Value := [.int .i64 x.op, .bool x.reg, .int .i64 x.dst, .int .i64 x.src, .int .i64 x.off, .int .i64 x.imm]
abbrev smL (lv : Value) (s : Stm) : List Value := [lv, .int .i64 s.x.op, .bool s.x.reg, .int .i64 s.x.dst, .int .i64 s.x.src, .int .i64 s.x.off, .int .i64 s.x.imm, .string s.tg, .string s.mp]
theorem up_cells {w w' : World} {b o : Nat} {cs : List Value} (hb : b < w.heap.size) (h : ∀ i u, cs[i]? = some u → w.cell? ⟨b, o + i, none⟩ = some u) (hB : Below w.heap.size w w') : ∀ i u, cs[i]? = some u → w'.cell? ⟨b, o + i, none⟩ = some u := fun i u hu => (hB.cell (by exact hb)).trans (h i u hu)
/-- A slice of declarations. -/
def DfAt (w : World) (v : Value) (l : List L9.Df) : Prop :=
  (∃ b o cap, v = .slice (some ⟨b, o, none⟩) l.length cap ∧ b < w.heap.size ∧ ∀ j, (h : j < l.length) → ∀ i u, (dfL l[j])[i]? = some u → w.cell? ⟨b, o + j * 4 + i, none⟩ = some u) ∨ (l = [] ∧ ∃ a cap, v = .slice a 0 cap)
/-- A slice of statements. -/
def SmAt (w : World) (v : Value) (l : List Stm) : Prop :=
  (∃ b o cap, v = .slice (some ⟨b, o, none⟩) l.length cap ∧ b < w.heap.size ∧ ∀ j, (h : j < l.length) → ∃ lv, L8.StAt w lv l[j].labs ∧ ∀ i u, (smL lv l[j])[i]? = some u → w.cell? ⟨b, o + j * 9 + i, none⟩ = some u) ∨ (l = [] ∧ ∃ a cap, v = .slice a 0 cap)
theorem DfAt.below {w w' : World} {v : Value} {l : List L9.Df} (h : DfAt w v l) (hb : Below w.heap.size w w') : DfAt w' v l := by
  rcases h with ⟨b, o, cap, rfl, hlt, hc⟩ | h
  · exact .inl ⟨b, o, cap, rfl, Nat.lt_of_lt_of_le hlt hb.size, fun j hj i u hu => (hb.cell (by exact hlt)).trans (hc j hj i u hu)⟩
  · exact .inr h
theorem SmAt.below {w w' : World} {v : Value} {l : List Stm} (h : SmAt w v l) (hb : Below w.heap.size w w') : SmAt w' v l := by
  rcases h with ⟨b, o, cap, rfl, hlt, hc⟩ | h
  · refine .inl ⟨b, o, cap, rfl, Nat.lt_of_lt_of_le hlt hb.size, fun j hj => ?_⟩
    obtain ⟨lv, h1, h2⟩ := hc j hj
    exact ⟨lv, h1.below hb, fun i u hu => (hb.cell (by exact hlt)).trans (h2 i u hu)⟩
  · exact .inr h
/-- A program in memory: its two slices. -/
def PgAt (w : World) (vm vs : Value) (p : Pg) : Prop := DfAt w vm p.maps ∧ SmAt w vs p.stmts
theorem PgAt.below {w w' : World} {vm vs : Value} {p : Pg} (h : PgAt w vm vs p) (hb : Below w.heap.size w w') : PgAt w' vm vs p := ⟨h.1.below hb, h.2.below hb⟩
theorem st_form {w : World} {v : Value} {l : List ByteArray} {n : Nat} (hn : l.length = n) (h : L8.StAt w v l) : ∃ a c, v = .slice a n c ∧ (0 < n → ∃ b o, a = some ⟨b, o, none⟩ ∧ b < w.heap.size ∧ ∀ j, (h : j < l.length) → w.cell? ⟨b, o + j, none⟩ = some (.string l[j])) := by
  subst hn
  rcases h with ⟨b, o, cap, rfl, hb, hc⟩ | ⟨rfl, a, cap, rfl⟩
  · exact ⟨_, _, rfl, fun _ => ⟨b, o, rfl, hb, fun j hj => by have := hc j hj; simpa [List.getD, List.getElem?_eq_getElem hj] using this⟩⟩
  · exact ⟨a, cap, rfl, fun h => absurd h (by simp)⟩
theorem df_form {w : World} {v : Value} {l : List L9.Df} {n : Nat} (hn : l.length = n) (h : DfAt w v l) : ∃ a c, v = .slice a n c ∧ (0 < n → ∃ b o, a = some ⟨b, o, none⟩ ∧ b < w.heap.size ∧ ∀ j, (h : j < l.length) → ∀ i u, (dfL l[j])[i]? = some u → w.cell? ⟨b, o + j * 4 + i, none⟩ = some u) := by
  subst hn
  rcases h with ⟨b, o, cap, rfl, hb, hc⟩ | ⟨rfl, a, cap, rfl⟩
  · exact ⟨_, _, rfl, fun _ => ⟨b, o, rfl, hb, hc⟩⟩
  · exact ⟨a, cap, rfl, fun h => absurd h (by simp)⟩
theorem sm_form {w : World} {v : Value} {l : List Stm} {n : Nat} (hn : l.length = n) (h : SmAt w v l) : ∃ a c, v = .slice a n c ∧ (0 < n → ∃ b o, a = some ⟨b, o, none⟩ ∧ b < w.heap.size ∧ ∀ j, (h : j < l.length) → ∃ lv, L8.StAt w lv l[j].labs ∧ ∀ i u, (smL lv l[j])[i]? = some u → w.cell? ⟨b, o + j * 9 + i, none⟩ = some u) := by
  subst hn
  rcases h with ⟨b, o, cap, rfl, hb, hc⟩ | ⟨rfl, a, cap, rfl⟩
  · exact ⟨_, _, rfl, fun _ => ⟨b, o, rfl, hb, hc⟩⟩
  · exact ⟨a, cap, rfl, fun h => absurd h (by simp)⟩
theorem df_form4 {w : World} {v : Value} {l : List L9.Df} {n : Nat} (hn : l.length = n) (h : DfAt w v l) : ∃ a c, v = .slice a n c ∧ (0 < n → ∃ b o, a = some ⟨b, o, none⟩ ∧ b < w.heap.size ∧ ∀ j, (h : j < l.length) → w.cell? ⟨b, o + j * 4, none⟩ = some (.string l[j].nm) ∧ w.cell? ⟨b, o + j * 4 + 1, none⟩ = some (.int .i64 l[j].key) ∧ w.cell? ⟨b, o + j * 4 + 2, none⟩ = some (.int .i64 l[j].val) ∧ w.cell? ⟨b, o + j * 4 + 3, none⟩ = some (.int .i64 l[j].ent)) := by
  obtain ⟨a, c, rfl, hc⟩ := df_form hn h
  refine ⟨a, c, rfl, fun h0 => ?_⟩
  obtain ⟨b, o, rfl, hb, hc⟩ := hc h0
  exact ⟨b, o, rfl, hb, fun j hj => ⟨hc j hj 0 _ rfl, hc j hj 1 _ rfl, hc j hj 2 _ rfl, hc j hj 3 _ rfl⟩⟩
/-- No list of a program is too long. -/
structure Sml (p : Pg) : Prop where
  maps : p.maps.length ≤ 100000
  stmts : p.stmts.length ≤ 100000
  labs : ∀ s ∈ p.stmts, s.labs.length ≤ 100000
/-- The bounds of what a program's parts hold. -/
structure DfFit (d : L9.Df) : Prop where
  nm : d.nm.size ≤ maxLen
  key : (Lit.int .i64 d.key).wf = true
  val : (Lit.int .i64 d.val).wf = true
  ent : (Lit.int .i64 d.ent).wf = true
structure SmFit (s : Stm) : Prop where
  lb : ∀ t ∈ s.labs, t.size ≤ maxLen
  tg : s.tg.size ≤ maxLen
  mp : s.mp.size ≤ maxLen
  op : (Lit.int .i64 s.x.op).wf = true
  dst : (Lit.int .i64 s.x.dst).wf = true
  src : (Lit.int .i64 s.x.src).wf = true
  off : (Lit.int .i64 s.x.off).wf = true
  imm : (Lit.int .i64 s.x.imm).wf = true
structure PgFit (p : Pg) : Prop where
  maps : ∀ d ∈ p.maps, DfFit d
  stmts : ∀ s ∈ p.stmts, SmFit s
theorem list_of {α : Type} {P : Nat → α → Prop} : ∀ n : Nat, (∀ i, i < n → ∃ x, P i x) → ∃ l : List α, l.length = n ∧ ∀ i, (hi : i < l.length) → P i l[i]
  | 0, _ => ⟨[], rfl, fun i hi => absurd hi (by simp)⟩
  | n + 1, h => by
    obtain ⟨l, hl, hp⟩ := list_of n (fun i hi => h i (by omega))
    obtain ⟨x, hx⟩ := h n (by omega)
    refine ⟨l ++ [x], by simp [hl], fun i hi => ?_⟩
    by_cases hlt : i < l.length
    · rw [List.getElem_append_left hlt]; exact hp i hlt
    · have : i = n := by simp at hi; omega
      subst this
      rw [List.getElem_append_right (by omega)]
      simpa [hl] using hx
theorem cD : Try.prog.cellsOf 58 = 4 := by kernel_rfl
theorem cS : Try.prog.cellsOf 56 = 9 := by kernel_rfl
theorem cI : Try.prog.cellsOf 34 = 6 := by kernel_rfl
theorem cT : Try.prog.cellsOf 9 = 1 := by kernel_rfl
theorem cN : Try.prog.cellsOf 3 = 1 := by kernel_rfl
theorem cL : Try.prog.cellsOf 2 = 1 := by kernel_rfl
theorem cB : Try.prog.cellsOf 4 = 1 := by kernel_rfl
theorem cP : Try.prog.cellsOf 40 = 2 := by kernel_rfl
theorem cTs : Try.prog.cellsOf 54 = 1 := by kernel_rfl
theorem cDs : Try.prog.cellsOf 37 = 1 := by kernel_rfl
theorem cSs : Try.prog.cellsOf 38 = 1 := by kernel_rfl
theorem cells2p {w : World} {k : Nat} {a b : Value} {t : TypeId} (h : w.heap[k]? = some (.cells #[a, b] t)) : w.cell? ⟨k, 0, none⟩ = some a ∧ w.cell? ⟨k, 1, none⟩ = some b := by
  simp [World.cell?, h]
/-- What a reading's data weigh, each. -/
def Wt {H : Type} (t : TypeId) (d : DataW H) : Prop := ∀ n ∈ d.weights Try.prog t, n ≤ reachBytes
/-- Texts that fit into a reading. -/
def TxRoom (l : List ByteArray) : Prop := l.length ≤ 8796093022208 ∧ ∀ t ∈ l, t.size ≤ 140737488351232
theorem mem_wAll {H : Type} {P : Program} {e : TypeId} {n : Nat} : ∀ (ds : List (DataW H)) (d : DataW H), d ∈ ds → n ∈ d.weights P e → n ∈ DataW.weightsAll P e ds
  | a :: r, d, h, hn => by
    rw [DataW.weightsAll, List.mem_append]
    rcases List.mem_cons.1 h with rfl | h
    · exact .inl hn
    · exact .inr (mem_wAll r d h hn)
theorem bT : Try.prog.bytesOf 9 = 16 := by kernel_rfl
section
variable {H : Type} {enc : TypeId × Value → H} {W : World} {base : Nat} {sp : Nat → Bool} {held : Bool}
set_option maxRecDepth 100000 in
/-- A declaration's cells. -/
theorem open_def {fuel : Nat} {cs : List Value} {x : DataW H × List MemPlace} (h : DataW.trod enc Try.prog W base sp held fuel 58 cs = some x) :
    ∃ d : L9.Df, cs = dfL d ∧ DfFit d := by
  obtain ⟨xs, n, _, _, hcl, hlen, hg⟩ := DataW.trod_struct Try.underlying58 h
  rw [cD] at hcl
  match cs, hcl, xs, hlen with
  | [c0, c1, c2, c3], _, [y0, y1, y2, y3], _ =>
    have g0 : DataW.trod enc Try.prog W base sp held n 9 [c0] = some y0 := by simpa [cT] using hg 0 _ rfl
    have g1 : DataW.trod enc Try.prog W base sp held n 3 [c1] = some y1 := by simpa [cN] using hg 1 _ rfl
    have g2 : DataW.trod enc Try.prog W base sp held n 3 [c2] = some y2 := by simpa [cN] using hg 2 _ rfl
    have g3 : DataW.trod enc Try.prog W base sp held n 3 [c3] = some y3 := by simpa [cN] using hg 3 _ rfl
    obtain ⟨s0, e0, -, k0⟩ := DataW.trod_string Try.underlying9 g0
    obtain ⟨n1, e1, -, k1⟩ := DataW.trod_int Try.underlying3 g1
    obtain ⟨n2, e2, -, k2⟩ := DataW.trod_int Try.underlying3 g2
    obtain ⟨n3, e3, -, k3⟩ := DataW.trod_int Try.underlying3 g3
    simp only [List.cons.injEq, and_true] at e0 e1 e2 e3
    subst e0 e1 e2 e3
    exact ⟨⟨s0, n1, n2, n3⟩, rfl, k0, k1, k2, k3⟩
set_option maxRecDepth 100000 in
/-- An instruction's cells. -/
theorem open_insC {fuel : Nat} {cs : List Value} {x : DataW H × List MemPlace} (h : DataW.trod enc Try.prog W base sp held fuel 34 cs = some x) :
    ∃ d : L9.Ins, cs = inL d ∧ (Lit.int .i64 d.op).wf = true ∧ (Lit.int .i64 d.dst).wf = true ∧ (Lit.int .i64 d.src).wf = true ∧ (Lit.int .i64 d.off).wf = true ∧ (Lit.int .i64 d.imm).wf = true := by
  obtain ⟨xs, n, _, _, hcl, hlen, hg⟩ := DataW.trod_struct Try.underlying34 h
  rw [cI] at hcl
  match cs, hcl, xs, hlen with
  | [c0, c1, c2, c3, c4, c5], _, [y0, y1, y2, y3, y4, y5], _ =>
    have g0 : DataW.trod enc Try.prog W base sp held n 3 [c0] = some y0 := by simpa [cN] using hg 0 _ rfl
    have g1 : DataW.trod enc Try.prog W base sp held n 4 [c1] = some y1 := by simpa [cB] using hg 1 _ rfl
    have g2 : DataW.trod enc Try.prog W base sp held n 3 [c2] = some y2 := by simpa [cN] using hg 2 _ rfl
    have g3 : DataW.trod enc Try.prog W base sp held n 3 [c3] = some y3 := by simpa [cN] using hg 3 _ rfl
    have g4 : DataW.trod enc Try.prog W base sp held n 3 [c4] = some y4 := by simpa [cN] using hg 4 _ rfl
    have g5 : DataW.trod enc Try.prog W base sp held n 2 [c5] = some y5 := by simpa [cL] using hg 5 _ rfl
    obtain ⟨n0, e0, -, k0⟩ := DataW.trod_int Try.underlying3 g0
    obtain ⟨n1, e1, -⟩ := DataW.trod_bool Try.underlying4 g1
    obtain ⟨n2, e2, -, k2⟩ := DataW.trod_int Try.underlying3 g2
    obtain ⟨n3, e3, -, k3⟩ := DataW.trod_int Try.underlying3 g3
    obtain ⟨n4, e4, -, k4⟩ := DataW.trod_int Try.underlying3 g4
    obtain ⟨n5, e5, -, k5⟩ := DataW.trod_int Try.underlying2 g5
    simp only [List.cons.injEq, and_true] at e0 e1 e2 e3 e4 e5
    subst e0 e1 e2 e3 e4 e5
    exact ⟨⟨n0, n1, n2, n3, n4, n5⟩, rfl, k0, k2, k3, k4, k5⟩
theorem open_defs {fuel : Nat} {cs : List Value} {x : DataW H × List MemPlace} (h : DataW.trod enc Try.prog W base sp held fuel 37 cs = some x) :
    ∃ v l, cs = [v] ∧ DfAt W v l ∧ ∀ d ∈ l, DfFit d := by
  rcases open_slice Try.underlying37 h with ⟨hcs, -⟩ | ⟨a, len, cap, m, n, D, Pl, hcs, -, hl, -, hmm, -, hi⟩
  · exact ⟨_, [], hcs, .inr ⟨rfl, none, 0, rfl⟩, by simp⟩
  · rw [cD] at hi
    have each : ∀ i, i < len → ∃ d : L9.Df, DfFit d ∧ ∀ k u, (dfL d)[k]? = some u → W.cell? (a.add (i * 4 + k)) = some u := by
      intro i hil
      obtain ⟨cs', hc, ht⟩ := hi i (by split at hmm <;> omega)
      obtain ⟨d, hd, hfit⟩ := open_def ht
      obtain ⟨_, hcl, hat⟩ := World.cells?_some hc
      refine ⟨d, hfit, fun k u hu => ?_⟩
      have hk : k < 4 := by
        have := (List.getElem?_eq_some_iff.1 hu).1
        simpa using this
      rw [← Go.Deep.add_add, hat k hk, hd]; exact hu
    obtain ⟨l, hll, hp⟩ := list_of len each
    subst hll
    refine ⟨_, l, hcs, ?_, fun d hd => ?_⟩
    · by_cases h0 : l = []
      · exact .inr ⟨h0, some a, cap, by rw [h0]; rfl⟩
      · have hpos : 0 < l.length := List.length_pos_iff.2 h0
        have hc0 := (hp 0 hpos).2 0 _ rfl
        obtain ⟨b, off, spot⟩ := a
        have hspot : spot = none := by simpa [Addr.add] using World.cell?_spot hc0
        subst hspot
        have hb := World.block_lt_of_cell? W _ hc0
        refine .inl ⟨b, off, cap, rfl, hb, fun j hj i u hu => ?_⟩
        rw [Nat.add_assoc, ← add_plain]
        exact (hp j hj).2 i u hu
    · obtain ⟨i, hi, rfl⟩ := List.mem_iff_getElem.1 hd
      exact (hp i hi).1
theorem open_textsw {fuel : Nat} {cs : List Value} {x : DataW H × List MemPlace} (h : DataW.trod enc Try.prog W base sp held fuel 54 cs = some x) :
    ∃ v l, cs = [v] ∧ L8.StAt W v l ∧ (∀ t ∈ l, t.size ≤ maxLen) ∧ (Wt 54 x.1 → TxRoom l) := by
  rcases open_strings Try.underlying54 Try.underlying9 cT h with ⟨hcs, -⟩ | ⟨a, len, cap, ss, hcs, -, hl, -, hz, hx, hcell, hws⟩
  · exact ⟨_, [], hcs, .inr ⟨rfl, none, 0, rfl⟩, by simp, fun _ => ⟨by simp, by simp⟩⟩
  · have hsl : len ≤ ss.length := by rw [hz]; split <;> omega
    have hll : (ss.take len).length = len := by rw [List.length_take]; omega
    refine ⟨_, ss.take len, hcs, ?_, fun s hs => hws s (List.mem_of_mem_take hs), fun hw => ?_⟩
    · by_cases hl0 : len = 0
      · exact .inr ⟨List.eq_nil_of_length_eq_zero (by omega), some a, cap, by rw [hl0]⟩
      · obtain ⟨b, off, spot⟩ := a
        have hspot : spot = none := by simpa [Addr.add] using World.cell?_spot (hcell 0 (by omega))
        subst hspot
        have hb := World.block_lt_of_cell? W _ (hcell 0 (by omega))
        refine .inl ⟨b, off, cap, by rw [hll], hb, fun j hj => ?_⟩
        rw [hll] at hj
        have e : (ss.take len).getD j ByteArray.empty = ss.getD j ByteArray.empty := by simp [List.getD, hj]
        rw [e, ← add_plain]
        exact hcell j (by omega)
    · subst hx
      unfold Wt at hw
      simp only [DataW.weights, Try.underlying54, bT] at hw
      have hlen : ∀ l : List ByteArray, (strs (H := H) l).length = l.length := fun l => by simp [strs]
      refine ⟨?_, fun t ht => ?_⟩
      · have := hw _ (List.mem_cons_self ..)
        rw [hlen, hlen, hll] at this
        rw [hll]
        unfold reachBytes at this
        omega
      · have hm : (DataW.lit (.string t.data.toList) : DataW H) ∈ strs (ss.take len) := by
          unfold strs
          exact List.mem_map.2 ⟨t, ht, rfl⟩
        have := hw t.data.toList.length (List.mem_cons_of_mem _ (List.mem_append_left _ (mem_wAll _ _ hm (by simp [DataW.weights]))))
        rw [L8.size_list] at this
        exact this
set_option maxRecDepth 100000 in
theorem open_stmw {fuel : Nat} {cs : List Value} {x : DataW H × List MemPlace} (h : DataW.trod enc Try.prog W base sp held fuel 56 cs = some x) :
    ∃ (lv : Value) (s : Stm), cs = smL lv s ∧ L8.StAt W lv s.labs ∧ SmFit s ∧ (Wt 56 x.1 → TxRoom s.labs) := by
  obtain ⟨xs, n, _, hx, hcl, hlen, hg⟩ := DataW.trod_struct Try.underlying56 h
  rw [cS] at hcl
  match cs, hcl, xs, hlen with
  | [c0, c1, c2, c3, c4, c5, c6, c7, c8], _, [y0, y1, y2, y3], _ =>
    have g0 : DataW.trod enc Try.prog W base sp held n 54 [c0] = some y0 := by simpa [cTs] using hg 0 _ rfl
    have g1 : DataW.trod enc Try.prog W base sp held n 34 [c1, c2, c3, c4, c5, c6] = some y1 := by simpa [cI] using hg 1 _ rfl
    have g2 : DataW.trod enc Try.prog W base sp held n 9 [c7] = some y2 := by simpa [cT] using hg 2 _ rfl
    have g3 : DataW.trod enc Try.prog W base sp held n 9 [c8] = some y3 := by simpa [cT] using hg 3 _ rfl
    obtain ⟨lv, l, e0, hl, hz, hr⟩ := open_textsw g0
    obtain ⟨d, e1, k0, k1, k2, k3, k4⟩ := open_insC g1
    obtain ⟨s2, e2, -, z2⟩ := DataW.trod_string Try.underlying9 g2
    obtain ⟨s3, e3, -, z3⟩ := DataW.trod_string Try.underlying9 g3
    simp only [List.cons.injEq, and_true] at e0 e1 e2 e3
    obtain ⟨rfl, rfl, rfl, rfl, rfl, rfl⟩ := e1
    subst e0 e2 e3
    refine ⟨c0, ⟨l, d, s2, s3⟩, rfl, hl, ⟨hz, z2, z3, k0, k1, k2, k3, k4⟩, fun hw => hr fun n hn => hw n ?_⟩
    rw [hx]
    simp only [DataW.weights, Try.underlying56, List.map_cons, DataW.weightsEach]
    exact List.mem_append_left _ hn
theorem open_stmsw {fuel : Nat} {cs : List Value} {x : DataW H × List MemPlace} (h : DataW.trod enc Try.prog W base sp held fuel 38 cs = some x) :
    ∃ v l, cs = [v] ∧ SmAt W v l ∧ (∀ d ∈ l, SmFit d) ∧ (Wt 38 x.1 → ∀ d ∈ l, TxRoom d.labs) := by
  rcases open_slice Try.underlying38 h with ⟨hcs, -⟩ | ⟨a, len, cap, m, n, D, Pl, hcs, -, hl, -, hmm, hx, hi⟩
  · exact ⟨_, [], hcs, .inr ⟨rfl, none, 0, rfl⟩, by simp, by simp⟩
  · rw [cS] at hi
    have each : ∀ i, i < len → ∃ s : Stm, (SmFit s ∧ (Wt 56 (D i) → TxRoom s.labs)) ∧ ∃ lv, L8.StAt W lv s.labs ∧ ∀ k u, (smL lv s)[k]? = some u → W.cell? (a.add (i * 9 + k)) = some u := by
      intro i hil
      obtain ⟨cs', hc, ht⟩ := hi i (by split at hmm <;> omega)
      obtain ⟨lv, d, hd, hst, hfit, hrm⟩ := open_stmw ht
      obtain ⟨_, hcl, hat⟩ := World.cells?_some hc
      refine ⟨d, ⟨hfit, hrm⟩, lv, hst, fun k u hu => ?_⟩
      have hk : k < 9 := by
        have := (List.getElem?_eq_some_iff.1 hu).1
        simpa using this
      rw [← Go.Deep.add_add, hat k hk, hd]; exact hu
    obtain ⟨l, hll, hp⟩ := list_of len each
    subst hll
    refine ⟨_, l, hcs, ?_, fun d hd => ?_, fun hw d hd => ?_⟩
    · by_cases h0 : l = []
      · exact .inr ⟨h0, some a, cap, by rw [h0]; rfl⟩
      · have hpos : 0 < l.length := List.length_pos_iff.2 h0
        obtain ⟨lv0, _, hq0⟩ := (hp 0 hpos).2
        have hc0 := hq0 0 _ rfl
        obtain ⟨b, off, spot⟩ := a
        have hspot : spot = none := by simpa [Addr.add] using World.cell?_spot hc0
        subst hspot
        have hb := World.block_lt_of_cell? W _ hc0
        refine .inl ⟨b, off, cap, rfl, hb, fun j hj => ?_⟩
        obtain ⟨lv, hst, hq⟩ := (hp j hj).2
        refine ⟨lv, hst, fun i u hu => ?_⟩
        rw [Nat.add_assoc, ← add_plain]
        exact hq i u hu
    · obtain ⟨i, hi, rfl⟩ := List.mem_iff_getElem.1 hd
      exact (hp i hi).1.1
    · obtain ⟨i, hi, rfl⟩ := List.mem_iff_getElem.1 hd
      refine (hp i hi).1.2 fun n hn => hw n ?_
      rw [hx]
      simp only [DataW.weights, Try.underlying38]
      exact List.mem_cons_of_mem _ (List.mem_append_left _ (mem_wAll _ _ (List.mem_map.2 ⟨i, List.mem_range.2 hi, rfl⟩) hn))
set_option maxRecDepth 100000 in
/-- A program by value. -/
theorem open_pgw {r : Reach} {b0 : Nat} {v : Value} {d : DataW H} {ps : List MemPlace} (hval : Value.okWide Try.prog W r b0 40 v) (hd : DataW.Trod enc Try.prog W base sp held 40 v d ps) :
    ∃ (vm vs : Value) (p : Pg), v = .agg #[vm, vs] ∧ PgAt W vm vs p ∧ PgFit p ∧ (Wt 40 d → ∀ s ∈ p.stmts, TxRoom s.labs) := by
  obtain ⟨cs, rfl, hsz⟩ := okWide_struct Try.underlying40 hval
  rw [cP] at hsz
  obtain ⟨l⟩ := cs
  obtain ⟨fuel, hf⟩ := hd
  obtain ⟨xs, n, _, hx, _, hlen, hg⟩ := DataW.trod_struct Try.underlying40 hf
  match l, hsz, xs, hlen with
  | [c0, c1], _, [y0, y1], _ =>
    have g0 : DataW.trod enc Try.prog W base sp held n 37 [c0] = some y0 := by simpa [Value.cells, cDs] using hg 0 _ rfl
    have g1 : DataW.trod enc Try.prog W base sp held n 38 [c1] = some y1 := by simpa [Value.cells, cSs] using hg 1 _ rfl
    obtain ⟨v0, l0, e0, h0, f0⟩ := open_defs g0
    obtain ⟨v1, l1, e1, h1, f1, r1⟩ := open_stmsw g1
    simp only [List.cons.injEq, and_true] at e0 e1
    subst e0 e1
    refine ⟨c0, c1, ⟨l0, l1⟩, rfl, ⟨h0, h1⟩, ⟨f0, f1⟩, fun hw => r1 fun n hn => hw n ?_⟩
    have hx1 := congrArg Prod.fst hx
    simp only at hx1
    rw [hx1]
    simp only [DataW.weights, Try.underlying40, List.map_cons, DataW.weightsEach]
    exact List.mem_append_right _ (List.mem_append_left _ hn)
end
/-- How many labels some statements have. -/
def lsum : List Stm → Nat
  | [] => 0
  | s :: r => s.labs.length + lsum r
theorem lsum_snoc (l : List Stm) (k : Nat) (h : k < l.length) : lsum (l.take (k + 1)) = lsum (l.take k) + l[k].labs.length := by
  have e : ∀ (a : List Stm) (s : Stm), lsum (a ++ [s]) = lsum a + s.labs.length := fun a s => by
    induction a with
    | nil => simp [lsum]
    | cons x r ih => simp only [List.cons_append, lsum, ih]; omega
  rw [List.take_add_one, List.getElem?_eq_getElem h, Option.toList, e]
theorem lsum_le (l : List Stm) (R : Nat) (h : ∀ s ∈ l, s.labs.length ≤ R) : ∀ k, lsum (l.take k) ≤ k * R := by
  intro k
  induction k with
  | zero => simp [lsum]
  | succ k ih =>
    by_cases hk : k < l.length
    · rw [lsum_snoc l k hk, Nat.add_mul]
      have := h l[k] (List.getElem_mem hk)
      omega
    · rw [List.take_of_length_le (by omega)] at ih ⊢
      rw [Nat.add_mul]; omega
theorem lsum_mem : ∀ (l : List Stm) (s : Stm), s ∈ l → s.labs.length ≤ lsum l
  | a :: r, s, h => by
    rw [lsum]
    rcases List.mem_cons.1 h with rfl | h
    · omega
    · have := lsum_mem r s h; omega
set_option maxHeartbeats 2000000 in
set_option maxRecDepth 100000 in
theorem few_at (vm vs : Value) (p : Pg) (w : World) (hp : PgAt w vm vs p) (hr : ∀ s ∈ p.stmts, TxRoom s.labs) (b1 b2 b3 : Bool) (h1 : decide (p.maps.length ≤ 300) = b1) (h2 : decide (p.stmts.length ≤ 60) = b2) (h3 : decide (lsum (p.stmts.take 61) ≤ 200) = b3) :
    Calls Try.prog 18 #[.agg #[vm, vs]] w fun e w' => e = .returned (.bool ((b1 && b2) && b3)) ∧ Below w.heap.size w w' := by
  obtain ⟨n1, hn1⟩ : ∃ n, p.maps.length = n := ⟨_, rfl⟩
  obtain ⟨n2, hn2⟩ : ∃ n, p.stmts.length = n := ⟨_, rfl⟩
  obtain ⟨a1, c1, rfl, -⟩ := df_form hn1 hp.1
  obtain ⟨a2, c2, rfl, hc⟩ := sm_form hn2 hp.2
  rw [hn1] at h1
  rw [hn2] at h2
  have hle := lsum_le p.stmts 8796093022208 (fun s hs => (hr s hs).1)
  have HC := Lib.hid hc
  have HN := Lib.hid hn2
  have HR := Lib.hid hr
  have HLE := Lib.hid hle
  have H3 := Lib.hid h3
  have hb0 := L8.bnew w (.cells #[.slice a1 n1 c1, .slice a2 n2 c2] 40)
  have HB := Lib.hid hb0
  have g1 : decide ((n1 : Int) ≤ 300) = b1 := by rw [← h1, decide_eq_decide]; omega
  have g2 : decide ((n2 : Int) ≤ 60) = b2 := by rw [← h2, decide_eq_decide]; omega
  have G1 := Lib.hid g1
  have G2 := Lib.hid g2
  clear hp hr hn1 hn2 hc hle h1 h2 h3 g1 g2 hb0
  go_enter Try.func18, Try.ntmps18
  go_wp2
  go_loop [3, 4] (fun n i => ∃ k : Nat, k ≤ n2 ∧ k ≤ 61 ∧ i = .int .i64 (k : Int) ∧ n = .int .i64 (lsum (p.stmts.take k) : Int)) (fun _ i => 61 - (intOf i).toNat)
  case atStart => exact ⟨0, Nat.zero_le _, by omega, rfl, rfl⟩
  case round =>
    obtain ⟨k, hk, hk2, rfl, rfl⟩ := hrel
    have hle := HLE.out k
    by_cases hlt : k < n2 ∧ k ≤ 60
    · obtain ⟨hlt, hl6⟩ := hlt
      have hkl : k < p.stmts.length := by rw [HN.out]; exact hlt
      obtain ⟨b, o, rfl, hbl, hc⟩ := HC.out (by omega)
      obtain ⟨lv, hst, hx⟩ := hc k hkl
      obtain ⟨ln, hln⟩ : ∃ ln, p.stmts[k].labs.length = ln := ⟨_, rfl⟩
      have hrm := (HR.out _ (List.getElem_mem hkl)).1
      rw [hln] at hrm
      obtain ⟨la, lc, rfl, -⟩ := st_form hln hst
      have x0 := hx 0 _ rfl
      rw [Nat.add_zero] at x0
      have hs := lsum_snoc p.stmts k hkl
      rw [hln] at hs
      have HS := Lib.hid hs
      obtain ⟨m, hm⟩ : ∃ m, lsum (p.stmts.take k) = m := ⟨_, rfl⟩
      rw [hm] at hle HS ⊢
      have hmb : m ≤ 60 * 8796093022208 := Nat.le_trans hle (Nat.mul_le_mul_right _ hl6)
      clear hx hc hst hln hs hm hle
      go_wp2
      go_round
      case rel => exact ⟨k + 1, by omega, by omega, by go_num, by rw [HS.out]; go_num⟩
      case measure => simp [intOf]; omega
    · have hk61 : p.stmts.take k = p.stmts.take 61 := by
        by_cases hlt2 : k < n2
        · have : k = 61 := by omega
          rw [this]
        · rw [List.take_of_length_le (by rw [HN.out]; omega), List.take_of_length_le (by rw [HN.out]; omega)]
      rw [hk61] at hle ⊢
      have g3 : decide ((lsum (p.stmts.take 61) : Int) ≤ 200) = b3 := by rw [← H3.out, decide_eq_decide]; omega
      obtain ⟨m, hm⟩ : ∃ m, lsum (p.stmts.take 61) = m := ⟨_, rfl⟩
      rw [hm] at g3 ⊢
      have g1 := G1.out
      have g2 := G2.out
      clear hk61 hm hle
      by_cases hlt2 : k < n2
      · have h6 : ¬ (k : Int) ≤ 60 := by omega
        clear hlt
        cases b1 <;> cases b2 <;> cases b3
        all_goals
          go_wp2
          go_ret
          exact ⟨rfl, HB.out⟩
      · clear hlt
        cases b1 <;> cases b2 <;> cases b3
        all_goals
          go_wp2
          go_ret
          exact ⟨rfl, HB.out⟩
/-- Few, and what it tells. -/
theorem few_ex (vm vs : Value) (p : Pg) (w : World) (hp : PgAt w vm vs p) (hr : ∀ s ∈ p.stmts, TxRoom s.labs) :
    ∃ b : Bool, (b = true → p.maps.length ≤ 300 ∧ p.stmts.length ≤ 60 ∧ lsum p.stmts ≤ 200) ∧ ∀ W, Below w.heap.size w W → Calls Try.prog 18 #[.agg #[vm, vs]] W fun e w' => e = .returned (.bool b) ∧ Below W.heap.size W w' := by
  refine ⟨_, fun h => ?_, fun W hb => few_at vm vs p W (hp.below hb) hr _ _ _ rfl rfl rfl⟩
  simp only [Bool.and_eq_true, decide_eq_true_eq] at h
  obtain ⟨⟨h1, h2⟩, h3⟩ := h
  rw [List.take_of_length_le (by omega)] at h3
  exact ⟨h1, h2, h3⟩
theorem sml_few {p : Pg} (h : p.maps.length ≤ 300 ∧ p.stmts.length ≤ 60 ∧ lsum p.stmts ≤ 200) : Sml p :=
  ⟨by omega, by omega, fun s hs => by have := lsum_mem p.stmts s hs; omega⟩
/-- The index of the declaration with a name, or -1. -/
def mpI : Nat → List L9.Df → ByteArray → Int
  | _, [], _ => -1
  | k, d :: r, x => if d.nm = x then (k : Int) else mpI (k + 1) r x
set_option maxHeartbeats 4000000 in
set_option maxRecDepth 100000 in
theorem rmap_at (vm vs : Value) (p : Pg) (x : ByteArray) (w : World) (hp : PgAt w vm vs p) (hs : Sml p) :
    Calls Try.prog 31 #[.agg #[vm, vs], .string x] w fun e w' => e = .returned (.int .i64 (mpI 0 p.maps x)) ∧ Below w.heap.size w w' := by
  obtain ⟨n1, hn1⟩ : ∃ n, p.maps.length = n := ⟨_, rfl⟩
  obtain ⟨n2, hn2⟩ : ∃ n, p.stmts.length = n := ⟨_, rfl⟩
  obtain ⟨a1, c1, rfl, hc⟩ := df_form4 hn1 hp.1
  obtain ⟨a2, c2, rfl, -⟩ := sm_form hn2 hp.2
  have hm1 := hs.maps
  rw [hn1] at hm1
  have HC := Lib.hid hc
  have HN := Lib.hid hn1
  obtain ⟨R, hR⟩ : ∃ R, mpI 0 p.maps x = R := ⟨_, rfl⟩
  rw [hR]
  have hV : Hid (mpI 0 (p.maps.drop 0) x = R) := Lib.hid hR
  have HB := Lib.hid (L8.bnew w (.cells #[.slice a1 n1 c1, .slice a2 n2 c2] 40))
  have x0 := (cells2p (heap_alloc_last w (.cells #[.slice a1 n1 c1, .slice a2 n2 c2] 40))).1
  have hlt0 := World.block_lt_of_cell? _ _ x0
  simp only at hlt0
  clear hp hs hn1 hn2 hc hR
  go_enter Try.func31, Try.ntmps31
  go_upto_region 1 with (fail)
  generalize w.alloc (.cells #[.slice a1 n1 c1, .slice a2 n2 c2] 40) = W0 at x0 hlt0 HB ⊢
  go_wp2
  go_loop [5] (fun i => ∃ k : Nat, k ≤ n1 ∧ i = .int .i64 (k : Int) ∧ Hid (mpI k (p.maps.drop k) x = R)) (fun i => n1 - (intOf i).toNat)
  case atStart => exact ⟨0, Nat.zero_le _, rfl, hV⟩
  case round =>
    obtain ⟨k, hk, rfl, hT⟩ := hrel
    clear hV
    by_cases hlt : k < n1
    · have hkl : k < p.maps.length := by rw [HN.out]; exact hlt
      obtain ⟨b, o, rfl, hbl, hc⟩ := HC.out (by omega)
      have y0 := (HB.out.cell (by exact hbl)).trans (hc k hkl).1
      have hw1 := World.block_lt_of_cell? _ _ y0
      simp only at hw1
      have hst := hT.out
      rw [List.drop_eq_getElem_cons hkl, mpI] at hst
      obtain ⟨y, hy⟩ : ∃ y, p.maps[k].nm = y := ⟨_, rfl⟩
      rw [hy] at y0 hst
      clear hc hy hT
      by_cases he : y = x
      · subst he
        rw [if_pos rfl] at hst
        have ht : (y.toList == y.toList) = true := by simp
        subst hst
        go_wp2
        go_ret
        exact ⟨rfl, HB.out⟩
      · rw [if_neg he] at hst
        have ht : (y.toList == x.toList) = false := L2.txt_ne he
        have HS := Lib.hid hst
        clear he hst
        go_wp2
        go_round
        case rel => exact ⟨k + 1, by omega, by go_num, HS⟩
        case measure => simp [intOf]; omega
    · obtain rfl : k = n1 := by omega
      have hst := hT.out
      rw [List.drop_eq_nil_of_le (by rw [HN.out]; exact Nat.le_refl _)] at hst
      have hst : -1 = R := hst
      subst hst
      clear hT
      go_wp2
      go_ret
      exact ⟨rfl, HB.out⟩
/-- A slice of ints. -/
def InAt (w : World) (v : Value) (l : List Int) : Prop :=
  (∃ b o cap, v = .slice (some ⟨b, o, none⟩) l.length cap ∧ b < w.heap.size ∧ ∀ j, (h : j < l.length) → w.cell? ⟨b, o + j, none⟩ = some (.int .i64 l[j])) ∨ (l = [] ∧ ∃ a cap, v = .slice a 0 cap)
theorem InAt.below {w w' : World} {v : Value} {l : List Int} (h : InAt w v l) (hb : Below w.heap.size w w') : InAt w' v l := by
  rcases h with ⟨b, o, cap, rfl, hlt, hc⟩ | h
  · exact .inl ⟨b, o, cap, rfl, Nat.lt_of_lt_of_le hlt hb.size, fun j hj => (hb.cell (by exact hlt)).trans (hc j hj)⟩
  · exact .inr h
theorem in_form {w : World} {v : Value} {l : List Int} {n : Nat} (hn : l.length = n) (h : InAt w v l) : ∃ a c, v = .slice a n c ∧ (0 < n → ∃ b o, a = some ⟨b, o, none⟩ ∧ b < w.heap.size ∧ ∀ j, (h : j < l.length) → w.cell? ⟨b, o + j, none⟩ = some (.int .i64 l[j])) := by
  subst hn
  rcases h with ⟨b, o, cap, rfl, hb, hc⟩ | ⟨rfl, a, cap, rfl⟩
  · exact ⟨_, _, rfl, fun _ => ⟨b, o, rfl, hb, hc⟩⟩
  · exact ⟨a, cap, rfl, fun h => absurd h (by simp)⟩
theorem take_eq {α : Type} {l m : List α} {k : Nat} (h1 : k < l.length) (h2 : k < m.length) (h : l.take k = m.take k) (e : l[k] = m[k]) : l.take (k + 1) = m.take (k + 1) := by
  rw [List.take_add_one, List.take_add_one, h, List.getElem?_eq_getElem h1, List.getElem?_eq_getElem h2, e]
theorem take_all {α : Type} {l m : List α} {n : Nat} (h1 : l.length = n) (h2 : m.length = n) (h : l.take n = m.take n) : l = m := by
  rwa [List.take_of_length_le (by omega), List.take_of_length_le (by omega)] at h
theorem get_ne {α : Type} {l m : List α} {k : Nat} (h1 : k < l.length) (h2 : k < m.length) (h : l[k] ≠ m[k]) : l ≠ m := by
  rintro rfl; exact h rfl
set_option maxHeartbeats 2000000 in
set_option maxRecDepth 100000 in
theorem equalI_at (v v' : Value) (l m : List Int) (b : Bool) (w : World) (hl : l.length ≤ 100000) (hm : m.length ≤ 100000) (hv : InAt w v l) (hv' : InAt w v' m) (hb : b = true ↔ l = m) :
    Calls Try.prog 25 #[v, v'] w fun e w' => e = .returned (.bool b) ∧ Below w.heap.size w w' := by
  obtain ⟨n, hn⟩ : ∃ n, l.length = n := ⟨_, rfl⟩
  obtain ⟨n', hn'⟩ : ∃ n, m.length = n := ⟨_, rfl⟩
  obtain ⟨a, c, rfl, hc⟩ := in_form hn hv
  obtain ⟨a', c', rfl, hc'⟩ := in_form hn' hv'
  rw [hn] at hl
  rw [hn'] at hm
  by_cases hne : n = n'
  · subst hne
    have HN := Lib.hid hn
    have HM := Lib.hid hn'
    have HC := Lib.hid hc
    have HC' := Lib.hid hc'
    have HB := Lib.hid hb
    clear hn hn' hc hc' hb hv hv'
    go_enter Try.func25, Try.ntmps25
    go_wp2
    go_loopw [5, 13] (fun _ i wr => ∃ (k q : Nat), k ≤ n ∧ i = .int .i64 (k : Int) ∧ wr = w.drewN q ∧ Hid (l.take k = m.take k)) (fun _ i _ => n - (intOf i).toNat)
    case atStart => exact ⟨0, 0, Nat.zero_le _, rfl, rfl, Lib.hid rfl⟩
    case round =>
      obtain ⟨k, q, hk, rfl, rfl, hT⟩ := hrel
      by_cases hlt : k < n
      · have hk1 : k < l.length := by rw [HN.out]; exact hlt
        have hk2 : k < m.length := by rw [HM.out]; exact hlt
        obtain ⟨b1, o1, rfl, hb1, hc1⟩ := HC.out (by omega)
        obtain ⟨b2, o2, rfl, hb2, hc2⟩ := HC'.out (by omega)
        have hx := hc1 k hk1
        have hy := hc2 k hk2
        clear hc1 hc2
        have hlt' : (k : Int) < (n : Int) := by omega
        by_cases he : l[k] = m[k]
        · have HT := Lib.hid (take_eq hk1 hk2 hT.out he)
          rw [← he] at hy
          obtain ⟨d, hd⟩ : ∃ d, l[k] = d := ⟨_, rfl⟩
          rw [hd] at hx hy
          clear he hd hT
          go_wp2
          go_quiet (fail)
          go_wp2
          go_roundw
          case rel => exact ⟨k + 1, q + nq, by omega, by go_num, rfl, HT⟩
          case measure => simp [intOf]; omega
        · have HB2 : Hid (b = false) := Lib.hid (by
            cases b with
            | false => rfl
            | true => exact absurd (HB.out.1 rfl) (get_ne hk1 hk2 he))
          obtain ⟨d, hd⟩ : ∃ d, l[k] = d := ⟨_, rfl⟩
          obtain ⟨d', hd'⟩ : ∃ d, m[k] = d := ⟨_, rfl⟩
          rw [hd] at hx
          rw [hd'] at hy
          rw [hd, hd'] at he
          have ht : (d == d') = false := by simpa using he
          clear hd hd' hT
          go_wp2
          go_quiet (fail)
          go_wp2
          go_ret
          rw [HB2.out]
          exact ⟨rfl, L8.bdN (L8.bdN (Below.refl _ _) _) _⟩
      · obtain rfl : k = n := by omega
        have HB2 : Hid (b = true) := Lib.hid (HB.out.2 (take_all HN.out HM.out hT.out))
        clear hT
        go_wp2
        go_ret
        rw [HB2.out]
        exact ⟨rfl, L8.bdN (Below.refl _ _) _⟩
  · have hbf : b = false := by
      cases b with
      | false => rfl
      | true =>
        have := hb.1 rfl
        subst this
        omega
    subst hbf
    have h1 : ¬ (n : Int) = (n' : Int) := by omega
    have h2 : ((n : Int) == (n' : Int)) = false := by simpa using h1
    clear hn hn' hc hc' hb hv hv'
    go_enter Try.func25, Try.ntmps25
    go_wp2
    go_ret
    exact ⟨rfl, Below.refl _ _⟩
end Go.Proofs.Ythoghcejmnnniaa.L10
