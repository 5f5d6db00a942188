/- A program that is handed over by value reads as some plain program, whose labels take no more memory than a reading may. No condition. -/
import Derived.Test.YtakblmonbeflmaaGreatDoorL10Opn
namespace Go.Proofs.YtakblmonbeflmaaGreatDoor.L10
open Go.ChangeShapes Go.WideShapes Go.ChangeAt Go.RowKit Go.Deep

/-- What a reading's data weigh, each. -/
def Wt {H : Type} (t : TypeId) (d : DataW H) : Prop := ∀ n ∈ d.weights Tryz.prog t, n ≤ reachBytes
/-- Texts that fit into a reading. -/
def TxRoom (l : List ByteArray) : Prop := l.length ≤ 8796093022208 ∧ ∀ t ∈ l, t.size ≤ 140737488351232
theorem mem_wAll {H : Type} {P : Program} {e : TypeId} {n : Nat} : ∀ (ds : List (DataW H)) (d : DataW H), d ∈ ds → n ∈ d.weights P e → n ∈ DataW.weightsAll P e ds
  | a :: r, d, h, hn => by
    rw [DataW.weightsAll, List.mem_append]
    rcases List.mem_cons.1 h with rfl | h
    · exact .inl hn
    · exact .inr (mem_wAll r d h hn)
theorem bT : Tryz.prog.bytesOf 9 = 16 := by kernel_rfl
section
variable {H : Type} {enc : TypeId × Value → H} {W : World} {base : Nat} {sp : Nat → Bool} {held : Bool}

theorem open_textsw {fuel : Nat} {cs : List Value} {x : DataW H × List MemPlace} (h : DataW.trod enc Tryz.prog W base sp held fuel 39 cs = some x) :
    ∃ v l, cs = [v] ∧ L8.StAt W v l ∧ (∀ t ∈ l, t.size ≤ maxLen) ∧ (Wt 39 x.1 → TxRoom l) := by
  rcases open_strings Tryz.underlying39 Tryz.underlying9 cT h with ⟨hcs, -⟩ | ⟨a, len, cap, ss, hcs, -, hl, -, hz, hx, hcell, hws⟩
  · exact ⟨_, [], hcs, .inr ⟨rfl, none, 0, rfl⟩, by simp, fun _ => ⟨by simp, by simp⟩⟩
  · have hsl : len ≤ ss.length := by rw [hz]; split <;> omega
    have hll : (ss.take len).length = len := by rw [List.length_take]; omega
    refine ⟨_, ss.take len, hcs, ?_, fun s hs => hws s (List.mem_of_mem_take hs), fun hw => ?_⟩
    · by_cases hl0 : len = 0
      · exact .inr ⟨List.eq_nil_of_length_eq_zero (by omega), some a, cap, by rw [hl0]⟩
      · obtain ⟨b, off, spot⟩ := a
        have hspot : spot = none := by simpa [Addr.add] using World.cell?_spot (hcell 0 (by omega))
        subst hspot
        have hb := World.block_lt_of_cell? W _ (hcell 0 (by omega))
        refine .inl ⟨b, off, cap, by rw [hll], hb, fun j hj => ?_⟩
        rw [hll] at hj
        have e : (ss.take len).getD j ByteArray.empty = ss.getD j ByteArray.empty := by simp [List.getD, hj]
        rw [e, ← add_plain]
        exact hcell j (by omega)
    · subst hx
      unfold Wt at hw
      simp only [DataW.weights, Tryz.underlying39, bT] at hw
      have hlen : ∀ l : List ByteArray, (strs (H := H) l).length = l.length := fun l => by simp [strs]
      refine ⟨?_, fun t ht => ?_⟩
      · have := hw _ (List.mem_cons_self ..)
        rw [hlen, hlen, hll] at this
        rw [hll]
        unfold reachBytes at this
        omega
      · have hm : (DataW.lit (.string t.data.toList) : DataW H) ∈ strs (ss.take len) := by
          unfold strs
          exact List.mem_map.2 ⟨t, ht, rfl⟩
        have := hw t.data.toList.length (List.mem_cons_of_mem _ (List.mem_append_left _ (mem_wAll _ _ hm (by simp [DataW.weights]))))
        rw [L8.size_list] at this
        exact this

set_option maxRecDepth 100000 in
theorem open_stmw {fuel : Nat} {cs : List Value} {x : DataW H × List MemPlace} (h : DataW.trod enc Tryz.prog W base sp held fuel 41 cs = some x) :
    ∃ (lv : Value) (s : Stm), cs = smL lv s ∧ L8.StAt W lv s.labs ∧ SmFit s ∧ (Wt 41 x.1 → TxRoom s.labs) := by
  obtain ⟨xs, n, _, hx, hcl, hlen, hg⟩ := DataW.trod_struct Tryz.underlying41 h
  rw [cS] at hcl
  match cs, hcl, xs, hlen with
  | [c0, c1, c2, c3, c4, c5, c6, c7, c8], _, [y0, y1, y2, y3], _ =>
    have g0 : DataW.trod enc Tryz.prog W base sp held n 39 [c0] = some y0 := by simpa [cTs] using hg 0 _ rfl
    have g1 : DataW.trod enc Tryz.prog W base sp held n 38 [c1, c2, c3, c4, c5, c6] = some y1 := by simpa [cI] using hg 1 _ rfl
    have g2 : DataW.trod enc Tryz.prog W base sp held n 9 [c7] = some y2 := by simpa [cT] using hg 2 _ rfl
    have g3 : DataW.trod enc Tryz.prog W base sp held n 9 [c8] = some y3 := by simpa [cT] using hg 3 _ rfl
    obtain ⟨lv, l, e0, hl, hz, hr⟩ := open_textsw g0
    obtain ⟨d, e1, k0, k1, k2, k3, k4⟩ := open_insC g1
    obtain ⟨s2, e2, -, z2⟩ := DataW.trod_string Tryz.underlying9 g2
    obtain ⟨s3, e3, -, z3⟩ := DataW.trod_string Tryz.underlying9 g3
    simp only [List.cons.injEq, and_true] at e0 e1 e2 e3
    obtain ⟨rfl, rfl, rfl, rfl, rfl, rfl⟩ := e1
    subst e0 e2 e3
    refine ⟨c0, ⟨l, d, s2, s3⟩, rfl, hl, ⟨hz, z2, z3, k0, k1, k2, k3, k4⟩, fun hw => hr fun n hn => hw n ?_⟩
    rw [hx]
    simp only [DataW.weights, Tryz.underlying41, List.map_cons, DataW.weightsEach]
    exact List.mem_append_left _ hn

theorem open_stmsw {fuel : Nat} {cs : List Value} {x : DataW H × List MemPlace} (h : DataW.trod enc Tryz.prog W base sp held fuel 23 cs = some x) :
    ∃ v l, cs = [v] ∧ SmAt W v l ∧ (∀ d ∈ l, SmFit d) ∧ (Wt 23 x.1 → ∀ d ∈ l, TxRoom d.labs) := by
  rcases open_slice Tryz.underlying23 h with ⟨hcs, -⟩ | ⟨a, len, cap, m, n, D, Pl, hcs, -, hl, -, hmm, hx, hi⟩
  · exact ⟨_, [], hcs, .inr ⟨rfl, none, 0, rfl⟩, by simp, by simp⟩
  · rw [cS] at hi
    have each : ∀ i, i < len → ∃ s : Stm, (SmFit s ∧ (Wt 41 (D i) → TxRoom s.labs)) ∧ ∃ lv, L8.StAt W lv s.labs ∧ ∀ k u, (smL lv s)[k]? = some u → W.cell? (a.add (i * 9 + k)) = some u := by
      intro i hil
      obtain ⟨cs', hc, ht⟩ := hi i (by split at hmm <;> omega)
      obtain ⟨lv, d, hd, hst, hfit, hrm⟩ := open_stmw ht
      obtain ⟨_, hcl, hat⟩ := World.cells?_some hc
      refine ⟨d, ⟨hfit, hrm⟩, lv, hst, fun k u hu => ?_⟩
      have hk : k < 9 := by
        have := (List.getElem?_eq_some_iff.1 hu).1
        simpa using this
      rw [← Go.Deep.add_add, hat k hk, hd]; exact hu
    obtain ⟨l, hll, hp⟩ := list_of len each
    subst hll
    refine ⟨_, l, hcs, ?_, fun d hd => ?_, fun hw d hd => ?_⟩
    · by_cases h0 : l = []
      · exact .inr ⟨h0, some a, cap, by rw [h0]; rfl⟩
      · have hpos : 0 < l.length := List.length_pos_iff.2 h0
        obtain ⟨lv0, _, hq0⟩ := (hp 0 hpos).2
        have hc0 := hq0 0 _ rfl
        obtain ⟨b, off, spot⟩ := a
        have hspot : spot = none := by simpa [Addr.add] using World.cell?_spot hc0
        subst hspot
        have hb := World.block_lt_of_cell? W _ hc0
        refine .inl ⟨b, off, cap, rfl, hb, fun j hj => ?_⟩
        obtain ⟨lv, hst, hq⟩ := (hp j hj).2
        refine ⟨lv, hst, fun i u hu => ?_⟩
        rw [Nat.add_assoc, ← add_plain]
        exact hq i u hu
    · obtain ⟨i, hi, rfl⟩ := List.mem_iff_getElem.1 hd
      exact (hp i hi).1.1
    · obtain ⟨i, hi, rfl⟩ := List.mem_iff_getElem.1 hd
      refine (hp i hi).1.2 fun n hn => hw n ?_
      rw [hx]
      simp only [DataW.weights, Tryz.underlying23]
      exact List.mem_cons_of_mem _ (List.mem_append_left _ (mem_wAll _ _ (List.mem_map.2 ⟨i, List.mem_range.2 hi, rfl⟩) hn))

set_option maxRecDepth 100000 in
/-- A program by value. -/
theorem open_pgw {r : Reach} {b0 : Nat} {v : Value} {d : DataW H} {ps : List MemPlace} (hval : Value.okWide Tryz.prog W r b0 25 v) (hd : DataW.Trod enc Tryz.prog W base sp held 25 v d ps) :
    ∃ (vm vs : Value) (p : Pg), v = .agg #[vm, vs] ∧ PgAt W vm vs p ∧ PgFit p ∧ (Wt 25 d → ∀ s ∈ p.stmts, TxRoom s.labs) := by
  obtain ⟨cs, rfl, hsz⟩ := okWide_struct Tryz.underlying25 hval
  rw [cP] at hsz
  obtain ⟨l⟩ := cs
  obtain ⟨fuel, hf⟩ := hd
  obtain ⟨xs, n, _, hx, _, hlen, hg⟩ := DataW.trod_struct Tryz.underlying25 hf
  match l, hsz, xs, hlen with
  | [c0, c1], _, [y0, y1], _ =>
    have g0 : DataW.trod enc Tryz.prog W base sp held n 22 [c0] = some y0 := by simpa [Value.cells, cDs] using hg 0 _ rfl
    have g1 : DataW.trod enc Tryz.prog W base sp held n 23 [c1] = some y1 := by simpa [Value.cells, cSs] using hg 1 _ rfl
    obtain ⟨v0, l0, e0, h0, f0⟩ := open_defs g0
    obtain ⟨v1, l1, e1, h1, f1, r1⟩ := open_stmsw g1
    simp only [List.cons.injEq, and_true] at e0 e1
    subst e0 e1
    refine ⟨c0, c1, ⟨l0, l1⟩, rfl, ⟨h0, h1⟩, ⟨f0, f1⟩, fun hw => r1 fun n hn => hw n ?_⟩
    have hx1 := congrArg Prod.fst hx
    simp only at hx1
    rw [hx1]
    simp only [DataW.weights, Tryz.underlying25, List.map_cons, DataW.weightsEach]
    exact List.mem_append_right _ (List.mem_append_left _ hn)
end
end Go.Proofs.YtakblmonbeflmaaGreatDoor.L10
