/- What a line's items are, and what reading them comes to, plain. Condition: none; that memory holds them is line_it's, for a line of at most 100000 bytes. -/
import Derived.Test.YtakblmonbeflmaaGreatDoorL10Ac
import Derived.Test.YtakblmonbeflmaaGreatDoorL10Ln
import Derived.Test.YtakblmonbeflmaaGreatDoorL9Eqv
namespace Go.Proofs.YtakblmonbeflmaaGreatDoor.L10
open Go.RowKit

/-- The item behind the labels. -/
def itI (t : ByteArray) (q : List ByteArray) : It × Int := if t = L9.mapT then (.mp (L9.dcV q).1, (L9.dcV q).2) else (.cd (L9.inV t q).1.x (L9.inV t q).1.tg (L9.inV t q).1.mp, (L9.inV t q).2)
theorem itI_itB (t : ByteArray) (q : List ByteArray) : L9.itB t q = ((itI t q).1.toV, (itI t q).2) := by
  unfold L9.itB itI
  split <;> rfl
/-- A line's items, and the error. -/
def itV (ts : List ByteArray) : List It × Int :=
  if (L9.lab [] ts).1 ≠ 0 then ([], 7) else
  match (L9.lab [] ts).2.2 with
  | [] => ((L9.lab [] ts).2.1.map .lb, 0)
  | t :: q => if L9.wdB t = false then ([], 2) else if (itI t q).2 ≠ 0 then ([], (itI t q).2) else ((L9.lab [] ts).2.1.map .lb ++ [(itI t q).1], 0)
def itL (s : ByteArray) : List It × Int := if 0 ≤ L8.bad s then ([], 2) else itV (L9.txB s)
theorem map_lb (l : List ByteArray) : l.map L9.lbV = (l.map It.lb).map It.toV := by rw [List.map_map]; rfl
theorem prV_itV (ts : List ByteArray) : L9.prV ts = ((itV ts).1.map It.toV, (itV ts).2) := by
  unfold L9.prV itV
  simp only
  by_cases h1 : (L9.lab [] ts).1 ≠ 0
  · rw [if_pos h1, if_pos h1]; rfl
  · rw [if_neg h1, if_neg h1]
    cases h0 : (L9.lab [] ts).2.2 with
    | nil => simp only [map_lb]
    | cons t q =>
      simp only
      rw [itI_itB]
      by_cases h2 : L9.wdB t = false
      · rw [if_pos h2, if_pos h2]; rfl
      · rw [if_neg h2, if_neg h2]
        by_cases h3 : (itI t q).2 ≠ 0
        · rw [if_pos h3, if_pos h3]; rfl
        · rw [if_neg h3, if_neg h3, List.map_append, map_lb]; rfl
theorem prL_itL (s : ByteArray) : L9.prL s = ((itL s).1.map It.toV, (itL s).2) := by
  unfold L9.prL itL
  split
  · rfl
  · exact prV_itV _
theorem line_it (s : ByteArray) (hs : s.size ≤ 100000) (w : World) (hT : L1.Wid w ∧ L2.Regs w) (l : List It) (er : Int) (h : itL s = (l, er)) : Calls Tryz.prog 54 #[.string s] w fun e w' => L9.LinP (l.map It.toV) er w e w' :=
  L9.line_at s hs w hT _ _ (by rw [prL_itL, h])

/-! ### names are short -/
theorem vd_sz {s : ByteArray} (h : L2.vd s = true) : s.size ≤ 32 := by
  unfold L2.vd at h
  simp only [Bool.and_eq_true, decide_eq_true_eq] at h
  exact h.1.1.1.2
def It.sz : It → Prop
  | .lb t => t.size ≤ 32
  | .mp d => d.nm.size ≤ 32
  | .cd _ tg m => tg.size ≤ 32 ∧ m.size ≤ 32
theorem vd_or (t : ByteArray) : (if L2.vd t then t else L9.eB).size ≤ 32 := by
  split
  · exact vd_sz ‹_›
  · decide
theorem stp_sz (k : L9.Rk) (s : L9.St) (h : s.tg.size ≤ 32 ∧ s.mp.size ≤ 32) : (L9.stp k s).1.tg.size ≤ 32 ∧ (L9.stp k s).1.mp.size ≤ 32 := by
  cases k <;> unfold L9.stp <;> simp only
  case tgt => exact ⟨vd_or _, h.2⟩
  case mpn => exact ⟨h.1, vd_or _⟩
  case hlp => split <;> exact h
  case off => split <;> exact h
  all_goals exact h
theorem runs_sz : ∀ (ks : List L9.Rk) (s : L9.St), (s.tg.size ≤ 32 ∧ s.mp.size ≤ 32) → (L9.runs ks s).1.tg.size ≤ 32 ∧ (L9.runs ks s).1.mp.size ≤ 32
  | [], _, h => h
  | k :: r, s, h => by
    rw [L9.runs]
    split
    · exact stp_sz k s h
    · exact runs_sz r _ (stp_sz k s h)
theorem inV_sz (t : ByteArray) (q : List ByteArray) : (L9.inV t q).1.tg.size ≤ 32 ∧ (L9.inV t q).1.mp.size ≤ 32 := by
  unfold L9.inV
  split
  · exact ⟨by decide, by decide⟩
  split
  · exact ⟨by decide, by decide⟩
  · unfold L9.inR
    simp only
    split
    · exact ⟨by show (⟨#[]⟩ : ByteArray).size ≤ 32; decide, by show (⟨#[]⟩ : ByteArray).size ≤ 32; decide⟩
    · exact runs_sz _ _ ⟨by show (⟨#[]⟩ : ByteArray).size ≤ 32; decide, by show (⟨#[]⟩ : ByteArray).size ≤ 32; decide⟩
theorem dcV_sz (ts : List ByteArray) : (L9.dcV ts).1.nm.size ≤ 32 := by
  unfold L9.dcV
  split
  · show (⟨#[]⟩ : ByteArray).size ≤ 32; decide
  split
  · show (⟨#[]⟩ : ByteArray).size ≤ 32; decide
  split
  · show (⟨#[]⟩ : ByteArray).size ≤ 32; decide
  split
  · show (⟨#[]⟩ : ByteArray).size ≤ 32; decide
  · rename_i h _ _
    refine vd_sz ?_
    rcases L9.naV_two (L9.g0 ts 0) with ⟨_, hv⟩ | ⟨h7, _⟩
    · exact hv
    · exact absurd (by rw [h7]; decide) h
theorem lab_sz : ∀ (ts acc : List ByteArray), (∀ t ∈ acc, t.size ≤ 32) → ∀ t ∈ (L9.lab acc ts).2.1, t.size ≤ 32
  | [], acc, h => by rw [L9.lab]; exact h
  | [_], acc, h => by rw [L9.lab]; exact h
  | a :: b :: r, acc, h => by
    rw [L9.lab]
    split
    · split
      · refine lab_sz r (acc ++ [a]) fun t ht => ?_
        rcases List.mem_append.1 ht with ht | ht
        · exact h t ht
        · obtain rfl : t = a := by simpa using ht
          exact vd_sz ‹_›
      · exact h
    · exact h
theorem itI_sz (t : ByteArray) (q : List ByteArray) : (itI t q).1.sz := by
  unfold itI
  split
  · exact dcV_sz q
  · exact inV_sz t q
theorem itL_sz (s : ByteArray) : (∀ i ∈ (itL s).1, i.sz) ∧ (itL s).1.length ≤ s.size + 1 := by
  unfold itL
  split
  · exact ⟨by simp, by simp⟩
  unfold itV
  have hl : ∀ i ∈ (L9.lab [] (L9.txB s)).2.1.map It.lb, i.sz := fun i hi => by
    obtain ⟨t, ht, rfl⟩ := List.mem_map.1 hi
    exact lab_sz _ [] (by simp) t ht
  have hn : (L9.lab [] (L9.txB s)).2.1.length ≤ s.size := by
    have h1 := L9.lab_len (L9.txB s) []
    have h2 := (L9.txB_tok s).1
    simp only [List.length_nil, Nat.zero_add] at h1
    omega
  split
  · exact ⟨by simp, by simp⟩
  split
  · exact ⟨hl, by rw [List.length_map]; omega⟩
  · rename_i t q _
    split
    · exact ⟨by simp, by simp⟩
    split
    · exact ⟨by simp, by simp⟩
    · refine ⟨fun i hi => ?_, by rw [List.length_append, List.length_map]; simp; omega⟩
      rcases List.mem_append.1 hi with hi | hi
      · exact hl i hi
      · obtain rfl : i = (itI t q).1 := by simpa using hi
        exact itI_sz t q

/-! ### reading -/
def foldI : Rd → List It → Rd × Int
  | s, [] => (s, 0)
  | s, .lb t :: r => foldI (s.lab t) r
  | s, .mp d :: r => if s.labs ≠ [] ∨ s.stmts ≠ [] then (s, 8) else foldI (s.map d) r
  | s, .cd x tg m :: r => foldI (s.cod x tg m) r
/-- A line. -/
def rdL (s : Rd) (t : ByteArray) : Rd × Int := if (itL t).2 ≠ 0 then ({ s with line := s.line + 1 }, (itL t).2) else foldI { s with line := s.line + 1 } (itL t).1
/-- The reader has read no more than so much; its names are short; its lines ascend. -/
structure Rd.Ok (s : Rd) (m : Nat) : Prop where
  maps : s.maps.length ≤ m
  ml : s.ml.length = s.maps.length
  stmts : s.stmts.length ≤ m
  sl : s.sl.length = s.stmts.length
  labs : (s.stmts.flatMap (fun s => s.labs)).length + s.labs.length ≤ m
  nm : ∀ d ∈ s.maps, d.nm.size ≤ 32
  lb : (∀ x ∈ s.stmts, ∀ t ∈ x.labs, t.size ≤ 32) ∧ ∀ t ∈ s.labs, t.size ≤ 32
  tg : ∀ x ∈ s.stmts, x.tg.size ≤ 32 ∧ x.mp.size ≤ 32
  asc : s.sl.Pairwise (· ≤ ·)
  le : ∀ i ∈ s.sl, i ≤ s.line
  line : 0 ≤ s.line
theorem Rd.Ok.mono {s : Rd} {m n : Nat} (h : s.Ok m) (hn : m ≤ n) : s.Ok n := ⟨Nat.le_trans h.maps hn, h.ml, Nat.le_trans h.stmts hn, h.sl, Nat.le_trans h.labs hn, h.nm, h.lb, h.tg, h.asc, h.le, h.line⟩
theorem Rd.Ok.z : Rd.z.Ok 0 := ⟨Nat.le_refl _, rfl, Nat.le_refl _, rfl, Nat.le_refl _, fun d h => (by cases h), ⟨fun d h => (by cases h), fun d h => (by cases h)⟩, fun d h => (by cases h), List.Pairwise.nil, fun d h => (by cases h), Int.le_refl _⟩
theorem Rd.Ok.lineUp {s : Rd} {m : Nat} (h : s.Ok m) : ({ s with line := s.line + 1 } : Rd).Ok m := ⟨h.maps, h.ml, h.stmts, h.sl, h.labs, h.nm, h.lb, h.tg, h.asc, fun i hi => by have := h.le i hi; show i ≤ s.line + 1; omega, by have := h.line; show 0 ≤ s.line + 1; omega⟩
theorem Rd.Ok.addLab {s : Rd} {m : Nat} (h : s.Ok m) {t : ByteArray} (ht : t.size ≤ 32) : (s.lab t).Ok (m + 1) :=
  ⟨Nat.le_succ_of_le h.maps, h.ml, Nat.le_succ_of_le h.stmts, h.sl, by have := h.labs; show _ + (s.labs ++ [t]).length ≤ m + 1; rw [List.length_append]; simp only [List.length_cons, List.length_nil]; show (s.stmts.flatMap (fun s => s.labs)).length + _ ≤ _; omega, h.nm,
   ⟨h.lb.1, fun u hu => by rcases List.mem_append.1 hu with hu | hu; · exact h.lb.2 u hu
                           · obtain rfl : u = t := by simpa using hu
                             exact ht⟩, h.tg, h.asc, h.le, h.line⟩
theorem Rd.Ok.addMap {s : Rd} {m : Nat} (h : s.Ok m) {d : L9.Df} (hd : d.nm.size ≤ 32) : (s.map d).Ok (m + 1) :=
  ⟨by have := h.maps; show (s.maps ++ [d]).length ≤ m + 1; simp; omega, by show (s.ml ++ [s.line]).length = (s.maps ++ [d]).length; simp [h.ml], Nat.le_succ_of_le h.stmts, h.sl, Nat.le_succ_of_le h.labs,
   fun u hu => by rcases List.mem_append.1 hu with hu | hu; · exact h.nm u hu
                  · obtain rfl : u = d := by simpa using hu
                    exact hd, h.lb, h.tg, h.asc, h.le, h.line⟩
theorem Rd.Ok.addCod {s : Rd} {m : Nat} (h : s.Ok m) {x : L9.Ins} {tg mp : ByteArray} (ht : tg.size ≤ 32 ∧ mp.size ≤ 32) : (s.cod x tg mp).Ok (m + 1) := by
  refine ⟨Nat.le_succ_of_le h.maps, h.ml, ?_, ?_, ?_, h.nm, ⟨fun y hy => ?_, fun t ht => by cases ht⟩, fun y hy => ?_, ?_, ?_, h.line⟩
  · have := h.stmts; show (s.stmts ++ [_]).length ≤ m + 1; simp; omega
  · show (s.sl ++ [s.line]).length = (s.stmts ++ [_]).length; simp [h.sl]
  · have := h.labs
    show ((s.stmts ++ [(⟨s.labs, x, tg, mp⟩ : Stm)]).flatMap (fun s => s.labs)).length + 0 ≤ m + 1
    rw [List.flatMap_append, List.length_append]
    simp only [List.flatMap_cons, List.flatMap_nil, List.append_nil]
    omega
  · rcases List.mem_append.1 hy with hy | hy
    · exact h.lb.1 y hy
    · obtain rfl : y = ⟨s.labs, x, tg, mp⟩ := by simpa using hy
      exact h.lb.2
  · rcases List.mem_append.1 hy with hy | hy
    · exact h.tg y hy
    · obtain rfl : y = ⟨s.labs, x, tg, mp⟩ := by simpa using hy
      exact ht
  · show (s.sl ++ [s.line]).Pairwise (· ≤ ·)
    rw [List.pairwise_append]
    exact ⟨h.asc, List.pairwise_singleton _ _, fun a ha b hb => by obtain rfl : b = s.line := by simpa using hb
                                                                   exact h.le a ha⟩
  · intro i hi
    rcases List.mem_append.1 hi with hi | hi
    · exact h.le i hi
    · obtain rfl : i = s.line := by simpa using hi
      exact Int.le_refl _
theorem foldI_ok : ∀ (l : List It) (s : Rd) (m : Nat), s.Ok m → (∀ i ∈ l, i.sz) → (foldI s l).1.Ok (m + l.length)
  | [], _, _, h, _ => h
  | .lb t :: r, s, m, h, hl => by
    rw [foldI]
    have := foldI_ok r _ (m + 1) (h.addLab (hl (.lb t) (by simp))) (fun i hi => hl i (by simp [hi]))
    exact this.mono (by simp only [List.length_cons]; omega)
  | .mp d :: r, s, m, h, hl => by
    rw [foldI]
    split
    · exact h.mono (by simp)
    · exact (foldI_ok r _ (m + 1) (h.addMap (hl (.mp d) (by simp))) (fun i hi => hl i (by simp [hi]))).mono (by simp only [List.length_cons]; omega)
  | .cd x tg m' :: r, s, m, h, hl => by
    rw [foldI]
    exact (foldI_ok r _ (m + 1) (h.addCod (hl (.cd x tg m') (by simp))) (fun i hi => hl i (by simp [hi]))).mono (by simp only [List.length_cons]; omega)
theorem rdL_ok (s : Rd) (t : ByteArray) (m : Nat) (h : s.Ok m) : (rdL s t).1.Ok (m + (t.size + 1)) := by
  unfold rdL
  have hs := itL_sz t
  split
  · exact h.lineUp.mono (by omega)
  · exact (foldI_ok _ _ m h.lineUp hs.1).mono (by omega)
/-- A line's number: no longer than the lines so far. -/
theorem foldI_line : ∀ (l : List It) (s : Rd), (foldI s l).1.line = s.line
  | [], _ => rfl
  | .lb _ :: r, s => by rw [foldI]; exact foldI_line r _
  | .mp d :: r, s => by
    rw [foldI]
    split
    · rfl
    · exact foldI_line r _
  | .cd x tg m :: r, s => by rw [foldI]; exact foldI_line r _
theorem rdL_line (s : Rd) (t : ByteArray) : (rdL s t).1.line = s.line + 1 := by
  unfold rdL
  split
  · rfl
  · exact foldI_line _ _
end Go.Proofs.YtakblmonbeflmaaGreatDoor.L10
