/- What the program's Opposite and Mirror return: the operation of 'opp' and of 'mir', or none. No condition but that the number is an int. -/
import Derived.Test.YtiklgnokojkoeaaBoth
namespace Go.Proofs.Ytiklgnokojkoeaa
open Go.RowKit Go.Maps L3

/-- 'm[k] = v' of a map's literal, at the operation. -/
theorem wpList_insert_own {H : Type} {P : Program} (w : World) {ops : Array Oper} {rest : List Oper} {o : Oper} {a : Act} {Q : Exit → Act → World → Prop}
    (hg : o.guard = none) (m x v : Operand) (t : TypeId) (hop : o.op = Op.insert t m x v)
    (k e : TypeId) (K : Keyed P k) (ht : P.underlying t = some (.map k e)) (R : Value → Option (DataW H × List MemPlace)) (b n : Nat) (D : DataW H)
    (hm : a.eval m = .map (some b)) (hown : w.ownsMap P k R b n D) (hn : n < maxLen) (key val : Value) (kl : Lit) (hx : a.eval x = key) (hv : a.eval v = val) (hkey : keyOf P k key = some kl)
    (d : DataW H) (ps : List MemPlace) (hval : R val = some (d, ps))
    (hK : ∀ w', w'.ownsMap P k R b (n + 1) (D.put kl d) → w.grownBy w' (some b) → wpList P ops Q rest (a.put o.dst undef) w') :
    wpList P ops Q (o :: rest) a w := by
  refine wpList_plain hg fun K' hK' => ?_
  obtain ⟨w', hrun, r1, r2⟩ := hown.update K ht hn hkey hval
  unfold Oper.wp
  simp [execOp, hop, hm, hx, hv, hrun, Result.andThen]
  exact hK' _ _ (hK w' r1 r2)

/-- The pairs that the program lists. -/
def opL : List (Int × Int) := [(45, 49), (46, 53), (47, 52), (50, 55), (51, 54)]
def miL : List (Int × Int) := [(45, 45), (49, 49), (48, 48), (46, 52), (47, 53), (50, 54), (51, 55)]
def mapL : List (Int × Int) → DataW Unit := fun l => l.foldl (fun D p => D.put (ik p.1) (iv p.2)) (.map [])
theorem at_put {D : DataW Unit} (h : IsMap D) (x y d : Int) : (D.put (ik y) (iv d)).atKey (ik x) .nil = if x = y then iv d else D.atKey (ik x) .nil := by
  split
  · rename_i e; subst e; exact atKey_put_same h (show WideAt.IsKeyLit (ik x) from trivial) _ _
  · rename_i e; exact atKey_put_other (fun e2 => e (by simpa [ik] using e2)) _ _
/-- The value that a list of pairs gives a number: the last one. -/
def lst (x : Int) (l : List (Int × Int)) : DataW Unit := l.foldl (fun d p => if x = p.1 then iv p.2 else d) .nil
theorem at_fold (x : Int) : ∀ (l : List (Int × Int)) (D : DataW Unit), IsMap D → (l.foldl (fun D p => D.put (ik p.1) (iv p.2)) D).atKey (ik x) .nil = l.foldl (fun d p => if x = p.1 then iv p.2 else d) (D.atKey (ik x) .nil)
  | [], _, _ => rfl
  | p :: r, D, h => by
    rw [List.foldl_cons, List.foldl_cons, at_fold x r _ (h.put _ _), at_put h]
theorem at_map (x : Int) (l : List (Int × Int)) : (mapL l).atKey (ik x) .nil = lst x l := at_fold x l _ isMap_empty
theorem lst_mem (x c : Int) : ∀ (l : List (Int × Int)) (d : DataW Unit), l.foldl (fun d p => if x = p.1 then iv p.2 else d) d = iv c → (x, c) ∈ l ∨ d = iv c
  | [], _, h => .inr h
  | p :: r, d, h => by
    rcases lst_mem x c r _ h with h1 | h1
    · exact .inl (List.mem_cons_of_mem _ h1)
    · dsimp only at h1
      split at h1
      · rename_i e
        subst e
        refine .inl (List.mem_cons.2 (.inl ?_))
        have : p.2 = c := by simpa [iv] using h1
        rw [← this]
      · exact .inr h1
theorem at_mem {l : List (Int × Int)} {x c : Int} (h : (mapL l).atKey (ik x) .nil = iv c) : (x, c) ∈ l := by
  rw [at_map] at h
  rcases lst_mem x c l _ h with h1 | h1
  · exact h1
  · cases h1

/-- What a list of pairs must be, read off the list. -/
def OkL (q : Int → Option Int) (l : List (Int × Int)) : Prop := ∀ p ∈ l, (0 ≤ p.1 ∧ p.1 < 100) ∧ (0 ≤ p.2 ∧ p.2 < 100) ∧ q p.1 = some p.2 ∧ q p.2 = some p.1 ∧ q (p.1 + 11) = some (p.2 + 11) ∧ q (p.2 + 11) = some (p.1 + 11)
instance (q : Int → Option Int) (l : List (Int × Int)) : Decidable (OkL q l) := by unfold OkL; exact inferInstance
theorem pr_of {q : Int → Option Int} {l : List (Int × Int)} (h : OkL q l) : Pr q (mapL l) := fun x c hat => h (x, c) (at_mem hat)
theorem ok_op : OkL opp opL := by decide +kernel
theorem ok_mi : OkL mir miL := by decide +kernel
theorem at_op : ∀ p ∈ opL, (mapL opL).atKey (ik p.1) .nil = iv p.2 := by
  intro p hp
  rw [at_map]
  simp only [opL, List.mem_cons, List.not_mem_nil, or_false] at hp
  rcases hp with rfl | rfl | rfl | rfl | rfl <;> rfl
theorem at_mi : ∀ p ∈ miL, (mapL miL).atKey (ik p.1) .nil = iv p.2 := by
  intro p hp
  rw [at_map]
  simp only [miL, List.mem_cons, List.not_mem_nil, or_false] at hp
  rcases hp with rfl | rfl | rfl | rfl | rfl | rfl | rfl <;> rfl
/-- Every number that q knows stands in one of the four places of a pair. -/
def Cov (q : Int → Option Int) (l : List (Int × Int)) : Prop := ∀ op v, q op = some v → ∃ p ∈ l, op = p.1 ∨ op = p.2 ∨ op = p.1 + 11 ∨ op = p.2 + 11
theorem mv_in {f : Nat → Option Nat} {op v : Int} (h : mv f op = some v) : ∃ k : Nat, k < 22 ∧ op = 45 + (k : Int) := by
  unfold mv at h
  split at h
  · exact ⟨(op - 45).toNat, by omega, by omega⟩
  · split at h
    · exact ⟨(op - 45).toNat, by omega, by omega⟩
    · cases h
theorem cov_op_dec : ∀ k : Nat, k < 22 → (opp (45 + (k : Int))).isSome = true → (opL.any fun p => 45 + (k : Int) == p.1 || 45 + (k : Int) == p.2 || 45 + (k : Int) == p.1 + 11 || 45 + (k : Int) == p.2 + 11) = true := by decide +kernel
theorem cov_mi_dec : ∀ k : Nat, k < 22 → (mir (45 + (k : Int))).isSome = true → (miL.any fun p => 45 + (k : Int) == p.1 || 45 + (k : Int) == p.2 || 45 + (k : Int) == p.1 + 11 || 45 + (k : Int) == p.2 + 11) = true := by decide +kernel
theorem cov_op : Cov opp opL := by
  intro op v h
  obtain ⟨k, hk, rfl⟩ := mv_in h
  obtain ⟨p, hp, h2⟩ := List.any_eq_true.1 (cov_op_dec k hk (by rw [h]; rfl))
  exact ⟨p, hp, by simpa [or_assoc] using h2⟩
theorem cov_mi : Cov mir miL := by
  intro op v h
  obtain ⟨k, hk, rfl⟩ := mv_in h
  obtain ⟨p, hp, h2⟩ := List.any_eq_true.1 (cov_mi_dec k hk (by rw [h]; rfl))
  exact ⟨p, hp, by simpa [or_assoc] using h2⟩

/-- What a look-up in the map of both directions finds. -/
theorem look_fin {q : Int → Option Int} {l : List (Int × Int)} (hc : Cov q l) (hl : ∀ p ∈ l, (mapL l).atKey (ik p.1) .nil = iv p.2) {D : DataW Unit} (hM : Mp q D) (hD : Done (mapL l) D (fun _ => false)) (op : Int) :
    Maps.has D (ik op) = (q op).isSome ∧ D.atKey (ik op) (iv 0) = iv ((q op).getD 0) := by
  cases hq : q op with
  | none =>
    have h0 : Maps.has D (ik op) = false := by
      cases h : Maps.has D (ik op)
      · rfl
      · obtain ⟨c, h1, _⟩ := hM.2 op h
        rw [hq] at h1; cases h1
    exact ⟨h0, atKey_of_not_has h0 _⟩
  | some v =>
    obtain ⟨p, hp, h2⟩ := hc op v hq
    obtain ⟨f1, f2, f3, f4⟩ := hD p.1 p.2 (hl p hp) rfl
    have h0 : Maps.has D (ik op) = true := by
      rcases h2 with e | e | e | e <;> rw [e] <;> assumption
    obtain ⟨c, h1, h3⟩ := hM.2 op h0
    rw [hq] at h1
    cases h1
    exact ⟨h0, h3 _⟩

set_option maxHeartbeats 4000000 in
set_option maxRecDepth 100000 in
theorem opposite_at (op v : Int) (ok : Bool) (hw : (Lit.int .i64 op).wf = true) (h1 : (opp op).getD 0 = v) (h2 : (opp op).isSome = ok) (w : World) :
    Calls Try.prog 12 #[.int .i64 op] w fun e w' => e = .returned (.tuple #[.int .i64 v, .bool ok]) ∧ Below w.heap.size w w' := by
  have hmm := @run_makeMap Try.prog
  have wf (x : Int) (h0 : 0 ≤ x) (h1 : x < 1000) := wf_sm h0 h1
  have H1 := Lib.hid h1
  have H2 := Lib.hid h2
  clear h1 h2
  have h0 := World.ownsMap_made (H := Unit) w Try.prog 3 (plainElem Try.prog 3)
  have b0 : Below w.heap.size w (w.alloc (.map #[] 0)) := bnew _ _
  go_enter Try.func12, Try.ntmps12
  go_wp2_with (first
    | (go_at_call 26; ((with_reducible refine (both_any opp (mapL opL) _ _ _ h5 (pr_of ok_op) 5 (by kernel_rfl) (by simp)).mono ?_); rintro e w9 ⟨D, rfl, hD, b9, hM, hDn⟩; have hf := look_fin cov_op at_op hM hDn op))
    | (at_lookup; refine wpList_lookup_own_ok_int _ rfl _ _ 43 rfl 3 3 .i64 law3 Try.underlying43 Try.underlying3 (by kernel_rfl) _ 100 _ rfl hD _ _ rfl (keyOf_int_mk Try.underlying3 hw) ?_; intro c hat _; have hc : c = v := by (rw [hf.2, H1.out] at hat; cases hat; rfl))
    | (refine wpList_insert_own _ rfl _ _ _ 43 rfl 3 3 law3 Try.underlying43 _ w.heap.size _ _ rfl h0 (by unfold maxLen; omega) _ _ _ rfl rfl (keyOf_int_mk Try.underlying3 (wf _ (by decide) (by decide))) _ [] (plainElem_int Try.underlying3 (wf _ (by decide) (by decide))) ?_; intro w1 h1 g1)
    | (refine wpList_insert_own _ rfl _ _ _ 43 rfl 3 3 law3 Try.underlying43 _ w.heap.size _ _ rfl h1 (by unfold maxLen; omega) _ _ _ rfl rfl (keyOf_int_mk Try.underlying3 (wf _ (by decide) (by decide))) _ [] (plainElem_int Try.underlying3 (wf _ (by decide) (by decide))) ?_; intro w2 h2 g2)
    | (refine wpList_insert_own _ rfl _ _ _ 43 rfl 3 3 law3 Try.underlying43 _ w.heap.size _ _ rfl h2 (by unfold maxLen; omega) _ _ _ rfl rfl (keyOf_int_mk Try.underlying3 (wf _ (by decide) (by decide))) _ [] (plainElem_int Try.underlying3 (wf _ (by decide) (by decide))) ?_; intro w3 h3 g3)
    | (refine wpList_insert_own _ rfl _ _ _ 43 rfl 3 3 law3 Try.underlying43 _ w.heap.size _ _ rfl h3 (by unfold maxLen; omega) _ _ _ rfl rfl (keyOf_int_mk Try.underlying3 (wf _ (by decide) (by decide))) _ [] (plainElem_int Try.underlying3 (wf _ (by decide) (by decide))) ?_; intro w4 h4 g4)
    | (refine wpList_insert_own _ rfl _ _ _ 43 rfl 3 3 law3 Try.underlying43 _ w.heap.size _ _ rfl h4 (by unfold maxLen; omega) _ _ _ rfl rfl (keyOf_int_mk Try.underlying3 (wf _ (by decide) (by decide))) _ [] (plainElem_int Try.underlying3 (wf _ (by decide) (by decide))) ?_; intro w5 h5 g5)
    | go_in)
  go_ret2
  have c1 : Below w.heap.size w w1 := b0.grown g1 b0.size (fun i hi => by cases hi; exact Nat.le_refl _)
  have c2 : Below w.heap.size w w2 := c1.grown g2 c1.size (fun i hi => by cases hi; exact Nat.le_refl _)
  have c3 : Below w.heap.size w w3 := c2.grown g3 c2.size (fun i hi => by cases hi; exact Nat.le_refl _)
  have c4 : Below w.heap.size w w4 := c3.grown g4 c3.size (fun i hi => by cases hi; exact Nat.le_refl _)
  have c5 : Below w.heap.size w w5 := c4.grown g5 c4.size (fun i hi => by cases hi; exact Nat.le_refl _)
  rw [H2.out]
  exact ⟨rfl, bch c5 b9⟩
set_option maxHeartbeats 4000000 in
set_option maxRecDepth 100000 in
theorem mirror_at (op v : Int) (ok : Bool) (hw : (Lit.int .i64 op).wf = true) (h1 : (mir op).getD 0 = v) (h2 : (mir op).isSome = ok) (w : World) :
    Calls Try.prog 13 #[.int .i64 op] w fun e w' => e = .returned (.tuple #[.int .i64 v, .bool ok]) ∧ Below w.heap.size w w' := by
  have hmm := @run_makeMap Try.prog
  have wf (x : Int) (h0 : 0 ≤ x) (h1 : x < 1000) := wf_sm h0 h1
  have H1 := Lib.hid h1
  have H2 := Lib.hid h2
  clear h1 h2
  have h0 := World.ownsMap_made (H := Unit) w Try.prog 3 (plainElem Try.prog 3)
  have b0 : Below w.heap.size w (w.alloc (.map #[] 0)) := bnew _ _
  go_enter Try.func13, Try.ntmps13
  go_wp2_with (first
    | (go_at_call 26; ((with_reducible refine (both_any mir (mapL miL) _ _ _ h7 (pr_of ok_mi) 7 (by kernel_rfl) (by simp)).mono ?_); rintro e w9 ⟨D, rfl, hD, b9, hM, hDn⟩; have hf := look_fin cov_mi at_mi hM hDn op))
    | (at_lookup; refine wpList_lookup_own_ok_int _ rfl _ _ 43 rfl 3 3 .i64 law3 Try.underlying43 Try.underlying3 (by kernel_rfl) _ 100 _ rfl hD _ _ rfl (keyOf_int_mk Try.underlying3 hw) ?_; intro c hat _; have hc : c = v := by (rw [hf.2, H1.out] at hat; cases hat; rfl))
    | (refine wpList_insert_own _ rfl _ _ _ 43 rfl 3 3 law3 Try.underlying43 _ w.heap.size _ _ rfl h0 (by unfold maxLen; omega) _ _ _ rfl rfl (keyOf_int_mk Try.underlying3 (wf _ (by decide) (by decide))) _ [] (plainElem_int Try.underlying3 (wf _ (by decide) (by decide))) ?_; intro w1 h1 g1)
    | (refine wpList_insert_own _ rfl _ _ _ 43 rfl 3 3 law3 Try.underlying43 _ w.heap.size _ _ rfl h1 (by unfold maxLen; omega) _ _ _ rfl rfl (keyOf_int_mk Try.underlying3 (wf _ (by decide) (by decide))) _ [] (plainElem_int Try.underlying3 (wf _ (by decide) (by decide))) ?_; intro w2 h2 g2)
    | (refine wpList_insert_own _ rfl _ _ _ 43 rfl 3 3 law3 Try.underlying43 _ w.heap.size _ _ rfl h2 (by unfold maxLen; omega) _ _ _ rfl rfl (keyOf_int_mk Try.underlying3 (wf _ (by decide) (by decide))) _ [] (plainElem_int Try.underlying3 (wf _ (by decide) (by decide))) ?_; intro w3 h3 g3)
    | (refine wpList_insert_own _ rfl _ _ _ 43 rfl 3 3 law3 Try.underlying43 _ w.heap.size _ _ rfl h3 (by unfold maxLen; omega) _ _ _ rfl rfl (keyOf_int_mk Try.underlying3 (wf _ (by decide) (by decide))) _ [] (plainElem_int Try.underlying3 (wf _ (by decide) (by decide))) ?_; intro w4 h4 g4)
    | (refine wpList_insert_own _ rfl _ _ _ 43 rfl 3 3 law3 Try.underlying43 _ w.heap.size _ _ rfl h4 (by unfold maxLen; omega) _ _ _ rfl rfl (keyOf_int_mk Try.underlying3 (wf _ (by decide) (by decide))) _ [] (plainElem_int Try.underlying3 (wf _ (by decide) (by decide))) ?_; intro w5 h5 g5)
    | (refine wpList_insert_own _ rfl _ _ _ 43 rfl 3 3 law3 Try.underlying43 _ w.heap.size _ _ rfl h5 (by unfold maxLen; omega) _ _ _ rfl rfl (keyOf_int_mk Try.underlying3 (wf _ (by decide) (by decide))) _ [] (plainElem_int Try.underlying3 (wf _ (by decide) (by decide))) ?_; intro w6 h6 g6)
    | (refine wpList_insert_own _ rfl _ _ _ 43 rfl 3 3 law3 Try.underlying43 _ w.heap.size _ _ rfl h6 (by unfold maxLen; omega) _ _ _ rfl rfl (keyOf_int_mk Try.underlying3 (wf _ (by decide) (by decide))) _ [] (plainElem_int Try.underlying3 (wf _ (by decide) (by decide))) ?_; intro w7 h7 g7)
    | go_in)
  go_ret2
  have c1 : Below w.heap.size w w1 := b0.grown g1 b0.size (fun i hi => by cases hi; exact Nat.le_refl _)
  have c2 : Below w.heap.size w w2 := c1.grown g2 c1.size (fun i hi => by cases hi; exact Nat.le_refl _)
  have c3 : Below w.heap.size w w3 := c2.grown g3 c2.size (fun i hi => by cases hi; exact Nat.le_refl _)
  have c4 : Below w.heap.size w w4 := c3.grown g4 c3.size (fun i hi => by cases hi; exact Nat.le_refl _)
  have c5 : Below w.heap.size w w5 := c4.grown g5 c4.size (fun i hi => by cases hi; exact Nat.le_refl _)
  have c6 : Below w.heap.size w w6 := c5.grown g6 c5.size (fun i hi => by cases hi; exact Nat.le_refl _)
  have c7 : Below w.heap.size w w7 := c6.grown g7 c6.size (fun i hi => by cases hi; exact Nat.le_refl _)
  rw [H2.out]
  exact ⟨rfl, bch c7 b9⟩
end Go.Proofs.Ytiklgnokojkoeaa
