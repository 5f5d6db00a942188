/- The labels of a program, plain; what the program's Labels and the reference's Label return. Condition: memory holds the program, which is small. -/
import Derived.Test.YtakblmonbeflmaaGreatDoorL10Sam
import Derived.Test.YtakblmonbeflmaaGreatDoorL10Fb
section
namespace Go.Proofs.YtakblmonbeflmaaGreatDoor.L10
open Go.RowKit Go.Maps

/-- The labels of statement k. -/
def labsAt (l : List Stm) (k : Nat) : List ByteArray := (l[k]?.map (fun s => s.labs)).getD []
theorem labsAt_get (l : List Stm) (k : Nat) (h : k < l.length) : labsAt l k = l[k].labs := by simp [labsAt, List.getElem?_eq_getElem h]
/-- The last statement below k with a label, or -1. -/
def lbK (l : List Stm) (s : ByteArray) : Nat → Int
  | 0 => -1
  | k + 1 => if L2.on (labsAt l k) s then (k : Int) else lbK l s k
theorem lbK_lt (l : List Stm) (s : ByteArray) : ∀ k, -1 ≤ lbK l s k ∧ lbK l s k < k
  | 0 => by simp [lbK]
  | k + 1 => by
    have := lbK_lt l s k
    rw [lbK]
    split <;> omega
theorem lbK_in (l : List Stm) (s : ByteArray) : ∀ n k, k < n → L2.on (labsAt l k) s = true → ∃ m, m < n ∧ lbK l s n = (m : Int) ∧ L2.on (labsAt l m) s = true
  | 0, k, h, _ => by omega
  | n + 1, k, h, hon => by
    rw [lbK]
    by_cases hn : L2.on (labsAt l n) s = true
    · rw [if_pos hn]; exact ⟨n, by omega, rfl, hn⟩
    · rw [if_neg hn]
      have : k ≠ n := by rintro rfl; exact hn hon
      obtain ⟨m, h1, h2, h3⟩ := lbK_in l s n k (by omega) hon
      exact ⟨m, by omega, h2, h3⟩
/-- Each label with its statement. -/
def prs : Nat → List Stm → List (ByteArray × Nat)
  | _, [] => []
  | i, s :: r => s.labs.map (fun x => (x, i)) ++ prs (i + 1) r
theorem prs_app : ∀ (a b : List Stm) (i : Nat), prs i (a ++ b) = prs i a ++ prs (i + a.length) b
  | [], b, i => by simp [prs]
  | s :: r, b, i => by
    rw [List.cons_append, prs, prs, prs_app r b (i + 1), List.append_assoc, List.length_cons, show i + 1 + r.length = i + (r.length + 1) by omega]
theorem prs_snoc (l : List Stm) (k : Nat) (h : k < l.length) : prs 0 (l.take (k + 1)) = prs 0 (l.take k) ++ (labsAt l k).map (fun x => (x, k)) := by
  rw [List.take_add_one, List.getElem?_eq_getElem h, Option.toList, prs_app, labsAt_get l k h]
  simp only [prs, List.append_nil, List.length_take, Nat.zero_add]
  rw [Nat.min_eq_left (by omega)]
theorem txk (x : ByteArray) : WideAt.IsKeyLit (L2.txt x) := trivial
def mpF (m : DataW Unit) (y : ByteArray × Nat) : DataW Unit := m.put (L2.txt y.1) (.lit (.int .i64 (y.2 : Int)))
/-- The map of some labels. -/
def Mp (L : List (ByteArray × Nat)) : DataW Unit := L.foldl mpF (.map [])
theorem Mp_snoc (L : List (ByteArray × Nat)) (y : ByteArray × Nat) : Mp (L ++ [y]) = (Mp L).put (L2.txt y.1) (.lit (.int .i64 (y.2 : Int))) := by simp [Mp, mpF, List.foldl_append]
theorem tidy_mpF : ∀ (L : List (ByteArray × Nat)) (m : DataW Unit), Tidy m → Tidy (L.foldl mpF m)
  | [], _, h => h
  | _ :: r, _, h => tidy_mpF r _ (h.put (txk _) _)
theorem on_cons (x s : ByteArray) (r : List ByteArray) : L2.on (x :: r) s = (decide (x = s) || L2.on r s) := rfl
theorem fold_labs (k : Nat) (s : ByteArray) : ∀ (labs : List ByteArray) (m : DataW Unit), Tidy m →
    has ((labs.map (fun x => (x, k))).foldl mpF m) (L2.txt s) = (has m (L2.txt s) || L2.on labs s) ∧
    ∀ z, ((labs.map (fun x => (x, k))).foldl mpF m).atKey (L2.txt s) z = if L2.on labs s then .lit (.int .i64 (k : Int)) else m.atKey (L2.txt s) z
  | [], m, _ => by simp [L2.on]
  | x :: r, m, h => by
    obtain ⟨h1, h2⟩ := fold_labs k s r (mpF m (x, k)) (h.put (txk _) _)
    rw [List.map_cons, List.foldl_cons]
    refine ⟨?_, fun z => ?_⟩
    · rw [h1, on_cons]
      by_cases e : x = s
      · subst e
        rw [mpF, has_put_same h.isMap (txk _)]
        simp
      · rw [mpF, has_put_other (by intro e'; exact e (L2.txt_inj e').symm)]
        simp [e]
    · rw [h2, on_cons]
      by_cases hr : L2.on r s = true
      · rw [if_pos hr, hr, Bool.or_true, if_pos rfl]
      · rw [if_neg hr]
        have hr : L2.on r s = false := by simpa using hr
        rw [hr, Bool.or_false]
        by_cases e : x = s
        · subst e
          rw [mpF, atKey_put_same h.isMap (txk _)]
          simp
        · rw [mpF, atKey_put_other (by intro e'; exact e (L2.txt_inj e').symm)]
          simp [e]
/-- What the map holds of a label. -/
theorem Mp_at (l : List Stm) (s : ByteArray) : ∀ k, k ≤ l.length → has (Mp (prs 0 (l.take k))) (L2.txt s) = decide (0 ≤ lbK l s k) ∧ (0 ≤ lbK l s k → ∀ z, (Mp (prs 0 (l.take k))).atKey (L2.txt s) z = .lit (.int .i64 (lbK l s k)))
  | 0, _ => by simp [lbK, Mp, prs, has]
  | k + 1, hk => by
    obtain ⟨h1, h2⟩ := Mp_at l s k (by omega)
    rw [prs_snoc l k (by omega), Mp, List.foldl_append]
    obtain ⟨h3, h4⟩ := fold_labs k s (labsAt l k) (Mp (prs 0 (l.take k))) (tidy_mpF _ _ tidy_empty)
    unfold Mp at h1 h2 h3 h4
    rw [lbK]
    refine ⟨?_, fun hp z => ?_⟩
    · rw [h3, h1]
      by_cases ho : L2.on (labsAt l k) s = true
      · rw [if_pos ho, ho]; simp
      · rw [if_neg ho]
        have ho : L2.on (labsAt l k) s = false := by simpa using ho
        rw [ho, Bool.or_false]
    · rw [h4]
      by_cases ho : L2.on (labsAt l k) s = true
      · rw [if_pos ho, if_pos ho]
      · rw [if_neg ho] at hp ⊢
        rw [if_neg ho]
        exact h2 hp z
/-- The labels, each once. -/
def kyF (K : List ByteArray) (y : ByteArray × Nat) : List ByteArray := if L2.on K y.1 then K else K ++ [y.1]
theorem size_ky : ∀ (L : List (ByteArray × Nat)) (m : DataW Unit) (K : List ByteArray), Tidy m → (∀ s, has m (L2.txt s) = L2.on K s) → size m = K.length → size (L.foldl mpF m) = (L.foldl kyF K).length
  | [], _, _, _, _, h => h
  | y :: r, m, K, ht, hh, hs => by
    rw [List.foldl_cons, List.foldl_cons]
    refine size_ky r _ _ (ht.put (txk _) _) (fun s => ?_) ?_
    · unfold mpF kyF
      by_cases e : y.1 = s
      · subst e
        rw [has_put_same ht.isMap (txk _)]
        split
        · rename_i h; rw [h]
        · simp [L2.on]
      · rw [has_put_other (by intro e'; exact e (L2.txt_inj e').symm), hh]
        split
        · rfl
        · simp [L2.on, e]
    · unfold mpF kyF
      rw [size_put ht, hh, hs]
      split
      · rfl
      · simp
theorem ky_mem : ∀ (L : List (ByteArray × Nat)) (K : List ByteArray) (s : ByteArray), s ∈ L.foldl kyF K ↔ s ∈ K ∨ ∃ y ∈ L, y.1 = s
  | [], K, s => by simp
  | y :: r, K, s => by
    rw [List.foldl_cons, ky_mem r]
    unfold kyF
    split
    · rename_i h
      have h := (L2.on_mem _ _).1 h
      constructor
      · rintro (h1 | ⟨z, hz, e⟩)
        · exact .inl h1
        · exact .inr ⟨z, by simp [hz], e⟩
      · rintro (h1 | ⟨z, hz, e⟩)
        · exact .inl h1
        · rcases List.mem_cons.1 hz with rfl | hz
          · exact .inl (e ▸ h)
          · exact .inr ⟨z, hz, e⟩
    · constructor
      · rintro (h1 | ⟨z, hz, e⟩)
        · rcases List.mem_append.1 h1 with h1 | h1
          · exact .inl h1
          · exact .inr ⟨y, by simp, by simpa using (List.mem_singleton.1 h1).symm⟩
        · exact .inr ⟨z, by simp [hz], e⟩
      · rintro (h1 | ⟨z, hz, e⟩)
        · exact .inl (by simp [h1])
        · rcases List.mem_cons.1 hz with rfl | hz
          · exact .inl (by simp [e])
          · exact .inr ⟨z, hz, e⟩
theorem ky_nodup : ∀ (L : List (ByteArray × Nat)) (K : List ByteArray), K.Nodup → (L.foldl kyF K).Nodup
  | [], _, h => h
  | y :: r, K, h => by
    rw [List.foldl_cons]
    refine ky_nodup r _ ?_
    unfold kyF
    split
    · exact h
    · rename_i hn
      rw [List.nodup_append]
      refine ⟨h, (by simp), fun a ha b hb => ?_⟩
      obtain rfl := List.mem_singleton.1 hb
      rintro rfl
      exact hn ((L2.on_mem _ _).2 ha)
theorem nodup_le : ∀ (a b : List ByteArray), a.Nodup → (∀ x ∈ a, x ∈ b) → a.length ≤ b.length
  | [], _, _, _ => Nat.zero_le _
  | x :: r, b, hn, hs => by
    obtain ⟨hx, hr⟩ := List.nodup_cons.1 hn
    obtain ⟨p, q, rfl⟩ := List.append_of_mem (hs x (by simp))
    have := nodup_le r (p ++ q) hr fun y hy => by
      have h1 := hs y (by simp [hy])
      rcases List.mem_append.1 h1 with h1 | h1
      · exact List.mem_append_left _ h1
      · rcases List.mem_cons.1 h1 with rfl | h1
        · exact absurd hy hx
        · exact List.mem_append_right _ h1
    simp only [List.length_append, List.length_cons] at this ⊢
    omega
/-! ### what the law counts -/
def ctB (l : List Stm) (k : Nat) (labs : List ByteArray) (j : Nat) (x : ByteArray) : Bool := decide (lbK l x l.length = (k : Int)) && !L2.on (labs.take j) x
def clI (l : List Stm) (k : Nat) (labs : List ByteArray) : Nat → List ByteArray
  | 0 => []
  | j + 1 => clI l k labs j ++ (match labs[j]? with | some x => if ctB l k labs j x then [x] else [] | none => [])
def clO (l : List Stm) : Nat → List ByteArray
  | 0 => []
  | k + 1 => clO l k ++ clI l k (labsAt l k) (labsAt l k).length
theorem clI_mem (l : List Stm) (k : Nat) (labs : List ByteArray) (x : ByteArray) : ∀ j, j ≤ labs.length → (x ∈ clI l k labs j ↔ x ∈ labs.take j ∧ lbK l x l.length = (k : Int))
  | 0, _ => by simp [clI]
  | j + 1, hj => by
    have ih := clI_mem l k labs x j (by omega)
    have hjl : j < labs.length := by omega
    rw [clI, List.getElem?_eq_getElem hjl, List.take_add_one, List.getElem?_eq_getElem hjl, Option.toList, List.mem_append, List.mem_append, ih]
    by_cases hc : ctB l k labs j labs[j] = true
    · simp only [hc, if_true]
      have hc2 : lbK l labs[j] l.length = (k : Int) := by
        simp only [ctB, Bool.and_eq_true, decide_eq_true_eq] at hc
        exact hc.1
      constructor
      · rintro (⟨h1, h2⟩ | h)
        · exact ⟨.inl h1, h2⟩
        · obtain rfl := List.mem_singleton.1 h
          exact ⟨.inr (by simp), hc2⟩
      · rintro ⟨h1 | h1, h2⟩
        · exact .inl ⟨h1, h2⟩
        · exact .inr h1
    · have hc : ctB l k labs j labs[j] = false := by simpa using hc
      simp only [hc, Bool.false_eq_true, if_false]
      constructor
      · rintro (⟨h1, h2⟩ | h)
        · exact ⟨.inl h1, h2⟩
        · cases h
      · rintro ⟨h1 | h1, h2⟩
        · exact .inl ⟨h1, h2⟩
        · obtain rfl := List.mem_singleton.1 h1
          by_cases ho : L2.on (labs.take j) labs[j] = true
          · exact .inl ⟨(L2.on_mem _ _).1 ho, h2⟩
          · exfalso
            have ho : L2.on (labs.take j) labs[j] = false := by simpa using ho
            simp [ctB, h2, ho] at hc
theorem clI_nodup (l : List Stm) (k : Nat) (labs : List ByteArray) : ∀ j, j ≤ labs.length → (clI l k labs j).Nodup
  | 0, _ => by simp [clI]
  | j + 1, hj => by
    have hjl : j < labs.length := by omega
    rw [clI, List.getElem?_eq_getElem hjl, List.nodup_append]
    by_cases hc : ctB l k labs j labs[j] = true
    · simp only [hc, if_true]
      refine ⟨clI_nodup l k labs j (by omega), by simp, fun a ha b hb => ?_⟩
      obtain rfl := List.mem_singleton.1 hb
      rintro rfl
      have := ((clI_mem l k labs _ j (by omega)).1 ha).1
      have := (L2.on_mem _ _).2 this
      simp [ctB, this] at hc
    · have hc : ctB l k labs j labs[j] = false := by simpa using hc
      simp only [hc, Bool.false_eq_true, if_false]
      exact ⟨clI_nodup l k labs j (by omega), by simp, fun a ha b hb => by cases hb⟩
theorem clO_mem (l : List Stm) (x : ByteArray) : ∀ m, x ∈ clO l m ↔ ∃ k, k < m ∧ x ∈ labsAt l k ∧ lbK l x l.length = (k : Int)
  | 0 => by simp [clO]
  | m + 1 => by
    rw [clO, List.mem_append, clO_mem l x m, clI_mem l m _ x _ (Nat.le_refl _), List.take_length]
    constructor
    · rintro (⟨k, h1, h2, h3⟩ | ⟨h1, h2⟩)
      · exact ⟨k, by omega, h2, h3⟩
      · exact ⟨m, by omega, h1, h2⟩
    · rintro ⟨k, h1, h2, h3⟩
      by_cases e : k = m
      · subst e; exact .inr ⟨h2, h3⟩
      · exact .inl ⟨k, by omega, h2, h3⟩
theorem clO_nodup (l : List Stm) : ∀ m, (clO l m).Nodup
  | 0 => by simp [clO]
  | m + 1 => by
    rw [clO, List.nodup_append]
    refine ⟨clO_nodup l m, clI_nodup l m _ _ (Nat.le_refl _), fun a ha b hb => ?_⟩
    rintro rfl
    obtain ⟨k, h1, h2, h3⟩ := (clO_mem l a m).1 ha
    have := ((clI_mem l m _ a _ (Nat.le_refl _)).1 hb).2
    rw [h3] at this
    omega
theorem prs_mem (l : List Stm) (x : ByteArray) : ∀ m, m ≤ l.length → ((∃ y ∈ prs 0 (l.take m), y.1 = x) ↔ ∃ k, k < m ∧ x ∈ labsAt l k)
  | 0, _ => by simp [prs]
  | m + 1, hm => by
    rw [prs_snoc l m (by omega)]
    have ih := prs_mem l x m (by omega)
    constructor
    · rintro ⟨y, hy, e⟩
      rcases List.mem_append.1 hy with hy | hy
      · obtain ⟨k, h1, h2⟩ := ih.1 ⟨y, hy, e⟩
        exact ⟨k, by omega, h2⟩
      · obtain ⟨z, hz, rfl⟩ := List.mem_map.1 hy
        exact ⟨m, by omega, by rw [← e]; exact hz⟩
    · rintro ⟨k, h1, h2⟩
      by_cases e : k = m
      · subst e
        exact ⟨(x, k), List.mem_append_right _ (List.mem_map.2 ⟨x, h2, rfl⟩), rfl⟩
      · obtain ⟨y, hy, e⟩ := ih.2 ⟨k, by omega, h2⟩
        exact ⟨y, List.mem_append_left _ hy, e⟩
/-- The map has as many entries as the law counts. -/
theorem size_cl (l : List Stm) : size (Mp (prs 0 l)) = (clO l l.length).length := by
  have h1 := size_ky (prs 0 l) (.map []) [] tidy_empty (fun s => by simp [has, L2.on]) (by simp [size])
  rw [Mp, h1]
  have hp := fun x => prs_mem l x l.length (Nat.le_refl _)
  rw [List.take_length] at hp
  apply Nat.le_antisymm
  · refine nodup_le _ _ (ky_nodup _ _ List.nodup_nil) fun x hx => ?_
    rcases (ky_mem _ _ _).1 hx with h | h
    · cases h
    · obtain ⟨k, h1, h2⟩ := (hp x).1 h
      obtain ⟨m, h3, h4, h5⟩ := lbK_in l x l.length k h1 ((L2.on_mem _ _).2 h2)
      exact (clO_mem l x _).2 ⟨m, h3, (L2.on_mem _ _).1 h5, h4⟩
  · refine nodup_le _ _ (clO_nodup l _) fun x hx => ?_
    obtain ⟨k, h1, h2, _⟩ := (clO_mem l x _).1 hx
    exact (ky_mem _ _ _).2 (.inr ((hp x).2 ⟨k, h1, h2⟩))
end Go.Proofs.YtakblmonbeflmaaGreatDoor.L10
end
section
namespace Go.Proofs.YtakblmonbeflmaaGreatDoor.L10
open Go.RowKit Go.Maps
attribute [local go_sem] Oper.semAt_some

/-- Labels that lie in a map of the call's own. -/
abbrev MapAt (w : World) (g n : Nat) (L : List (ByteArray × Nat)) : Prop := w.ownsMap Tryz.prog 9 (plainElem Tryz.prog 3) g n (Mp L)
theorem zeroI (w : World) : (zeroValue 3).run Tryz.prog w = .ok (.int .i64 0) w := by kernel_rfl
theorem MapAt.below {w w' : World} {g n : Nat} {L : List (ByteArray × Nat)} (h : MapAt w g n L) (hb : Below w.heap.size w w') : MapAt w' g n L := h.kept (gr_of hb none) (by simp)
/-- What lies in memory while the labels are walked. -/
def LI (w W : World) (m : Nat) (L : List (ByteArray × Nat)) : Prop := ∃ n, n ≤ m ∧ MapAt W (w.heap.size + 1) n L ∧ Below w.heap.size w W
theorem LI.up {w W W' : World} {m : Nat} {L : List (ByteArray × Nat)} (h : LI w W m L) (hb : Below W.heap.size W W') : LI w W' m L := by
  obtain ⟨n, h1, h2, h3⟩ := h
  exact ⟨n, h1, h2.below hb, L2.bch h3 hb⟩
theorem LI.le {w W : World} {m m' : Nat} {L : List (ByteArray × Nat)} (h : LI w W m L) (hm : m ≤ m') : LI w W m' L := by
  obtain ⟨n, h1, h2⟩ := h
  exact ⟨n, Nat.le_trans h1 hm, h2⟩
theorem pl_snoc (PL : List (ByteArray × Nat)) (l : List ByteArray) (k j : Nat) (h : j < l.length) : PL ++ (l.take (j + 1)).map (fun x => (x, k)) = (PL ++ (l.take j).map (fun x => (x, k))) ++ [(l[j], k)] := by
  rw [List.take_add_one, List.getElem?_eq_getElem h, Option.toList, List.map_append, List.append_assoc]
  rfl
theorem wf_nat {k : Nat} (h : k ≤ 100000) : (Lit.int .i64 (k : Int)).wf = true := by
  simp [Lit.wf, IntKind.min, IntKind.max, IntKind.bits, IntKind.signed]
  omega
set_option maxHeartbeats 4000000 in
set_option maxRecDepth 100000 in
theorem labels_at (vm vs : Value) (p : Pg) (w : World) (hp : PgAt w vm vs p) (hs : Sml p) (hz : ∀ s ∈ p.stmts, ∀ t ∈ s.labs, t.size ≤ maxLen) :
    Calls Tryz.prog 15 #[.agg #[vm, vs]] w fun e w' => ∃ g n, e = .returned (.map (some g)) ∧ MapAt w' g n (prs 0 p.stmts) ∧ Below w.heap.size w w' := by
  obtain ⟨n1, hn1⟩ : ∃ n, p.maps.length = n := ⟨_, rfl⟩
  obtain ⟨n2, hn2⟩ : ∃ n, p.stmts.length = n := ⟨_, rfl⟩
  obtain ⟨a1, c1, rfl, -⟩ := df_form hn1 hp.1
  obtain ⟨a2, c2, rfl, hc⟩ := sm_form hn2 hp.2
  have hm2 := hs.stmts
  rw [hn2] at hm2
  have HC := Lib.hid hc
  have HN := Lib.hid hn2
  have HZ := Lib.hid hz
  have HL := Lib.hid hs.labs
  have hmm := @run_makeMap Tryz.prog
  have hb0 : Below w.heap.size w ((w.alloc (.cells #[.slice a1 n1 c1, .slice a2 n2 c2] 25)).alloc (.map #[] 0)) := L2.bch (L8.bnew w _) (L8.bnew _ _)
  have hown := World.ownsMap_made (w.alloc (.cells #[.slice a1 n1 c1, .slice a2 n2 c2] 25)) Tryz.prog 9 (plainElem (H := Unit) Tryz.prog 3)
  have hi : Hid (LI w ((w.alloc (.cells #[.slice a1 n1 c1, .slice a2 n2 c2] 25)).alloc (.map #[] 0)) (0 * 100000) (prs 0 (p.stmts.take 0))) := Lib.hid ⟨0, by omega, by unfold MapAt; simpa [prs, Mp] using hown, hb0⟩
  have hrow : Hid (((w.alloc (.cells #[.slice a1 n1 c1, .slice a2 n2 c2] 25)).alloc (.map #[] 0)).heap[w.heap.size]? = some (.cells #[.slice a1 n1 c1, .slice a2 n2 c2] 25)) := Lib.hid (L8.row_up (heap_alloc_last w _) (L8.bnew _ _))
  clear hp hs hz hn1 hn2 hc hb0 hown
  go_enter Tryz.func15, Tryz.ntmps15
  go_upto_region 2 with (fail)
  obtain ⟨x0, x1⟩ := cells2p hrow.out
  generalize ((w.alloc (.cells #[.slice a1 n1 c1, .slice a2 n2 c2] 25)).alloc (.map #[] 0)) = W at hi hrow x0 x1 ⊢
  clear hrow
  go_wp2
  go_loopw [4, 5, 12] (fun _ _ i wr => ∃ k : Nat, k ≤ n2 ∧ i = .int .i64 (k : Int) ∧ Hid (LI w wr (k * 100000) (prs 0 (p.stmts.take k)))) (fun _ _ i _ => n2 - (intOf i).toNat)
  case atStart => exact ⟨0, Nat.zero_le _, rfl, hi⟩
  case round =>
    obtain ⟨k, hk, rfl, hI⟩ := hrel
    clear hi x0 x1
    by_cases hlt : k < n2
    · have hkl : k < p.stmts.length := by rw [HN.out]; exact hlt
      obtain ⟨b, o, rfl, hbl, hc⟩ := HC.out (by omega)
      obtain ⟨lv, hst, hx⟩ := hc k hkl
      obtain ⟨n0, hn0, hm0, hbw⟩ := hI.out
      have hX := fun i u hu => (hbw.cell (by exact hbl)).trans (hx i u hu)
      have x0 := hX 0 _ rfl
      have x1 := hX 1 _ rfl
      have x2 := hX 2 _ rfl
      have x3 := hX 3 _ rfl
      have x4 := hX 4 _ rfl
      have x5 := hX 5 _ rfl
      have x6 := hX 6 _ rfl
      have x7 := hX 7 _ rfl
      have x8 := hX 8 _ rfl
      rw [Nat.add_zero] at x0
      have hw1 := World.block_lt_of_cell? wr _ x0
      simp only at hw1
      have hz := HZ.out _ (List.getElem_mem hkl)
      have hll := HL.out _ (List.getElem_mem hkl)
      have hpr := prs_snoc p.stmts k hkl
      rw [labsAt_get _ _ hkl] at hpr
      have HB := Lib.hid hbw
      obtain ⟨s, hs⟩ : ∃ s, p.stmts[k] = s := ⟨_, rfl⟩
      rw [hs] at x1 x2 x3 x4 x5 x6 x7 x8 hst hz hll hpr
      obtain ⟨ln, hln⟩ : ∃ ln, s.labs.length = ln := ⟨_, rfl⟩
      obtain ⟨la, lc, rfl, hla⟩ := st_form hln hst
      rw [hln] at hll
      obtain ⟨PL, hPL⟩ : ∃ PL, prs 0 (p.stmts.take k) = PL := ⟨_, rfl⟩
      rw [hPL] at hI hpr
      have HI := Lib.hid (hI.out.up (L8.bnew wr (.cells #[.slice la ln lc, .int .i64 s.x.op, .bool s.x.reg, .int .i64 s.x.dst, .int .i64 s.x.src, .int .i64 s.x.off, .int .i64 s.x.imm, .string s.tg, .string s.mp] 41)))
      have HLA := Lib.hid hla
      have HPR := Lib.hid hpr
      have HZ2 := Lib.hid hz
      have HLN := Lib.hid hln
      have R5 := heap_alloc_last wr (.cells #[.slice la ln lc, .int .i64 s.x.op, .bool s.x.reg, .int .i64 s.x.dst, .int .i64 s.x.src, .int .i64 s.x.off, .int .i64 s.x.imm, .string s.tg, .string s.mp] 41)
      clear hx hX hc hst hs hPL hla hpr hz hln hI hn0 hm0 hbw
      go_upto_region 5 with (fail)
      clear x0 x1 x2 x3 x4 x5 x6 x7 x8 hw1
      obtain ⟨y0, -⟩ := cells9 R5
      clear R5
      generalize hWk : (wr.alloc (.cells #[.slice la ln lc, .int .i64 s.x.op, .bool s.x.reg, .int .i64 s.x.dst, .int .i64 s.x.src, .int .i64 s.x.off, .int .i64 s.x.imm, .string s.tg, .string s.mp] 41)) = wk at HI y0 ⊢
      clear hWk
      have HJ : Hid (LI w wk (k * 100000 + 0) (PL ++ (s.labs.take 0).map (fun x => (x, k)))) := Lib.hid (by rw [List.take_zero, List.map_nil, List.append_nil]; exact HI.out.le (Nat.le_add_right _ 0))
      clear HI
      go_wp2
      go_loopw [7, 20] (fun _ i wi => ∃ j : Nat, j ≤ ln ∧ i = .int .i64 (j : Int) ∧ Hid (LI w wi (k * 100000 + j) (PL ++ (s.labs.take j).map (fun x => (x, k))))) (fun _ i _ => ln - (intOf i).toNat)
      case atStart => exact ⟨0, Nat.zero_le _, rfl, HJ⟩
      case round =>
        obtain ⟨j, hj, rfl, hJ⟩ := hrel
        clear HJ y0
        by_cases hjn : j < ln
        · have hjl : j < s.labs.length := by rw [HLN.out]; exact hjn
          obtain ⟨bb, oo, rfl, hbb, hcc⟩ := HLA.out (by omega)
          obtain ⟨n0, hn0, hown, hbw⟩ := hJ.out
          have z0 := (hbw.cell (by exact hbb)).trans (hcc j hjl)
          have hkey := key_of (HZ2.out s.labs[j] (List.getElem_mem hjl))
          have hsn : PL ++ (s.labs.take (j + 1)).map (fun x => (x, k)) = (PL ++ (s.labs.take j).map (fun x => (x, k))) ++ [(s.labs[j], k)] := pl_snoc PL s.labs k j hjl
          obtain ⟨x, hx⟩ : ∃ x, s.labs[j] = x := ⟨_, rfl⟩
          obtain ⟨Q, hQ⟩ : ∃ Q, PL ++ (s.labs.take j).map (fun x => (x, k)) = Q := ⟨_, rfl⟩
          rw [hx] at z0 hkey hsn
          rw [hQ] at hown hsn
          have HS := Lib.hid hsn
          have HBW := Lib.hid hbw
          have HN0 := Lib.hid hn0
          have hwf : (Lit.int .i64 (k : Int)).wf = true := wf_nat (by omega)
          have hn1 : n0 + 1 ≤ maxLen := by unfold maxLen; omega
          clear hx hQ hsn hbw hn0 hJ hcc
          unfold MapAt at hown
          go_wp2_with (first
            | (at_mapUpdate; refine wpList_mapUpdate_own _ rfl _ _ _ 42 rfl 9 3 L2.law9 Tryz.underlying42 (plainElem (H := Unit) Tryz.prog 3) (w.heap.size + 1) _ _ rfl hown (by omega) _ _ _ rfl rfl hkey _ [] (plainElem_int Tryz.underlying3 hwf) ?_; intro w1 hown1 hgrow1)
            | go_in)
          go_roundw
          case rel =>
            refine ⟨j + 1, by omega, by go_num, Lib.hid ?_⟩
            rw [HS.out]
            refine ⟨n0 + 1, by have := HN0.out; omega, ?_, bel_gr HBW.out hgrow1 (by omega)⟩
            unfold MapAt
            rw [Mp_snoc]
            exact hown1
          case measure => simp [intOf]; omega
        · obtain rfl : j = ln := by omega
          have HJ2 : Hid (LI w wr ((k + 1) * 100000) (prs 0 (p.stmts.take (k + 1)))) := Lib.hid (by
            have h := hJ.out
            rw [List.take_of_length_le (by rw [HLN.out]; exact Nat.le_refl _), ← HPR.out] at h
            exact h.le (by omega))
          clear hJ
          go_wp2
          go_roundw
          case rel => exact ⟨k + 1, by omega, by go_num, HJ2⟩
          case measure => simp [intOf]; omega
    · obtain rfl : k = n2 := by omega
      have HI2 := Lib.hid hI.out
      clear hI
      go_wp2
      go_ret
      obtain ⟨n, h1, h2, h3⟩ := HI2.out
      rw [List.take_of_length_le (by rw [HN.out]; exact Nat.le_refl _)] at h2
      exact ⟨_, _, rfl, h2, h3⟩
end Go.Proofs.YtakblmonbeflmaaGreatDoor.L10
end
section
namespace Go.Proofs.YtakblmonbeflmaaGreatDoor.L10
open Go.RowKit
attribute [local go_sem] Oper.semAt_some

theorem on_nil (x : ByteArray) : L2.on [] x = false := rfl
theorem on_snoc (l : List ByteArray) (x : ByteArray) (j : Nat) (h : j < l.length) (hn : L2.on (l.take j) x = false) (hx : l[j] ≠ x) : L2.on (l.take (j + 1)) x = false := by
  rw [List.take_add_one, List.getElem?_eq_getElem h, Option.toList]
  simp only [L2.on, List.any_append, List.any_cons, List.any_nil, Bool.or_false] at hn ⊢
  rw [hn]
  simp [hx]
theorem lbK_hit (l : List Stm) (x : ByteArray) (k : Nat) (h : k < l.length) (hm : x ∈ l[k].labs) : lbK l x (k + 1) = (k : Int) := by
  rw [lbK, labsAt_get l k h, if_pos ((L2.on_mem _ _).2 hm)]
theorem lbK_miss (l : List Stm) (x : ByteArray) (k : Nat) (h : k < l.length) (hm : L2.on l[k].labs x = false) : lbK l x (k + 1) = lbK l x k := by
  rw [lbK, labsAt_get l k h, if_neg (by simp [hm])]
set_option maxHeartbeats 4000000 in
set_option maxRecDepth 100000 in
theorem rlabel_at (vm vs : Value) (p : Pg) (x : ByteArray) (w : World) (hp : PgAt w vm vs p) (hs : Sml p) :
    Calls Tryz.prog 16 #[.agg #[vm, vs], .string x] w fun e w' => e = .returned (.int .i64 (lbK p.stmts x p.stmts.length)) ∧ Below w.heap.size w w' := by
  obtain ⟨n1, hn1⟩ : ∃ n, p.maps.length = n := ⟨_, rfl⟩
  obtain ⟨n2, hn2⟩ : ∃ n, p.stmts.length = n := ⟨_, rfl⟩
  obtain ⟨a1, c1, rfl, -⟩ := df_form hn1 hp.1
  obtain ⟨a2, c2, rfl, hc⟩ := sm_form hn2 hp.2
  have hm2 := hs.stmts
  rw [hn2] at hm2
  have HC := Lib.hid hc
  have HN := Lib.hid hn2
  have HL := Lib.hid hs.labs
  obtain ⟨R, hR⟩ : ∃ R, lbK p.stmts x p.stmts.length = R := ⟨_, rfl⟩
  rw [hR]
  have hV : Hid (lbK p.stmts x n2 = R) := Lib.hid (by rw [← hn2]; exact hR)
  have HB := Lib.hid (L8.bnew w (.cells #[.slice a1 n1 c1, .slice a2 n2 c2] 25))
  have K0 := Lib.hid (heap_alloc_last w (.cells #[.slice a1 n1 c1, .slice a2 n2 c2] 25))
  have x1 := (cells2p K0.out).2
  have hlt1 := World.block_lt_of_cell? _ _ x1
  simp only at hlt1
  clear hp hs hn1 hn2 hc hR
  go_enter Tryz.func16, Tryz.ntmps16
  go_upto_region 1 with (fail)
  generalize w.alloc (.cells #[.slice a1 n1 c1, .slice a2 n2 c2] 25) = W0 at K0 x1 hlt1 HB ⊢
  have HI := Lib.hid (Below.refl W0.heap.size W0)
  go_wp2
  go_loopw [5, 6] (fun i _ wr => ∃ k : Nat, k ≤ n2 ∧ i = .int .i64 ((k : Int) - 1) ∧ Hid (Below W0.heap.size W0 wr) ∧ Hid (lbK p.stmts x k = R)) (fun i _ _ => (intOf i + 1).toNat)
  case atStart => exact ⟨n2, Nat.le_refl _, rfl, HI, hV⟩
  case round =>
    obtain ⟨k, hk, rfl, hB, hT⟩ := hrel
    clear HI hV x1 hlt1
    have x1 := (cells2p (L8.row_up K0.out hB.out)).2
    have hlt1 := World.block_lt_of_cell? _ _ x1
    simp only at hlt1
    by_cases h0 : 1 ≤ k
    · obtain ⟨m, rfl⟩ : ∃ m, k = m + 1 := ⟨k - 1, by omega⟩
      have e1 : ((m + 1 : Nat) : Int) - 1 = (m : Int) := by omega
      rw [e1]
      have g2 : (0 : Int) ≤ (m : Int) := by omega
      have hkl : m < p.stmts.length := by rw [HN.out]; omega
      obtain ⟨b, o, rfl, hbl, hc⟩ := HC.out (by omega)
      obtain ⟨lv, hst, hx⟩ := hc m hkl
      have hX0 := hx 0 _ rfl
      rw [Nat.add_zero] at hX0
      have HX0 := Lib.hid hX0
      have hll := HL.out _ (List.getElem_mem hkl)
      have HH := Lib.hid (lbK_hit p.stmts x m hkl)
      have HMI := Lib.hid (lbK_miss p.stmts x m hkl)
      obtain ⟨s, hs⟩ : ∃ s, p.stmts[m] = s := ⟨_, rfl⟩
      rw [hs] at hst hll HH HMI
      obtain ⟨ln, hln⟩ : ∃ ln, s.labs.length = ln := ⟨_, rfl⟩
      obtain ⟨la, lc, rfl, hla⟩ := st_form hln hst
      rw [hln] at hll
      have HLA := Lib.hid hla
      have HLN := Lib.hid hln
      have hm3 : m < n2 := by omega
      have HJ : Hid (L2.on (s.labs.take 0) x = false) := Lib.hid rfl
      clear hx hX0 hc hst hs hla hln e1
      go_wp2
      go_loopw [6] (fun i wi => ∃ j : Nat, j ≤ ln ∧ i = .int .i64 (j : Int) ∧ Hid (Below W0.heap.size W0 wi) ∧ Hid (L2.on (s.labs.take j) x = false)) (fun i _ => ln - (intOf i).toNat)
      case atStart => exact ⟨0, Nat.zero_le _, rfl, hB, HJ⟩
      case round =>
        obtain ⟨j, hj, rfl, hB2, hJ⟩ := hrel
        clear HJ x1 hlt1 hB
        have x1 := (cells2p (L8.row_up K0.out hB2.out)).2
        have hlt1 := World.block_lt_of_cell? _ _ x1
        simp only at hlt1
        have hBw := L2.bch HB.out hB2.out
        have x0 := (hBw.cell (by exact hbl)).trans HX0.out
        have hw1 := World.block_lt_of_cell? _ _ x0
        simp only at hw1
        by_cases hjn : j < ln
        · have hjl : j < s.labs.length := by rw [HLN.out]; exact hjn
          obtain ⟨bb, oo, rfl, hbb, hcc⟩ := HLA.out (by omega)
          have z0 := (hBw.cell (by exact hbb)).trans (hcc j hjl)
          have hw2 := World.block_lt_of_cell? _ _ z0
          simp only at hw2
          have HSN := Lib.hid (on_snoc s.labs x j hjl hJ.out)
          have HME := Lib.hid (List.getElem_mem hjl)
          have HBW := Lib.hid hBw
          obtain ⟨y, hy⟩ : ∃ y, s.labs[j] = y := ⟨_, rfl⟩
          rw [hy] at z0 HSN HME
          have hjI : (j : Int) < (ln : Int) := by omega
          clear hcc hy hJ hBw
          by_cases he : y = x
          · subst he
            have ht : (y.toList == y.toList) = true := by simp
            have HV : Hid (R = (m : Int)) := Lib.hid (by rw [← hT.out]; exact HH.out HME.out)
            go_wp2
            go_ret
            rw [HV.out]
            exact ⟨rfl, HBW.out⟩
          · have ht : (y.toList == x.toList) = false := L2.txt_ne he
            have HS2 := Lib.hid (HSN.out he)
            clear he
            go_wp2
            go_roundw
            case rel => exact ⟨j + 1, by omega, by go_num, hB2, HS2⟩
            case measure => simp [intOf]; omega
        · obtain rfl : j = ln := by omega
          have HV : Hid (lbK p.stmts x m = R) := Lib.hid (by
            have h := hJ.out
            rw [List.take_of_length_le (by rw [HLN.out]; exact Nat.le_refl _)] at h
            rw [← hT.out]; exact (HMI.out h).symm)
          clear hJ hBw
          go_wp2
          go_roundw
          case rel => exact ⟨m, by omega, rfl, hB2, HV⟩
          case measure => simp [intOf]
    · obtain rfl : k = 0 := by omega
      have HBW := Lib.hid (L2.bch HB.out hB.out)
      have e1 : ((0 : Nat) : Int) - 1 = -1 := by omega
      rw [e1]
      clear e1
      go_wp2
      go_ret
      rw [← hT.out]
      exact ⟨rfl, HBW.out⟩
end Go.Proofs.YtakblmonbeflmaaGreatDoor.L10
end
