/- What the reference's Few returns: whether a program is small. Condition: memory holds the program, whose labels take no more memory than a reading may. -/
import Derived.Test.YtakblmonbeflmaaGreatDoorL10Sam
import Derived.Test.YtakblmonbeflmaaGreatDoorL10Opw
namespace Go.Proofs.YtakblmonbeflmaaGreatDoor.L10
open Go.RowKit
attribute [local go_sem] Oper.semAt_some

/-- How many labels some statements have. -/
def lsum : List Stm → Nat
  | [] => 0
  | s :: r => s.labs.length + lsum r
theorem lsum_snoc (l : List Stm) (k : Nat) (h : k < l.length) : lsum (l.take (k + 1)) = lsum (l.take k) + l[k].labs.length := by
  have e : ∀ (a : List Stm) (s : Stm), lsum (a ++ [s]) = lsum a + s.labs.length := fun a s => by
    induction a with
    | nil => simp [lsum]
    | cons x r ih => simp only [List.cons_append, lsum, ih]; omega
  rw [List.take_add_one, List.getElem?_eq_getElem h, Option.toList, e]
theorem lsum_le (l : List Stm) (R : Nat) (h : ∀ s ∈ l, s.labs.length ≤ R) : ∀ k, lsum (l.take k) ≤ k * R := by
  intro k
  induction k with
  | zero => simp [lsum]
  | succ k ih =>
    by_cases hk : k < l.length
    · rw [lsum_snoc l k hk, Nat.add_mul]
      have := h l[k] (List.getElem_mem hk)
      omega
    · rw [List.take_of_length_le (by omega)] at ih ⊢
      rw [Nat.add_mul]; omega
theorem lsum_flat (l : List Stm) : (l.flatMap (fun s => s.labs)).length = lsum l := by
  induction l with
  | nil => rfl
  | cons s r ih => rw [List.flatMap_cons, List.length_append, ih, lsum]
theorem lsum_mem : ∀ (l : List Stm) (s : Stm), s ∈ l → s.labs.length ≤ lsum l
  | a :: r, s, h => by
    rw [lsum]
    rcases List.mem_cons.1 h with rfl | h
    · omega
    · have := lsum_mem r s h; omega
set_option maxHeartbeats 2000000 in
set_option maxRecDepth 100000 in
theorem few_at (vm vs : Value) (p : Pg) (w : World) (hp : PgAt w vm vs p) (hr : ∀ s ∈ p.stmts, TxRoom s.labs) (b1 b2 b3 : Bool) (h1 : decide (p.maps.length ≤ 300) = b1) (h2 : decide (p.stmts.length ≤ 60) = b2) (h3 : decide (lsum (p.stmts.take 61) ≤ 200) = b3) :
    Calls Tryz.prog 8 #[.agg #[vm, vs]] w fun e w' => e = .returned (.bool ((b1 && b2) && b3)) ∧ Below w.heap.size w w' := by
  obtain ⟨n1, hn1⟩ : ∃ n, p.maps.length = n := ⟨_, rfl⟩
  obtain ⟨n2, hn2⟩ : ∃ n, p.stmts.length = n := ⟨_, rfl⟩
  obtain ⟨a1, c1, rfl, -⟩ := df_form hn1 hp.1
  obtain ⟨a2, c2, rfl, hc⟩ := sm_form hn2 hp.2
  rw [hn1] at h1
  rw [hn2] at h2
  have hle := lsum_le p.stmts 8796093022208 (fun s hs => (hr s hs).1)
  have HC := Lib.hid hc
  have HN := Lib.hid hn2
  have HR := Lib.hid hr
  have HLE := Lib.hid hle
  have H3 := Lib.hid h3
  have hb0 := L8.bnew w (.cells #[.slice a1 n1 c1, .slice a2 n2 c2] 25)
  have HB := Lib.hid hb0
  have g1 : decide ((n1 : Int) ≤ 300) = b1 := by rw [← h1, decide_eq_decide]; omega
  have g2 : decide ((n2 : Int) ≤ 60) = b2 := by rw [← h2, decide_eq_decide]; omega
  have G1 := Lib.hid g1
  have G2 := Lib.hid g2
  clear hp hr hn1 hn2 hc hle h1 h2 h3 g1 g2 hb0
  go_enter Tryz.func8, Tryz.ntmps8
  go_wp2
  go_loop [3, 4] (fun n i => ∃ k : Nat, k ≤ n2 ∧ k ≤ 61 ∧ i = .int .i64 (k : Int) ∧ n = .int .i64 (lsum (p.stmts.take k) : Int)) (fun _ i => 61 - (intOf i).toNat)
  case atStart => exact ⟨0, Nat.zero_le _, by omega, rfl, rfl⟩
  case round =>
    obtain ⟨k, hk, hk2, rfl, rfl⟩ := hrel
    have hle := HLE.out k
    by_cases hlt : k < n2 ∧ k ≤ 60
    · obtain ⟨hlt, hl6⟩ := hlt
      have hkl : k < p.stmts.length := by rw [HN.out]; exact hlt
      obtain ⟨b, o, rfl, hbl, hc⟩ := HC.out (by omega)
      obtain ⟨lv, hst, hx⟩ := hc k hkl
      obtain ⟨ln, hln⟩ : ∃ ln, p.stmts[k].labs.length = ln := ⟨_, rfl⟩
      have hrm := (HR.out _ (List.getElem_mem hkl)).1
      rw [hln] at hrm
      obtain ⟨la, lc, rfl, -⟩ := st_form hln hst
      have x0 := hx 0 _ rfl
      rw [Nat.add_zero] at x0
      have hs := lsum_snoc p.stmts k hkl
      rw [hln] at hs
      have HS := Lib.hid hs
      obtain ⟨m, hm⟩ : ∃ m, lsum (p.stmts.take k) = m := ⟨_, rfl⟩
      rw [hm] at hle HS ⊢
      have hmb : m ≤ 60 * 8796093022208 := Nat.le_trans hle (Nat.mul_le_mul_right _ hl6)
      clear hx hc hst hln hs hm hle
      go_wp2
      go_round
      case rel => exact ⟨k + 1, by omega, by omega, by go_num, by rw [HS.out]; go_num⟩
      case measure => simp [intOf]; omega
    · have hk61 : p.stmts.take k = p.stmts.take 61 := by
        by_cases hlt2 : k < n2
        · have : k = 61 := by omega
          rw [this]
        · rw [List.take_of_length_le (by rw [HN.out]; omega), List.take_of_length_le (by rw [HN.out]; omega)]
      rw [hk61] at hle ⊢
      have g3 : decide ((lsum (p.stmts.take 61) : Int) ≤ 200) = b3 := by rw [← H3.out, decide_eq_decide]; omega
      obtain ⟨m, hm⟩ : ∃ m, lsum (p.stmts.take 61) = m := ⟨_, rfl⟩
      rw [hm] at g3 ⊢
      have g1 := G1.out
      have g2 := G2.out
      clear hk61 hm hle
      by_cases hlt2 : k < n2
      · have h6 : ¬ (k : Int) ≤ 60 := by omega
        clear hlt
        cases b1 <;> cases b2 <;> cases b3
        all_goals
          go_wp2
          go_ret
          exact ⟨rfl, HB.out⟩
      · clear hlt
        cases b1 <;> cases b2 <;> cases b3
        all_goals
          go_wp2
          go_ret
          exact ⟨rfl, HB.out⟩
/-- Few, and what it tells. -/
theorem few_ex (vm vs : Value) (p : Pg) (w : World) (hp : PgAt w vm vs p) (hr : ∀ s ∈ p.stmts, TxRoom s.labs) :
    ∃ b : Bool, (b = true → p.maps.length ≤ 300 ∧ p.stmts.length ≤ 60 ∧ lsum p.stmts ≤ 200) ∧ ∀ W, Below w.heap.size w W → Calls Tryz.prog 8 #[.agg #[vm, vs]] W fun e w' => e = .returned (.bool b) ∧ Below W.heap.size W w' := by
  refine ⟨_, fun h => ?_, fun W hb => few_at vm vs p W (hp.below hb) hr _ _ _ rfl rfl rfl⟩
  simp only [Bool.and_eq_true, decide_eq_true_eq] at h
  obtain ⟨⟨h1, h2⟩, h3⟩ := h
  rw [List.take_of_length_le (by omega)] at h3
  exact ⟨h1, h2, h3⟩
theorem sml_few {p : Pg} (h : p.maps.length ≤ 300 ∧ p.stmts.length ≤ 60 ∧ lsum p.stmts ≤ 200) : Sml p :=
  ⟨by omega, by omega, fun s hs => by have := lsum_mem p.stmts s hs; omega⟩
end Go.Proofs.YtakblmonbeflmaaGreatDoor.L10
