/- The law 'an instruction that is read is correct' returns true, the rest of its cases. Condition: the tables read as the program's text lays them. -/
import Derived.Test.YtjcaonbejhdhkaaDoorL9Lw4
namespace Go.Proofs.YtjcaonbejhdhkaaDoor.L9
open Go.RowKit
attribute [local go_sem] Oper.semAt_some

set_option maxHeartbeats 16000000 in
set_option maxRecDepth 100000 in
theorem pcorrect_no (s : ByteArray) (w : World) (hT : Tab w) (h : s.size ≤ 3000) (op : Int) (reg : Bool) (dst src off imm f : Int) (tg mp : ByteArray) (m : Bool) (hst : stV (liV s) = (⟨⟨op, reg, dst, src, off, imm⟩, tg, mp⟩, 0))
    (hf : L3.frm (L3.ix op) = f) (hg : L4.chkF f reg dst src off imm = 0) (hi : -9223372036854775808 ≤ imm ∧ imm ≤ 9223372036854775807) (hj : L4.jmpF f = false) (htg : tg.toList.isEmpty = true) (hmp : mp.toList.isEmpty = !m) (hop : (op == 85) = m) :
    Calls Tryd.prog 6 #[.string s] w fun e w' => e = .returned (.bool true) ∧ Below w.heap.size w w' := by
  have h2 := hT.lt
  have HT := Lib.hid hT
  have h' : ¬ (3000 : Int) < (s.size : Int) := by omega
  have HL : Hid (Calls Tryd.prog 13 #[.string s] w fun e w' => e = .returned (.tuple #[.agg (codA ⟨op, reg, dst, src, off, imm⟩ tg mp), .int .i64 0]) ∧ Below w.heap.size w w') := Lib.hid (stat_at s (by omega) w hT ⟨⟨op, reg, dst, src, off, imm⟩, tg, mp⟩ 0 hst)
  have HC := Lib.hid (fun W (hW : Tab W) => L4.check_is op reg dst src off imm f 0 W hW.wid hf hg)
  have HR := Lib.hid (fun W => L4.rcheck_is op reg dst src off imm f 0 W hf (by rw [← L4.chk_eq f (hf ▸ L4.frm_isF op) reg dst src off imm hi.1 hi.2]; exact hg))
  have HJ := Lib.hid (fun W => L4.jumps_at op reg dst src off imm f false W hf hj)
  clear hT hst hf hg hi hj
  go_enter Tryd.func6, Tryd.ntmps6
  go_upto_region 6 with (go_at_call 13; ((with_reducible refine (HL.out).mono ?_); rintro e w1 ⟨rfl, b1⟩))
  have X : Bc w (w1.alloc (.cells (codA ⟨op, reg, dst, src, off, imm⟩ tg mp) 39)) w1.heap.size (codA ⟨op, reg, dst, src, off, imm⟩ tg mp) := ⟨L2.bch b1 (L8.bnew w1 _), heap_alloc_last w1 _⟩
  obtain ⟨g, hgg⟩ : ∃ g, g = w1.heap.size := ⟨_, rfl⟩
  rw [← hgg] at X ⊢
  clear hgg b1
  have XD := X.below (Below.refl _ _).drew
  clear X
  first
  | go_region_with (first
            | (go_at_call 9; ((with_reducible refine (alive9 _ (XD.tab HT.out h2)).mono ?_); rintro e w9 ⟨rfl, hb9⟩; have X9 := XD.below hb9; obtain ⟨q0, q1, q2, q3, q4, q5, q6, q7⟩ := cells8 X9.2))
            | (go_at_call 17; ((with_reducible refine (HC.out _ (X9.tab HT.out h2)).mono ?_); rintro e w8 ⟨rfl, hb8⟩; have X8 := X9.below hb8; obtain ⟨q0, q1, q2, q3, q4, q5, q6, q7⟩ := cells8 X8.2))
            | (go_at_call 18; ((with_reducible refine (HR.out _).mono ?_); rintro e w7 ⟨rfl, hb7⟩; have X7 := X8.below hb7; obtain ⟨q0, q1, q2, q3, q4, q5, q6, q7⟩ := cells8 X7.2))
            | (go_at_call 19; ((with_reducible refine (HJ.out w7).mono ?_); rintro e w6 ⟨rfl, hb6⟩; have X6 := X7.below hb6; obtain ⟨q0, q1, q2, q3, q4, q5, q6, q7⟩ := cells8 X6.2))
            | (go_at_call 19; ((with_reducible refine (HJ.out w6).mono ?_); rintro e w5 ⟨rfl, hb5⟩; have X5 := X6.below hb5; obtain ⟨q0, q1, q2, q3, q4, q5, q6, q7⟩ := cells8 X5.2)))
  | fail
  all_goals
    go_wp2
    go_ret
    exact ⟨rfl, (by assumption : Bc w _ g _).1⟩
theorem pcorrect_walk (s : ByteArray) (_ : s.size ≤ maxLen) (w : World) (hT : Tab w) : Calls Tryd.prog 6 #[.string s] w fun e w' => e = .returned (.bool true) ∧ Below w.heap.size w w' := by
  by_cases h : 3000 < s.size
  · exact pcorrect_long s w hT h
  · obtain ⟨c, er, hst⟩ : ∃ c er, stV (liV s) = (c, er) := ⟨_, _, rfl⟩
    by_cases hz : er = 0
    · subst hz
      obtain ⟨labs, r, e, hli⟩ : ∃ labs r e, liV s = (labs, r, e) := ⟨_, _, _, rfl⟩
      have hst' := hst
      unfold stV at hst'
      rw [hli] at hst'
      split at hst'
      · rename_i h1; exact absurd (congrArg Prod.snd hst') h1
      rename_i h1
      have h1' : e = 0 := by simpa using h1
      subst h1'
      split at hst'
      · rename_i hk
        obtain ⟨k1, k2⟩ := hk
        obtain rfl := List.eq_nil_of_length_eq_zero k1
        obtain ⟨f, hf, ⟨g1, g2, g3, g4, g5⟩, g6⟩ := good_li s r hli k2
        obtain ⟨kd, d, ⟨op, reg, dst, src, off, imm⟩, tg, mp⟩ := r
        have hc : c = ⟨⟨op, reg, dst, src, off, imm⟩, tg, mp⟩ := (congrArg Prod.fst hst').symm
        subst hc
        have e1 := emp_dec tg
        have e2 := emp_dec mp
        rw [g4] at e1
        rw [g5] at e2
        have e3 : (op == 85) = decide (f = 11) := by simp only [g6]; rfl
        cases hj : L4.jmpF f
        · rw [hj] at e1
          exact pcorrect_no s w hT (by omega) op reg dst src off imm f tg mp (decide (f = 11)) hst hf g1 g2 hj e1 e2 e3
        · rw [hj] at e1
          exact pcorrect_jmp s w hT (by omega) op reg dst src off imm f tg mp (decide (f = 11)) hst hf g1 g2 hj (g3 hj) e1 e2 e3
      · cases hst'
    · exact pcorrect_err s w hT (by omega) c er hst hz
end Go.Proofs.YtjcaonbejhdhkaaDoor.L9
