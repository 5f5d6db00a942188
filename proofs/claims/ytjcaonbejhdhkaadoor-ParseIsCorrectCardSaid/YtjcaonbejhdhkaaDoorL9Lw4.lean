/- The law 'an instruction that is read is correct' returns true. Condition: the tables read as the program's text lays them. -/
import Derived.Test.YtjcaonbejhdhkaaDoorL9Gd
import Derived.Test.YtjcaonbejhdhkaaDoorL9Alv
import Derived.Deep.RegionHeld3
namespace Go.Proofs.YtjcaonbejhdhkaaDoor.L9
open Go.RowKit
attribute [local go_sem] Oper.semAt_some

theorem seV_op (x : Ins) (t : ByteArray) : (seV x t).1.op = x.op := by unfold seV; split <;> rfl
theorem opV_op (f op : Int) (l : List ByteArray) (o : Bool) : (opV f op l o).1.x.op = op := by
  simp only [opV, apply_ite Prod.fst, apply_ite Rs.x, apply_ite Ins.op, seV_op, ite_self]
theorem no_kind {l l' : List ByteArray} {a b : Int} {r : Rs} (h : (l, Rs.z, a) = (l', r, b)) (hk : r.kind = 2) : False := by
  have e : Rs.z = r := congrArg (fun p => p.2.1) h
  rw [← e] at hk
  exact absurd hk (by decide)
theorem frm_85 : ∀ k, k < 86 → (L3.frm k = 11 ↔ k = 85) := by decide +kernel
theorem good_li (s : ByteArray) (r : Rs) (h : liV s = ([], r, 0)) (hk : r.kind = 2) : ∃ f, L3.frm (L3.ix r.x.op) = f ∧ Good f r.x r.tg r.mp ∧ (f = 11 ↔ r.x.op = 85) := by
  unfold liV at h
  split at h
  · exact (no_kind h hk).elim
  unfold lnV at h
  dsimp only at h
  split at h
  · exact (no_kind h hk).elim
  obtain ⟨k, hkd⟩ := lab_drop (txB s) []
  split at h
  · exact (no_kind h hk).elim
  · rename_i t q h0
    have htq : ∀ x ∈ q, L8.TokT x.data.toList := fun x hx => (txB_tok s).2.1 x (List.mem_of_mem_drop (i := k) (by rw [← hkd, h0]; exact List.mem_cons_of_mem _ hx))
    split at h
    · exact (no_kind h hk).elim
    split at h
    · exact (no_kind h hk).elim
    rename_i hx
    have hx' : (cdV t q).2 = 0 := by simpa using hx
    obtain ⟨r', hr'⟩ : ∃ r', (cdV t q).1 = r' := ⟨_, rfl⟩
    rw [hr'] at h
    have e : r' = r := congrArg (fun p => p.2.1) h
    subst e
    have hcd : cdV t q = (r', 0) := by rw [← hr', ← hx']
    clear h hx hx' hr'
    unfold cdV at hcd
    split at hcd
    · have := deV_kind q
      rw [hcd] at this
      rcases this with h1 | h1 <;> · rw [hk] at h1; cases h1
    split at hcd
    · cases hcd
    rename_i h1
    cases hc : (shV (L3.frm (L3.ix (fiV t)))).any (fun x => decide (x = shpB q))
    · rw [hc, if_pos rfl] at hcd; cases hcd
    · rw [hc, if_neg (by simp)] at hcd
      obtain ⟨k2, hk86, e, f1, f2, hf⟩ := kin_f h1
      have hmem : shpB q ∈ shV (L3.frm (L3.ix (fiV t))) := by
        rw [List.any_eq_true] at hc
        obtain ⟨x, hx, hx2⟩ := hc
        rw [← (by simpa using hx2 : x = shpB q)]; exact hx
      have hop : r'.x.op = fiV t := by
        have := opV_op (L3.frm (L3.ix (fiV t))) (fiV t) (spl q) (offV (joi q))
        rw [hcd] at this
        exact this
      refine ⟨_, rfl, ?_, ?_⟩
      · rw [hop]
        exact opV_good (ops_of hf htq hmem) hcd
      · obtain ⟨k3, hk3, e3⟩ := fiV_lt h1
        rw [hop, e3, L3.ix_nat hk3, frm_85 k3 hk3]
        omega

def Bc (w W : World) (g : Nat) (cs : Array Value) : Prop := Below w.heap.size w W ∧ W.heap[g]? = some (.cells cs 39)
theorem Bc.below {w W W' : World} {g : Nat} {cs : Array Value} (h : Bc w W g cs) (hb : Below W.heap.size W W') : Bc w W' g cs := ⟨L2.bch h.1 hb, row_up h.2 hb⟩
theorem tabS {w W : World} {g : Nat} {cs : Array Value} {P : Prop} (hT : Tab w) (h2 : 2 ≤ w.heap.size) (h : Bc w W g cs ∧ P) : Tab W := hT.below h.1.1 h2
theorem Bc.tab {w W : World} {g : Nat} {cs : Array Value} (h : Bc w W g cs) (hT : Tab w) (h2 : 2 ≤ w.heap.size) : Tab W := hT.below h.1 h2
theorem emp_dec (t : ByteArray) : t.toList.isEmpty = !decide (t ≠ ⟨#[]⟩) := by
  by_cases h : t = ⟨#[]⟩
  · subst h; decide +kernel
  · rw [decide_eq_true h, Lib.toList_data, Bool.eq_iff_iff]
    simp only [List.isEmpty_iff, Bool.not_true, Bool.false_eq_true, iff_false]
    intro h2
    exact h (by cases t with | mk d => rw [show d = #[] from Array.toList_inj.1 h2])
theorem keepB {w W W' : World} {g : Nat} {a b c d e f x y : Value} (hb : Below W.heap.size W W') (h : Bc w W g #[a, b, c, d, e, f, x, y]) :
    Bc w W' g #[a, b, c, d, e, f, x, y] ∧ W'.cell? ⟨g, 0, none⟩ = some a ∧ W'.cell? ⟨g, 1, none⟩ = some b ∧ W'.cell? ⟨g, 2, none⟩ = some c ∧ W'.cell? ⟨g, 3, none⟩ = some d ∧ W'.cell? ⟨g, 4, none⟩ = some e ∧ W'.cell? ⟨g, 5, none⟩ = some f ∧ W'.cell? ⟨g, 6, none⟩ = some x ∧ W'.cell? ⟨g, 7, none⟩ = some y :=
  ⟨h.below hb, cells8 (h.below hb).2⟩
theorem keepC {w W W' : World} {g : Nat} {a b c d e f x y : Value} (hb : Below W.heap.size W W') (h : Bc w W g #[a, b, c, d, e, f, x, y] ∧ W.cell? ⟨g, 0, none⟩ = some a ∧ W.cell? ⟨g, 1, none⟩ = some b ∧ W.cell? ⟨g, 2, none⟩ = some c ∧ W.cell? ⟨g, 3, none⟩ = some d ∧ W.cell? ⟨g, 4, none⟩ = some e ∧ W.cell? ⟨g, 5, none⟩ = some f ∧ W.cell? ⟨g, 6, none⟩ = some x ∧ W.cell? ⟨g, 7, none⟩ = some y) :
    Bc w W' g #[a, b, c, d, e, f, x, y] ∧ W'.cell? ⟨g, 0, none⟩ = some a ∧ W'.cell? ⟨g, 1, none⟩ = some b ∧ W'.cell? ⟨g, 2, none⟩ = some c ∧ W'.cell? ⟨g, 3, none⟩ = some d ∧ W'.cell? ⟨g, 4, none⟩ = some e ∧ W'.cell? ⟨g, 5, none⟩ = some f ∧ W'.cell? ⟨g, 6, none⟩ = some x ∧ W'.cell? ⟨g, 7, none⟩ = some y := keepB hb h.1

set_option maxHeartbeats 2000000 in
set_option maxRecDepth 100000 in
theorem pcorrect_long (s : ByteArray) (w : World) (hT : Tab w) (h : 3000 < s.size) : Calls Tryd.prog 6 #[.string s] w fun e w' => e = .returned (.bool true) ∧ Below w.heap.size w w' := by
  have HA := Lib.hid (alive9 w hT)
  have h' : (3000 : Int) < (s.size : Int) := by omega
  clear hT
  go_enter Tryd.func6, Tryd.ntmps6
  go_wp2_with (go_at_call 9; ((with_reducible refine (HA.out).mono ?_); rintro e w1 ⟨rfl, b1⟩))
  go_ret
  exact ⟨rfl, b1⟩
set_option maxHeartbeats 2000000 in
set_option maxRecDepth 100000 in
theorem pcorrect_err (s : ByteArray) (w : World) (hT : Tab w) (h : s.size ≤ 3000) (c : Cod) (er : Int) (hst : stV (liV s) = (c, er)) (hne : ¬ er = 0) : Calls Tryd.prog 6 #[.string s] w fun e w' => e = .returned (.bool true) ∧ Below w.heap.size w w' := by
  have h2 := hT.lt
  have HT := Lib.hid hT
  have h' : ¬ (3000 : Int) < (s.size : Int) := by omega
  obtain ⟨x, tg, mp⟩ := c
  have HL : Hid (Calls Tryd.prog 13 #[.string s] w fun e w' => e = .returned (.tuple #[.agg (codA x tg mp), .int .i64 er]) ∧ Below w.heap.size w w') := Lib.hid (stat_at s (by omega) w hT ⟨x, tg, mp⟩ er hst)
  clear hT hst
  go_enter Tryd.func6, Tryd.ntmps6
  go_wp2_with (first
    | (go_at_call 13; ((with_reducible refine (HL.out).mono ?_); rintro e w1 ⟨rfl, b1⟩; have B1 := L2.bch b1 (L8.bnew w1 (.cells (codA x tg mp) 39))))
    | (go_at_call 9; ((with_reducible refine (alive9 _ (HT.out.below B1 h2)).mono ?_); rintro e w3 ⟨rfl, b3⟩; have B3 := L2.bch B1 b3)))
  go_ret
  exact ⟨rfl, B3⟩
set_option maxHeartbeats 4000000 in
set_option maxRecDepth 100000 in
theorem pcorrect_jmp (s : ByteArray) (w : World) (hT : Tab w) (h : s.size ≤ 3000) (op : Int) (reg : Bool) (dst src off imm f : Int) (tg mp : ByteArray) (m : Bool) (hst : stV (liV s) = (⟨⟨op, reg, dst, src, off, imm⟩, tg, mp⟩, 0))
    (hf : L3.frm (L3.ix op) = f) (hg : L4.chkF f reg dst src off imm = 0) (hi : -9223372036854775808 ≤ imm ∧ imm ≤ 9223372036854775807) (hj : L4.jmpF f = true) (ho : off = 0) (htg : tg.toList.isEmpty = false) (hmp : mp.toList.isEmpty = !m) (hop : (op == 85) = m) :
    Calls Tryd.prog 6 #[.string s] w fun e w' => e = .returned (.bool true) ∧ Below w.heap.size w w' := by
  have h2 := hT.lt
  have HT := Lib.hid hT
  have h' : ¬ (3000 : Int) < (s.size : Int) := by omega
  have HL : Hid (Calls Tryd.prog 13 #[.string s] w fun e w' => e = .returned (.tuple #[.agg (codA ⟨op, reg, dst, src, off, imm⟩ tg mp), .int .i64 0]) ∧ Below w.heap.size w w') := Lib.hid (stat_at s (by omega) w hT ⟨⟨op, reg, dst, src, off, imm⟩, tg, mp⟩ 0 hst)
  have HC := Lib.hid (fun W (hW : Tab W) => L4.check_is op reg dst src off imm f 0 W hW.wid hf hg)
  have HR := Lib.hid (fun W => L4.rcheck_is op reg dst src off imm f 0 W hf (by rw [← L4.chk_eq f (hf ▸ L4.frm_isF op) reg dst src off imm hi.1 hi.2]; exact hg))
  have HJ := Lib.hid (fun W => L4.jumps_at op reg dst src off imm f true W hf hj)
  clear hT hst hf hg hi hj
  go_enter Tryd.func6, Tryd.ntmps6
  go_upto_region 6 with (go_at_call 13; ((with_reducible refine (HL.out).mono ?_); rintro e w1 ⟨rfl, b1⟩))
  have X : Bc w (w1.alloc (.cells (codA ⟨op, reg, dst, src, off, imm⟩ tg mp) 39)) w1.heap.size (codA ⟨op, reg, dst, src, off, imm⟩ tg mp) := ⟨L2.bch b1 (L8.bnew w1 _), heap_alloc_last w1 _⟩
  obtain ⟨g, hgg⟩ : ∃ g, g = w1.heap.size := ⟨_, rfl⟩
  rw [← hgg] at X ⊢
  clear hgg b1
  have XX := X
  clear X
  subst ho
  first
  | go_region_held3 (fun W => Bc w W g #[.int .i64 op, .bool reg, .int .i64 dst, .int .i64 src, .int .i64 0, .int .i64 imm, .string tg, .string mp] ∧ W.cell? ⟨g, 0, none⟩ = some (.int .i64 op) ∧ W.cell? ⟨g, 1, none⟩ = some (.bool reg) ∧ W.cell? ⟨g, 2, none⟩ = some (.int .i64 dst) ∧ W.cell? ⟨g, 3, none⟩ = some (.int .i64 src) ∧ W.cell? ⟨g, 4, none⟩ = some (.int .i64 0) ∧ W.cell? ⟨g, 5, none⟩ = some (.int .i64 imm) ∧ W.cell? ⟨g, 6, none⟩ = some (.string tg) ∧ W.cell? ⟨g, 7, none⟩ = some (.string mp))
    (first | exact keepB (Below.refl _ _).drew XX | exact keepC hb9 (by assumption) | assumption)
    (first
      | (go_at_call 9; ((with_reducible refine (alive9 _ (tabS HT.out h2 (by assumption))).mono ?_); rintro e w9 ⟨rfl, hb9⟩))
      | (go_at_call 17; ((with_reducible refine (HC.out _ (tabS HT.out h2 (by assumption))).mono ?_); rintro e w9 ⟨rfl, hb9⟩))
      | (go_at_call 18; ((with_reducible refine (HR.out _).mono ?_); rintro e w9 ⟨rfl, hb9⟩))
      | (go_at_call 19; ((with_reducible refine (HJ.out _).mono ?_); rintro e w9 ⟨rfl, hb9⟩)))
  | fail
  all_goals
    rename_i hh
    go_wp2
    go_ret
    exact ⟨rfl, hh.1.1⟩
end Go.Proofs.YtjcaonbejhdhkaaDoor.L9
