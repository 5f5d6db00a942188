/- The sequence of readings: what its iterator hands to a loop's body. Condition: the table of widths reads as laid, and the bytes are known. -/
import Derived.Test.YthebdblncafijaaDoorDecm
import Derived.RangeFuncNested
import Derived.RangeFuncBound
import Derived.RangeFuncCalls
import Derived.RangeFuncLeaves
import Derived.RangeFuncBox
import Derived.Shelf.Abstract
import Derived.Shelf.RegionOpen
import Derived.OwnWalkIn
import Derived.TacticsInMore
import Derived.LoopNIn
import Derived.LoopIn
import Derived.RegionIn
namespace Go.Proofs.YthebdblncafijaaDoor
open Go.RowKit Go.Shelf L3 L1 L4
attribute [local go_sem] Oper.semAt_some

/-- A reading: the slots before it, the instruction, the error. -/
structure Rdg where
  at' : Nat
  x : Ix
  e : Int
abbrev Rdg.cs (r : Rdg) : Array Value := #[.int .i64 r.x.op, .bool r.x.reg, .int .i64 r.x.dst, .int .i64 r.x.src, .int .i64 r.x.off, .int .i64 r.x.imm, .int .i64 r.e]
abbrev Rdg.vs (r : Rdg) : Array Value := #[.int .i64 (r.at' : Int), .agg r.cs]

/-- The readings of some bytes, from a number of slots on. -/
def rds : Nat → Nat → List UInt8 → List Rdg
  | 0, _, _ => []
  | n + 1, a, l => if l = [] then [] else if (decF l).2.2 ≠ 0 then [⟨a, (decF l).1, (decF l).2.2⟩] else ⟨a, (decF l).1, 0⟩ :: rds n (a + (decF l).2.1.toNat) (l.drop (8 * (decF l).2.1.toNat))

theorem grown_of_below {w w' : World} (h : Below w.heap.size w w') : w.grownBy w' none := ⟨h.os, h.tape, h.output, h.size, fun k hk _ => h.block k hk⟩

theorem decF_ok (l : List UInt8) (h : (decF l).2.2 = 0) : ∃ s : Nat, (decF l).2.1 = (s : Int) ∧ 1 ≤ s ∧ s ≤ 2 ∧ 8 * s ≤ l.length := by
  unfold decF at h ⊢
  by_cases h8 : l.length < 8
  · rw [if_pos h8] at h
    exact absurd h (by decide)
  rw [if_neg h8] at h ⊢
  by_cases hi : (idL l).2.2 = false
  · rw [if_pos hi] at h
    exact absurd h (by decide)
  rw [if_neg hi] at h ⊢
  by_cases h16 : slo (fL l) = 2 ∧ l.length < 16
  · rw [if_pos h16] at h
    exact absurd h (by decide)
  rw [if_neg h16] at h ⊢
  by_cases hr : 11 ≤ ((bt' l 1).toNat : Int) % 16 ∨ 11 ≤ ((bt' l 1).toNat : Int) / 16
  · rw [if_pos hr] at h
    exact absurd h (by decide)
  rw [if_neg hr] at h ⊢
  split at h
  · rename_i hh
    rw [if_pos hh]
    have hop : fL l ≠ -1 := ((chk_ok _ _ _ _ _ _).1 hh.1).hop
    have hs := (tab4 _ (frm_lt hop)).1
    rw [← frm_fm (frm_lt hop)] at hs
    change slo (fL l) = 1 ∨ slo (fL l) = 2 at hs
    rcases hs with hs | hs
    · exact ⟨1, hs, by omega, by omega, by omega⟩
    · refine ⟨2, hs, by omega, by omega, ?_⟩
      have : ¬ l.length < 16 := fun h => h16 ⟨hs, h⟩
      omega
  · exact absurd h (by decide)

theorem sl_from (k o n cap a : Nat) (h : a ≤ n) (hc : n ≤ cap) (w : World) :
    (Instr.slice 24 (.slice (some ⟨k, o, none⟩) n cap) (some (.int .i64 (a : Int))) none none).run Tryd.prog w = .ok (.slice (some ⟨k, if cap = a then o else o + a, none⟩) (n - a) (cap - a)) w := by
  have h2 : a ≤ cap := by omega
  by_cases hq : cap = a <;> simp [go_sem, Tryd.underlying24, h, hq]

/-- v is a slice of the bytes l, in a block below n. -/
def BsL (n : Nat) (w : World) (v : Value) (l : List UInt8) : Prop :=
  ∃ a cap, v = .slice a l.length cap ∧ l.length ≤ cap ∧ cap ≤ maxLen ∧ (l = [] ∨ ∃ k o, a = some ⟨k, o, none⟩ ∧ k < n ∧ Bytes w k o l)
theorem BsL.at {n : Nat} {w : World} {v : Value} {l : List UInt8} (h : BsL n w v l) : BsAt w v l := by
  obtain ⟨a, cap, rfl, h1, h2, h3⟩ := h
  refine ⟨a, cap, rfl, h1, h2, ?_⟩
  rcases h3 with h3 | ⟨k, o, rfl, _, h3⟩
  · exact .inl h3
  · exact .inr ⟨k, o, rfl, h3⟩
theorem BsL.below {n : Nat} {w w' : World} {v : Value} {l : List UInt8} (h : BsL n w v l) (hb : Below n w w') : BsL n w' v l := by
  obtain ⟨a, cap, rfl, h1, h2, h3⟩ := h
  refine ⟨a, cap, rfl, h1, h2, ?_⟩
  rcases h3 with h3 | ⟨k, o, rfl, hk, h3⟩
  · exact .inl h3
  · exact .inr ⟨k, o, rfl, hk, fun j hj => (hb.cell (p := ⟨k, o + j, none⟩) hk).trans (h3 j hj)⟩
theorem BsAt.low {w : World} {v : Value} {l : List UInt8} (h : BsAt w v l) : BsL w.heap.size w v l := by
  obtain ⟨a, cap, rfl, h1, h2, h3⟩ := h
  refine ⟨a, cap, rfl, h1, h2, ?_⟩
  rcases h3 with h3 | ⟨k, o, rfl, h3⟩
  · exact .inl h3
  · by_cases h0 : l = []
    · exact .inl h0
    · have hp : 0 < l.length := List.length_pos_iff.2 h0
      exact .inr ⟨k, o, rfl, World.block_lt_of_cell? w _ (h3 0 hp), h3⟩
theorem wid_low {n : Nat} {w w' : World} (h : Wid w) (hb : Below n w w') (hn : 0 < n) : Wid w' := by
  obtain ⟨t, fr, hw⟩ := h
  exact ⟨t, fr, (hb.block _ hn).trans hw⟩

theorem rds_nil (n a : Nat) : rds n a [] = [] := by cases n <;> simp [rds]
theorem rds_bad (n a : Nat) (l : List UInt8) (h : l ≠ []) (he : (decF l).2.2 ≠ 0) : rds (n + 1) a l = [⟨a, (decF l).1, (decF l).2.2⟩] := by simp [rds, h, he]
theorem rds_go (n a s : Nat) (l : List UInt8) (h : l ≠ []) (he : (decF l).2.2 = 0) (hs : (decF l).2.1 = (s : Int)) : rds (n + 1) a l = ⟨a, (decF l).1, 0⟩ :: rds n (a + s) (l.drop (8 * s)) := by simp [rds, h, he, hs]

set_option maxRecDepth 100000 in
set_option maxHeartbeats 2000000 in
theorem readings_in (n : Nat) (hn : 2 ≤ n) (lp Bn n₀ : Nat) (v : Value) (l : List UInt8) (fu : Nat) (hfu : l.length ≤ fu) (J Jx : List Rdg → World → Prop) (W : World) (hJ : AbidesFrom W.heap.size J)
    (hY : ∀ pre x W1, J pre W1 → pre.length < (rds fu 0 l).length → YieldAt Fence.wide (n - 1) Tryd.prog lp (Rdg.vs x) W1 fun e W' =>
      (e = .returned (.bool true) ∧ J (pre ++ [x]) W' ∧ Below n₀ W1 W') ∨ (e = .returned (.bool false) ∧ Jx (pre ++ [x]) W'))
    (hBn : W.cell? ⟨Bn, 0, none⟩ = some v) (hv : BsL n₀ W v l) (hn₀ : n₀ ≤ W.heap.size) (h0n : 0 < n₀) (hw : Wid W) (h0 : J [] W) :
    CallsIn Fence.wide n Tryd.prog 61 #[.func (.yield lp) #[] #[], .pointer (some ⟨Bn, 0, none⟩)] W fun e W' => (∃ v, e = .returned v) ∧
      ((∃ ys, ys = rds fu 0 l ∧ J ys W') ∨ (∃ pre, pre <+: rds fu 0 l ∧ Jx pre W')) := by
  refine callsIn_of_wp Tryd.func61 rfl trivial ?_ rfl
  simp only [Tryd.ntmps61, List.size_toArray, List.length_cons, List.length_nil, Nat.reduceAdd, Nat.reduceSub, Array.replicate_succ, Array.replicate_zero, List.push_toArray, List.append_toArray, List.nil_append, List.cons_append]
  gi_wp2
  gi_region
  gi_wp2
  have hD : Below W.heap.size W W.drew := (Below.refl _ _).drew
  have hJD := hJ _ _ _ none h0 (grown_of_below hD) (fun r e => by cases e)
  have h1n : 1 ≤ n := by omega
  have hLm : l.length ≤ 9223372036854775807 := by
    obtain ⟨a, cap, -, h1, h2, -⟩ := hv
    unfold maxLen at h2
    omega
  gi_loopw [3, 4] (fun a r wr => ∃ (pre : List Rdg) (k : Nat) (l' : List UInt8) (fu' : Nat), a = .int .i64 (k : Int) ∧ BsL n₀ wr r l' ∧ Wid wr ∧ n₀ ≤ wr.heap.size ∧ Hid (rds fu 0 l = pre ++ rds fu' k l') ∧ l'.length ≤ fu' ∧ 8 * k + l'.length = l.length ∧ J pre wr) (fun a _ _ => l.length - 8 * (intOf a).toNat)
  case atStart => exact ⟨[], 0, l, fu, rfl, hv.below (hD.mono hn₀), wid_below hw hD, hn₀, Lib.hid rfl, hfu, by omega, hJD⟩
  case round =>
    obtain ⟨pre, k, l', fu', rfl, hr, hwr, hnr, hR, hf', hk8, hJr⟩ := hrel
    have hra := hr
    obtain ⟨ad, cap, rfl, hc1, hc2, hc3⟩ := hra
    by_cases hl0 : l' = []
    · subst hl0
      gi_wp2
      go_end0
      exact ⟨⟨_, rfl⟩, .inl (by rw [hR.out, rds_nil, List.append_nil]; exact hJr)⟩
    · have hp : 0 < l'.length := List.length_pos_iff.2 hl0
      have hDC := Lib.hid (callsIn_wide (n := n - 1).2 (decode_any _ l' wr hwr hr.at))
      obtain ⟨⟨x, sl, er⟩, hd⟩ : ∃ d, decF l' = d := ⟨_, rfl⟩
      rw [hd] at hDC
      obtain ⟨fu1, rfl⟩ : ∃ q, fu' = q + 1 := ⟨fu' - 1, by omega⟩
      have hlt : pre.length < (rds fu 0 l).length := by
        rw [hR.out, List.length_append]
        by_cases he : (decF l').2.2 = 0
        · obtain ⟨q, hq, -⟩ := decF_ok l' he
          rw [rds_go _ _ _ _ hl0 he hq]
          simp
        · rw [rds_bad _ _ _ hl0 he]
          simp
      have hJn := Lib.hid (fun (w1 : World) (hb : Below wr.heap.size wr w1) => hJ _ _ _ none hJr (grown_of_below (bch hb (bnew w1 (.cells x.cs 23)))) (fun r e => by cases e))
      have hYn := Lib.hid (fun (w1 : World) (hb : Below wr.heap.size wr w1) => hY pre ⟨k, x, er⟩ _ (hJn.out w1 hb) hlt)
      have hN := Lib.hid (fun (w1 : World) (hb : Below wr.heap.size wr w1) => (bch hb (bnew w1 (.cells x.cs 23))).mono hnr)
      by_cases he : er = 0
      · subst he
        gi_wp2_with (refine ⟨trivial, ?_⟩; gi_at_call 14; ((with_reducible refine (hDC.out).mono ?_); rintro e w1 ⟨rfl, hb1⟩; obtain ⟨fn, tmps, assign, body, hy, hYR⟩ := hYn.out w1 hb1))
        obtain ⟨s, hs, s1, s2, s8⟩ := decF_ok l' (by rw [hd])
        rw [hd] at hs
        obtain rfl : sl = (s : Int) := hs
        obtain ⟨kk, oo, rfl, hkk, hby⟩ : ∃ kk oo, ad = some ⟨kk, oo, none⟩ ∧ kk < n₀ ∧ Bytes wr kk oo l' := by
          rcases hc3 with h | h
          · exact absurd h hl0
          · exact h
        have hpre : rds fu 0 l = (pre ++ [⟨k, x, 0⟩]) ++ rds fu1 (k + s) (l'.drop (8 * s)) := by
          rw [hR.out, rds_go fu1 k s l' hl0 (by rw [hd]) (by rw [hd]), hd]
          simp
        refine hYR.mono ?_
        rintro e W3 (⟨rfl, hJ3, hk3⟩ | ⟨rfl, hJx3⟩)
        · have hB3 := (hN.out w1 hb1).trans hk3
          have hsl := sl_from kk oo l'.length cap (8 * s) (by omega) hc1
          have e1 : ((8 * s : Nat) : Int) = (s : Int) * 8 := by omega
          rw [e1] at hsl
          have hnew : BsL n₀ W3 (.slice (some ⟨kk, if cap = 8 * s then oo else oo + 8 * s, none⟩) (l'.length - 8 * s) (cap - 8 * s)) (l'.drop (8 * s)) := by
            refine ⟨_, _, by rw [List.length_drop], by rw [List.length_drop]; omega, by omega, ?_⟩
            by_cases hcap : cap = 8 * s
            · exact .inl (List.drop_eq_nil_of_le (by omega))
            · refine .inr ⟨kk, oo + 8 * s, by rw [if_neg hcap], hkk, fun j hj => ?_⟩
              rw [List.length_drop] at hj
              have := hby (8 * s + j) (by omega)
              rw [List.getElem_drop, Nat.add_assoc]
              exact (hB3.cell (p := ⟨kk, _, none⟩) hkk).trans this
          have hW3 := wid_low hwr hB3 h0n
          have hz3 : n₀ ≤ W3.heap.size := by have := hB3.size; omega
          have hP := Lib.hid hpre
          have hq : l'.length - 8 * s ≤ fu1 := by omega
          generalize (if cap = 8 * s then oo else oo + 8 * s) = o2 at hsl hnew
          clear hpre hd hR hY hYn hJn hN hYR hby hc3 hr hDC
          gi_wp2
          go_roundw
          case rel => exact ⟨pre ++ [⟨k, x, 0⟩], k + s, l'.drop (8 * s), fu1, by go_num, hnew, hW3, hz3, hP, by rw [List.length_drop]; exact hq, by rw [List.length_drop]; omega, hJ3⟩
          case measure => simp [intOf]; omega
        · have hP := Lib.hid hpre
          clear hpre hd hR hY hYn hJn hN hYR hby hc3 hr hDC
          gi_wp2
          refine bodyPost_ret (results_none rfl _ _ _) rfl ?_
          exact ⟨⟨_, rfl⟩, .inr ⟨pre ++ [⟨k, x, 0⟩], ⟨_, hP.out.symm⟩, hJx3⟩⟩
      · have hen : (er != 0) = true := by simpa using he
        have hpre : rds fu 0 l = pre ++ [⟨k, x, er⟩] := by
          rw [hR.out, rds_bad fu1 k l' hl0 (by rw [hd]; exact he), hd]
        have hP := Lib.hid hpre
        clear hpre hd hR
        gi_wp2_with (refine ⟨trivial, ?_⟩; gi_at_call 14; ((with_reducible refine (hDC.out).mono ?_); rintro e w1 ⟨rfl, hb1⟩; obtain ⟨fn, tmps, assign, body, hy, hYR⟩ := hYn.out w1 hb1))
        refine hYR.mono ?_
        rintro e W3 (⟨rfl, hJ3, hk3⟩ | ⟨rfl, hJx3⟩)
        · clear hY hYn hJn hN hYR hc3 hr hDC
          gi_wp2
          refine bodyPost_ret (results_none rfl _ _ _) rfl ?_
          exact ⟨⟨_, rfl⟩, .inl ⟨_, hP.out.symm, hJ3⟩⟩
        · clear hY hYn hJn hN hYR hc3 hr hDC
          gi_wp2
          refine bodyPost_ret (results_none rfl _ _ _) rfl ?_
          exact ⟨⟨_, rfl⟩, .inr ⟨pre ++ [⟨k, x, er⟩], by rw [hP.out]; exact List.prefix_refl _, hJx3⟩⟩
end Go.Proofs.YthebdblncafijaaDoor
