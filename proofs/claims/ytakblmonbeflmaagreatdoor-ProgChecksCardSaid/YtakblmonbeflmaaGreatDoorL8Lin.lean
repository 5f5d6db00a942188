/- What the program's Lines returns: the lines of a text, which its iterator yields one after the other. No condition but that the text has at most 100000 bytes. -/
import Derived.Test.YtakblmonbeflmaaGreatDoorL8Cut
import Derived.RangeFuncNested
import Derived.RangeFuncBound
import Derived.RangeFuncCalls
import Derived.RangeFuncLeaves
import Derived.RangeFuncBox
import Derived.Shelf.Abstract
import Derived.Shelf.RegionOpen
import Derived.OwnWalkIn
import Derived.TacticsInMore
import Derived.LoopNIn
import Derived.LoopIn
import Derived.RegionIn
import Derived.Maps.AppendAt
import Derived.Deep.AppendLies
namespace Go.Proofs.YtakblmonbeflmaaGreatDoor.L8
open Go.RowKit Go.Shelf L2
attribute [local go_sem] Oper.semAt_some

theorem grown_of_below {w w' : World} (h : Below w.heap.size w w') : w.grownBy w' none := ⟨h.os, h.tape, h.output, h.size, fun k hk _ => h.block k hk⟩
/-- A text's size. -/
def szOf : Value → Nat
  | .string R => R.size
  | _ => 0
theorem lns_some (R : ByteArray) (h : R.data.toList ≠ []) : (lsx [] R.data.toList).map mkB = mkB (hdl R.data.toList) :: (lsx [] (mkB (tll R.data.toList)).data.toList).map mkB := by
  rw [lsx_step R.data.toList [] (by simpa using h), mkB_list]; rfl

set_option maxRecDepth 100000 in
set_option maxHeartbeats 2000000 in
theorem lines_in (n : Nat) (hn : 2 ≤ n) (lp Bn n₀ : Nat) (s : ByteArray) (hs : s.size ≤ 100000) (J Jx : List ByteArray → World → Prop) (W : World) (hJ : AbidesFrom W.heap.size J)
    (hY : ∀ pre x W1, J pre W1 → pre.length < (lns s).length → YieldAt Fence.wide (n - 1) Tryz.prog lp #[.string x] W1 fun e W' =>
      (e = .returned (.bool true) ∧ J (pre ++ [x]) W' ∧ Below n₀ W1 W') ∨ (e = .returned (.bool false) ∧ Jx (pre ++ [x]) W'))
    (hBn : W.cell? ⟨Bn, 0, none⟩ = some (.string s)) (h0 : J [] W) :
    CallsIn Fence.wide n Tryz.prog 85 #[.func (.yield lp) #[] #[], .pointer (some ⟨Bn, 0, none⟩)] W fun e W' => (∃ v, e = .returned v) ∧
      ((∃ ys, ys = lns s ∧ J ys W') ∨ (∃ pre, pre <+: lns s ∧ Jx pre W')) := by
  refine callsIn_of_wp Tryz.func85 rfl trivial ?_ rfl
  simp only [Tryz.ntmps85, List.size_toArray, List.length_cons, List.length_nil, Nat.reduceAdd, Nat.reduceSub, Array.replicate_succ, Array.replicate_zero, List.push_toArray, List.append_toArray, List.nil_append, List.cons_append]
  gi_wp2
  have h1n : 1 ≤ n := by omega
  gi_loopw [3] (fun r wr => ∃ (pre : List ByteArray) (R : ByteArray), r = .string R ∧ R.size ≤ s.size ∧ Hid (lns s = pre ++ (lsx [] R.data.toList).map mkB) ∧ J pre wr) (fun r _ => szOf r)
  case atStart => exact ⟨[], s, rfl, Nat.le_refl _, Lib.hid (by rw [lns_lsx]; rfl), h0⟩
  case round =>
    obtain ⟨pre, R, rfl, hRs, hR, hJr⟩ := hrel
    by_cases hl0 : R.data.toList = []
    · have t1 : R.toList.isEmpty = true := by rw [Lib.toList_data, hl0]; rfl
      have e1 : lns s = pre := by rw [hR.out, hl0]; simp [lsx]
      have E1 := Lib.hid e1
      clear e1 hl0 hR hY hJ
      gi_wp2
      go_end0
      exact ⟨⟨_, rfl⟩, .inl ⟨_, rfl, by rw [E1.out]; exact hJr⟩⟩
    · have t1 : R.toList.isEmpty = false := by
        rw [Lib.toList_data]
        cases h : R.data.toList with
        | nil => exact absurd h hl0
        | cons _ _ => rfl
      have hR1 := hR.out
      rw [lns_some R hl0] at hR1
      have hlt : pre.length < (lns s).length := by rw [hR1]; simp
      have hU := hdl_le R.data.toList
      have hV := tll_lt R.data.toList hl0
      have HC := Lib.hid (callsIn_wide (n := n - 1).2 (cutnl_any R (by omega) wr))
      rw [size_list] at hV
      have hVs := mkB_size (tll R.data.toList)
      obtain ⟨U, hUe⟩ : ∃ U, mkB (hdl R.data.toList) = U := ⟨_, rfl⟩
      obtain ⟨V, hVe⟩ : ∃ V, mkB (tll R.data.toList) = V := ⟨_, rfl⟩
      rw [hUe, hVe] at HC hR1
      rw [hVe] at hVs
      have hpre : lns s = (pre ++ [U]) ++ (lsx [] V.data.toList).map mkB := by rw [hR1]; simp
      have HP := Lib.hid hpre
      have hYn := Lib.hid (fun (m : Nat) => hY pre U (wr.drewN m) (hJ _ _ _ none hJr (grown_of_below (bdN (Below.refl _ _) m)) (fun r e => by cases e)) hlt)
      have hVR : V.size < R.size := by omega
      clear hR1 hR hU hUe hVe hV hVs hpre hlt hY hJ hl0
      gi_wp2_with (refine ⟨trivial, ?_⟩; gi_at_call 86; ((with_reducible refine (HC.out).mono ?_); rintro e w1 ⟨⟨bb, rfl⟩, m, rfl⟩; obtain ⟨fn, tmps, assign, body, hy, hYR⟩ := hYn.out m))
      refine hYR.mono ?_
      rintro e W3 (⟨rfl, hJ3, hk3⟩ | ⟨rfl, hJx3⟩)
      · clear hYn hYR HC
        gi_wp2
        go_roundw
        case rel => exact ⟨_, V, rfl, by omega, HP, hJ3⟩
        case measure => simpa [szOf] using hVR
      · clear hYn hYR HC
        gi_wp2
        refine bodyPost_ret (results_none rfl _ _ _) rfl ?_
        exact ⟨⟨_, rfl⟩, .inr ⟨_, ⟨_, HP.out.symm⟩, hJx3⟩⟩

theorem eachLine_at (s : ByteArray) (w : World) : Calls Tryz.prog 53 #[.string s] w fun e w' => e = .returned (.func (.func 85) #[] #[.pointer (some ⟨w.heap.size, 0, none⟩)]) ∧ w' = w.alloc (.cells #[.string s] 9) := by
  have hmf : (Instr.makeFunc (.func 85) #[] #[.pointer (some ⟨w.heap.size, 0, none⟩)]).run Tryz.prog (w.alloc (.cells #[.string s] 9)) = .ok (.func (.func 85) #[] #[.pointer (some ⟨w.heap.size, 0, none⟩)]) (w.alloc (.cells #[.string s] 9)) := by rfl
  go_enter Tryz.func53, Tryz.ntmps53
  go_wp2
  go_ret
  exact ⟨rfl, rfl⟩
theorem lines_stops (n : Nat) (hn : 2 ≤ n) (Bn n₀ : Nat) (s : ByteArray) (hs : s.size ≤ 100000) (w : World) (hBn : Bn < w.heap.size) (hc : w.cell? ⟨Bn, 0, none⟩ = some (.string s)) :
    SeqStopsK Fence.wide n Tryz.prog 85 #[.pointer (some ⟨Bn, 0, none⟩)] (fun x : ByteArray => #[.string x]) (Below n₀) (fun ys => ys = lns s) (fun pre => pre <+: lns s) (lns s).length w := fun lp J Jx W hW hJ _ hY hj =>
  lines_in n hn lp Bn n₀ s hs J Jx W hJ hY ((hW.cell (p := ⟨Bn, 0, none⟩) hBn).trans hc) hj
theorem lns_le (s : ByteArray) : (lns s).length ≤ s.size + 1 := by
  have := ln_len s.data.toList 0 0
  rw [size_list] at this
  simpa [lns, exX] using this
theorem ownsRow_putObj {W : World} {base e : TypeId} {size : Nat} {v : Value} {n : Nat} {xs : List Value} (h : W.ownsRow base e size v n xs) {l : Nat} {o : Obj} (o' : Obj) (hl : W.heap[l]? = some o) (ho : o.isCells = false) : (W.putObj l o').ownsRow base e size v n xs := by
  refine h.kept (grownBy_putObj' W l o') ?_
  rcases h.2 with ⟨rfl, _⟩ | ⟨g, cap, cur, rfl, _, hh, _⟩
  · exact .inl rfl
  · refine .inr fun e => ?_
    simp [Value.ownBlock] at e
    subst e
    rw [hh] at hl; cases hl; cases ho

/-- What the loop of Lines keeps. -/
def LinI (w : World) (pre : List ByteArray) (W : World) : Prop :=
  (∃ v, Boxed W w.heap.size 39 v ∧ W.ownsRow w.heap.size 9 1 v pre.length (stC pre) ∧ True) ∧ Below w.heap.size w W
theorem linI_own (w : World) (B : Nat) (hB : w.heap.size ≤ B) : OwnFrom B (LinI w) :=
  OwnFrom.and (Own.from (holdsRow_own _ _ _ _ _ (fun pre : List ByteArray => pre.length) (fun pre => stC pre) (fun _ _ => True)) _) (ownFrom_below (Nat.le_refl _) hB)

set_option maxRecDepth 100000 in
set_option maxHeartbeats 4000000 in
theorem lines8 (s : ByteArray) (w : World) (hs : s.size ≤ 100000) : Calls Tryz.prog 39 #[.string s] w fun e w' => PS w (lns s) e w' := by
  obtain ⟨i0, hi, hz0, hz1, hz2⟩ := info_parts Tryz.info9
  refine (callsIn_wide (n := 6)).1 ?_
  refine callsIn_of_wp_marks Tryz.func39 rfl trivial ?_ rfl
  simp only [Tryz.ntmps39, List.size_toArray, List.length_cons, List.length_nil, Nat.reduceAdd, Nat.reduceSub, Array.replicate_succ, Array.replicate_zero, List.push_toArray, List.append_toArray, List.nil_append, List.cons_append]
  gi_wp2_with (refine ⟨trivial, ?_⟩; gi_at_call 53; refine (callsIn_wide.2 (eachLine_at s _)).mono ?_; rintro e w1 ⟨rfl, rfl⟩)
  have b0 := (Boxed.new w 39 (.slice none 0 0)).alloc (.cells #[.string s] 9)
  have b1 := Boxed.new (w.alloc (.cells #[.slice none 0 0] 39)) 9 (.string s)
  simp only [World.size_alloc] at b1
  have hB0 : Below w.heap.size w ((w.alloc (.cells #[.slice none 0 0] 39)).alloc (.cells #[.string s] 9)) := ((Below.refl _ w).alloc (Nat.le_refl _) _).alloc (by simp) _
  have hsz : ((w.alloc (.cells #[.slice none 0 0] 39)).alloc (.cells #[.string s] 9)).heap.size = w.heap.size + 1 + 1 := by simp
  obtain ⟨W0, hW0⟩ : ∃ W0, (w.alloc (.cells #[.slice none 0 0] 39)).alloc (.cells #[.string s] 9) = W0 := ⟨_, rfl⟩
  rw [hW0] at b0 b1 hB0 hsz
  have hlen := lns_le s
  simp only [hW0]
  clear hW0
  refine wpIn_rangeFunc_ownF rfl (by omega) (gf := 85) (lb := #[.pointer (some ⟨w.heap.size + 1, 0, none⟩)]) rfl trivial (enters_of Tryz.func85 (by kernel_rfl) rfl)
    (lines_stops _ (by omega) (w.heap.size + 1) w.heap.size s hs W0 (by omega) b1.cell) belowK_t (belowK_b (by omega)) (Below.refl _ _) (fun _ => rfl)
    (LinI w) (fun _ _ _ => False) (linI_own w _ (by omega)) (fun _ _ _ _ _ hs _ _ => hs)
    ⟨⟨_, b0, World.ownsRow_nil _ _ _ _, trivial⟩, hB0⟩
    (fun x => { tmps := #[.string s, undef, .slice none 0 0, .pointer (some ⟨w.heap.size, 0, none⟩), .string x, .string s, .func (.func 85) #[] #[.pointer (some ⟨w.heap.size + 1, 0, none⟩)], .string x, undef, undef, undef, undef, undef], defers := [] })
    ?assign ?body ?done ?stop
  case assign =>
    intro l x W K hK
    gi_wp2
    exact hK
  case body =>
    rintro lp pre x W ⟨⟨vv, c3, hrow, -⟩, hB1⟩ hlt
    have d3 := c3.cell
    have hle : w.heap.size ≤ w.heap.size := Nat.le_refl _
    gi_wp2_with (gi_at_builtin; refine wpListIn_append_own _ rfl _ _ 39 rfl w.heap.size 9 i0 (.string ⟨#[]⟩) 1 16 Tryz.underlying39 hi hz0 hz1 hz2 rfl (by decide) _ _ _ rfl (hrow.alloc _) ⟨W.heap.size, 0, none⟩ 1 1 [.string x] rfl rfl (World.news_of_block (cs := #[.string x]) (t := 9) (fr := (0, 0)) (heap_alloc_last W _)) (by simp [Value.oneCell']) (by unfold maxLen; omega) (by omega) (by have := hB1.size; simp; omega) ?_; intro v' w1 hown' hgrow _; obtain ⟨g', cap', rfl⟩ := ownsRow_succ hown'; obtain ⟨hv1, hv2, hr2, hk2, hb2⟩ := c3.appended (by decide) hrow hB1.size hle hown' hgrow; have hc1 := hv1.cell; have hf1 := hv1.frozen)
    refine ⟨hk2, hb2, ⟨_, hv2, ?_, trivial⟩, hB1.trans hb2⟩
    rw [stC_snoc, List.length_append]
    exact hr2
  case done =>
    rintro D ys W hD rfl ⟨⟨vv, c3, hrow, -⟩, hB1⟩ hK
    have d3 := c3.cell
    gi_wp2
    refine ⟨by simp, .inl ⟨_, _, rfl, run_takeDeferred hK, ?_⟩⟩
    exact ⟨vv, by simp [results, Tryz.results39, go_sem], ⟨⟨_, rfl, own_st (ownsRow_putObj hrow _ hK rfl)⟩, hB1.trans (belowK_b (w := w) (Nat.le_refl _) W D _ _ (by omega) hK rfl rfl)⟩⟩
  case stop =>
    rintro D c pre W _ _ h _
    exact h.elim
end Go.Proofs.YtakblmonbeflmaaGreatDoor.L8
