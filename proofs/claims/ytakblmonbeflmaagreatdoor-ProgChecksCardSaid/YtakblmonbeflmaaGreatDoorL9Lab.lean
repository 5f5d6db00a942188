/- What the program's labels returns: the labels that a line begins with, and the tokens behind them. Condition: memory holds the tokens, and the tables read as the program's text lays them. -/
import Derived.Test.YtakblmonbeflmaaGreatDoorL9Stp
import Derived.Test.YtakblmonbeflmaaGreatDoorM10
import Derived.Test.YtakblmonbeflmaaGreatDoorM6
namespace Go.Proofs.YtakblmonbeflmaaGreatDoor.L9
open Go.RowKit
attribute [local go_sem] Oper.semAt_some

/-- A label as an item. -/
def lbV (t : ByteArray) : Value := .iface 100 (.agg #[.string t])
theorem Tryz.info98 : (Tryz.prog.info? 98).map (fun i => (i.zero, i.size, i.bytes)) = some (some .nilIface, 1, 16) := by kernel_rfl
theorem two_shape {x y : ByteArray × Int} (hx : L8.TokT x.1.data.toList) (hy : L8.TokT y.1.data.toList) : (((L8.shB [x, y]).toList == ([119, 58] : List UInt8))) = (wdB x.1 && decide (y.1 = tCol)) := by
  have e : (L8.shB [x, y]).toList = [L8.shl1 x.1.data.toList, L8.shl1 y.1.data.toList] := by rw [Lib.toList_data]; rfl
  rw [e]
  have h1 := L8.shl1_w hx
  have h2 : (L8.shl1 y.1.data.toList == 58) = decide (y.1 = tCol) := by
    rw [Bool.eq_iff_iff]
    constructor
    · intro h
      have h58 : L8.shl1 y.1.data.toList = 58 := by simpa using h
      have hw : L8.isW y.1.data.toList = false := by
        rw [← L8.shl1_w hy, h58]; rfl
      have := mark_of hw
      rw [h58] at this
      rw [this]; rfl
    · intro h
      have h' : y.1 = tCol := by simpa using h
      rw [h']; rfl
  show (L8.shl1 x.1.data.toList == 119 && (L8.shl1 y.1.data.toList == 58 && true)) = _
  rw [h1, h2, Bool.and_true]; rfl
/-- The first two of a slice of tokens; the rest. -/
theorem sub_two (k o n cap : Nat) (h : 2 ≤ n) (hc : n ≤ cap) (w : World) :
    (Instr.slice 126 (.slice (some ⟨k, o, none⟩) n cap) none (some (.int .i64 2)) none).run Tryz.prog w = .ok (.slice (some ⟨k, o, none⟩) 2 cap) w := by
  have h3 : ¬ cap = 0 := by omega
  simp [go_sem, Tryz.underlying126, h3]
  intro hh; omega
def lenOf : Value → Nat
  | .slice _ n _ => n
  | _ => 0
def LabP (xs : L8.Tks) (R : Int × List ByteArray × List ByteArray) (w : World) (e : Ending) (w' : World) : Prop := Below w.heap.size w w' ∧ ((R.1 = 0 ∧ ∃ v1 v2 ys, e = .returned (.tuple #[v1, v2, .int .i64 0]) ∧ w'.ownsRow w.heap.size 98 1 v1 R.2.1.length (R.2.1.map lbV) ∧ L8.TksAt w' v2 ys ∧ txs ys = R.2.2 ∧ ∃ k, ys = xs.drop k) ∨ (R.1 = 7 ∧ e = .returned (.tuple #[.slice none 0 0, .slice none 0 0, .int .i64 7])))
theorem lab_end {acc : List ByteArray} {ts : List ByteArray} (h : ts.length < 2) : lab acc ts = (0, acc, ts) := by
  match ts, h with
  | [], _ => rfl
  | [a], _ => rfl
  | _ :: _ :: _, h => simp only [List.length_cons] at h; omega
theorem tok_head {x : ByteArray × Int} {r : L8.Tks} (h : ∀ t ∈ L8.txt (x :: r), L8.TokT t) : L8.TokT x.1.data.toList ∧ ∀ t ∈ L8.txt r, L8.TokT t := ⟨h _ (by simp [L8.txt]), fun t ht => h t (by unfold L8.txt at ht ⊢; rw [List.map_cons]; exact List.mem_cons_of_mem _ ht)⟩
set_option maxHeartbeats 4000000 in
set_option maxRecDepth 100000 in
theorem labels_at (v : Value) (xs : L8.Tks) (hm : xs.length ≤ 100000) (hxt : ∀ t ∈ L8.txt xs, L8.TokT t) (w : World) (hT : Tab w) (hv : L8.TksAt w v xs) (R : Int × List ByteArray × List ByteArray) (hR : lab [] (txs xs) = R) :
    Calls Tryz.prog 88 #[v] w fun e w' => LabP xs R w e w' := by
  obtain ⟨i0, hi, hz0, hz1, hz2⟩ := info_parts Tryz.info98
  have HT := Lib.hid hT
  have h2 := hT.lt
  have HR := Lib.hid hR
  have HX := Lib.hid hxt
  have HV := Lib.hid hv
  clear hT hR hxt hv
  go_enter Tryz.func88, Tryz.ntmps88
  go_wp2
  go_loopw [0, 5] (fun lv iv wr => ∃ (m k : Nat) (ys : L8.Tks) (acc : List ByteArray), Hid (L8.TksAt w lv ys) ∧ Hid (ys = xs.drop k) ∧ ys.length + 2 * m ≤ 100000 ∧ Hid (lab acc (txs ys) = R) ∧ Hid (∀ t ∈ L8.txt ys, L8.TokT t) ∧ wr.ownsRow w.heap.size 98 1 iv m (acc.map lbV) ∧ Hid (acc.length = m) ∧ Below w.heap.size w wr ∧ Hid (∃ a n c, lv = .slice a n c ∧ n = ys.length)) (fun lv _ _ => lenOf lv)
  case atStart =>
    obtain ⟨a, c, hf⟩ := HV.out.form
    exact ⟨0, 0, xs, [], HV, Lib.hid rfl, by omega, HR, HX, World.ownsRow_nil _ _ _ _, Lib.hid rfl, Below.refl _ _, Lib.hid ⟨a, _, c, hf, rfl⟩⟩
  case round =>
    obtain ⟨m, k, ys, acc, hV, hK, hM, hL, hX, hown, hA, hB, hF⟩ := hrel
    obtain ⟨a, n, c, rfl, hn⟩ := hF.out
    clear hF
    have HN := Lib.hid hn
    clear hn
    by_cases hlt : 2 ≤ n
    · obtain ⟨b, o, rfl, hnc, hbw, hyl, hcw⟩ := hV.out.get (by omega)
      have hbl : b < wr.heap.size := Nat.lt_of_lt_of_le hbw hB.size
      obtain ⟨x0, x1, r, rfl⟩ : ∃ x0 x1 r, ys = x0 :: x1 :: r := by
        match ys, hyl with
        | [], h => simp at h; omega
        | [_], h => simp at h; omega
        | x0 :: x1 :: r, _ => exact ⟨x0, x1, r, rfl⟩
      obtain ⟨T0, hT0⟩ : ∃ T, x0.1 = T := ⟨_, rfl⟩
      have hcr := hcw.below hbw hB
      have c0 : wr.cell? ⟨b, o, none⟩ = some (.string T0) := by
        have := (hcr 0 (by simp)).1
        rw [← hT0]; simpa using this
      have tk0 := tok_head hX.out
      have tk1 := tok_head tk0.2
      have hsub := sub_two b o n c hlt hnc
      have hsl : ∀ W, (Instr.slice 126 (.slice (some ⟨b, o, none⟩) n c) (some (.int .i64 2)) none none).run Tryz.prog W = .ok (.slice (some ⟨b, if c = 2 then o else o + 2 * 2, none⟩) (n - 2) (c - 2)) W := sub_from b o n c 2 hlt hnc
      obtain ⟨o2, ho2⟩ : ∃ o2, (if c = 2 then o else o + 2 * 2) = o2 := ⟨_, rfl⟩
      rw [ho2] at hsl
      have HO := Lib.hid ho2
      clear ho2
      have HSH0 := L8.shape8 [x0, x1] (.slice (some ⟨b, o, none⟩) 2 c) wr (by simp) (fun t ht => by simp only [L8.txt, List.map_cons, List.map_nil, List.mem_cons, List.not_mem_nil, or_false] at ht; rcases ht with h | h; (rw [h]; exact tk0.1); (rw [h]; exact tk1.1)) (.inl ⟨b, o, c, rfl, by simp; omega, hbl, fun j hj => by match j, hj with | 0, _ => (have := hcr 0 (by simp); simpa using this) | 1, _ => (have := hcr 1 (by simp); simpa using this)⟩)
      obtain ⟨S, hS⟩ : ∃ S, L8.shB [x0, x1] = S := ⟨_, rfl⟩
      have t1 := two_shape tk0.1 tk1.1
      rw [hS] at t1 HSH0
      have HSH := Lib.hid HSH0
      have hL1 := hL.out
      have etx : txs (x0 :: x1 :: r) = x0.1 :: x1.1 :: txs r := rfl
      rw [etx, lab, hT0] at hL1
      rw [hT0] at t1
      cases hbb : (wdB T0 && decide (x1.1 = tCol))
      · rw [hbb] at t1
        have hcond : ¬ (wdB T0 = true ∧ x1.1 = tCol) := fun h => by rw [h.1, h.2] at hbb; cases hbb
        rw [if_neg hcond] at hL1
        have HL1 := Lib.hid hL1
        have HT0 := Lib.hid hT0
        clear hL1 hcond hbb hT0 hS HSH0 etx tk0 tk1 hcr hL
        go_wp2_with (go_at_call 109; ((with_reducible refine (HSH.out).mono ?_); rintro e w1 ⟨rfl, b1⟩; have c1 := (b1.cell (p := ⟨b, o, none⟩) hbl).trans c0; clear c0; have hown1 := L8.own_below hown b1; have B1 := L2.bch hB b1))
        refine bodyPost_ret (v := .tuple #[u5, .slice (some ⟨b, o, none⟩) n c, .int .i64 0]) (by simp [results, Tryz.results88, go_sem]) rfl ?_
        rw [← HL1.out]
        exact ⟨B1, .inl ⟨rfl, u5, _, x0 :: x1 :: r, rfl, by rw [hA.out]; exact hown1, (hV.out.below hB).below b1, by rw [← HT0.out]; rfl, k, hK.out⟩⟩
      · rw [hbb] at t1
        have hcond : wdB T0 = true ∧ x1.1 = tCol := by simpa using hbb
        rw [if_pos hcond] at hL1
        cases hvd : L2.vd T0
        · rw [hvd, if_neg Bool.false_ne_true] at hL1
          have HL1 := Lib.hid hL1
          have HID := Lib.hid (fun W (hR : L2.Regs W) => identifier_at T0 W hR eB 7 (by rw [hvd]; rfl) (by unfold naV; rw [hvd]; rfl))
          clear hL1 hcond hbb hT0 hS HSH0 etx tk0 tk1 hcr hL hvd
          go_wp2_with (first | (go_at_call 109; ((with_reducible refine (HSH.out).mono ?_); rintro e w1 ⟨rfl, b1⟩; have c1 := (b1.cell (p := ⟨b, o, none⟩) hbl).trans c0; clear c0; have hown1 := L8.own_below hown b1; have B1 := L2.bch hB b1)) | (go_at_call 110; ((with_reducible refine (HID.out _ (HT.out.below B1 h2).reg).mono ?_); rintro e w2 ⟨rfl, b2⟩)))
          refine bodyPost_ret (v := .tuple #[.slice none 0 0, .slice none 0 0, .int .i64 7]) (by simp [results, Tryz.results88, go_sem]) rfl ?_
          rw [← HL1.out]
          exact ⟨L2.bch B1 b2, .inr ⟨rfl, rfl⟩⟩
        · rw [hvd, if_pos rfl] at hL1
          have HL1 := Lib.hid hL1
          have HID := Lib.hid (fun W (hR : L2.Regs W) => identifier_at T0 W hR T0 0 (by rw [hvd]; rfl) (by unfold naV; rw [hvd]; rfl))
          have hKd : r = xs.drop (k + 2) := by rw [← List.drop_drop, ← hK.out]; rfl
          have HKD := Lib.hid hKd
          have HTK := Lib.hid tk1.2
          have hln : r.length + 2 * (m + 1) ≤ 100000 := by have := hM; simp only [List.length_cons] at this; omega
          clear hL1 hcond hbb hT0 hS HSH0 etx tk0 tk1 hcr hL hvd hKd hM
          go_wp2_with (first | (go_at_call 109; ((with_reducible refine (HSH.out).mono ?_); rintro e w1 ⟨rfl, b1⟩; have c1 := (b1.cell (p := ⟨b, o, none⟩) hbl).trans c0; clear c0; have hown1 := L8.own_below hown b1; have B1 := L2.bch hB b1)) | (go_at_call 110; ((with_reducible refine (HID.out _ (HT.out.below B1 h2).reg).mono ?_); rintro e w2 ⟨rfl, b2⟩; have hown2 := L8.own_below hown1 b2; have B2 := L2.bch B1 b2; have B2s := B2.size; clear c1)) | (at_builtin; refine wpList_append_own _ rfl _ _ 94 rfl w.heap.size 98 i0 .nilIface 1 16 Tryz.underlying94 hi hz0 hz1 hz2 rfl (by decide) _ m _ rfl (hown2.alloc _) ⟨w2.heap.size, 0, none⟩ 1 1 [.iface 100 (.agg #[.string T0])] rfl rfl (World.news_of_block (cs := #[.iface 100 (.agg #[.string T0])]) (t := 98) (fr := (0, 0)) (heap_alloc_last w2 _)) (by simp [Value.oneCell']) (by unfold maxLen; omega) (by omega) (by simp; omega) ?_; intro v' w3 hown3 hgrow3 _))
          go_roundw
          case rel =>
            refine ⟨m + 1, k + 2, r, acc ++ [T0], Lib.hid ?_, HKD, hln, HL1, HTK, ?_, Lib.hid (by rw [List.length_append, hA.out]; rfl), (L2.bch B2 (L8.bnew _ _)).grown hgrow3 (by simp; omega) (L8.own_base hown), Lib.hid ⟨_, _, _, rfl, by rw [HN.out]; rfl⟩⟩
            · rw [← HO.out]
              refine .inl ⟨b, _, c - 2, by rw [HN.out]; rfl, by simp only [List.length_cons] at hyl; omega, hbw, ?_⟩
              exact tks_from hcw hyl hnc hlt
            · rw [List.map_append]; exact hown3
          case measure => simp [lenOf]; omega
    · have hL1 := hL.out
      rw [lab_end (by rw [txs, List.length_map, ← HN.out]; omega)] at hL1
      have HL1 := Lib.hid hL1
      clear hL1 hL
      go_wp2
      refine bodyPost_ret (v := .tuple #[u5, .slice a n c, .int .i64 0]) (by simp [results, Tryz.results88, go_sem]) rfl ?_
      rw [← HL1.out]
      exact ⟨hB, .inl ⟨rfl, u5, _, ys, rfl, by rw [hA.out]; exact hown, hV.out.below hB, rfl, k, hK.out⟩⟩
end Go.Proofs.YtakblmonbeflmaaGreatDoor.L9
