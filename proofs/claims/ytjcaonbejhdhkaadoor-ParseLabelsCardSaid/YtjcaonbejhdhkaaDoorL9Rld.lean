/- What the reference's Line returns for an instruction: its operands, with an error or without. Condition: the line has at most 100000 bytes. -/
import Derived.Test.YtjcaonbejhdhkaaDoorL9Rlx
import Derived.BigRegion
import Derived.BigQuiet
import Derived.Deep.RegionWith
namespace Go.Proofs.YtjcaonbejhdhkaaDoor.L9
open Go.RowKit
attribute [local go_sem] Oper.semAt_some

set_option maxHeartbeats 8000000 in
set_option maxRecDepth 100000 in
theorem rline_yes (s : ByteArray) (hs : s.size ≤ 100000) (w : World) (hb : L8.bad s = -1) (h : (lab [] (txB s)).1 = 0) (t : ByteArray) (q : List ByteArray) (h0 : (lab [] (txB s)).2.2 = t :: q) (hw : wdB t = true) (htm : t ≠ mapT) (hop : ¬ fiV t < 0) (hin : (shV (L3.frm (L3.ix (fiV t)))).any (fun x => decide (x = shpB q)) = true) (r : Rs) (hov : opV (L3.frm (L3.ix (fiV t))) (fiV t) (spl q) (offV (joi q)) = (r, 0)) : Calls Tryd.prog 11 #[.string s] w fun e w' => RLinP ((lab [] (txB s)).2.1, r, 0) w e w' := by
  obtain ⟨i0, hi, hz0, hz1, hz2⟩ := info_parts Tryd.info9
  obtain ⟨hl, hxt, hz⟩ := toks_ok s
  have HK := Lib.hid (fun W => L8.rtokens_any s hs W)
  have HB := Lib.hid hb
  have HX := Lib.hid hxt
  have HZ := Lib.hid hz
  have HLN := Lib.hid hl
  have H1 := Lib.hid h
  have H0 := Lib.hid h0
  clear h h0
  clear hl hxt hz hb
  go_enter Tryd.func11, Tryd.ntmps11
  go_wp2_with (go_at_call 24; ((with_reducible refine (HK.out _).mono ?_); intro e w1 hp; obtain ⟨a, cap, rfl, hv, b1⟩ := L8.TokP_ok HB.out hp; clear hp; have hS := row_up (heap_alloc_last w (.cells rsZ 33)) b1; have B1 := L2.bch (L8.bnew w (.cells rsZ 33)) b1; have hlt1 : w.heap.size < w1.heap.size := Nat.lt_of_lt_of_le (by simp) b1.size))
  have HV := Lib.hid hv
  have hm0 : (L8.tkX s (L8.tks s)).length + 2 * 0 ≤ 100000 := by have := HLN.out; omega
  clear hv b1
  go_loopw [4, 6] (fun lv iv wr => ∃ (m k : Nat) (ys : L8.Tks) (acc : List ByteArray), Hid (L8.TksAt w1 lv ys) ∧ Hid (ys = (L8.tkX s (L8.tks s)).drop k) ∧ ys.length + 2 * m ≤ 100000 ∧ Hid (lab acc (txs ys) = lab [] (txB s)) ∧ Hid (∀ t ∈ L8.txt ys, L8.TokT t) ∧ wr.ownsRow w1.heap.size 9 1 iv m (L8.stC acc) ∧ Hid (acc.length = m) ∧ Below w1.heap.size w1 wr ∧ Hid (∃ a n c, lv = .slice a n c ∧ n = ys.length)) (fun lv _ _ => lenOf lv)
  case atStart => exact ⟨0, 0, _, [], HV, Lib.hid rfl, hm0, Lib.hid rfl, HX, World.ownsRow_nil _ _ _ _, Lib.hid rfl, Below.refl _ _, Lib.hid ⟨_, _, _, rfl, (L8.tkX_len s _).symm⟩⟩
  case round =>
    clear hm0 HV
    obtain ⟨m, k, ys, acc, hV, hK, hM, hL, hX, hown, hA, hB, hF⟩ := hrel
    obtain ⟨a, n, c, rfl, hn⟩ := hF.out
    clear hF
    have HN := Lib.hid hn
    clear hn
    have hbs := hB.size
    by_cases hlt : 2 ≤ n
    · obtain ⟨b, o, rfl, hnc, hbw, hyl, hcw⟩ := hV.out.get (by omega)
      have hbl : b < wr.heap.size := Nat.lt_of_lt_of_le hbw hB.size
      obtain ⟨x0, x1, r0, rfl⟩ : ∃ x0 x1 r0, ys = x0 :: x1 :: r0 := by
        match ys, hyl with
        | [], h => simp at h; omega
        | [_], h => simp at h; omega
        | x0 :: x1 :: r0, _ => exact ⟨x0, x1, r0, rfl⟩
      obtain ⟨T0, hT0⟩ : ∃ T, x0.1 = T := ⟨_, rfl⟩
      obtain ⟨P0, hP0⟩ : ∃ P, x0.2 = P := ⟨_, rfl⟩
      obtain ⟨T1, hT1⟩ : ∃ T, x1.1 = T := ⟨_, rfl⟩
      have hcr := hcw.below hbw hB
      have c0 : wr.cell? ⟨b, o, none⟩ = some (.string T0) := by
        have := (hcr 0 (by simp)).1
        rw [← hT0]; simpa using this
      have c2 : wr.cell? ⟨b, o + 1, none⟩ = some (.int .i64 P0) := by
        have := (hcr 0 (by simp)).2
        rw [← hP0]; simpa using this
      have d0 : wr.cell? ⟨b, o + 2, none⟩ = some (.string T1) := by
        have := (hcr 1 (by simp)).1
        rw [← hT1]; simpa using this
      have hn0 : 0 < n := by omega
      have hn1 : 1 < n := by omega
      have tk0 := tok_head hX.out
      have tk1 := tok_head tk0.2
      have hL1 := hL.out
      have etx : txs (x0 :: x1 :: r0) = x0.1 :: x1.1 :: txs r0 := rfl
      rw [etx, lab, hT0, hT1] at hL1
      clear etx hcr
      cases hwd : wdB T0
      · have HW0 := Lib.hid (fun W => L8.rword8_any T0 P0 false hwd W)
        rw [if_neg (by rw [hwd]; simp)] at hL1
        have HL1 := Lib.hid hL1
        have hL2 := HL1.out
        have h02 : txs (x0 :: x1 :: r0) = t :: q := by rw [← H0.out, ← hL2, ← hT0, ← hT1]; rfl
        have hTt : T0 = t := by unfold txs at h02; rw [List.map_cons, hT0] at h02; injection h02
        have hr : txs (x1 :: r0) = q := by unfold txs at h02; rw [List.map_cons] at h02; injection h02
        rw [hTt, hw] at hwd
        cases hwd

      · have HW0 := Lib.hid (fun W => L8.rword8_any T0 P0 true hwd W)
        by_cases hcol : T1 = tCol
        · rw [if_pos ⟨hwd, hcol⟩] at hL1
          have hvd : L2.vd T0 = true := by
            cases hvd : L2.vd T0
            · rw [hvd, if_neg Bool.false_ne_true] at hL1
              have : (lab [] (txB s)).1 = 7 := by rw [← hL1]
              rw [H1.out] at this; cases this
            · rfl
          rw [hvd, if_pos rfl] at hL1
          have HL1 := Lib.hid hL1
          have hTs : T0.size ≤ 9223372036854775807 := by
            have hK0 := hK.out
            have hk0 : T0 ∈ txs (L8.tkX s (L8.tks s)) := by
              have : T0 ∈ txs ((L8.tkX s (L8.tks s)).drop k) := by rw [← hK.out, ← hT0]; simp [txs]
              unfold txs at this ⊢
              rw [List.map_drop] at this
              exact List.mem_of_mem_drop this
            have := HZ.out T0 hk0
            omega
          have HNM := Lib.hid (fun W => rnam_at T0 0 W hTs (by unfold naV; rw [hvd]; rfl))
          have t1 : (T1.toList == ([58] : List UInt8)) = true := eqb hcol
          have hsl : ∀ W, (Instr.slice 59 (.slice (some ⟨b, o, none⟩) n c) (some (.int .i64 2)) none none).run Tryd.prog W = .ok (.slice (some ⟨b, if c = 2 then o else o + 2 * 2, none⟩) (n - 2) (c - 2)) W := rsub_from b o n c 2 hlt hnc
          obtain ⟨o2, ho2⟩ : ∃ o2, (if c = 2 then o else o + 2 * 2) = o2 := ⟨_, rfl⟩
          rw [ho2] at hsl
          have HO := Lib.hid ho2
          have HKD := Lib.hid (show r0 = (L8.tkX s (L8.tks s)).drop (k + 2) by rw [← List.drop_drop, ← hK.out]; rfl)
          have HTK := Lib.hid tk1.2
          have hln : r0.length + 2 * (m + 1) ≤ 100000 := by have := hM; simp only [List.length_cons] at this; omega
          clear hL1 hwd hcol hvd hT0 hT1 hP0 ho2 tk0 tk1 hL hM hTs
          go_wp2_with (first | (go_at_call 25; ((with_reducible refine (HW0.out _).mono ?_); rintro e w2 ⟨rfl, b2⟩; have c1 := (b2.cell (p := ⟨b, o, none⟩) hbl).trans c0; have d1 := (b2.cell (p := ⟨b, o + 2, none⟩) hbl).trans d0; have e1 := (b2.cell (p := ⟨b, o + 1, none⟩) hbl).trans c2; clear c0 d0 c2; have hown2 := L8.own_below hown b2; have B2 := L2.bch hB b2; have b2s := b2.size)) | (go_at_call 26; ((with_reducible refine (HNM.out _).mono ?_); rintro e w4 ⟨rfl, rfl⟩)) | (at_builtin; refine wpList_append_own _ rfl _ _ 27 rfl w1.heap.size 9 i0 (.string ⟨#[]⟩) 1 16 Tryd.underlying27 hi hz0 hz1 hz2 rfl (by decide) _ m _ rfl (hown2.alloc _) ⟨w2.heap.size, 0, none⟩ 1 1 [.string T0] rfl rfl (World.news_of_block (cs := #[.string T0]) (t := 9) (fr := (0, 0)) (heap_alloc_last w2 _)) (by simp [Value.oneCell']) (by unfold maxLen; omega) (by omega) (by simp; omega) ?_; intro v' w3 hown3 hgrow3 _))
          go_roundw
          case rel =>
            refine ⟨m + 1, k + 2, r0, acc ++ [T0], Lib.hid ?_, HKD, hln, HL1, HTK, ?_, Lib.hid (by rw [List.length_append, hA.out]; rfl), (L2.bch B2 (L8.bnew _ _)).grown hgrow3 (by simp; omega) (L8.own_base hown), Lib.hid ⟨_, _, _, rfl, by rw [HN.out]; rfl⟩⟩
            · rw [← HO.out]
              refine .inl ⟨b, _, c - 2, by rw [HN.out]; rfl, by simp only [List.length_cons] at hyl; omega, hbw, ?_⟩
              exact tks_from hcw hyl hnc hlt
            · rw [L8.stC_snoc]; exact hown3
          case measure => simp [lenOf]; omega
        · rw [if_neg (fun h => hcol h.2)] at hL1
          have HL1 := Lib.hid hL1
          have t1 : (T1.toList == ([58] : List UInt8)) = false := beqt_ne hcol
          have hL2 := HL1.out
          have h02 : txs (x0 :: x1 :: r0) = t :: q := by rw [← H0.out, ← hL2, ← hT0, ← hT1]; rfl
          have hTt : T0 = t := by unfold txs at h02; rw [List.map_cons, hT0] at h02; injection h02
          have hr : txs (x1 :: r0) = q := by unfold txs at h02; rw [List.map_cons] at h02; injection h02
          have hsl : ∀ W, (Instr.slice 59 (.slice (some ⟨b, o, none⟩) n c) (some (.int .i64 1)) none none).run Tryd.prog W = .ok (.slice (some ⟨b, if c = 1 then o else o + 1 * 2, none⟩) (n - 1) (c - 1)) W := rsub_from b o n c 1 (by omega) hnc
          obtain ⟨o3, ho3⟩ : ∃ o3, (if c = 1 then o else o + 1 * 2) = o3 := ⟨_, rfl⟩
          have hc3 : L8.Tksat w1 b o3 (x1 :: r0) := by rw [← ho3]; exact tks_from (a := 1) hcw hyl hnc (by omega)
          rw [ho3] at hsl
          have hl0 : (x1 :: r0).length + 1 = n := by simpa using hyl
          have hac : acc = (lab [] (txB s)).2.1 := by rw [← hL2]
          have HAC := Lib.hid hac
          have hsx : ∃ k, (x1 :: r0) = (L8.tkX s (L8.tks s)).drop k := ⟨k + 1, by rw [← List.drop_drop, ← hK.out]; rfl⟩
          have hTs := tokT_T s hsx
          have hsm := toks_sum_drop s hsx
          obtain ⟨r1, hr1⟩ : ∃ r1, (x1 :: r0) = r1 := ⟨_, rfl⟩
          rw [hr1] at hc3 hl0 hTs hsm hr
          have t2 : (T0.toList == ([109, 97, 112] : List UInt8)) = false := beqt_ne (by rw [hTt]; exact htm)
          have HTA := Lib.hid (fun (W : World) (hB : Below w1.heap.size w1 W) => (.inl ⟨b, o3, c - 1, by rw [show r1.length = n - 1 by omega], by omega, Nat.lt_of_lt_of_le hbw hB.size, hc3.below hbw hB⟩ : L8.TksAt W (.slice (some ⟨b, o3, none⟩) (n - 1) (c - 1)) r1))
          have hr1l : r1.length ≤ 100000 := by omega
          have hsm1 : sumT (txs r1) ≤ 100000 := by omega
          obtain ⟨z, hze⟩ : ∃ z, fiV T0 = z := ⟨_, rfl⟩
          have hzt : fiV t = z := by rw [← hTt]; exact hze
          have HF := Lib.hid (fun w => rfind_at T0 z w hze)
          obtain ⟨f, hf⟩ : ∃ f, L3.frm (L3.ix z) = f := ⟨_, rfl⟩
          have hz0 : ¬ z < 0 := by have := hop; omega
          have HFO := Lib.hid (fun w => L3.rform_at z f w hf)
          have HSP := Lib.hid (fun w => rshapes_at f w)
          obtain ⟨M, hM⟩ : ∃ M, (shV f).length = M := ⟨_, rfl⟩
          have hM100 : M ≤ 100 := by rw [← hM]; exact sh_le f
          have HM := Lib.hid hM
          obtain ⟨S, hSe⟩ : ∃ S, shpB (txs r1) = S := ⟨_, rfl⟩
          have HSH := Lib.hid (fun (W : World) (hB : Below w1.heap.size w1 W) => L8.rshape_at (.slice (some ⟨b, o3, none⟩) (n - 1) (c - 1)) r1 hr1l W (HTA.out W hB))
          rw [shp_txs, hSe] at HSH
          rw [hzt, hf, ← hr, hSe] at hin
          have HIN := Lib.hid hin
          obtain ⟨J, hJe⟩ : ∃ J, joi (txs r1) = J := ⟨_, rfl⟩
          obtain ⟨off, hofe⟩ : ∃ off, offV J = off := ⟨_, rfl⟩
          have HOFF := Lib.hid hofe
          have HJ := Lib.hid (fun (W : World) (hB : Below w1.heap.size w1 W) => rjoin_at (.slice (some ⟨b, o3, none⟩) (n - 1) (c - 1)) r1 hr1l hsm1 W (HTA.out W hB))
          rw [hJe] at HJ
          have HSPL := Lib.hid (fun (W : World) (hB : Below w1.heap.size w1 W) => rsplit_at (.slice (some ⟨b, o3, none⟩) (n - 1) (c - 1)) r1 hr1l hsm1 W (HTA.out W hB))
          unfold L8.StP at HSPL
          have hJs : J.size ≤ 100000 := by rw [← hJe, joi_size]; exact hsm1
          have hqe : q = txs r1 := hr.symm
          have hkz : 0 ≤ f ∧ f ≤ 11 := by
            obtain ⟨_, _, _, _, _, hff⟩ := kin_f (t := t) (by omega)
            rw [hzt, hf] at hff; exact hff
          have hmem : shpB (txs r1) ∈ shV f := by
            have h1 := HIN.out
            rw [List.any_eq_true] at h1
            obtain ⟨y, hy, hy2⟩ := h1
            rw [hSe, ← (by simpa using hy2 : y = S)]; exact hy
          have htok : ∀ t ∈ txs r1, L8.TokT t.data.toList := fun t ht => (txB_tok s).2.1 t (by
            obtain ⟨kk, hkk⟩ := hsx
            rw [← hr1, hkk] at ht
            unfold txs at ht
            rw [List.map_drop] at ht
            exact List.mem_of_mem_drop ht)
          have hneed := spl_of (ops_of hkz htok hmem)
          rw [hJe, hofe] at hneed
          have hopv : opV f z (spl (txs r1)) off = (r, 0) := by rw [← hofe, ← hJe, hr, ← hf, ← hzt]; exact hov
          have HOP := Lib.hid (fun (W : World) (base : Nat) (v : Value) (h : W.ownsRow base 9 1 v (spl (txs r1)).length (L8.stC (spl (txs r1)))) => rope_own z off W h rfl f hf hkz.1 hkz.2 hneed (fun t ht => by have := spl_sizes (txs r1) t ht; omega) r 0 hopv)
          clear hin hf hSe hM hop hJe hofe hqe hkz hmem htok hneed hopv hov hr1l hsm1
          clear hwd hcol hT0 hT1 hP0 tk0 tk1 hr hL2 h02 hTt hL hc3 hl0 hac hTs ho3 htm hcw hyl hL1 hK hV hX HN hsm hsx hr1 hze hzt
          go_upto_region 10 with ((go_at_call 25; ((with_reducible refine (HW0.out _).mono ?_); rintro e w2 ⟨rfl, b2⟩; have c1 := (b2.cell (p := ⟨b, o, none⟩) hbl).trans c0; have d1 := (b2.cell (p := ⟨b, o + 2, none⟩) hbl).trans d0; have e1 := (b2.cell (p := ⟨b, o + 1, none⟩) hbl).trans c2; clear c0 d0 c2; have hown2 := L8.own_below hown b2; have B2 := L2.bch hB b2; have b2s := b2.size)))
          have kT := c1
          have kP := e1
          clear t1 c1 e1 d1
          have hbW : b < w2.heap.size := Nat.lt_of_lt_of_le hbw B2.size
          obtain ⟨la, lc, rfl⟩ := L8.owns_slice hown2
          have hlt2 : w.heap.size < w2.heap.size := Nat.lt_of_lt_of_le hlt1 B2.size
          go_wp2_with (first | (go_at_call 25; ((with_reducible refine (HW0.out _).mono ?_); rintro e w5 ⟨rfl, b5⟩; have B5 := L2.bch B2 b5; have k5 := (b5.cell (p := ⟨b, o, none⟩) hbW).trans kT; have hb5 : b < w5.heap.size := Nat.lt_of_lt_of_le hbW b5.size; have hS5 := (B5.block _ hlt1).trans hS; have hg5 := b5.size; clear kT kP)) | (go_at_call 28; ((with_reducible refine (HF.out _).mono ?_); rintro e w6 ⟨rfl, b6⟩; have hS6 := row_up (row_up hS5 (L8.bnew w5 (.cells rsZ 33))) b6; have hZ6 := row_up (heap_alloc_last w5 (.cells rsZ 33)) b6; have B6 := L2.bch b5 (L2.bch (L8.bnew w5 (.cells rsZ 33)) b6); clear k5)) | (go_at_call 30; ((with_reducible refine (HFO.out _).mono ?_); rintro e w8 ⟨rfl, rfl⟩)) | (go_at_call 29; ((with_reducible refine (HSP.out _).mono ?_); rintro e w7 ⟨⟨v7, rfl, hst7⟩, b7⟩; obtain ⟨sb, so, scap, rfl, hsb, hsc⟩ := sh_form HM.out hst7; have hS7 := row_up hS6 b7; have hZ7 := row_up hZ6 b7; have B7 := L2.bch B6 b7; clear hst7 hS6 hZ6)))
          have hn0' : 0 < n := hn0
          have HSC := Lib.hid hsc
          have hsg := hg5
          clear hsc
          go_loopw [10, 12] (fun fv iv wr => ∃ (j : Nat) (bb : Bool), iv = .int .i64 (j : Int) ∧ j ≤ M ∧ fv = .bool bb ∧ Hid (((shV f).take j).any (fun x => decide (x = S)) = bb) ∧ Below w7.heap.size w7 wr) (fun _ iv _ => M - (intOf iv).toNat)
          case atStart => exact ⟨0, false, rfl, Nat.zero_le _, rfl, Lib.hid rfl, Below.refl _ _⟩
          case round =>
            obtain ⟨j, bb, rfl, hj, rfl, hA2, hBq⟩ := hrel
            by_cases hjM : j < M
            · have hjx : j < (shV f).length := by rw [HM.out]; exact hjM
              have cj := (hBq.cell (p := ⟨sb, so + j, none⟩) hsb).trans (HSC.out j hjM)
              obtain ⟨X, hX⟩ : ∃ X, (shV f)[j] = X := ⟨_, rfl⟩
              rw [show (shV f).getD j ByteArray.empty = X by rw [← hX]; simp [List.getD, List.getElem?_eq_getElem hjx]] at cj
              have hsq : sb < wr.heap.size := Nat.lt_of_lt_of_le hsb hBq.size
              have hBw : Below w1.heap.size w1 wr := L2.bch B2 (L2.bch B7 hBq)
              by_cases he : X = S
              · have HF2 := Lib.hid (show ((shV f).take (j + 1)).any (fun x => decide (x = S)) = true by rw [any_take _ _ j hjx, hX]; simp [he])
                have t3 := L2.txt_eq he.symm
                clear hX he
                go_upto_region 26 with (fail)
                go_region_with (go_at_call 31; ((with_reducible refine (HSH.out _ hBw.drew).mono ?_); rintro e w8 ⟨rfl, b8⟩; have cj8 := (b8.cell (p := ⟨sb, so + j, none⟩) hsq).trans cj))
                all_goals
                  go_wp2
                  go_roundw
                  case rel => exact ⟨j + 1, true, by go_num, by omega, rfl, HF2, L2.bch hBq.drew b8⟩
                  case measure => simp [intOf]; omega
              · have HF2 := Lib.hid (show ((shV f).take (j + 1)).any (fun x => decide (x = S)) = bb by rw [any_take _ _ j hjx, hX, hA2.out]; simp [he])
                have t3 := L2.txt_ne (fun e => he e.symm)
                clear hX he
                go_upto_region 26 with (fail)
                go_region_with (go_at_call 31; ((with_reducible refine (HSH.out _ hBw.drew).mono ?_); rintro e w8 ⟨rfl, b8⟩; have cj8 := (b8.cell (p := ⟨sb, so + j, none⟩) hsq).trans cj))
                all_goals
                  go_wp2
                  go_roundw
                  case rel => exact ⟨j + 1, bb, by go_num, by omega, rfl, HF2, L2.bch hBq.drew b8⟩
                  case measure => simp [intOf]; omega
            · obtain rfl : j = M := by omega
              obtain rfl : bb = true := by
                have := hA2.out
                rw [List.take_of_length_le (by rw [HM.out]; exact Nat.le_refl _)] at this
                rw [← this]; exact HIN.out
              have hS8 := row_up hS7 hBq
              have hZ8 := row_up hZ7 hBq
              have B8 := L2.bch B7 hBq
              clear hS7 hZ7 hsb hsg
              have hBw : Below w1.heap.size w1 wr := L2.bch B2 B8
              go_wp2_with (go_at_call 32; ((with_reducible refine (HJ.out _ hBw).mono ?_); rintro e w9 ⟨rfl, rfl⟩))
              go_loop [14, 15] (fun ov iv => ∃ (j : Nat) (bb : Bool), iv = .int .i64 (j : Int) ∧ (j + 1 ≤ J.size ∨ j = 0) ∧ ov = .bool bb ∧ Hid ((List.range j).any (offAt J) = bb)) (fun _ iv => J.size - (intOf iv).toNat)
              case atStart => exact ⟨0, false, rfl, .inr rfl, rfl, Lib.hid rfl⟩
              case round =>
                obtain ⟨j, bb, rfl, hj, rfl, hO2⟩ := hrel
                by_cases hlt3 : j + 1 < J.size
                · have hj' : j + 1 ≤ J.size := by omega
                  obtain ⟨cc, hcc⟩ : ∃ cc, J.data.toList.getD j 0 = cc := ⟨_, rfl⟩
                  have hix := index_str J j (by omega) hcc
                  have hst3 := off_step2 J j
                  rw [hO2.out, hcc] at hst3
                  have g0 : ((j : Int) + 1) < (J.size : Int) := by omega
                  by_cases h43 : cc = 43
                  · have HN3 := Lib.hid (show (List.range (j + 1)).any (offAt J) = true by rw [hst3, h43]; simp)
                    have t5 : ((cc.toNat : Int) == 43) = true := by rw [h43]; rfl
                    have t6 : ((cc.toNat : Int) == 45) = false := by rw [h43]; rfl
                    clear hst3 h43 hcc hO2
                    go_wp2
                    go_round
                    case rel => exact ⟨j + 1, true, by go_num, .inl (by omega), rfl, HN3⟩
                    case measure => simp [intOf]; omega
                  · have t5 : ((cc.toNat : Int) == 43) = false := ne_byte h43 43 rfl
                    by_cases h45 : cc = 45
                    · have t6 : ((cc.toNat : Int) == 45) = true := by rw [h45]; rfl
                      by_cases hj0 : j = 0
                      · have g1 : ¬ 0 < j := by omega
                        have g2 : ¬ (0 : Int) < (j : Int) := by omega
                        have g4 : decide (0 < j) = false := by simp; omega
                        have HN3 := Lib.hid (show (List.range (j + 1)).any (offAt J) = bb by rw [hst3, h45, g4]; simp)
                        clear hst3 h43 h45 hcc hO2 hj0
                        go_wp2
                        go_round
                        case rel => exact ⟨j + 1, bb, by go_num, .inl (by omega), rfl, HN3⟩
                        case measure => simp [intOf]; omega
                      · obtain ⟨pp, hpp⟩ : ∃ pp, J.data.toList.getD (j - 1) 0 = pp := ⟨_, rfl⟩
                        have hix2 := index_str J (j - 1) (by omega) hpp
                        rw [show ((j - 1 : Nat) : Int) = (j : Int) - 1 by omega] at hix2
                        rw [hpp] at hst3
                        have g1 : 0 < j := by omega
                        have g2 : (0 : Int) < (j : Int) := by omega
                        have g3 : (1 : Int) ≤ (j : Int) := by omega
                        have g4 : decide (0 < j) = true := by simp; omega
                        by_cases h44 : pp = 44
                        · have HN3 := Lib.hid (show (List.range (j + 1)).any (offAt J) = bb by rw [hst3, h45, h44]; simp)
                          have t7 : ((pp.toNat : Int) != 44) = false := by rw [h44]; rfl
                          clear hst3 h43 h45 hcc hO2 h44 hpp hj0
                          go_wp2
                          go_round
                          case rel => exact ⟨j + 1, bb, by go_num, .inl (by omega), rfl, HN3⟩
                          case measure => simp [intOf]; omega
                        · have HN3 := Lib.hid (show (List.range (j + 1)).any (offAt J) = true by rw [hst3, h45]; simp [h44, g1])
                          have t7 : ((pp.toNat : Int) != 44) = true := by have := ne_byte h44 44 rfl; simpa using this
                          clear hst3 h43 h45 hcc hO2 h44 hpp hj0
                          go_wp2
                          go_round
                          case rel => exact ⟨j + 1, true, by go_num, .inl (by omega), rfl, HN3⟩
                          case measure => simp [intOf]; omega
                    · have HN3 := Lib.hid (show (List.range (j + 1)).any (offAt J) = bb by rw [hst3]; simp [h43, h45])
                      have t6 : ((cc.toNat : Int) == 45) = false := ne_byte h45 45 rfl
                      clear hst3 h43 h45 hcc hO2
                      go_wp2
                      go_round
                      case rel => exact ⟨j + 1, bb, by go_num, .inl (by omega), rfl, HN3⟩
                      case measure => simp [intOf]; omega
                · obtain rfl : bb = off := by
                    rw [← HOFF.out, ← hO2.out]
                    unfold offV
                    rw [show j = J.size - 1 by omega]
                  have g0 : ¬ ((j : Int) + 1) < (J.size : Int) := by omega
                  go_wp2_with (first | (go_at_call 34; ((with_reducible refine (HSPL.out _ hBw).mono ?_); rintro e w9 ⟨⟨v9, rfl, hown9⟩, b9⟩; have hS9 := row_up hS8 b9; have hZ9 := row_up hZ8 b9; have B9 := L2.bch B8 b9; clear hS8 hZ8)) | (go_at_call 33; ((with_reducible refine (HOP.out _ _ _ hown9).mono ?_); rintro e w6 ⟨rfl, b6⟩; have hS6 := row_up hS9 b6; have hZ6 := row_up hZ9 b6; have B6 := L2.bch B9 b6; clear hS9 hZ9 hown9)) | (refine wpList_store_row rfl _ _ _ rfl w5.heap.size (rsA (.slice none 0 0) r) rfl rfl 33 _ hZ6 (by kernel_rfl) rfl (rsA_one r) ?_; have hZ7 := setRow_heap _ _ _ (rsA (.slice none 0 0) r) _ _ hZ6; have hS7 := (setRow_other w6 w5.heap.size w.heap.size (rsA (.slice none 0 0) r) (by omega)).trans hS6; have B7 := below_setRow B6 hg5 (rsA (.slice none 0 0) r); generalize (w6.setRow w5.heap.size (rsA (.slice none 0 0) r)) = w7 at hZ7 hS7 B7 ⊢; clear hZ6 hS6 B6 b6; obtain ⟨z0, z1, z2, z3, z4, z5, z6, z7, z8, z9, z10, z11, z12, z13⟩ := cells14 hZ7; have fz := frozen_all hZ7 0; have hg7 := lt_of_block hZ7; have hne : w.heap.size ≠ w5.heap.size := (by omega)) | (refine wpList_store_row rfl _ _ _ rfl w.heap.size (rsA (.slice la m lc) r) rfl rfl 33 _ (row_other hS7 0 _ hne) (by kernel_rfl) rfl (by simp [Value.oneCell']) ?_))
                  have hR := setRow_heap _ _ _ (rsA (.slice la m lc) r) _ _ (row_other hS7 0 (.slice la m lc) hne)
                  obtain ⟨q0, q1, q2, q3, q4, q5, q6, q7, q8, q9, q10, q11, q12, q13⟩ := cells14 hR
                  refine bodyPost_ret (v := .tuple #[.agg (rsA (.slice la m lc) r), .int .i64 0]) (by simp [results, Tryd.results11, go_sem, q0, q1, q2, q3, q4, q5, q6, q7, q8, q9, q10, q11, q12, q13]) rfl ?_
                  refine ⟨_, rfl, ?_, below_setRow ((L2.bch B1 (L2.bch B2 B7)).setCell (p := ⟨w5.heap.size, 0, none⟩) (by show w.heap.size ≤ w5.heap.size; omega) _) (Nat.le_refl _) _⟩
                  rw [← HAC.out]
                  apply L8.own_st
                  rw [hA.out]
                  refine own_keep hown2 fun k hk1 hk2 => ?_
                  rw [setRow_other _ _ _ _ (by omega), Below.heap_setCell _ _ _ _ (by show k ≠ w5.heap.size; omega)]
                  exact B7.block k hk2



    · have hL1 := hL.out
      rw [lab_end (by rw [txs, List.length_map, ← HN.out]; omega)] at hL1
      have HL1 := Lib.hid hL1
      have hL2 := HL1.out
      have h02 : txs ys = t :: q := by rw [← H0.out, ← hL2]
      obtain ⟨x0, r0, rfl, hx0, hr⟩ := ys_cons h02
      have hn1 : n = 1 := by have := HN.out; simp only [List.length_cons] at this; omega
      have hr0 : r0 = [] := by have := HN.out; simp only [List.length_cons] at this; exact List.eq_nil_of_length_eq_zero (by omega)
      obtain ⟨b, o, rfl, hnc, hbw, hyl, hcw⟩ := hV.out.get (by omega)
      have hbl : b < wr.heap.size := Nat.lt_of_lt_of_le hbw hB.size
      obtain ⟨T0, hT0⟩ : ∃ T, x0.1 = T := ⟨_, rfl⟩
      obtain ⟨P0, hP0⟩ : ∃ P, x0.2 = P := ⟨_, rfl⟩
      have hcr := hcw.below hbw hB
      have kT : wr.cell? ⟨b, o, none⟩ = some (.string T0) := by
        have := (hcr 0 (by simp)).1
        rw [← hT0]; simpa using this
      have kP : wr.cell? ⟨b, o + 1, none⟩ = some (.int .i64 P0) := by
        have := (hcr 0 (by simp)).2
        rw [← hP0]; simpa using this
      have hn0 : 0 < n := by omega
      have hTt : T0 = t := hT0.symm.trans hx0
      clear hn1 hcr
      have HW0 := Lib.hid (fun W => L8.rword8_any T0 P0 true (by rw [hTt]; exact hw) W)
      have hsl : ∀ W, (Instr.slice 59 (.slice (some ⟨b, o, none⟩) n c) (some (.int .i64 1)) none none).run Tryd.prog W = .ok (.slice (some ⟨b, if c = 1 then o else o + 1 * 2, none⟩) (n - 1) (c - 1)) W := rsub_from b o n c 1 (by omega) hnc
      obtain ⟨o3, ho3⟩ : ∃ o3, (if c = 1 then o else o + 1 * 2) = o3 := ⟨_, rfl⟩
      have hc3 : L8.Tksat w1 b o3 (r0) := by rw [← ho3]; exact tks_from (a := 1) hcw hyl hnc (by omega)
      rw [ho3] at hsl
      have hl0 : (r0).length + 1 = n := by simpa using hyl
      have hac : acc = (lab [] (txB s)).2.1 := by rw [← hL2]
      have HAC := Lib.hid hac
      have hsx : ∃ k, (r0) = (L8.tkX s (L8.tks s)).drop k := ⟨k + 1, by rw [← List.drop_drop, ← hK.out]; rfl⟩
      have hTs := tokT_T s hsx
      have hsm := toks_sum_drop s hsx
      obtain ⟨r1, hr1⟩ : ∃ r1, (r0) = r1 := ⟨_, rfl⟩
      rw [hr1] at hc3 hl0 hTs hsm hr
      have t2 : (T0.toList == ([109, 97, 112] : List UInt8)) = false := beqt_ne (by rw [hTt]; exact htm)
      have HTA := Lib.hid (fun (W : World) (hB : Below w1.heap.size w1 W) => (.inl ⟨b, o3, c - 1, by rw [show r1.length = n - 1 by omega], by omega, Nat.lt_of_lt_of_le hbw hB.size, hc3.below hbw hB⟩ : L8.TksAt W (.slice (some ⟨b, o3, none⟩) (n - 1) (c - 1)) r1))
      have hr1l : r1.length ≤ 100000 := by omega
      have hsm1 : sumT (txs r1) ≤ 100000 := by omega
      obtain ⟨z, hze⟩ : ∃ z, fiV T0 = z := ⟨_, rfl⟩
      have hzt : fiV t = z := by rw [← hTt]; exact hze
      have HF := Lib.hid (fun w => rfind_at T0 z w hze)
      obtain ⟨f, hf⟩ : ∃ f, L3.frm (L3.ix z) = f := ⟨_, rfl⟩
      have hz0 : ¬ z < 0 := by have := hop; omega
      have HFO := Lib.hid (fun w => L3.rform_at z f w hf)
      have HSP := Lib.hid (fun w => rshapes_at f w)
      obtain ⟨M, hM⟩ : ∃ M, (shV f).length = M := ⟨_, rfl⟩
      have hM100 : M ≤ 100 := by rw [← hM]; exact sh_le f
      have HM := Lib.hid hM
      obtain ⟨S, hSe⟩ : ∃ S, shpB (txs r1) = S := ⟨_, rfl⟩
      have HSH := Lib.hid (fun (W : World) (hB : Below w1.heap.size w1 W) => L8.rshape_at (.slice (some ⟨b, o3, none⟩) (n - 1) (c - 1)) r1 hr1l W (HTA.out W hB))
      rw [shp_txs, hSe] at HSH
      rw [hzt, hf, ← hr, hSe] at hin
      have HIN := Lib.hid hin
      obtain ⟨J, hJe⟩ : ∃ J, joi (txs r1) = J := ⟨_, rfl⟩
      obtain ⟨off, hofe⟩ : ∃ off, offV J = off := ⟨_, rfl⟩
      have HOFF := Lib.hid hofe
      have HJ := Lib.hid (fun (W : World) (hB : Below w1.heap.size w1 W) => rjoin_at (.slice (some ⟨b, o3, none⟩) (n - 1) (c - 1)) r1 hr1l hsm1 W (HTA.out W hB))
      rw [hJe] at HJ
      have HSPL := Lib.hid (fun (W : World) (hB : Below w1.heap.size w1 W) => rsplit_at (.slice (some ⟨b, o3, none⟩) (n - 1) (c - 1)) r1 hr1l hsm1 W (HTA.out W hB))
      unfold L8.StP at HSPL
      have hJs : J.size ≤ 100000 := by rw [← hJe, joi_size]; exact hsm1
      have hqe : q = txs r1 := hr.symm
      have hkz : 0 ≤ f ∧ f ≤ 11 := by
        obtain ⟨_, _, _, _, _, hff⟩ := kin_f (t := t) (by omega)
        rw [hzt, hf] at hff; exact hff
      have hmem : shpB (txs r1) ∈ shV f := by
        have h1 := HIN.out
        rw [List.any_eq_true] at h1
        obtain ⟨y, hy, hy2⟩ := h1
        rw [hSe, ← (by simpa using hy2 : y = S)]; exact hy
      have htok : ∀ t ∈ txs r1, L8.TokT t.data.toList := fun t ht => (txB_tok s).2.1 t (by
        obtain ⟨kk, hkk⟩ := hsx
        rw [← hr1, hkk] at ht
        unfold txs at ht
        rw [List.map_drop] at ht
        exact List.mem_of_mem_drop ht)
      have hneed := spl_of (ops_of hkz htok hmem)
      rw [hJe, hofe] at hneed
      have hopv : opV f z (spl (txs r1)) off = (r, 0) := by rw [← hofe, ← hJe, hr, ← hf, ← hzt]; exact hov
      have HOP := Lib.hid (fun (W : World) (base : Nat) (v : Value) (h : W.ownsRow base 9 1 v (spl (txs r1)).length (L8.stC (spl (txs r1)))) => rope_own z off W h rfl f hf hkz.1 hkz.2 hneed (fun t ht => by have := spl_sizes (txs r1) t ht; omega) r 0 hopv)
      clear hin hf hSe hM hop hJe hofe hqe hkz hmem htok hneed hopv hov hr1l hsm1
      clear hx0 hr0 hT0 hP0 hr hL2 h02 hTt hL hc3 hl0 hac hTs ho3 htm hcw hyl hL1 hK hV hX HN hsm hsx hr1 hze hzt
      have hbW : b < wr.heap.size := Nat.lt_of_lt_of_le hbw hB.size
      obtain ⟨la, lc, rfl⟩ := L8.owns_slice hown
      have hlt2 : w.heap.size < wr.heap.size := Nat.lt_of_lt_of_le hlt1 hB.size
      go_wp2_with (first | (go_at_call 25; ((with_reducible refine (HW0.out _).mono ?_); rintro e w5 ⟨rfl, b5⟩; have B5 := L2.bch hB b5; have k5 := (b5.cell (p := ⟨b, o, none⟩) hbW).trans kT; have hb5 : b < w5.heap.size := Nat.lt_of_lt_of_le hbW b5.size; have hS5 := (B5.block _ hlt1).trans hS; have hg5 := b5.size; clear kT kP)) | (go_at_call 28; ((with_reducible refine (HF.out _).mono ?_); rintro e w6 ⟨rfl, b6⟩; have hS6 := row_up (row_up hS5 (L8.bnew w5 (.cells rsZ 33))) b6; have hZ6 := row_up (heap_alloc_last w5 (.cells rsZ 33)) b6; have B6 := L2.bch b5 (L2.bch (L8.bnew w5 (.cells rsZ 33)) b6); clear k5)) | (go_at_call 30; ((with_reducible refine (HFO.out _).mono ?_); rintro e w8 ⟨rfl, rfl⟩)) | (go_at_call 29; ((with_reducible refine (HSP.out _).mono ?_); rintro e w7 ⟨⟨v7, rfl, hst7⟩, b7⟩; obtain ⟨sb, so, scap, rfl, hsb, hsc⟩ := sh_form HM.out hst7; have hS7 := row_up hS6 b7; have hZ7 := row_up hZ6 b7; have B7 := L2.bch B6 b7; clear hst7 hS6 hZ6)))
      have hn0' : 0 < n := hn0
      have HSC := Lib.hid hsc
      have hsg := hg5
      clear hsc
      go_loopw [10, 12] (fun fv iv wr => ∃ (j : Nat) (bb : Bool), iv = .int .i64 (j : Int) ∧ j ≤ M ∧ fv = .bool bb ∧ Hid (((shV f).take j).any (fun x => decide (x = S)) = bb) ∧ Below w7.heap.size w7 wr) (fun _ iv _ => M - (intOf iv).toNat)
      case atStart => exact ⟨0, false, rfl, Nat.zero_le _, rfl, Lib.hid rfl, Below.refl _ _⟩
      case round =>
        obtain ⟨j, bb, rfl, hj, rfl, hA2, hBq⟩ := hrel
        by_cases hjM : j < M
        · have hjx : j < (shV f).length := by rw [HM.out]; exact hjM
          have cj := (hBq.cell (p := ⟨sb, so + j, none⟩) hsb).trans (HSC.out j hjM)
          obtain ⟨X, hX⟩ : ∃ X, (shV f)[j] = X := ⟨_, rfl⟩
          rw [show (shV f).getD j ByteArray.empty = X by rw [← hX]; simp [List.getD, List.getElem?_eq_getElem hjx]] at cj
          have hsq : sb < wr.heap.size := Nat.lt_of_lt_of_le hsb hBq.size
          have hBw : Below w1.heap.size w1 wr := L2.bch hB (L2.bch B7 hBq)
          by_cases he : X = S
          · have HF2 := Lib.hid (show ((shV f).take (j + 1)).any (fun x => decide (x = S)) = true by rw [any_take _ _ j hjx, hX]; simp [he])
            have t3 := L2.txt_eq he.symm
            clear hX he
            go_upto_region 26 with (fail)
            go_region_with (go_at_call 31; ((with_reducible refine (HSH.out _ hBw.drew).mono ?_); rintro e w8 ⟨rfl, b8⟩; have cj8 := (b8.cell (p := ⟨sb, so + j, none⟩) hsq).trans cj))
            all_goals
              go_wp2
              go_roundw
              case rel => exact ⟨j + 1, true, by go_num, by omega, rfl, HF2, L2.bch hBq.drew b8⟩
              case measure => simp [intOf]; omega
          · have HF2 := Lib.hid (show ((shV f).take (j + 1)).any (fun x => decide (x = S)) = bb by rw [any_take _ _ j hjx, hX, hA2.out]; simp [he])
            have t3 := L2.txt_ne (fun e => he e.symm)
            clear hX he
            go_upto_region 26 with (fail)
            go_region_with (go_at_call 31; ((with_reducible refine (HSH.out _ hBw.drew).mono ?_); rintro e w8 ⟨rfl, b8⟩; have cj8 := (b8.cell (p := ⟨sb, so + j, none⟩) hsq).trans cj))
            all_goals
              go_wp2
              go_roundw
              case rel => exact ⟨j + 1, bb, by go_num, by omega, rfl, HF2, L2.bch hBq.drew b8⟩
              case measure => simp [intOf]; omega
        · obtain rfl : j = M := by omega
          obtain rfl : bb = true := by
            have := hA2.out
            rw [List.take_of_length_le (by rw [HM.out]; exact Nat.le_refl _)] at this
            rw [← this]; exact HIN.out
          have hS8 := row_up hS7 hBq
          have hZ8 := row_up hZ7 hBq
          have B8 := L2.bch B7 hBq
          clear hS7 hZ7 hsb hsg
          have hBw : Below w1.heap.size w1 wr := L2.bch hB B8
          go_wp2_with (go_at_call 32; ((with_reducible refine (HJ.out _ hBw).mono ?_); rintro e w9 ⟨rfl, rfl⟩))
          go_loop [14, 15] (fun ov iv => ∃ (j : Nat) (bb : Bool), iv = .int .i64 (j : Int) ∧ (j + 1 ≤ J.size ∨ j = 0) ∧ ov = .bool bb ∧ Hid ((List.range j).any (offAt J) = bb)) (fun _ iv => J.size - (intOf iv).toNat)
          case atStart => exact ⟨0, false, rfl, .inr rfl, rfl, Lib.hid rfl⟩
          case round =>
            obtain ⟨j, bb, rfl, hj, rfl, hO2⟩ := hrel
            by_cases hlt3 : j + 1 < J.size
            · have hj' : j + 1 ≤ J.size := by omega
              obtain ⟨cc, hcc⟩ : ∃ cc, J.data.toList.getD j 0 = cc := ⟨_, rfl⟩
              have hix := index_str J j (by omega) hcc
              have hst3 := off_step2 J j
              rw [hO2.out, hcc] at hst3
              have g0 : ((j : Int) + 1) < (J.size : Int) := by omega
              by_cases h43 : cc = 43
              · have HN3 := Lib.hid (show (List.range (j + 1)).any (offAt J) = true by rw [hst3, h43]; simp)
                have t5 : ((cc.toNat : Int) == 43) = true := by rw [h43]; rfl
                have t6 : ((cc.toNat : Int) == 45) = false := by rw [h43]; rfl
                clear hst3 h43 hcc hO2
                go_wp2
                go_round
                case rel => exact ⟨j + 1, true, by go_num, .inl (by omega), rfl, HN3⟩
                case measure => simp [intOf]; omega
              · have t5 : ((cc.toNat : Int) == 43) = false := ne_byte h43 43 rfl
                by_cases h45 : cc = 45
                · have t6 : ((cc.toNat : Int) == 45) = true := by rw [h45]; rfl
                  by_cases hj0 : j = 0
                  · have g1 : ¬ 0 < j := by omega
                    have g2 : ¬ (0 : Int) < (j : Int) := by omega
                    have g4 : decide (0 < j) = false := by simp; omega
                    have HN3 := Lib.hid (show (List.range (j + 1)).any (offAt J) = bb by rw [hst3, h45, g4]; simp)
                    clear hst3 h43 h45 hcc hO2 hj0
                    go_wp2
                    go_round
                    case rel => exact ⟨j + 1, bb, by go_num, .inl (by omega), rfl, HN3⟩
                    case measure => simp [intOf]; omega
                  · obtain ⟨pp, hpp⟩ : ∃ pp, J.data.toList.getD (j - 1) 0 = pp := ⟨_, rfl⟩
                    have hix2 := index_str J (j - 1) (by omega) hpp
                    rw [show ((j - 1 : Nat) : Int) = (j : Int) - 1 by omega] at hix2
                    rw [hpp] at hst3
                    have g1 : 0 < j := by omega
                    have g2 : (0 : Int) < (j : Int) := by omega
                    have g3 : (1 : Int) ≤ (j : Int) := by omega
                    have g4 : decide (0 < j) = true := by simp; omega
                    by_cases h44 : pp = 44
                    · have HN3 := Lib.hid (show (List.range (j + 1)).any (offAt J) = bb by rw [hst3, h45, h44]; simp)
                      have t7 : ((pp.toNat : Int) != 44) = false := by rw [h44]; rfl
                      clear hst3 h43 h45 hcc hO2 h44 hpp hj0
                      go_wp2
                      go_round
                      case rel => exact ⟨j + 1, bb, by go_num, .inl (by omega), rfl, HN3⟩
                      case measure => simp [intOf]; omega
                    · have HN3 := Lib.hid (show (List.range (j + 1)).any (offAt J) = true by rw [hst3, h45]; simp [h44, g1])
                      have t7 : ((pp.toNat : Int) != 44) = true := by have := ne_byte h44 44 rfl; simpa using this
                      clear hst3 h43 h45 hcc hO2 h44 hpp hj0
                      go_wp2
                      go_round
                      case rel => exact ⟨j + 1, true, by go_num, .inl (by omega), rfl, HN3⟩
                      case measure => simp [intOf]; omega
                · have HN3 := Lib.hid (show (List.range (j + 1)).any (offAt J) = bb by rw [hst3]; simp [h43, h45])
                  have t6 : ((cc.toNat : Int) == 45) = false := ne_byte h45 45 rfl
                  clear hst3 h43 h45 hcc hO2
                  go_wp2
                  go_round
                  case rel => exact ⟨j + 1, bb, by go_num, .inl (by omega), rfl, HN3⟩
                  case measure => simp [intOf]; omega
            · obtain rfl : bb = off := by
                rw [← HOFF.out, ← hO2.out]
                unfold offV
                rw [show j = J.size - 1 by omega]
              have g0 : ¬ ((j : Int) + 1) < (J.size : Int) := by omega
              go_wp2_with (first | (go_at_call 34; ((with_reducible refine (HSPL.out _ hBw).mono ?_); rintro e w9 ⟨⟨v9, rfl, hown9⟩, b9⟩; have hS9 := row_up hS8 b9; have hZ9 := row_up hZ8 b9; have B9 := L2.bch B8 b9; clear hS8 hZ8)) | (go_at_call 33; ((with_reducible refine (HOP.out _ _ _ hown9).mono ?_); rintro e w6 ⟨rfl, b6⟩; have hS6 := row_up hS9 b6; have hZ6 := row_up hZ9 b6; have B6 := L2.bch B9 b6; clear hS9 hZ9 hown9)) | (refine wpList_store_row rfl _ _ _ rfl w5.heap.size (rsA (.slice none 0 0) r) rfl rfl 33 _ hZ6 (by kernel_rfl) rfl (rsA_one r) ?_; have hZ7 := setRow_heap _ _ _ (rsA (.slice none 0 0) r) _ _ hZ6; have hS7 := (setRow_other w6 w5.heap.size w.heap.size (rsA (.slice none 0 0) r) (by omega)).trans hS6; have B7 := below_setRow B6 hg5 (rsA (.slice none 0 0) r); generalize (w6.setRow w5.heap.size (rsA (.slice none 0 0) r)) = w7 at hZ7 hS7 B7 ⊢; clear hZ6 hS6 B6 b6; obtain ⟨z0, z1, z2, z3, z4, z5, z6, z7, z8, z9, z10, z11, z12, z13⟩ := cells14 hZ7; have fz := frozen_all hZ7 0; have hg7 := lt_of_block hZ7; have hne : w.heap.size ≠ w5.heap.size := (by omega)) | (refine wpList_store_row rfl _ _ _ rfl w.heap.size (rsA (.slice la m lc) r) rfl rfl 33 _ (row_other hS7 0 _ hne) (by kernel_rfl) rfl (by simp [Value.oneCell']) ?_))
              have hR := setRow_heap _ _ _ (rsA (.slice la m lc) r) _ _ (row_other hS7 0 (.slice la m lc) hne)
              obtain ⟨q0, q1, q2, q3, q4, q5, q6, q7, q8, q9, q10, q11, q12, q13⟩ := cells14 hR
              refine bodyPost_ret (v := .tuple #[.agg (rsA (.slice la m lc) r), .int .i64 0]) (by simp [results, Tryd.results11, go_sem, q0, q1, q2, q3, q4, q5, q6, q7, q8, q9, q10, q11, q12, q13]) rfl ?_
              refine ⟨_, rfl, ?_, below_setRow ((L2.bch B1 (L2.bch hB B7)).setCell (p := ⟨w5.heap.size, 0, none⟩) (by show w.heap.size ≤ w5.heap.size; omega) _) (Nat.le_refl _) _⟩
              rw [← HAC.out]
              apply L8.own_st
              rw [hA.out]
              refine own_keep hown fun k hk1 hk2 => ?_
              rw [setRow_other _ _ _ _ (by omega), Below.heap_setCell _ _ _ _ (by show k ≠ w5.heap.size; omega)]
              exact B7.block k hk2



end Go.Proofs.YtjcaonbejhdhkaaDoor.L9
