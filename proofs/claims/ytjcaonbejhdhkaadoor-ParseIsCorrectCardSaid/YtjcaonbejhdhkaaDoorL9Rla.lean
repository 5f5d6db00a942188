/- What the reference's Line returns for a line with a wrong byte or a wrong label, for labels alone, and where no word follows the labels. Condition: the line has at most 100000 bytes. -/
import Derived.Test.YtjcaonbejhdhkaaDoorL9Eqv
import Derived.Test.YtjcaonbejhdhkaaDoorL9Rop
namespace Go.Proofs.YtjcaonbejhdhkaaDoor.L9
open Go.RowKit
attribute [local go_sem] Oper.semAt_some

abbrev rsZ : Array Value := #[.slice none 0 0, .int .i64 0, .string ⟨#[]⟩, .int .i64 0, .int .i64 0, .int .i64 0, .int .i64 0, .bool false, .int .i64 0, .int .i64 0, .int .i64 0, .int .i64 0, .string ⟨#[]⟩, .string ⟨#[]⟩]
theorem rsub_from (k o n cap a : Nat) (h : a ≤ n) (hc : n ≤ cap) (w : World) :
    (Instr.slice 59 (.slice (some ⟨k, o, none⟩) n cap) (some (.int .i64 (a : Int))) none none).run Tryd.prog w = .ok (.slice (some ⟨k, if cap = a then o else o + a * 2, none⟩) (n - a) (cap - a)) w := by
  have h2 : a ≤ cap := by omega
  by_cases hq : cap = a <;> simp [go_sem, Tryd.underlying59, h, hq]
/-- What the reference's Line returns. -/
def RLinP (R : List ByteArray × Rs × Int) (w : World) (e : Ending) (w' : World) : Prop := ∃ lv, e = .returned (.tuple #[.agg (rsA lv R.2.1), .int .i64 R.2.2]) ∧ L8.StAt w' lv R.1 ∧ Below w.heap.size w w'
theorem st_none (w : World) : L8.StAt w (.slice none 0 0) [] := .inr ⟨rfl, _, _, rfl⟩
set_option maxHeartbeats 8000000 in
set_option maxRecDepth 100000 in
theorem rline_bad (s : ByteArray) (hs : s.size ≤ 100000) (w : World) (hb : 0 ≤ L8.bad s) : Calls Tryd.prog 11 #[.string s] w fun e w' => RLinP ([], Rs.z, 2) w e w' := by
  have HK := Lib.hid (fun W => L8.rtokens_any s hs W)
  have HB := Lib.hid hb
  go_enter Tryd.func11, Tryd.ntmps11
  go_wp2_with (first | (go_at_call 24; ((with_reducible refine (HK.out _).mono ?_); intro e w1 hp; obtain ⟨rfl, b1⟩ := L8.TokP_bad HB.out hp; clear hp; have hS := row_up (heap_alloc_last w (.cells rsZ 33)) b1; have B1 := L2.bch (L8.bnew w (.cells rsZ 33)) b1)) | (refine wpList_store_row rfl _ _ _ rfl w.heap.size rsZ rfl rfl 33 _ hS (by kernel_rfl) rfl (by simp [Value.oneCell']) ?_))
  have hR := setRow_heap _ _ _ rsZ _ _ hS
  obtain ⟨q0, q1, q2, q3, q4, q5, q6, q7, q8, q9, q10, q11, q12, q13⟩ := cells14 hR
  exact bodyPost_ret (v := .tuple #[.agg rsZ, .int .i64 2]) (by simp [results, Tryd.results11, go_sem, q0, q1, q2, q3, q4, q5, q6, q7, q8, q9, q10, q11, q12, q13]) rfl ⟨_, rfl, st_none _, below_setRow B1 (Nat.le_refl _) _⟩
set_option maxHeartbeats 8000000 in
set_option maxRecDepth 100000 in
theorem rline_no (s : ByteArray) (hs : s.size ≤ 100000) (w : World) (hb : L8.bad s = -1) (h : (lab [] (txB s)).1 = 0) (t : ByteArray) (q : List ByteArray) (h0 : (lab [] (txB s)).2.2 = t :: q) (hw : wdB t = false) : Calls Tryd.prog 11 #[.string s] w fun e w' => RLinP ([], Rs.z, 2) w e w' := by
  obtain ⟨i0, hi, hz0, hz1, hz2⟩ := info_parts Tryd.info9
  obtain ⟨hl, hxt, hz⟩ := toks_ok s
  have HK := Lib.hid (fun W => L8.rtokens_any s hs W)
  have HB := Lib.hid hb
  have HX := Lib.hid hxt
  have HZ := Lib.hid hz
  have HLN := Lib.hid hl
  have H1 := Lib.hid h
  have H0 := Lib.hid h0
  clear h h0
  clear hl hxt hz hb
  go_enter Tryd.func11, Tryd.ntmps11
  go_wp2_with (go_at_call 24; ((with_reducible refine (HK.out _).mono ?_); intro e w1 hp; obtain ⟨a, cap, rfl, hv, b1⟩ := L8.TokP_ok HB.out hp; clear hp; have hS := row_up (heap_alloc_last w (.cells rsZ 33)) b1; have B1 := L2.bch (L8.bnew w (.cells rsZ 33)) b1; have hlt1 : w.heap.size < w1.heap.size := Nat.lt_of_lt_of_le (by simp) b1.size))
  have HV := Lib.hid hv
  have hm0 : (L8.tkX s (L8.tks s)).length + 2 * 0 ≤ 100000 := by have := HLN.out; omega
  clear hv b1
  go_loopw [4, 6] (fun lv iv wr => ∃ (m k : Nat) (ys : L8.Tks) (acc : List ByteArray), Hid (L8.TksAt w1 lv ys) ∧ Hid (ys = (L8.tkX s (L8.tks s)).drop k) ∧ ys.length + 2 * m ≤ 100000 ∧ Hid (lab acc (txs ys) = lab [] (txB s)) ∧ Hid (∀ t ∈ L8.txt ys, L8.TokT t) ∧ wr.ownsRow w1.heap.size 9 1 iv m (L8.stC acc) ∧ Hid (acc.length = m) ∧ Below w1.heap.size w1 wr ∧ Hid (∃ a n c, lv = .slice a n c ∧ n = ys.length)) (fun lv _ _ => lenOf lv)
  case atStart => exact ⟨0, 0, _, [], HV, Lib.hid rfl, hm0, Lib.hid rfl, HX, World.ownsRow_nil _ _ _ _, Lib.hid rfl, Below.refl _ _, Lib.hid ⟨_, _, _, rfl, (L8.tkX_len s _).symm⟩⟩
  case round =>
    clear hm0 HV
    obtain ⟨m, k, ys, acc, hV, hK, hM, hL, hX, hown, hA, hB, hF⟩ := hrel
    obtain ⟨a, n, c, rfl, hn⟩ := hF.out
    clear hF
    have HN := Lib.hid hn
    clear hn
    have hbs := hB.size
    by_cases hlt : 2 ≤ n
    · obtain ⟨b, o, rfl, hnc, hbw, hyl, hcw⟩ := hV.out.get (by omega)
      have hbl : b < wr.heap.size := Nat.lt_of_lt_of_le hbw hB.size
      obtain ⟨x0, x1, r, rfl⟩ : ∃ x0 x1 r, ys = x0 :: x1 :: r := by
        match ys, hyl with
        | [], h => simp at h; omega
        | [_], h => simp at h; omega
        | x0 :: x1 :: r, _ => exact ⟨x0, x1, r, rfl⟩
      obtain ⟨T0, hT0⟩ : ∃ T, x0.1 = T := ⟨_, rfl⟩
      obtain ⟨P0, hP0⟩ : ∃ P, x0.2 = P := ⟨_, rfl⟩
      obtain ⟨T1, hT1⟩ : ∃ T, x1.1 = T := ⟨_, rfl⟩
      have hcr := hcw.below hbw hB
      have c0 : wr.cell? ⟨b, o, none⟩ = some (.string T0) := by
        have := (hcr 0 (by simp)).1
        rw [← hT0]; simpa using this
      have c2 : wr.cell? ⟨b, o + 1, none⟩ = some (.int .i64 P0) := by
        have := (hcr 0 (by simp)).2
        rw [← hP0]; simpa using this
      have d0 : wr.cell? ⟨b, o + 2, none⟩ = some (.string T1) := by
        have := (hcr 1 (by simp)).1
        rw [← hT1]; simpa using this
      have hn0 : 0 < n := by omega
      have hn1 : 1 < n := by omega
      have tk0 := tok_head hX.out
      have tk1 := tok_head tk0.2
      have hL1 := hL.out
      have etx : txs (x0 :: x1 :: r) = x0.1 :: x1.1 :: txs r := rfl
      rw [etx, lab, hT0, hT1] at hL1
      clear etx hcr
      cases hwd : wdB T0
      · have HW0 := Lib.hid (fun W => L8.rword8_any T0 P0 false hwd W)
        rw [if_neg (by rw [hwd]; simp)] at hL1
        have HL1 := Lib.hid hL1
        clear hL1 hwd hT0 hT1 hP0 tk0 tk1 hL hM
        go_upto_region 10 with ((go_at_call 25; ((with_reducible refine (HW0.out _).mono ?_); rintro e w2 ⟨rfl, b2⟩; have c1 := (b2.cell (p := ⟨b, o, none⟩) hbl).trans c0; have d1 := (b2.cell (p := ⟨b, o + 2, none⟩) hbl).trans d0; have e1 := (b2.cell (p := ⟨b, o + 1, none⟩) hbl).trans c2; clear c0 d0 c2; have hown2 := L8.own_below hown b2; have B2 := L2.bch hB b2; have b2s := b2.size)))
        go_wp2_with (first | (go_at_call 25; ((with_reducible refine (HW0.out _).mono ?_); rintro e w5 ⟨rfl, b5⟩; have B5 := L2.bch B2 b5; have hS5 := (B5.block _ hlt1).trans hS)) | (refine wpList_store_row rfl _ _ _ rfl w.heap.size rsZ rfl rfl 33 _ hS5 (by kernel_rfl) rfl (by simp [Value.oneCell']) ?_))
        have hR := setRow_heap _ _ _ rsZ _ _ hS5
        obtain ⟨q0, q1, q2, q3, q4, q5, q6, q7, q8, q9, q10, q11, q12, q13⟩ := cells14 hR
        exact bodyPost_ret (v := .tuple #[.agg rsZ, .int .i64 2]) (by simp [results, Tryd.results11, go_sem, q0, q1, q2, q3, q4, q5, q6, q7, q8, q9, q10, q11, q12, q13]) rfl ⟨_, rfl, st_none _, below_setRow (L2.bch B1 B5) (Nat.le_refl _) _⟩

      · have HW0 := Lib.hid (fun W => L8.rword8_any T0 P0 true hwd W)
        by_cases hcol : T1 = tCol
        · rw [if_pos ⟨hwd, hcol⟩] at hL1
          have hvd : L2.vd T0 = true := by
            cases hvd : L2.vd T0
            · rw [hvd, if_neg Bool.false_ne_true] at hL1
              have : (lab [] (txB s)).1 = 7 := by rw [← hL1]
              rw [H1.out] at this; cases this
            · rfl
          rw [hvd, if_pos rfl] at hL1
          have HL1 := Lib.hid hL1
          have hTs : T0.size ≤ 9223372036854775807 := by
            have hK0 := hK.out
            have hk0 : T0 ∈ txs (L8.tkX s (L8.tks s)) := by
              have : T0 ∈ txs ((L8.tkX s (L8.tks s)).drop k) := by rw [← hK.out, ← hT0]; simp [txs]
              unfold txs at this ⊢
              rw [List.map_drop] at this
              exact List.mem_of_mem_drop this
            have := HZ.out T0 hk0
            omega
          have HNM := Lib.hid (fun W => rnam_at T0 0 W hTs (by unfold naV; rw [hvd]; rfl))
          have t1 : (T1.toList == ([58] : List UInt8)) = true := eqb hcol
          have hsl : ∀ W, (Instr.slice 59 (.slice (some ⟨b, o, none⟩) n c) (some (.int .i64 2)) none none).run Tryd.prog W = .ok (.slice (some ⟨b, if c = 2 then o else o + 2 * 2, none⟩) (n - 2) (c - 2)) W := rsub_from b o n c 2 hlt hnc
          obtain ⟨o2, ho2⟩ : ∃ o2, (if c = 2 then o else o + 2 * 2) = o2 := ⟨_, rfl⟩
          rw [ho2] at hsl
          have HO := Lib.hid ho2
          have HKD := Lib.hid (show r = (L8.tkX s (L8.tks s)).drop (k + 2) by rw [← List.drop_drop, ← hK.out]; rfl)
          have HTK := Lib.hid tk1.2
          have hln : r.length + 2 * (m + 1) ≤ 100000 := by have := hM; simp only [List.length_cons] at this; omega
          clear hL1 hwd hcol hvd hT0 hT1 hP0 ho2 tk0 tk1 hL hM hTs
          go_wp2_with (first | (go_at_call 25; ((with_reducible refine (HW0.out _).mono ?_); rintro e w2 ⟨rfl, b2⟩; have c1 := (b2.cell (p := ⟨b, o, none⟩) hbl).trans c0; have d1 := (b2.cell (p := ⟨b, o + 2, none⟩) hbl).trans d0; have e1 := (b2.cell (p := ⟨b, o + 1, none⟩) hbl).trans c2; clear c0 d0 c2; have hown2 := L8.own_below hown b2; have B2 := L2.bch hB b2; have b2s := b2.size)) | (go_at_call 26; ((with_reducible refine (HNM.out _).mono ?_); rintro e w4 ⟨rfl, rfl⟩)) | (at_builtin; refine wpList_append_own _ rfl _ _ 27 rfl w1.heap.size 9 i0 (.string ⟨#[]⟩) 1 16 Tryd.underlying27 hi hz0 hz1 hz2 rfl (by decide) _ m _ rfl (hown2.alloc _) ⟨w2.heap.size, 0, none⟩ 1 1 [.string T0] rfl rfl (World.news_of_block (cs := #[.string T0]) (t := 9) (fr := (0, 0)) (heap_alloc_last w2 _)) (by simp [Value.oneCell']) (by unfold maxLen; omega) (by omega) (by simp; omega) ?_; intro v' w3 hown3 hgrow3 _))
          go_roundw
          case rel =>
            refine ⟨m + 1, k + 2, r, acc ++ [T0], Lib.hid ?_, HKD, hln, HL1, HTK, ?_, Lib.hid (by rw [List.length_append, hA.out]; rfl), (L2.bch B2 (L8.bnew _ _)).grown hgrow3 (by simp; omega) (L8.own_base hown), Lib.hid ⟨_, _, _, rfl, by rw [HN.out]; rfl⟩⟩
            · rw [← HO.out]
              refine .inl ⟨b, _, c - 2, by rw [HN.out]; rfl, by simp only [List.length_cons] at hyl; omega, hbw, ?_⟩
              exact tks_from hcw hyl hnc hlt
            · rw [L8.stC_snoc]; exact hown3
          case measure => simp [lenOf]; omega
        · rw [if_neg (fun h => hcol h.2)] at hL1
          have HL1 := Lib.hid hL1
          have t1 : (T1.toList == ([58] : List UInt8)) = false := beqt_ne hcol
          have hL2 := HL1.out
          have h02 : txs (x0 :: x1 :: r) = t :: q := by rw [← H0.out, ← hL2, ← hT0, ← hT1]; rfl
          have hTt : T0 = t := by unfold txs at h02; rw [List.map_cons, hT0] at h02; injection h02
          have hr : txs (x1 :: r) = q := by unfold txs at h02; rw [List.map_cons] at h02; injection h02
          rw [hTt, hw] at hwd
          cases hwd

    · have hL1 := hL.out
      rw [lab_end (by rw [txs, List.length_map, ← HN.out]; omega)] at hL1
      have HL1 := Lib.hid hL1
      have hL2 := HL1.out
      have h02 : txs ys = t :: q := by rw [← H0.out, ← hL2]
      obtain ⟨x0, r, rfl, hx0, hr⟩ := ys_cons h02
      have hn1 : n = 1 := by have := HN.out; simp only [List.length_cons] at this; omega
      have hr0 : r = [] := by have := HN.out; simp only [List.length_cons] at this; exact List.eq_nil_of_length_eq_zero (by omega)
      obtain ⟨b, o, rfl, hnc, hbw, hyl, hcw⟩ := hV.out.get (by omega)
      have hbl : b < wr.heap.size := Nat.lt_of_lt_of_le hbw hB.size
      obtain ⟨T0, hT0⟩ : ∃ T, x0.1 = T := ⟨_, rfl⟩
      obtain ⟨P0, hP0⟩ : ∃ P, x0.2 = P := ⟨_, rfl⟩
      have hcr := hcw.below hbw hB
      have kT : wr.cell? ⟨b, o, none⟩ = some (.string T0) := by
        have := (hcr 0 (by simp)).1
        rw [← hT0]; simpa using this
      have kP : wr.cell? ⟨b, o + 1, none⟩ = some (.int .i64 P0) := by
        have := (hcr 0 (by simp)).2
        rw [← hP0]; simpa using this
      have hn0 : 0 < n := by omega
      have hTt : T0 = t := hT0.symm.trans hx0
      clear hn1 hcr
      have HW0 := Lib.hid (fun W => L8.rword8_any T0 P0 false (by rw [hTt]; exact hw) W)
      clear hL1 hL2 h02 hx0 hT0 hP0 hTt hr0 hr hL
      go_wp2_with (first | (go_at_call 25; ((with_reducible refine (HW0.out _).mono ?_); rintro e w5 ⟨rfl, b5⟩; have B5 := L2.bch hB b5; have hS5 := (B5.block _ hlt1).trans hS)) | (refine wpList_store_row rfl _ _ _ rfl w.heap.size rsZ rfl rfl 33 _ hS5 (by kernel_rfl) rfl (by simp [Value.oneCell']) ?_))
      have hR := setRow_heap _ _ _ rsZ _ _ hS5
      obtain ⟨q0, q1, q2, q3, q4, q5, q6, q7, q8, q9, q10, q11, q12, q13⟩ := cells14 hR
      exact bodyPost_ret (v := .tuple #[.agg rsZ, .int .i64 2]) (by simp [results, Tryd.results11, go_sem, q0, q1, q2, q3, q4, q5, q6, q7, q8, q9, q10, q11, q12, q13]) rfl ⟨_, rfl, st_none _, below_setRow (L2.bch B1 B5) (Nat.le_refl _) _⟩

/-- What the call owns stays while a row below is written. -/
theorem own_row {w : World} {base e : TypeId} {v : Value} {n : Nat} {xs : List Value} {g : Nat} (cs : Array Value) (h : w.ownsRow base e 1 v n xs) (hg : g < base) : (w.setRow g cs).ownsRow base e 1 v n xs := by
  refine h.kept (row := some g) ⟨rfl, rfl, rfl, by simp [World.setRow], fun k _ hk => setRow_other w g k cs (fun e => hk (by rw [e]))⟩ (.inr fun e => ?_)
  have := L8.own_base h g e
  omega
set_option maxHeartbeats 8000000 in
set_option maxRecDepth 100000 in
theorem rline_none (s : ByteArray) (hs : s.size ≤ 100000) (w : World) (hb : L8.bad s = -1) (h : (lab [] (txB s)).1 = 0) (h0 : (lab [] (txB s)).2.2 = []) : Calls Tryd.prog 11 #[.string s] w fun e w' => RLinP ((lab [] (txB s)).2.1, Rs.z, 0) w e w' := by
  obtain ⟨i0, hi, hz0, hz1, hz2⟩ := info_parts Tryd.info9
  obtain ⟨hl, hxt, hz⟩ := toks_ok s
  have HK := Lib.hid (fun W => L8.rtokens_any s hs W)
  have HB := Lib.hid hb
  have HX := Lib.hid hxt
  have HZ := Lib.hid hz
  have HLN := Lib.hid hl
  have H1 := Lib.hid h
  have H0 := Lib.hid h0
  clear h h0
  clear hl hxt hz hb
  go_enter Tryd.func11, Tryd.ntmps11
  go_wp2_with (go_at_call 24; ((with_reducible refine (HK.out _).mono ?_); intro e w1 hp; obtain ⟨a, cap, rfl, hv, b1⟩ := L8.TokP_ok HB.out hp; clear hp; have hS := row_up (heap_alloc_last w (.cells rsZ 33)) b1; have B1 := L2.bch (L8.bnew w (.cells rsZ 33)) b1; have hlt1 : w.heap.size < w1.heap.size := Nat.lt_of_lt_of_le (by simp) b1.size))
  have HV := Lib.hid hv
  have hm0 : (L8.tkX s (L8.tks s)).length + 2 * 0 ≤ 100000 := by have := HLN.out; omega
  clear hv b1
  go_loopw [4, 6] (fun lv iv wr => ∃ (m k : Nat) (ys : L8.Tks) (acc : List ByteArray), Hid (L8.TksAt w1 lv ys) ∧ Hid (ys = (L8.tkX s (L8.tks s)).drop k) ∧ ys.length + 2 * m ≤ 100000 ∧ Hid (lab acc (txs ys) = lab [] (txB s)) ∧ Hid (∀ t ∈ L8.txt ys, L8.TokT t) ∧ wr.ownsRow w1.heap.size 9 1 iv m (L8.stC acc) ∧ Hid (acc.length = m) ∧ Below w1.heap.size w1 wr ∧ Hid (∃ a n c, lv = .slice a n c ∧ n = ys.length)) (fun lv _ _ => lenOf lv)
  case atStart => exact ⟨0, 0, _, [], HV, Lib.hid rfl, hm0, Lib.hid rfl, HX, World.ownsRow_nil _ _ _ _, Lib.hid rfl, Below.refl _ _, Lib.hid ⟨_, _, _, rfl, (L8.tkX_len s _).symm⟩⟩
  case round =>
    clear hm0 HV
    obtain ⟨m, k, ys, acc, hV, hK, hM, hL, hX, hown, hA, hB, hF⟩ := hrel
    obtain ⟨a, n, c, rfl, hn⟩ := hF.out
    clear hF
    have HN := Lib.hid hn
    clear hn
    have hbs := hB.size
    by_cases hlt : 2 ≤ n
    · obtain ⟨b, o, rfl, hnc, hbw, hyl, hcw⟩ := hV.out.get (by omega)
      have hbl : b < wr.heap.size := Nat.lt_of_lt_of_le hbw hB.size
      obtain ⟨x0, x1, r, rfl⟩ : ∃ x0 x1 r, ys = x0 :: x1 :: r := by
        match ys, hyl with
        | [], h => simp at h; omega
        | [_], h => simp at h; omega
        | x0 :: x1 :: r, _ => exact ⟨x0, x1, r, rfl⟩
      obtain ⟨T0, hT0⟩ : ∃ T, x0.1 = T := ⟨_, rfl⟩
      obtain ⟨P0, hP0⟩ : ∃ P, x0.2 = P := ⟨_, rfl⟩
      obtain ⟨T1, hT1⟩ : ∃ T, x1.1 = T := ⟨_, rfl⟩
      have hcr := hcw.below hbw hB
      have c0 : wr.cell? ⟨b, o, none⟩ = some (.string T0) := by
        have := (hcr 0 (by simp)).1
        rw [← hT0]; simpa using this
      have c2 : wr.cell? ⟨b, o + 1, none⟩ = some (.int .i64 P0) := by
        have := (hcr 0 (by simp)).2
        rw [← hP0]; simpa using this
      have d0 : wr.cell? ⟨b, o + 2, none⟩ = some (.string T1) := by
        have := (hcr 1 (by simp)).1
        rw [← hT1]; simpa using this
      have hn0 : 0 < n := by omega
      have hn1 : 1 < n := by omega
      have tk0 := tok_head hX.out
      have tk1 := tok_head tk0.2
      have hL1 := hL.out
      have etx : txs (x0 :: x1 :: r) = x0.1 :: x1.1 :: txs r := rfl
      rw [etx, lab, hT0, hT1] at hL1
      clear etx hcr
      cases hwd : wdB T0
      · have HW0 := Lib.hid (fun W => L8.rword8_any T0 P0 false hwd W)
        rw [if_neg (by rw [hwd]; simp)] at hL1
        have HL1 := Lib.hid hL1
        have hL2 := HL1.out
        have h02 := H0.out
        rw [← hL2] at h02
        cases h02

      · have HW0 := Lib.hid (fun W => L8.rword8_any T0 P0 true hwd W)
        by_cases hcol : T1 = tCol
        · rw [if_pos ⟨hwd, hcol⟩] at hL1
          have hvd : L2.vd T0 = true := by
            cases hvd : L2.vd T0
            · rw [hvd, if_neg Bool.false_ne_true] at hL1
              have : (lab [] (txB s)).1 = 7 := by rw [← hL1]
              rw [H1.out] at this; cases this
            · rfl
          rw [hvd, if_pos rfl] at hL1
          have HL1 := Lib.hid hL1
          have hTs : T0.size ≤ 9223372036854775807 := by
            have hK0 := hK.out
            have hk0 : T0 ∈ txs (L8.tkX s (L8.tks s)) := by
              have : T0 ∈ txs ((L8.tkX s (L8.tks s)).drop k) := by rw [← hK.out, ← hT0]; simp [txs]
              unfold txs at this ⊢
              rw [List.map_drop] at this
              exact List.mem_of_mem_drop this
            have := HZ.out T0 hk0
            omega
          have HNM := Lib.hid (fun W => rnam_at T0 0 W hTs (by unfold naV; rw [hvd]; rfl))
          have t1 : (T1.toList == ([58] : List UInt8)) = true := eqb hcol
          have hsl : ∀ W, (Instr.slice 59 (.slice (some ⟨b, o, none⟩) n c) (some (.int .i64 2)) none none).run Tryd.prog W = .ok (.slice (some ⟨b, if c = 2 then o else o + 2 * 2, none⟩) (n - 2) (c - 2)) W := rsub_from b o n c 2 hlt hnc
          obtain ⟨o2, ho2⟩ : ∃ o2, (if c = 2 then o else o + 2 * 2) = o2 := ⟨_, rfl⟩
          rw [ho2] at hsl
          have HO := Lib.hid ho2
          have HKD := Lib.hid (show r = (L8.tkX s (L8.tks s)).drop (k + 2) by rw [← List.drop_drop, ← hK.out]; rfl)
          have HTK := Lib.hid tk1.2
          have hln : r.length + 2 * (m + 1) ≤ 100000 := by have := hM; simp only [List.length_cons] at this; omega
          clear hL1 hwd hcol hvd hT0 hT1 hP0 ho2 tk0 tk1 hL hM hTs
          go_wp2_with (first | (go_at_call 25; ((with_reducible refine (HW0.out _).mono ?_); rintro e w2 ⟨rfl, b2⟩; have c1 := (b2.cell (p := ⟨b, o, none⟩) hbl).trans c0; have d1 := (b2.cell (p := ⟨b, o + 2, none⟩) hbl).trans d0; have e1 := (b2.cell (p := ⟨b, o + 1, none⟩) hbl).trans c2; clear c0 d0 c2; have hown2 := L8.own_below hown b2; have B2 := L2.bch hB b2; have b2s := b2.size)) | (go_at_call 26; ((with_reducible refine (HNM.out _).mono ?_); rintro e w4 ⟨rfl, rfl⟩)) | (at_builtin; refine wpList_append_own _ rfl _ _ 27 rfl w1.heap.size 9 i0 (.string ⟨#[]⟩) 1 16 Tryd.underlying27 hi hz0 hz1 hz2 rfl (by decide) _ m _ rfl (hown2.alloc _) ⟨w2.heap.size, 0, none⟩ 1 1 [.string T0] rfl rfl (World.news_of_block (cs := #[.string T0]) (t := 9) (fr := (0, 0)) (heap_alloc_last w2 _)) (by simp [Value.oneCell']) (by unfold maxLen; omega) (by omega) (by simp; omega) ?_; intro v' w3 hown3 hgrow3 _))
          go_roundw
          case rel =>
            refine ⟨m + 1, k + 2, r, acc ++ [T0], Lib.hid ?_, HKD, hln, HL1, HTK, ?_, Lib.hid (by rw [List.length_append, hA.out]; rfl), (L2.bch B2 (L8.bnew _ _)).grown hgrow3 (by simp; omega) (L8.own_base hown), Lib.hid ⟨_, _, _, rfl, by rw [HN.out]; rfl⟩⟩
            · rw [← HO.out]
              refine .inl ⟨b, _, c - 2, by rw [HN.out]; rfl, by simp only [List.length_cons] at hyl; omega, hbw, ?_⟩
              exact tks_from hcw hyl hnc hlt
            · rw [L8.stC_snoc]; exact hown3
          case measure => simp [lenOf]; omega
        · rw [if_neg (fun h => hcol h.2)] at hL1
          have HL1 := Lib.hid hL1
          have t1 : (T1.toList == ([58] : List UInt8)) = false := beqt_ne hcol
          have hL2 := HL1.out
          have h02 := H0.out
          rw [← hL2] at h02
          cases h02

    · have hL1 := hL.out
      rw [lab_end (by rw [txs, List.length_map, ← HN.out]; omega)] at hL1
      have HL1 := Lib.hid hL1
      have hL2 := HL1.out
      have h02 : txs ys = [] := by rw [← H0.out, ← hL2]
      have e2 : ys = [] := by unfold txs at h02; exact List.map_eq_nil_iff.1 h02
      obtain rfl : n = 0 := by rw [HN.out, e2]; rfl
      have hacc : acc = (lab [] (txB s)).2.1 := by rw [← hL2]
      obtain ⟨la, lc, rfl⟩ := L8.owns_slice hown
      have hSr := (hB.block _ hlt1).trans hS
      have HAC := Lib.hid hacc
      clear hL1 hL2 h02 e2 hacc hL hV hK hX HN
      go_wp2_with (refine wpList_store_row rfl _ _ _ rfl w.heap.size #[.slice la m lc, .int .i64 0, .string ⟨#[]⟩, .int .i64 0, .int .i64 0, .int .i64 0, .int .i64 0, .bool false, .int .i64 0, .int .i64 0, .int .i64 0, .int .i64 0, .string ⟨#[]⟩, .string ⟨#[]⟩] rfl rfl 33 _ hSr (by kernel_rfl) rfl (by simp [Value.oneCell']) ?_)
      have hR := setRow_heap _ _ _ #[.slice la m lc, .int .i64 0, .string ⟨#[]⟩, .int .i64 0, .int .i64 0, .int .i64 0, .int .i64 0, .bool false, .int .i64 0, .int .i64 0, .int .i64 0, .int .i64 0, .string ⟨#[]⟩, .string ⟨#[]⟩] _ _ hSr
      obtain ⟨q0, q1, q2, q3, q4, q5, q6, q7, q8, q9, q10, q11, q12, q13⟩ := cells14 hR
      refine bodyPost_ret (v := .tuple #[.agg #[.slice la m lc, .int .i64 0, .string ⟨#[]⟩, .int .i64 0, .int .i64 0, .int .i64 0, .int .i64 0, .bool false, .int .i64 0, .int .i64 0, .int .i64 0, .int .i64 0, .string ⟨#[]⟩, .string ⟨#[]⟩], .int .i64 0]) (by simp [results, Tryd.results11, go_sem, q0, q1, q2, q3, q4, q5, q6, q7, q8, q9, q10, q11, q12, q13]) rfl ?_
      refine ⟨_, rfl, ?_, below_setRow (L2.bch B1 hB) (Nat.le_refl _) _⟩
      rw [← HAC.out]
      exact L8.own_st (by rw [hA.out]; exact own_row _ hown hlt1)

set_option maxHeartbeats 8000000 in
set_option maxRecDepth 100000 in
theorem rline_label (s : ByteArray) (hs : s.size ≤ 100000) (w : World) (hb : L8.bad s = -1) (h : (lab [] (txB s)).1 ≠ 0) : Calls Tryd.prog 11 #[.string s] w fun e w' => RLinP ([], Rs.z, 7) w e w' := by
  obtain ⟨i0, hi, hz0, hz1, hz2⟩ := info_parts Tryd.info9
  obtain ⟨hl, hxt, hz⟩ := toks_ok s
  have HK := Lib.hid (fun W => L8.rtokens_any s hs W)
  have HB := Lib.hid hb
  have HX := Lib.hid hxt
  have HZ := Lib.hid hz
  have HLN := Lib.hid hl
  have H1 := Lib.hid h
  clear h
  clear hl hxt hz hb
  go_enter Tryd.func11, Tryd.ntmps11
  go_wp2_with (go_at_call 24; ((with_reducible refine (HK.out _).mono ?_); intro e w1 hp; obtain ⟨a, cap, rfl, hv, b1⟩ := L8.TokP_ok HB.out hp; clear hp; have hS := row_up (heap_alloc_last w (.cells rsZ 33)) b1; have B1 := L2.bch (L8.bnew w (.cells rsZ 33)) b1; have hlt1 : w.heap.size < w1.heap.size := Nat.lt_of_lt_of_le (by simp) b1.size))
  have HV := Lib.hid hv
  have hm0 : (L8.tkX s (L8.tks s)).length + 2 * 0 ≤ 100000 := by have := HLN.out; omega
  clear hv b1
  go_loopw [4, 6] (fun lv iv wr => ∃ (m k : Nat) (ys : L8.Tks) (acc : List ByteArray), Hid (L8.TksAt w1 lv ys) ∧ Hid (ys = (L8.tkX s (L8.tks s)).drop k) ∧ ys.length + 2 * m ≤ 100000 ∧ Hid (lab acc (txs ys) = lab [] (txB s)) ∧ Hid (∀ t ∈ L8.txt ys, L8.TokT t) ∧ wr.ownsRow w1.heap.size 9 1 iv m (L8.stC acc) ∧ Hid (acc.length = m) ∧ Below w1.heap.size w1 wr ∧ Hid (∃ a n c, lv = .slice a n c ∧ n = ys.length)) (fun lv _ _ => lenOf lv)
  case atStart => exact ⟨0, 0, _, [], HV, Lib.hid rfl, hm0, Lib.hid rfl, HX, World.ownsRow_nil _ _ _ _, Lib.hid rfl, Below.refl _ _, Lib.hid ⟨_, _, _, rfl, (L8.tkX_len s _).symm⟩⟩
  case round =>
    clear hm0 HV
    obtain ⟨m, k, ys, acc, hV, hK, hM, hL, hX, hown, hA, hB, hF⟩ := hrel
    obtain ⟨a, n, c, rfl, hn⟩ := hF.out
    clear hF
    have HN := Lib.hid hn
    clear hn
    have hbs := hB.size
    by_cases hlt : 2 ≤ n
    · obtain ⟨b, o, rfl, hnc, hbw, hyl, hcw⟩ := hV.out.get (by omega)
      have hbl : b < wr.heap.size := Nat.lt_of_lt_of_le hbw hB.size
      obtain ⟨x0, x1, r, rfl⟩ : ∃ x0 x1 r, ys = x0 :: x1 :: r := by
        match ys, hyl with
        | [], h => simp at h; omega
        | [_], h => simp at h; omega
        | x0 :: x1 :: r, _ => exact ⟨x0, x1, r, rfl⟩
      obtain ⟨T0, hT0⟩ : ∃ T, x0.1 = T := ⟨_, rfl⟩
      obtain ⟨P0, hP0⟩ : ∃ P, x0.2 = P := ⟨_, rfl⟩
      obtain ⟨T1, hT1⟩ : ∃ T, x1.1 = T := ⟨_, rfl⟩
      have hcr := hcw.below hbw hB
      have c0 : wr.cell? ⟨b, o, none⟩ = some (.string T0) := by
        have := (hcr 0 (by simp)).1
        rw [← hT0]; simpa using this
      have c2 : wr.cell? ⟨b, o + 1, none⟩ = some (.int .i64 P0) := by
        have := (hcr 0 (by simp)).2
        rw [← hP0]; simpa using this
      have d0 : wr.cell? ⟨b, o + 2, none⟩ = some (.string T1) := by
        have := (hcr 1 (by simp)).1
        rw [← hT1]; simpa using this
      have hn0 : 0 < n := by omega
      have hn1 : 1 < n := by omega
      have tk0 := tok_head hX.out
      have tk1 := tok_head tk0.2
      have hL1 := hL.out
      have etx : txs (x0 :: x1 :: r) = x0.1 :: x1.1 :: txs r := rfl
      rw [etx, lab, hT0, hT1] at hL1
      clear etx hcr
      cases hwd : wdB T0
      · have HW0 := Lib.hid (fun W => L8.rword8_any T0 P0 false hwd W)
        rw [if_neg (by rw [hwd]; simp)] at hL1
        have HL1 := Lib.hid hL1
        exact absurd (by rw [← HL1.out]) H1.out

      · have HW0 := Lib.hid (fun W => L8.rword8_any T0 P0 true hwd W)
        by_cases hcol : T1 = tCol
        · rw [if_pos ⟨hwd, hcol⟩] at hL1
          cases hvd : L2.vd T0
          · rw [hvd, if_neg Bool.false_ne_true] at hL1
            have hTs : T0.size ≤ 9223372036854775807 := by
              have hk0 : T0 ∈ txs (L8.tkX s (L8.tks s)) := by
                have : T0 ∈ txs ((L8.tkX s (L8.tks s)).drop k) := by rw [← hK.out, ← hT0]; simp [txs]
                unfold txs at this ⊢
                rw [List.map_drop] at this
                exact List.mem_of_mem_drop this
              have := HZ.out T0 hk0
              omega
            have HNM := Lib.hid (fun W => rnam_at T0 7 W hTs (by unfold naV; rw [hvd]; rfl))
            have t1 : (T1.toList == ([58] : List UInt8)) = true := eqb hcol
            clear hL1 hwd hcol hvd hT0 hT1 hP0 tk0 tk1 hL hM hTs
            go_wp2_with (first | (go_at_call 25; ((with_reducible refine (HW0.out _).mono ?_); rintro e w2 ⟨rfl, b2⟩; have c1 := (b2.cell (p := ⟨b, o, none⟩) hbl).trans c0; have d1 := (b2.cell (p := ⟨b, o + 2, none⟩) hbl).trans d0; have e1 := (b2.cell (p := ⟨b, o + 1, none⟩) hbl).trans c2; clear c0 d0 c2; have hown2 := L8.own_below hown b2; have B2 := L2.bch hB b2; have b2s := b2.size)) | (go_at_call 26; ((with_reducible refine (HNM.out _).mono ?_); rintro e w4 ⟨rfl, rfl⟩; have hS5 := (B2.block _ hlt1).trans hS)) | (refine wpList_store_row rfl _ _ _ rfl w.heap.size rsZ rfl rfl 33 _ hS5 (by kernel_rfl) rfl (by simp [Value.oneCell']) ?_))
            have hR := setRow_heap _ _ _ rsZ _ _ hS5
            obtain ⟨q0, q1, q2, q3, q4, q5, q6, q7, q8, q9, q10, q11, q12, q13⟩ := cells14 hR
            exact bodyPost_ret (v := .tuple #[.agg rsZ, .int .i64 7]) (by simp [results, Tryd.results11, go_sem, q0, q1, q2, q3, q4, q5, q6, q7, q8, q9, q10, q11, q12, q13]) rfl ⟨_, rfl, st_none _, below_setRow (L2.bch B1 B2) (Nat.le_refl _) _⟩
          rw [hvd, if_pos rfl] at hL1
          have HL1 := Lib.hid hL1
          have hTs : T0.size ≤ 9223372036854775807 := by
            have hK0 := hK.out
            have hk0 : T0 ∈ txs (L8.tkX s (L8.tks s)) := by
              have : T0 ∈ txs ((L8.tkX s (L8.tks s)).drop k) := by rw [← hK.out, ← hT0]; simp [txs]
              unfold txs at this ⊢
              rw [List.map_drop] at this
              exact List.mem_of_mem_drop this
            have := HZ.out T0 hk0
            omega
          have HNM := Lib.hid (fun W => rnam_at T0 0 W hTs (by unfold naV; rw [hvd]; rfl))
          have t1 : (T1.toList == ([58] : List UInt8)) = true := eqb hcol
          have hsl : ∀ W, (Instr.slice 59 (.slice (some ⟨b, o, none⟩) n c) (some (.int .i64 2)) none none).run Tryd.prog W = .ok (.slice (some ⟨b, if c = 2 then o else o + 2 * 2, none⟩) (n - 2) (c - 2)) W := rsub_from b o n c 2 hlt hnc
          obtain ⟨o2, ho2⟩ : ∃ o2, (if c = 2 then o else o + 2 * 2) = o2 := ⟨_, rfl⟩
          rw [ho2] at hsl
          have HO := Lib.hid ho2
          have HKD := Lib.hid (show r = (L8.tkX s (L8.tks s)).drop (k + 2) by rw [← List.drop_drop, ← hK.out]; rfl)
          have HTK := Lib.hid tk1.2
          have hln : r.length + 2 * (m + 1) ≤ 100000 := by have := hM; simp only [List.length_cons] at this; omega
          clear hL1 hwd hcol hvd hT0 hT1 hP0 ho2 tk0 tk1 hL hM hTs
          go_wp2_with (first | (go_at_call 25; ((with_reducible refine (HW0.out _).mono ?_); rintro e w2 ⟨rfl, b2⟩; have c1 := (b2.cell (p := ⟨b, o, none⟩) hbl).trans c0; have d1 := (b2.cell (p := ⟨b, o + 2, none⟩) hbl).trans d0; have e1 := (b2.cell (p := ⟨b, o + 1, none⟩) hbl).trans c2; clear c0 d0 c2; have hown2 := L8.own_below hown b2; have B2 := L2.bch hB b2; have b2s := b2.size)) | (go_at_call 26; ((with_reducible refine (HNM.out _).mono ?_); rintro e w4 ⟨rfl, rfl⟩)) | (at_builtin; refine wpList_append_own _ rfl _ _ 27 rfl w1.heap.size 9 i0 (.string ⟨#[]⟩) 1 16 Tryd.underlying27 hi hz0 hz1 hz2 rfl (by decide) _ m _ rfl (hown2.alloc _) ⟨w2.heap.size, 0, none⟩ 1 1 [.string T0] rfl rfl (World.news_of_block (cs := #[.string T0]) (t := 9) (fr := (0, 0)) (heap_alloc_last w2 _)) (by simp [Value.oneCell']) (by unfold maxLen; omega) (by omega) (by simp; omega) ?_; intro v' w3 hown3 hgrow3 _))
          go_roundw
          case rel =>
            refine ⟨m + 1, k + 2, r, acc ++ [T0], Lib.hid ?_, HKD, hln, HL1, HTK, ?_, Lib.hid (by rw [List.length_append, hA.out]; rfl), (L2.bch B2 (L8.bnew _ _)).grown hgrow3 (by simp; omega) (L8.own_base hown), Lib.hid ⟨_, _, _, rfl, by rw [HN.out]; rfl⟩⟩
            · rw [← HO.out]
              refine .inl ⟨b, _, c - 2, by rw [HN.out]; rfl, by simp only [List.length_cons] at hyl; omega, hbw, ?_⟩
              exact tks_from hcw hyl hnc hlt
            · rw [L8.stC_snoc]; exact hown3
          case measure => simp [lenOf]; omega
        · rw [if_neg (fun h => hcol h.2)] at hL1
          have HL1 := Lib.hid hL1
          have t1 : (T1.toList == ([58] : List UInt8)) = false := beqt_ne hcol
          exact absurd (by rw [← HL1.out]) H1.out

    · have hL1 := hL.out
      rw [lab_end (by rw [txs, List.length_map, ← HN.out]; omega)] at hL1
      have HL1 := Lib.hid hL1
      exact absurd (by rw [← HL1.out]) H1.out

end Go.Proofs.YtjcaonbejhdhkaaDoor.L9
