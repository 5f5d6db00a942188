/- What the program's Tokens returns: the tokens of a line at their places, or the place of the first wrong byte. No condition but that the line has at most 100000 bytes. -/
import Derived.Test.YtdpdeelnabomlaaL8Small
import Derived.Test.YtdpdeelnabomlaaL8Lsh
namespace Go.Proofs.Ytdpdeelnabomlaa.L8
open Go.RowKit L2
attribute [local go_sem] Oper.semAt_some

theorem Try.info31 : (Try.prog.info? 31).map (fun i => (i.zero, i.size, i.bytes)) = some (some (.agg #[.string ⟨#[]⟩, .int .i64 0]), 2, 24) := by kernel_rfl
/-- What the call owns stays when its iterator moves on. -/
theorem own_iter {w : World} {base e : TypeId} {size : Nat} {v : Value} {n : Nat} {xs : List Value} (h : w.ownsRow base e size v n xs) {k : Nat} (hk : k < base) (s : ByteArray) (pos : Nat) : (w.iterAt k s pos).ownsRow base e size v n xs := by
  refine ⟨h.1, ?_⟩
  rcases h.2 with h | ⟨g, cap, cur, hv, hg, hh, r⟩
  · exact .inl h
  · exact .inr ⟨g, cap, cur, hv, hg, (Lib.iterAt_other w k g s pos (by omega)).trans hh, r⟩
theorem iter_below {w w' : World} {k : Nat} {s : ByteArray} {pos : Nat} (h : w.heap[k]? = some (.stringIter s pos)) (hb : Below w.heap.size w w') : w'.heap[k]? = some (.stringIter s pos) := (hb.block _ (lt_of_block h)).trans h
theorem iter_grown {w w' : World} {k : Nat} {s : ByteArray} {pos : Nat} {row : Option Nat} (h : w.heap[k]? = some (.stringIter s pos)) (hg : w.grownBy w' row) (hr : ∀ j, row = some j → k + 1 ≤ j) : w'.heap[k]? = some (.stringIter s pos) :=
  (hg.block k (lt_of_block h) (fun e => by have := hr k e.symm; omega)).trans h
/-- Word characters behind the first one of a word. -/
theorem wn_in : ∀ (l : List UInt8) (k : Nat) (h : k < l.length), k < wn l → wb l[k] = true
  | c :: r, 0, _, h => by
    by_cases hc : wb c = true
    · exact hc
    · rw [wn_neg hc] at h; omega
  | c :: r, k + 1, h, hk => by
    by_cases hc : wb c = true
    · rw [wn_pos hc] at hk
      exact wn_in r k (by simpa using h) (by omega)
    · rw [wn_neg hc] at hk; omega

set_option maxHeartbeats 4000000 in
set_option maxRecDepth 100000 in
theorem tokens_any (s : ByteArray) (w : World) (hs : s.size ≤ 100000) : Calls Try.prog 10 #[.string s] w fun e w' => PT w s e w' := by
  obtain ⟨i0, hi, hz0, hz1, hz2⟩ := info_parts Try.info31
  go_enter Try.func10, Try.ntmps10
  go_wp2
  go_loopw [5, 6] (fun b ev wr => ∃ (pre : List (Nat × Nat)) (pos en q m fu : Nat), ev = .int .i64 (en : Int) ∧ pos ≤ q ∧ en ≤ q ∧ (q = pos ∨ q = en) ∧ q ≤ s.size ∧ m ≤ q ∧ s.size ≤ q + fu ∧ wr.ownsRow (w.heap.size + 1) 31 2 b m (tkC s pre) ∧ wr.heap[w.heap.size]? = some (.stringIter s pos) ∧ Hid (pre.length = m) ∧ Hid (∀ k (h : k < s.size), pos ≤ k → k < en → wb (s[k]'h) = true) ∧ Hid (tk s.size 0 s.data.toList = (pre ++ (tk fu q (s.data.toList.drop q)).1, (tk fu q (s.data.toList.drop q)).2)) ∧ Below w.heap.size w wr) (fun _ _ wr => s.size - wr.iterPos w.heap.size)
  case atStart => exact ⟨[], 0, 0, 0, 0, s.size, rfl, by omega, by omega, .inl rfl, by omega, by omega, by omega, World.ownsRow_nil _ _ _ _, heap_alloc_new _ _, Lib.hid rfl, Lib.hid (fun k _ h1 h2 => by omega), Lib.hid (by simp), (Below.refl _ _).alloc (Nat.le_refl _) _⟩
  case round =>
    obtain ⟨pre, pos, en, q, m, fu, rfl, h1, h2, h3, h4, h5, h6, hown, hit, hP, hW, hR, hB⟩ := hrel
    have hsz := hB.size
    by_cases hlt : pos < s.size
    · obtain ⟨d, hd⟩ : ∃ d, (Utf8.decode s pos).2 = d := ⟨_, rfl⟩
      obtain ⟨r, hr⟩ : ∃ r, (Utf8.decode s pos).1 = r := ⟨_, rfl⟩
      obtain ⟨W1, hW1⟩ : ∃ W1, W1 = wr.iterAt w.heap.size s (pos + d) := ⟨_, rfl⟩
      have hnx : ∀ ty, (Instr.next (.pointer (some ⟨w.heap.size, 0, none⟩)) true ty).run Try.prog wr = .ok (.tuple #[.bool true, .int .i64 pos, .int .i32 r]) W1 := fun ty => by
        rw [hW1, ← hr, ← hd]; exact Lib.run_next_any_at wr _ s pos ty hit hlt
      have hi1 : W1.heap[w.heap.size]? = some (.stringIter s (pos + d)) := by rw [hW1]; exact Lib.iterAt_heap _ _ _ _ _ hit
      have hB1 : Below w.heap.size w W1 := by rw [hW1]; exact Lib.below_iterAt hB (Nat.le_refl _) _ _
      have hs1 : w.heap.size + 1 ≤ W1.heap.size := by rw [hW1, Lib.iterAt_size]; exact lt_of_block hit
      have hown1 := own_iter hown (show w.heap.size < w.heap.size + 1 by omega) s (pos + d)
      rw [← hW1] at hown1
      have hP1 := iterPos_of hit
      clear hown hit hB hW1
      obtain ⟨c, hc⟩ : ∃ c, s[pos]'hlt = c := ⟨_, rfl⟩
      have hdc := decode_cl s pos hlt
      obtain ⟨k1, k2, k3⟩ := cl_decode s pos hlt
      rw [hc, hr] at k1 k2 k3
      rw [hc, hd] at hdc
      by_cases hin : pos < en
      · -- inside a word
        have hw : wb c = true := by rw [← hc]; exact hW.out pos hlt (Nat.le_refl _) hin
        have hd1 : d = 1 := hdc (.inr (.inr hw))
        subst hd1
        have HI := Lib.hid hi1
        have HP1 := Lib.hid hP1
        have HP2 := Lib.hid (iterPos_of hi1)
        clear hdc k1 k2 k3 hw hc hd hr hi1 hP1
        have t1 : (pos : Int) < (en : Int) := by omega
        go_wp2
        go_roundw
        case rel => exact ⟨pre, pos + 1, en, q, m, fu, rfl, by omega, by omega, by omega, by omega, by omega, by omega, hown1, HI.out, hP, Lib.hid (fun k hk a b => hW.out k hk (by omega) b), hR, hB1⟩
        case measure => rw [HP1.out, HP2.out]; omega
      · obtain rfl : q = pos := by omega
        have t1 : ¬ (q : Int) < (en : Int) := by omega
        obtain ⟨fu, rfl⟩ : ∃ f, fu = f + 1 := ⟨fu - 1, by omega⟩
        have hE := drop_at s q hlt
        rw [hc] at hE
        have hR1 := hR.out
        rw [hE] at hR1
        cases e1 : spc c
        · cases e2 : cmt c
          · -- the word
            obtain ⟨T, hT⟩ : ∃ T, s.extract q s.size = T := ⟨_, rfl⟩
            have hTl : T.data.toList = c :: s.data.toList.drop (q + 1) := by rw [← hT, ext_rest, hE]
            have hsl : ∀ w, (Instr.slice 9 (.string s) (some (.int .i64 (q : Int))) none none).run Try.prog w = .ok (.string T) w := fun w => by
              rw [run_slice_string_from_if w 9 s .i64 q Try.underlying9, if_pos (by omega), ← hT]; rfl
            obtain ⟨n, hn⟩ : ∃ n, wn (c :: s.data.toList.drop (q + 1)) = n := ⟨_, rfl⟩
            have hnl : q + n ≤ s.size := by
              have g1 := wn_le (c :: s.data.toList.drop (q + 1))
              rw [hn, ← hE, List.length_drop, size_list] at g1
              omega
            have HWD := Lib.hid (fun w => word_at T (n : Int) w (by rw [hTl, hn]))
            have HS := Lib.hid (k1.trans e1)
            have HC := Lib.hid (k2.trans e2)
            by_cases hw : wb c = true
            · have hp : pun c = false := ((byte_cases c).2.2 hw).1
              have HM := Lib.hid (k3.trans hp)
              have hd1 : d = 1 := hdc (.inr (.inr hw))
              subst hd1
              rw [tk_word hw, hn] at hR1
              have hn1 : 1 ≤ n := by have := wn_pos (r := s.data.toList.drop (q + 1)) hw; omega
              have HWI : Hid (∀ k (h : k < s.size), q + 1 ≤ k → k < q + n → wb (s[k]'h) = true) := Lib.hid (fun k hk a b => by
                have g1 := wn_in (c :: s.data.toList.drop (q + 1)) (k - q) (by rw [← hE, List.length_drop, size_list]; omega) (by omega)
                have g2 : (c :: s.data.toList.drop (q + 1))[k - q]'(by rw [← hE, List.length_drop, size_list]; omega) = s[k] := by
                  simp only [← hE, List.getElem_drop]
                  congr 1; omega
                rw [← g2]; exact g1)
              have HD := Lib.hid (show s.data.toList.drop (q + n) = (c :: s.data.toList.drop (q + 1)).drop n by rw [← hE, List.drop_drop])
              obtain ⟨U, hU⟩ : ∃ U, s.extract q (q + n) = U := ⟨_, rfl⟩
              have hsu : ∀ w, (Instr.slice 9 (.string s) (some (.int .i64 (q : Int))) (some (.int .i64 ((q : Int) + n))) none).run Try.prog w = .ok (.string U) w := fun w => by
                rw [run_slice_string w 9 s .i64 .i64 q ((q : Int) + n) Try.underlying9 (by omega) (by omega) (by omega), ← hU]; rfl
              have HU := Lib.hid hU
              have HR1 := Lib.hid hR1
              have HP1 := Lib.hid hP1
              have HR := Lib.hid hr
              clear hdc k1 k2 k3 hc hd hr hR1 hE hT hTl hn hU e1 e2 hw hp hP1
              have t2 : ¬ (n : Int) = 0 := by omega
              go_wp2_with (first
                | (go_at_call 23; ((with_reducible refine (isSpace_at _ false _ HS.out).mono ?_); rintro e w2 ⟨rfl, rfl⟩))
                | (go_at_call 24; ((with_reducible refine (isCmt_at _ false _ HC.out).mono ?_); rintro e w2 ⟨rfl, rfl⟩))
                | (go_at_call 25; ((with_reducible refine (HWD.out _).mono ?_); rintro e w3 ⟨rfl, b3⟩; have B3 := bch hB1 b3; have hown3 := own_below hown1 b3; have hi3 := iter_below hi1 b3; have hs3 := b3.size))
                | (go_at_call 26; ((with_reducible refine (isMark_at _ false _ HM.out).mono ?_); rintro e w4 ⟨rfl, rfl⟩))
                | (at_builtin; refine wpList_append_own _ rfl _ _ 23 rfl (w.heap.size + 1) 31 i0 (.agg #[.string ⟨#[]⟩, .int .i64 0]) 2 24 Try.underlying23 hi hz0 hz1 hz2 rfl (by decide) _ m _ rfl (hown3.alloc _) ⟨w3.heap.size, 0, none⟩ 1 1 [.string U, .int .i64 (q : Int)] rfl rfl (World.news_of_block (cs := #[.string U, .int .i64 (q : Int)]) (t := 31) (fr := (0, 0)) (heap_alloc_last w3 _)) (by simp [Value.oneCell']) (by unfold maxLen; omega) (by omega) (by simp; omega) ?_; intro v' w5 hown5 hgrow5 _))
              go_roundw
              case rel =>
                have hi4 : (w3.alloc (.cells #[.string U, .int .i64 (q : Int)] 31)).heap[w.heap.size]? = some (.stringIter s (q + 1)) := iter_below hi3 (bnew _ _)
                refine ⟨pre ++ [(q, q + n)], q + 1, q + n, q + n, m + 1, fu, by go_num, by omega, by omega, by omega, by omega, by omega, by omega, ?_, iter_grown hi4 hgrow5 (own_base hown3), Lib.hid ?_, HWI, Lib.hid ?_, ?_⟩
                · rw [tkC_snoc, HU.out]; exact hown5
                · rw [List.length_append, hP.out]; rfl
                · rw [HR1.out, HD.out]; simp
                · exact (bch B3 (bnew _ _)).grown hgrow5 (by simp; omega) (fun k e => by have := own_base hown3 k e; omega)
              case measure =>
                have hi4 : (w3.alloc (.cells #[.string U, .int .i64 (q : Int)] 31)).heap[w.heap.size]? = some (.stringIter s (q + 1)) := iter_below hi3 (bnew _ _)
                rw [HP1.out, iterPos_of (iter_grown hi4 hgrow5 (own_base hown3))]; omega
            · have hw' : wb c = false := by simpa using hw
              have hn0 : n = 0 := by rw [← hn]; exact wn_neg hw
              subst hn0
              cases hp : pun c
              · -- a wrong byte
                have HM := Lib.hid (k3.trans hp)
                rw [tk_bad e2 e1 hw' hp] at hR1
                have hb : bad s = (q : Int) := by unfold bad; rw [hR1]
                have HB := Lib.hid hb
                clear hdc k1 k2 k3 hc hd hr hR1 hE hT hTl hn hb e1 e2 hw hw' hp hP1
                go_wp2_with (first
                  | (go_at_call 23; ((with_reducible refine (isSpace_at _ false _ HS.out).mono ?_); rintro e w2 ⟨rfl, rfl⟩))
                  | (go_at_call 24; ((with_reducible refine (isCmt_at _ false _ HC.out).mono ?_); rintro e w2 ⟨rfl, rfl⟩))
                  | (go_at_call 25; ((with_reducible refine (HWD.out _).mono ?_); rintro e w3 ⟨rfl, b3⟩; have B3 := bch hB1 b3))
                  | (go_at_call 26; ((with_reducible refine (isMark_at _ false _ HM.out).mono ?_); rintro e w4 ⟨rfl, rfl⟩)))
                refine bodyPost_ret (v := .tuple #[.slice none 0 0, .int .i64 (q : Int), .int .i64 2]) (by simp [results, Try.results10, go_sem]) rfl ?_
                exact ⟨_, _, _, rfl, B3, .inl ⟨by rw [HB.out]; omega, by rw [HB.out], rfl, _, _, rfl⟩⟩
              · have HM := Lib.hid (k3.trans hp)
                have hd1 : d = 1 := hdc (.inr (.inl hp))
                subst hd1
                rw [tk_pun hp] at hR1
                obtain ⟨U, hU⟩ : ∃ U, s.extract q (q + 1) = U := ⟨_, rfl⟩
                have hsu : ∀ w, (Instr.slice 9 (.string s) (some (.int .i64 (q : Int))) (some (.int .i64 ((q : Int) + 1))) none).run Try.prog w = .ok (.string U) w := fun w => by
                  rw [run_slice_string w 9 s .i64 .i64 q ((q : Int) + 1) Try.underlying9 (by omega) (by omega) (by omega), ← hU]; rfl
                have HU := Lib.hid hU
                have HR1 := Lib.hid hR1
                have HP1 := Lib.hid hP1
                clear hdc k1 k2 k3 hc hd hr hR1 hE hT hTl hn hU e1 e2 hw hw' hp hP1
                go_wp2_with (first
                  | (go_at_call 23; ((with_reducible refine (isSpace_at _ false _ HS.out).mono ?_); rintro e w2 ⟨rfl, rfl⟩))
                  | (go_at_call 24; ((with_reducible refine (isCmt_at _ false _ HC.out).mono ?_); rintro e w2 ⟨rfl, rfl⟩))
                  | (go_at_call 25; ((with_reducible refine (HWD.out _).mono ?_); rintro e w3 ⟨rfl, b3⟩; have B3 := bch hB1 b3; have hown3 := own_below hown1 b3; have hi3 := iter_below hi1 b3; have hs3 := b3.size))
                  | (go_at_call 26; ((with_reducible refine (isMark_at _ true _ HM.out).mono ?_); rintro e w4 ⟨rfl, rfl⟩))
                  | (at_builtin; refine wpList_append_own _ rfl _ _ 23 rfl (w.heap.size + 1) 31 i0 (.agg #[.string ⟨#[]⟩, .int .i64 0]) 2 24 Try.underlying23 hi hz0 hz1 hz2 rfl (by decide) _ m _ rfl (hown3.alloc _) ⟨w3.heap.size, 0, none⟩ 1 1 [.string U, .int .i64 (q : Int)] rfl rfl (World.news_of_block (cs := #[.string U, .int .i64 (q : Int)]) (t := 31) (fr := (0, 0)) (heap_alloc_last w3 _)) (by simp [Value.oneCell']) (by unfold maxLen; omega) (by omega) (by simp; omega) ?_; intro v' w5 hown5 hgrow5 _))
                go_roundw
                case rel =>
                  have hi4 : (w3.alloc (.cells #[.string U, .int .i64 (q : Int)] 31)).heap[w.heap.size]? = some (.stringIter s (q + 1)) := iter_below hi3 (bnew _ _)
                  refine ⟨pre ++ [(q, q + 1)], q + 1, q + 1, q + 1, m + 1, fu, by go_num, by omega, by omega, by omega, by omega, by omega, by omega, ?_, iter_grown hi4 hgrow5 (own_base hown3), Lib.hid ?_, Lib.hid (fun k _ a b => by omega), Lib.hid ?_, ?_⟩
                  · rw [tkC_snoc, HU.out]; exact hown5
                  · rw [List.length_append, hP.out]; rfl
                  · rw [HR1.out]; simp
                  · exact (bch B3 (bnew _ _)).grown hgrow5 (by simp; omega) (fun k e => by have := own_base hown3 k e; omega)
                case measure =>
                  have hi4 : (w3.alloc (.cells #[.string U, .int .i64 (q : Int)] 31)).heap[w.heap.size]? = some (.stringIter s (q + 1)) := iter_below hi3 (bnew _ _)
                  rw [HP1.out, iterPos_of (iter_grown hi4 hgrow5 (own_base hown3))]; omega
          · -- a comment
            have HS := Lib.hid (k1.trans e1)
            have HC := Lib.hid (k2.trans e2)
            rw [tk_cmt e2] at hR1
            have hb : bad s = -1 := by unfold bad; rw [hR1]
            have ht : tks s = pre := by unfold tks; rw [hR1]; simp
            have HB := Lib.hid hb
            have HT := Lib.hid ht
            clear hdc k1 k2 k3 hc hd hr hR1 hE hb ht e1 e2 hP1
            obtain ⟨va, vc, rfl⟩ := owns_slice hown1
            go_wp2_with (first
              | (go_at_call 23; ((with_reducible refine (isSpace_at _ false _ HS.out).mono ?_); rintro e w2 ⟨rfl, rfl⟩))
              | (go_at_call 24; ((with_reducible refine (isCmt_at _ true _ HC.out).mono ?_); rintro e w2 ⟨rfl, rfl⟩)))
            refine bodyPost_ret (v := .tuple #[.slice va m vc, .int .i64 0, .int .i64 0]) (by simp [results, Try.results10, go_sem]) rfl ?_
            refine ⟨_, _, _, rfl, hB1, .inr ⟨HB.out, rfl, rfl, own_tks (base := w.heap.size + 1) (e := 31) ?_⟩⟩
            rw [tkX_len, ← xC_tk, HT.out, hP.out]; exact hown1
        · -- a space
          have HS := Lib.hid (k1.trans e1)
          have hd1 : d = 1 := hdc (.inl e1)
          subst hd1
          rw [tk_spc e1] at hR1
          have HR1 := Lib.hid hR1
          have HI := Lib.hid hi1
          have HP1 := Lib.hid hP1
          clear hdc k1 k2 k3 hc hd hr hR1 hE e1 hi1 hP1
          go_wp2_with (go_at_call 23; ((with_reducible refine (isSpace_at _ true _ HS.out).mono ?_); rintro e w2 ⟨rfl, rfl⟩))
          go_roundw
          case rel => exact ⟨pre, q + 1, en, q + 1, m, fu, rfl, by omega, by omega, by omega, by omega, by omega, by omega, hown1, HI.out, hP, Lib.hid (fun k hk a b => by omega), HR1, hB1⟩
          case measure => rw [HP1.out, iterPos_of HI.out]; omega
    · obtain rfl : q = s.size := by omega
      have hnx : ∀ ty, (Instr.next (.pointer (some ⟨w.heap.size, 0, none⟩)) true ty).run Try.prog wr = .ok (.tuple #[.bool false]) wr := fun ty => Lib.run_next_end_at wr _ s pos ty hit hlt
      have hl : s.data.toList.drop s.size = [] := List.drop_eq_nil_of_le (by rw [Array.length_toList]; exact Nat.le_refl _)
      have hR1 := hR.out
      rw [hl, tk_nil] at hR1
      have hb : bad s = -1 := by unfold bad; rw [hR1]
      have ht : tks s = pre := by unfold tks; rw [hR1]; simp
      have HB := Lib.hid hb
      have HT := Lib.hid ht
      clear hR1 hb ht hl hR
      obtain ⟨va, vc, rfl⟩ := owns_slice hown
      go_wp2
      refine bodyPost_ret (v := .tuple #[.slice va m vc, .int .i64 0, .int .i64 0]) (by simp [results, Try.results10, go_sem]) rfl ?_
      refine ⟨_, _, _, rfl, hB, .inr ⟨HB.out, rfl, rfl, own_tks (base := w.heap.size + 1) (e := 31) ?_⟩⟩
      rw [tkX_len, ← xC_tk, HT.out, hP.out] ; exact hown
end Go.Proofs.Ytdpdeelnabomlaa.L8
