/- The law 'words are runs of word characters, and all other tokens are single characters' returns true, if the program's Tokens, Shape and Words return what they are to and the examples hold. -/
import Derived.Test.YtdpdeelnabomlaaL8Leq
namespace Go.Proofs.Ytdpdeelnabomlaa.L8
open Go.RowKit L2
attribute [local go_sem] Oper.semAt_some

/-- What is asked of the program's Words and Shape. -/
abbrev Words8 : Prop := ∀ (xs : Tks) (v : Value) (w : World), xs.length ≤ 100000 → (∀ t ∈ txt xs, TokT t) → TksAt w v xs → Calls Try.prog 15 #[v] w fun e w' => PS w (wdX xs) e w'
abbrev Shape8 : Prop := ∀ (xs : Tks) (v : Value) (w : World), xs.length ≤ 100000 → (∀ t ∈ txt xs, TokT t) → TksAt w v xs → Calls Try.prog 12 #[v] w fun e w' => e = .returned (.string (shB xs)) ∧ Below w.heap.size w w'
theorem txt_tkX (s : ByteArray) : txt (tkX s (tks s)) = txts s := by
  unfold txt tkX txts
  rw [List.map_map]
  refine List.map_congr_left fun p _ => ?_
  exact ext_list s p.1 p.2
theorem PT_any {w w' : World} {s : ByteArray} {e : Ending} (h : PT w s e w') (xs : Tks) (hx : (0 ≤ bad s ∧ xs = []) ∨ (bad s = -1 ∧ xs = tkX s (tks s))) : ∃ a cap q r, e = .returned (.tuple #[.slice a xs.length cap, .int .i64 q, .int .i64 r]) ∧ TksAt w' (.slice a xs.length cap) xs ∧ Below w.heap.size w w' := by
  rcases hx with ⟨hb, rfl⟩ | ⟨hb, rfl⟩
  · obtain ⟨a, cap, rfl, hB⟩ := PT_bad hb h
    exact ⟨a, cap, _, _, rfl, .inr ⟨rfl, _, _, rfl⟩, hB⟩
  · obtain ⟨a, cap, rfl, hv, hB⟩ := PT_ok hb h
    rw [tkX_len]
    exact ⟨a, cap, _, _, rfl, hv, hB⟩
theorem toks_of (s : ByteArray) : ∃ xs : Tks, ((0 ≤ bad s ∧ xs = []) ∨ (bad s = -1 ∧ xs = tkX s (tks s))) ∧ xs.length ≤ s.size ∧ (∀ t ∈ txt xs, TokT t) ∧ ∀ x ∈ xs, x.1.size ≤ s.size := by
  rcases bad_cases s with hb | hb
  · refine ⟨_, .inr ⟨hb, rfl⟩, by rw [tkX_len]; exact tks_len s, by rw [txt_tkX]; exact txts_tok s, fun x hx => ?_⟩
    obtain ⟨p, _, rfl⟩ := List.mem_map.1 hx
    show (s.extract p.1 p.2).size ≤ s.size
    rw [← size_list, ext_list, ← size_list s, List.length_take, List.length_drop]; omega
  · exact ⟨[], .inl ⟨hb, rfl⟩, Nat.zero_le _, by simp [txt], by simp⟩
theorem PS_form {w w' : World} {l : List ByteArray} {e : Ending} (h : PS w l e w') : ∃ a cap, e = .returned (.slice a l.length cap) ∧ StAt w' (.slice a l.length cap) l ∧ Below w.heap.size w w' := by
  obtain ⟨⟨v, rfl, hv⟩, hB⟩ := h
  have hv0 := hv
  rcases hv with ⟨b, o, cap, rfl, _⟩ | ⟨rfl, a, cap, rfl⟩
  · exact ⟨_, _, rfl, hv0, hB⟩
  · exact ⟨_, _, rfl, hv0, hB⟩
theorem wdX_len (xs : Tks) : (wdX xs).length = (wds (txt xs)).length := by
  simp [wdX, wds, txt, List.filter_map, Function.comp_def]
theorem sh_count (xs : Tks) (h : ∀ t ∈ txt xs, TokT t) : (Lib.countByte (shB xs).data.toList 119 : Nat) = (wdX xs).length := by
  show (shp (txt xs)).toArray.toList.count 119 = _
  rw [List.toList_toArray, wdX_len, ← shp_count _ h]
  rfl

set_option maxHeartbeats 4000000 in
set_option maxRecDepth 100000 in
theorem lwords_long (HA : Alive8) (s : ByteArray) (h : 3000 < s.size) (w : World) : Calls Try.prog 8 #[.string s] w fun e w' => e = .returned (.bool true) ∧ Below w.heap.size w w' := by
  have HH := Lib.hid HA
  clear HA
  have h' : (3000 : Int) < (s.size : Int) := by omega
  go_enter Try.func8, Try.ntmps8
  go_wp2_with (go_at_call 9; ((with_reducible refine (HH.out _).mono ?_); rintro e w1 ⟨rfl, b1⟩))
  go_ret
  exact ⟨rfl, b1⟩
set_option maxHeartbeats 4000000 in
set_option maxRecDepth 100000 in
theorem lwords_walk (HT : Toks8) (HW : Words8) (HS : Shape8) (HA : Alive8) (s : ByteArray) (_ : s.size ≤ maxLen) (w : World) : Calls Try.prog 8 #[.string s] w fun e w' => e = .returned (.bool true) ∧ Below w.heap.size w w' := by
  by_cases h : 3000 < s.size
  · exact lwords_long HA s h w
  have HH := Lib.hid HA
  obtain ⟨xs, hxs, hxl, hxt, hxz⟩ := toks_of s
  have H1 := Lib.hid (fun w => (HT s w (by omega)).mono fun e w' h => PT_any h xs hxs)
  have H2 := Lib.hid (fun v w hv => (HW xs v w (by omega) hxt hv).mono fun e w' h => PS_form h)
  have H3 := Lib.hid (fun v w hv => HS xs v w (by omega) hxt hv)
  have hcnt := sh_count xs hxt
  have hshl := sh_len xs
  have hwl : (wdX xs).length ≤ xs.length := by unfold wdX; rw [List.length_map]; exact List.length_filter_le _ _
  obtain ⟨S, hS⟩ : ∃ S, shB xs = S := ⟨_, rfl⟩
  obtain ⟨W, hW⟩ : ∃ W, wdX xs = W := ⟨_, rfl⟩
  rw [hS] at H3 hcnt hshl
  rw [hW] at H2 hcnt hwl
  have H4 := Lib.hid (fun w => Try.strings_Count_one S 119 w)
  rw [hcnt] at H4
  obtain ⟨k, hk⟩ : ∃ k, W.length = k := ⟨_, rfl⟩
  obtain ⟨n, hn⟩ : ∃ n, xs.length = n := ⟨_, rfl⟩
  rw [hk] at H2 H4 hwl
  rw [hn] at H1 hshl hxl hwl
  have HK := Lib.hid hk
  have HN := Lib.hid hn
  have HWX := Lib.hid hW
  have HXT := Lib.hid hxt
  have HXZ := Lib.hid hxz
  clear HA HT HW HS hxs hxt hxz hcnt hS hW hk hn
  have h' : ¬ (3000 : Int) < (s.size : Int) := by omega
  go_enter Try.func8, Try.ntmps8
  go_wp2_with (go_at_call 10; ((with_reducible refine (H1.out _).mono ?_); rintro e w1 ⟨a1, cap1, q1, r1, rfl, hv1, b1⟩))
  have V1 := Lib.hid hv1
  clear hv1
  go_loopw [6, 21] (fun cn i wr => ∃ j m : Nat, i = .int .i64 (j : Int) ∧ cn = .int .i64 (m : Int) ∧ j ≤ n ∧ m ≤ j ∧ Hid ((wdX (xs.take j)).length = m) ∧ Below w1.heap.size w1 wr) (fun _ i _ => n - (intOf i).toNat)
  case atStart => exact ⟨0, 0, rfl, rfl, Nat.zero_le _, Nat.le_refl _, Lib.hid rfl, Below.refl _ _⟩
  case round =>
    obtain ⟨j, m, rfl, rfl, hj, hmj, hM, hB⟩ := hrel
    by_cases hlt : j < n
    · have hjx : j < xs.length := by rw [HN.out]; exact hlt
      obtain ⟨c1, o1, rfl, _, l1, hx1, t1⟩ := (V1.out.below hB).get (by omega)
      obtain ⟨T, q, e1, p1, p2⟩ := TksAt.cells t1 j hjx
      have hTt : TokT T.data.toList := HXT.out _ (by
        unfold txt
        exact List.mem_map.2 ⟨xs[j], List.getElem_mem hjx, by rw [e1]⟩)
      have hst : (wdX (xs.take (j + 1))).length = m + (if isW T.data.toList then 1 else 0) := by
        rw [take_snoc xs j hjx, wdX_snoc, e1, List.length_append, hM.out]
        split <;> simp
      have hTs := size_list T
      obtain ⟨i1, i2⟩ := isW_wn hTt
      obtain ⟨z, hz⟩ : ∃ z, wn T.data.toList = z := ⟨_, rfl⟩
      have hzl : z ≤ T.size := by rw [← hz, ← hTs]; exact wn_le _
      rw [hz, hTs] at i1 i2
      have hbig : T.size ≤ 9223372036854775807 := by
        have := HXZ.out _ (List.getElem_mem hjx)
        rw [e1] at this
        simp only at this
        omega
      · have HR := Lib.hid (fun w => rword_at T (z : Int) w hbig (by rw [hz]))
        clear hTt e1 t1 hz hM hTs
        cases hw : isW T.data.toList
        · obtain ⟨g1, g2⟩ := i2 hw
          rw [hw] at hst
          have HM2 := Lib.hid (show (wdX (xs.take (j + 1))).length = m by simpa using hst)
          have t1 : ((z : Int) == (T.size : Int)) = false := by rw [beq_eq_false_iff_ne]; omega
          have t2 : ((T.size : Int) != 1) = false := by rw [g1]; rfl
          clear i1 i2 hst hw g1 g2
          go_upto_region 8 with (fail)
          have hx := heap_alloc_last wr (.cells #[.string T, .int .i64 q] 31)
          have b0 := bnew wr (.cells #[.string T, .int .i64 q] 31)
          obtain ⟨x0, x1⟩ := cells2 hx
          have B0 := bch hB b0
          generalize wr.heap.size = g at x0 x1 ⊢
          generalize wr.alloc (.cells _ 31) = W1 at x0 x1 B0 ⊢
          clear p1 p2 hx b0
          go_quiet ((go_at_call 21; refine Calls.quiet_of_same ((HR.out _).mono fun e w' h => ⟨h.1, h.2.symm⟩)))
          go_wp2
          go_roundw
          case rel => exact ⟨j + 1, m, by go_num, rfl, by omega, by omega, HM2, bdN B0 _⟩
          case measure => simp [intOf]; omega
        · have g1 := i1 hw
          rw [hw] at hst
          have HM2 := Lib.hid (show (wdX (xs.take (j + 1))).length = m + 1 by simpa using hst)
          have t1 : ((z : Int) == (T.size : Int)) = true := by rw [beq_iff_eq]; omega
          clear i1 i2 hst hw g1
          go_upto_region 8 with (fail)
          have hx := heap_alloc_last wr (.cells #[.string T, .int .i64 q] 31)
          have b0 := bnew wr (.cells #[.string T, .int .i64 q] 31)
          obtain ⟨x0, x1⟩ := cells2 hx
          have B0 := bch hB b0
          generalize wr.heap.size = g at x0 x1 ⊢
          generalize wr.alloc (.cells _ 31) = W1 at x0 x1 B0 ⊢
          clear p1 p2 hx b0
          go_quiet ((go_at_call 21; refine Calls.quiet_of_same ((HR.out _).mono fun e w' h => ⟨h.1, h.2.symm⟩)))
          go_wp2
          go_roundw
          case rel => exact ⟨j + 1, m + 1, by go_num, by go_num, by omega, by omega, HM2, bdN B0 _⟩
          case measure => simp [intOf]; omega
    · obtain rfl : j = n := by omega
      have hmk : m = k := by
        rw [← hM.out, ← HK.out, ← HWX.out, List.take_of_length_le (by rw [HN.out]; exact Nat.le_refl _)]
      subst hmk
      have V2 := Lib.hid (V1.out.below hB)
      clear hM
      go_wp2_with (first
        | (go_at_call 9; ((with_reducible refine (HH.out _).mono ?_); rintro e w3 ⟨rfl, b3⟩; have V3 := V2.out.below b3; have B3 := bch hB b3))
        | (go_at_call 15; ((with_reducible refine (H2.out _ _ V3).mono ?_); rintro e w4 ⟨a4, cap4, rfl, _, b4⟩; have V4 := V3.below b4; have B4 := bch B3 b4))
        | (go_at_call 12; ((with_reducible refine (H3.out _ _ V4).mono ?_); rintro e w5 ⟨rfl, b5⟩; have V5 := V4.below b5; have B5 := bch B4 b5))
        | (go_at_call 12; ((with_reducible refine (H3.out _ _ V5).mono ?_); rintro e w6 ⟨rfl, b6⟩; have B6 := bch B5 b6))
        | (go_at_call 22; ((with_reducible refine (H4.out _).mono ?_); rintro e w7 ⟨rfl, rfl⟩)))
      go_ret
      exact ⟨rfl, bch b1 B6⟩
end Go.Proofs.Ytdpdeelnabomlaa.L8
