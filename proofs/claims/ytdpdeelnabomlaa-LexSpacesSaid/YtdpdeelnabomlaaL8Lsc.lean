/- The law 'spaces and comments do not matter' returns true, if the program's Tokens returns the tokens and the examples hold. -/
import Derived.Test.YtdpdeelnabomlaaL8Lwd
namespace Go.Proofs.Ytdpdeelnabomlaa.L8
open Go.RowKit L2
attribute [local go_sem] Oper.semAt_some

theorem jn_up : ∀ ts : List (List UInt8), (jn ts).length ≤ (ts.map List.length).sum + ts.length
  | [] => by simp [jn]
  | [t] => by simp [jn]
  | t :: t2 :: r => by
    have ih := jn_up (t2 :: r)
    show (t ++ 32 :: jn (t2 :: r)).length ≤ _
    simp only [List.length_append, List.length_cons, List.map_cons, List.sum_cons] at ih ⊢
    omega
theorem chain_sum (L : List UInt8) (M : Nat) : ∀ (ts : List (Nat × Nat)) (e : Nat), e ≤ M → Chain e ts → (∀ p ∈ ts, p.2 ≤ M ∧ (cut L p).length = p.2 - p.1) → ((ts.map (cut L)).map List.length).sum + e ≤ M
  | [], e, he, _, _ => by simpa using he
  | p :: r, e, _, hc, hp => by
    obtain ⟨h1, h2, h3⟩ := hc
    obtain ⟨k1, k2⟩ := hp p (by simp)
    have ih := chain_sum L M r p.2 k1 h3 (fun q hq => hp q (by simp [hq]))
    simp only [List.map_cons, List.sum_cons, k2] at ih ⊢
    omega
theorem jn_le (s : ByteArray) : (jn (txts s)).length ≤ 2 * s.size := by
  have h1 := jn_up (txts s)
  have h2 := chain_sum s.data.toList s.size (tks s) 0 (Nat.zero_le _) (tks_chain s) (fun p hp => by
    have := tks_places s p hp
    refine ⟨?_, cut_len this⟩
    have := this.2.2.1
    rw [size_list, Nat.zero_add] at this
    exact this)
  have h3 := tks_len s
  have h4 : (txts s).length = (tks s).length := by simp [txts]
  have h5 : txts s = (tks s).map (cut s.data.toList) := rfl
  rw [h5] at h1 h4 ⊢
  omega
theorem ba_eq {a b : ByteArray} (h : a.data.toList = b.data.toList) : a = b := ByteArray.ext (Array.toList_inj.1 h)
/-- The line that the law builds. -/
theorem join_line (s c J : ByteArray) (hJ : J.data.toList = jn (txts s)) : (J ++ ⟨#[9, 35]⟩ ++ c).data.toList = jn (txts s) ++ 9 :: 35 :: c.data.toList := by
  rw [← hJ]
  simp
theorem st_own_join {w : World} {base : Nat} {v : Value} {l : List ByteArray} (h : w.ownsRow base 9 1 v l.length (stC l)) (hl : l.length ≤ 100000) (hj : (jn (l.map (·.data.toList))).length ≤ 100000) :
    Calls Try.prog 19 #[v, .string ⟨#[32]⟩] w fun e w' => e = .returned (.string ⟨(jn (l.map (·.data.toList))).toArray⟩) ∧ Below w.heap.size w w' := by
  have hjn : Lib.join (l.map (·.data.toList)) (⟨#[32]⟩ : ByteArray).data.toList = jn (l.map (·.data.toList)) := jn_inter _
  rcases h.2 with ⟨rfl, h0⟩ | ⟨g, cap, cur, rfl, _, hh, hcp, _, _, _⟩
  · have e0 : l = [] := List.eq_nil_of_length_eq_zero h0
    subst e0
    refine (Try.strings_Join_none none 0 ⟨#[32]⟩ w).mono fun e w' h => ?_
    obtain ⟨rfl, rfl⟩ := h
    exact ⟨rfl, Below.refl _ _⟩
  · have := Try.strings_Join g 0 cap l ⟨#[32]⟩ w (fun j x hx => by
      have k1 := h.cells (g := g) rfl j (.string x) (by simp [stC, hx])
      rw [Nat.zero_add]; rwa [add0] at k1) (lt_of_block hh) (by omega) hcp (by rw [hjn]; omega)
    rw [hjn] at this
    exact this
theorem txt_get {xs ys : Tks} (h : txt xs = txt ys) (j : Nat) (h1 : j < xs.length) (h2 : j < ys.length) : xs[j].1 = ys[j].1 := by
  refine ba_eq ?_
  have e1 : (txt xs)[j]'(by simpa [txt] using h1) = xs[j].1.data.toList := by simp [txt]
  have e2 : (txt ys)[j]'(by simpa [txt] using h2) = ys[j].1.data.toList := by simp [txt]
  rw [← e1, ← e2]
  simp [h]

set_option maxHeartbeats 4000000 in
set_option maxRecDepth 100000 in
theorem lspaces_long (HA : Alive8) (s c : ByteArray) (h : 3000 < s.size ∨ 3000 < c.size) (w : World) : Calls Try.prog 6 #[.string s, .string c] w fun e w' => e = .returned (.bool true) ∧ Below w.heap.size w w' := by
  have HH := Lib.hid HA
  clear HA
  by_cases h1 : 3000 < s.size
  · have h' : (3000 : Int) < (s.size : Int) := by omega
    have t1 : decide ((3000 : Int) < (s.size : Int)) = true := decide_eq_true h'
    go_enter Try.func6, Try.ntmps6
    go_wp2_with (go_at_call 9; ((with_reducible refine (HH.out _).mono ?_); rintro e w1 ⟨rfl, b1⟩))
    go_ret
    exact ⟨rfl, b1⟩
  · have h2 : ¬ (3000 : Int) < (s.size : Int) := by omega
    have h3 : (3000 : Int) < (c.size : Int) := by omega
    go_enter Try.func6, Try.ntmps6
    go_wp2_with (go_at_call 9; ((with_reducible refine (HH.out _).mono ?_); rintro e w1 ⟨rfl, b1⟩))
    go_ret
    exact ⟨rfl, b1⟩
set_option maxHeartbeats 4000000 in
set_option maxRecDepth 100000 in
theorem lspaces_bad (HT : Toks8) (HA : Alive8) (s c : ByteArray) (h : s.size ≤ 3000) (hc : c.size ≤ 3000) (hb : 0 ≤ bad s) (w : World) : Calls Try.prog 6 #[.string s, .string c] w fun e w' => e = .returned (.bool true) ∧ Below w.heap.size w w' := by
  have HH := Lib.hid HA
  have H1 := Lib.hid (fun w => (HT s w (by omega)).mono fun e w' h => PT_bad hb h)
  clear HA HT
  generalize bad s = q at hb H1
  have h' : ¬ (3000 : Int) < (s.size : Int) := by omega
  have h2 : ¬ (3000 : Int) < (c.size : Int) := by omega
  go_enter Try.func6, Try.ntmps6
  go_wp2_with (first
    | (go_at_call 10; ((with_reducible refine (H1.out _).mono ?_); rintro e w1 ⟨a, cap, rfl, b1⟩))
    | (go_at_call 9; ((with_reducible refine (HH.out _).mono ?_); rintro e w3 ⟨rfl, b3⟩)))
  go_ret
  exact ⟨rfl, bch b1 b3⟩
set_option maxHeartbeats 4000000 in
set_option maxRecDepth 100000 in
theorem lspaces_ok (HT : Toks8) (HA : Alive8) (s c : ByteArray) (h : s.size ≤ 3000) (hc : c.size ≤ 3000) (hb : bad s = -1) (w : World) : Calls Try.prog 6 #[.string s, .string c] w fun e w' => e = .returned (.bool true) ∧ Below w.heap.size w w' := by
  obtain ⟨i0, hi, hz0, hz1, hz2⟩ := info_parts Try.info9
  have HH := Lib.hid HA
  have H1 := Lib.hid (fun w => (HT s w (by omega)).mono fun e w' h => PT_ok hb h)
  have hn : (tks s).length ≤ 3000 := Nat.le_trans (tks_len s) h
  have hl := tkX_len s (tks s)
  have hjl := jn_le s
  have htx := txt_tkX s
  obtain ⟨J, hJ⟩ : ∃ J : ByteArray, J = ⟨(jn (txts s)).toArray⟩ := ⟨_, rfl⟩
  have hJl : J.data.toList = jn (txts s) := by rw [hJ]
  have hs2 := join_line s c J hJl
  obtain ⟨ht2, hb2⟩ := txts_join s _ _ hs2
  have hz : (J ++ ⟨#[9, 35]⟩ ++ c).size ≤ 100000 := by
    rw [← size_list, hs2]
    simp only [List.length_append, List.length_cons]
    rw [size_list]; omega
  have hJz : J.size ≤ 6000 := by rw [← size_list, hJl]; omega
  have H2 := Lib.hid (fun w => (HT (J ++ ⟨#[9, 35]⟩ ++ c) w hz).mono fun e w' h => PT_ok hb2 h)
  have hl2 := tkX_len (J ++ ⟨#[9, 35]⟩ ++ c) (tks (J ++ ⟨#[9, 35]⟩ ++ c))
  have htx2 := txt_tkX (J ++ ⟨#[9, 35]⟩ ++ c)
  have hn2 : (tks (J ++ ⟨#[9, 35]⟩ ++ c)).length = (tks s).length := by
    have e1 : (txts (J ++ ⟨#[9, 35]⟩ ++ c)).length = (tks (J ++ ⟨#[9, 35]⟩ ++ c)).length := by simp [txts]
    have e2 : (txts s).length = (tks s).length := by simp [txts]
    rw [← e1, ht2, e2]
  rw [hn2] at H2 hl2
  have hxy : txt (tkX s (tks s)) = txt (tkX (J ++ ⟨#[9, 35]⟩ ++ c) (tks (J ++ ⟨#[9, 35]⟩ ++ c))) := by rw [htx, htx2, ht2]
  obtain ⟨ys, hys⟩ : ∃ ys, tkX (J ++ ⟨#[9, 35]⟩ ++ c) (tks (J ++ ⟨#[9, 35]⟩ ++ c)) = ys := ⟨_, rfl⟩
  obtain ⟨xs, hxs⟩ : ∃ xs, tkX s (tks s) = xs := ⟨_, rfl⟩
  rw [hys] at H2 hl2 hxy
  rw [hxs] at H1 hl hxy htx
  obtain ⟨n, hn3⟩ : ∃ n, (tks s).length = n := ⟨_, rfl⟩
  rw [hn3] at H1 H2 hl hl2 hn
  obtain ⟨l, hll⟩ : ∃ l : List ByteArray, xs.map (·.1) = l := ⟨_, rfl⟩
  have hln : l.length = n := by rw [← hll, List.length_map, hl]
  have hlt2 : l.map (·.data.toList) = txts s := by rw [← hll, ← htx]; simp [txt]
  have H3 := Lib.hid (fun (w : World) (base : Nat) (v : Value) (hv : w.ownsRow base 9 1 v l.length (stC l)) => st_own_join hv (by omega) (by rw [hlt2]; omega))
  rw [hlt2, ← hJ, hln] at H3
  have HL := Lib.hid hl
  have HL2 := Lib.hid hl2
  have HLN := Lib.hid hln
  have HLX := Lib.hid hll
  have HXY := Lib.hid hxy
  clear HA HT hb hb2 hxs hys hn2 hn3 hl hl2 hln hll hlt2 hxy htx htx2 ht2 hs2 hJl hJ hjl
  have h' : ¬ (3000 : Int) < (s.size : Int) := by omega
  have h2 : ¬ (3000 : Int) < (c.size : Int) := by omega
  go_enter Try.func6, Try.ntmps6
  go_wp2_with (go_at_call 10; ((with_reducible refine (H1.out _).mono ?_); rintro e w1 ⟨a1, cap1, rfl, hv1, b1⟩))
  have V1 := Lib.hid hv1
  clear hv1
  go_loopw [8, 36] (fun tv i wr => ∃ j : Nat, i = .int .i64 (j : Int) ∧ j ≤ n ∧ wr.ownsRow w1.heap.size 9 1 tv j (stC (l.take j)) ∧ Below w1.heap.size w1 wr) (fun _ i _ => n - (intOf i).toNat)
  case atStart => exact ⟨0, rfl, Nat.zero_le _, World.ownsRow_nil _ _ _ _, Below.refl _ _⟩
  case round =>
    obtain ⟨j, rfl, hj, hown, hB⟩ := hrel
    have hsz := hB.size
    by_cases hlt : j < n
    · have hjx : j < xs.length := by rw [HL.out]; exact hlt
      obtain ⟨c1, o1, rfl, _, l1, _, t1⟩ := (V1.out.below hB).get (by omega)
      obtain ⟨T, q, e1, p1, p2⟩ := TksAt.cells t1 j hjx
      have hst : stC (l.take (j + 1)) = stC (l.take j) ++ [.string T] := by
        have hjl : j < l.length := by rw [HLN.out]; exact hlt
        rw [take_snoc l j hjl, stC_snoc]
        congr 3
        have : l[j] = xs[j].1 := by simp [← HLX.out]
        rw [this, e1]
      have HST := Lib.hid hst
      clear e1 t1 hst
      go_upto_region 10 with (fail)
      have hx := heap_alloc_last wr (.cells #[.string T, .int .i64 q] 31)
      have b0 := bnew wr (.cells #[.string T, .int .i64 q] 31)
      obtain ⟨x0, x1⟩ := cells2 hx
      have B0 := bch hB b0
      have hown0 := own_below hown b0
      generalize wr.heap.size = g at x0 x1 ⊢
      generalize wr.alloc (.cells _ 31) = W1 at x0 x1 B0 hown0 ⊢
      clear p1 p2 hx b0 hown
      have hs0 := B0.size
      go_wp2_with (at_builtin; refine wpList_append_own _ rfl _ _ 37 rfl w1.heap.size 9 i0 (.string ⟨#[]⟩) 1 16 Try.underlying37 hi hz0 hz1 hz2 rfl (by decide) _ j _ rfl (hown0.alloc _) ⟨W1.heap.size, 0, none⟩ 1 1 [.string T] rfl rfl (World.news_of_block (cs := #[.string T]) (t := 9) (fr := (0, 0)) (heap_alloc_last W1 _)) (by simp [Value.oneCell']) (by unfold maxLen; omega) (by omega) (by simp; omega) ?_; intro v' w3 hown3 hgrow3 _)
      go_roundw
      case rel =>
        refine ⟨j + 1, by go_num, by omega, ?_, (B0.alloc hs0 _).grown hgrow3 (by simp; omega) (own_base hown0)⟩
        rw [HST.out]; exact hown3
      case measure => simp [intOf]; omega
    · obtain rfl : j = n := by omega
      rw [List.take_of_length_le (by rw [HLN.out]; exact Nat.le_refl _)] at hown
      have V2 := V1.out.below hB
      have hJ1 : (J ++ ⟨#[9, 35]⟩ : ByteArray).size ≤ 9223372036854775807 := by rw [ByteArray.size_append]; have : (⟨#[9, 35]⟩ : ByteArray).size = 2 := rfl; omega
      go_wp2_with (first
        | (go_at_call 19; ((with_reducible refine (H3.out _ _ _ hown).mono ?_); rintro e w2 ⟨rfl, b2⟩))
        | (go_at_call 10; ((with_reducible refine (H2.out _).mono ?_); rintro e w3 ⟨a3, cap3, rfl, hv3, b3⟩)))
      have V3 := Lib.hid hv3
      have V4 := Lib.hid ((V2.below b2).below b3)
      have B3 := bch (bch (bch b1 hB) b2) b3
      clear hv3 V2 hown hB b2 b3
      go_loopw [67] (fun i wr => ∃ j' : Nat, i = .int .i64 (j' : Int) ∧ j' ≤ j ∧ Below w3.heap.size w3 wr) (fun i _ => j - (intOf i).toNat)
      case atStart => exact ⟨0, rfl, Nat.zero_le _, Below.refl _ _⟩
      case round =>
        obtain ⟨k, rfl, hk, hB⟩ := hrel
        by_cases hlt2 : k < j
        · have hkx : k < xs.length := by rw [HL.out]; exact hlt2
          have hky : k < ys.length := by rw [HL2.out]; exact hlt2
          obtain ⟨c1, o1, rfl, _, l1, _, t1⟩ := (V3.out.below hB).get (by omega)
          obtain ⟨c2, o2, rfl, _, l2, _, t2⟩ := (V4.out.below hB).get (by omega)
          obtain ⟨T, q, e1, p1, p2⟩ := TksAt.cells t1 k hky
          obtain ⟨T', q', e2, p3, p4⟩ := TksAt.cells t2 k hkx
          have e3 := txt_get HXY.out k hkx hky
          rw [e1, e2] at e3
          simp only at e3
          subst e3
          clear e1 e2 t1 t2
          go_upto_region 18 with (fail)
          have hx := heap_alloc_last wr (.cells #[.string T', .int .i64 q] 31)
          have b0 := bnew wr (.cells #[.string T', .int .i64 q] 31)
          have p3' := (b0.cell (by exact l2)).trans p3
          obtain ⟨x0, x1⟩ := cells2 hx
          have B0 := bch hB b0
          generalize wr.heap.size = g at x0 x1 ⊢
          generalize wr.alloc (.cells _ 31) = W1 at x0 x1 p3' B0 ⊢
          clear p1 p2 p3 p4 hx b0
          go_quiet (fail)
          go_wp2
          go_roundw
          case rel => exact ⟨k + 1, by go_num, by omega, bdN B0 _⟩
          case measure => simp [intOf]; omega
        · obtain rfl : k = j := by omega
          go_wp2_with (go_at_call 9; ((with_reducible refine (HH.out _).mono ?_); rintro e w4 ⟨rfl, b4⟩))
          go_ret
          exact ⟨rfl, bch (bch B3 hB) b4⟩
theorem lspaces_walk (HT : Toks8) (HA : Alive8) (s : ByteArray) (_ : s.size ≤ maxLen) (c : ByteArray) (_ : c.size ≤ maxLen) (w : World) : Calls Try.prog 6 #[.string s, .string c] w fun e w' => e = .returned (.bool true) ∧ Below w.heap.size w w' := by
  by_cases h : 3000 < s.size ∨ 3000 < c.size
  · exact lspaces_long HA s c h w
  · rcases bad_cases s with hb | hb
    · exact lspaces_ok HT HA s c (by omega) (by omega) hb w
    · exact lspaces_bad HT HA s c (by omega) (by omega) hb w
end Go.Proofs.Ytdpdeelnabomlaa.L8
