/- What the program's isWord, Shape and Words return for tokens that lie in memory. Conditions: each text is a token's, and there are at most 100000 tokens. -/
import Derived.Test.YtdpdeelnabomlaaL8Tok
import Derived.OwnWalk
import Derived.WalkSpells
import Derived.Lib.AppendStr
import Derived.Laws.IdiomStrings
import Derived.Laws.BytesArg
namespace Go.Proofs.Ytdpdeelnabomlaa.L8
open Go.RowKit L2
attribute [local go_sem] Oper.semAt_some

theorem isW_pos {t : List UInt8} (h : TokT t) (v : Bool) (hv : isW t = v) : decide ((0 : Int) < (wn t : Int)) = v := by
  obtain ⟨h1, h2⟩ := isW_wn h
  have hne : 0 < t.length := by
    rcases h with ⟨hne, _⟩ | ⟨c, rfl, _⟩
    · exact List.length_pos_iff.2 hne
    · simp
  cases v
  · obtain ⟨g1, g2⟩ := h2 hv
    have := wn_le t
    exact decide_eq_false (by omega)
  · have g1 := h1 hv
    exact decide_eq_true (by omega)
set_option maxHeartbeats 1000000 in
theorem isWord8_at (T : ByteArray) (q : Int) (v : Bool) (ht : TokT T.data.toList) (hv : isW T.data.toList = v) (w : World) :
    Calls Try.prog 28 #[.agg #[.string T, .int .i64 q]] w fun e w' => e = .returned (.bool v) ∧ Below w.heap.size w w' := by
  have hp := isW_pos ht v hv
  obtain ⟨n, hn⟩ : ∃ n, wn T.data.toList = n := ⟨_, rfl⟩
  rw [hn] at hp
  have HW := Lib.hid (fun w => word_at T (n : Int) w (by rw [hn]))
  have b0 := bnew w (.cells #[.string T, .int .i64 q] 31)
  clear ht hv hn
  cases v
  · have t1 : ¬ (0 : Int) < (n : Int) := of_decide_eq_false hp
    clear hp
    go_enter Try.func28, Try.ntmps28
    go_wp2_with (go_at_call 25; ((with_reducible refine (HW.out _).mono ?_); rintro e w1 ⟨rfl, b1⟩))
    go_ret
    exact ⟨ret_bool (by simp; omega), bch b0 b1⟩
  · have t1 : (0 : Int) < (n : Int) := of_decide_eq_true hp
    clear hp
    go_enter Try.func28, Try.ntmps28
    go_wp2_with (go_at_call 25; ((with_reducible refine (HW.out _).mono ?_); rintro e w1 ⟨rfl, b1⟩))
    go_ret
    exact ⟨ret_bool (by simp; omega), bch b0 b1⟩

/-- A slice of bytes of the call's own as a text. -/
theorem own_string (P : Program) {w : World} {base src e : TypeId} {v : Value} {n : Nat} {l : List UInt8} (hs : P.underlying src = some (.slice e)) (he : P.underlying e = some (.int .u8))
    (h : w.ownsRow base e 1 v n (l.map fun c => Value.int .u8 (c.toNat : Int))) : ∀ dst, P.underlying dst = some .string → (convert src dst v).run P w = .ok (.string ⟨l.toArray⟩) w := by
  intro dst hd
  have hl : l.length = n := by have := h.1; simpa using this
  rcases h.2 with ⟨rfl, hn⟩ | ⟨g, cap, cur, rfl, hb, hg, hnc, hcm, hcs, htk⟩
  · have h0 : l = [] := List.eq_nil_of_length_eq_zero (by omega)
    subst h0
    exact run_convert_bytes_nil w src e hs he 0 0 dst hd
  · subst hl
    refine run_convert_bytes_back w src dst e ⟨g, 0, none⟩ cap l hs he hd fun j hj => ?_
    have h1 : (cur.toList.take (l.length * 1))[j]? = some (.int .u8 (l[j].toNat : Int)) := by
      rw [htk]; simp [hj]
    rw [List.getElem?_take] at h1
    simp [hj] at h1
    rw [add0]
    simp [World.cell?, hg, h1]
theorem Try.info5 : (Try.prog.info? 5).map (fun i => (i.zero, i.size, i.bytes)) = some (some (.int .u8 0), 1, 1) := by kernel_rfl
def byC (l : List UInt8) : List Value := l.map fun c => Value.int .u8 (c.toNat : Int)
theorem shp_snoc (xs : Tks) (j : Nat) (h : j < xs.length) : shp (txt (xs.take (j + 1))) = shp (txt (xs.take j)) ++ [shl1 xs[j].1.data.toList] := by
  rw [take_snoc xs j h]; unfold shp txt; rw [List.map_append, List.map_append]; rfl
set_option maxHeartbeats 4000000 in
set_option maxRecDepth 100000 in
theorem shape_some (b o n cap : Nat) (xs : Tks) (hn : xs.length = n) (hm : n ≤ 100000) (hxt : ∀ t ∈ txt xs, TokT t) (w : World) (hb : b < w.heap.size) (hc : Tksat w b o xs) :
    Calls Try.prog 12 #[.slice (some ⟨b, o, none⟩) n cap] w fun e w' => e = .returned (.string (shB xs)) ∧ Below w.heap.size w w' := by
  obtain ⟨i0, hi, hz0, hz1, hz2⟩ := info_parts Try.info5
  have HC := Lib.hid hc
  have HN := Lib.hid hn
  have HXT := Lib.hid hxt
  clear hc hn hxt
  go_enter Try.func12, Try.ntmps12
  go_wp2_with (at_make; refine wpList_make_own _ rfl _ _ 48 rfl w.heap.size 5 i0 (.int .u8 0) 1 Try.underlying48 hi hz0 hz1 .i64 .i64 (n : Int) n rfl rfl (by omega) (by rw [hz2]; omega) (by unfold maxLen; omega) (by simp) ?_; intro w1 hmade hgrow)
  go_loopw [3, 11] (fun sv a wr => ∃ (j : Nat) (l : List UInt8), a = .int .i64 (j : Int) ∧ j ≤ n ∧ wr.ownsRow w.heap.size 5 1 sv j (byC l) ∧ Hid (shp (txt (xs.take j)) = l) ∧ Below w.heap.size w wr) (fun _ a _ => n - (intOf a).toNat)
  case atStart => exact ⟨0, [], rfl, Nat.zero_le _, by simpa [byC] using hmade, Lib.hid rfl, (Below.refl _ _).grown hgrow (Nat.le_refl _) (fun j hj => by cases hj)⟩
  case round =>
    obtain ⟨j, l, rfl, hj, hown, hR, hB⟩ := hrel
    have hsz := hB.size
    by_cases hlt : j < n
    · have hjx : j < xs.length := by rw [HN.out]; exact hlt
      obtain ⟨T, q, e1, p1, p2⟩ := TksAt.cells (HC.out.below hb hB) j hjx
      have hTt : TokT T.data.toList := HXT.out _ (by
        unfold txt
        exact List.mem_map.2 ⟨xs[j], List.getElem_mem hjx, by rw [e1]⟩)
      have hst : shp (txt (xs.take (j + 1))) = l ++ [shl1 T.data.toList] := by rw [shp_snoc xs j hjx, hR.out, e1]
      obtain ⟨v, hv⟩ : ∃ v, isW T.data.toList = v := ⟨_, rfl⟩
      have HW := Lib.hid (fun w => isWord8_at T q v hTt hv w)
      cases v
      · have hTs : T.size = 1 ∧ byC (l ++ [shl1 T.data.toList]) = byC l ++ Lib.strCells T := by
          rcases isW_one T with ⟨h, c, hc⟩ | ⟨_, h⟩
          · refine ⟨h, ?_⟩
            have e : shl1 T.data.toList = c := by
              unfold shl1
              rw [if_neg (by rw [hv]; exact Bool.false_ne_true), hc]; rfl
            rw [e]
            simp [byC, Lib.strCells, hc]
          · rw [hv] at h; cases h
        obtain ⟨hTs, hbc⟩ := hTs
        have HS := Lib.hid hst
        have HBC := Lib.hid hbc
        clear hst hbc e1 hv hTt
        go_upto_region 5 with (fail)
        have hx := heap_alloc_last wr (.cells #[.string T, .int .i64 q] 31)
        have b0 := bnew wr (.cells #[.string T, .int .i64 q] 31)
        obtain ⟨x0, x1⟩ := cells2 hx
        have hgl := lt_of_block hx
        have B0 := bch hB b0
        have hown0 := own_below hown b0
        generalize wr.heap.size = g at x0 x1 hgl ⊢
        generalize wr.alloc (.cells _ 31) = W1 at x0 x1 B0 hown0 hgl ⊢
        clear p1 p2 hx b0 hown
        go_wp2_with (first
          | (go_at_call 28; ((with_reducible refine (HW.out _).mono ?_); rintro e w2 ⟨rfl, b2⟩; have y0 := (b2.cell (by exact hgl)).trans x0; have B2 := bch B0 b2; have hown2 := own_below hown0 b2; have hs2 := B2.size))
          | (at_builtin; refine Lib.wpList_append_own_string _ rfl _ _ 48 9 rfl w.heap.size 5 i0 Try.underlying48 Try.underlying9 hi hz0 hz1 hz2 _ j _ rfl hown2 T rfl (by unfold maxLen; omega) (by omega) (by omega) ?_; intro v' w3 hown3 hgrow3 _))
        go_roundw
        case rel =>
          refine ⟨j + 1, _, by go_num, by omega, ?_, HS, B2.grown hgrow3 hs2 (own_base hown2)⟩
          rw [HBC.out]; rw [hTs] at hown3; exact hown3
        case measure => simp [intOf]; omega
      · have hbc : byC (l ++ [shl1 T.data.toList]) = byC l ++ [.int .u8 119] := by
          unfold shl1; rw [if_pos hv]; simp [byC]
        have HS := Lib.hid hst
        have HBC := Lib.hid hbc
        clear hst hbc e1 hv hTt
        go_upto_region 5 with (fail)
        have hx := heap_alloc_last wr (.cells #[.string T, .int .i64 q] 31)
        have b0 := bnew wr (.cells #[.string T, .int .i64 q] 31)
        obtain ⟨x0, x1⟩ := cells2 hx
        have B0 := bch hB b0
        have hown0 := own_below hown b0
        generalize wr.heap.size = g at x0 x1 ⊢
        generalize wr.alloc (.cells _ 31) = W1 at x0 x1 B0 hown0 ⊢
        clear p1 p2 hx b0 hown
        go_wp2_with (first
          | (go_at_call 28; ((with_reducible refine (HW.out _).mono ?_); rintro e w2 ⟨rfl, b2⟩; have B2 := bch B0 b2; have hown2 := own_below hown0 b2; have hs2 := B2.size))
          | (at_builtin; refine wpList_append_own _ rfl _ _ 48 rfl w.heap.size 5 i0 (.int .u8 0) 1 1 Try.underlying48 hi hz0 hz1 hz2 rfl (by decide) _ j _ rfl (hown2.alloc _) ⟨w2.heap.size, 0, none⟩ 1 1 [.int .u8 119] rfl rfl (World.news_of_block (cs := #[.int .u8 119]) (t := 5) (fr := (0, 0)) (heap_alloc_last w2 _)) (by simp [Value.oneCell']) (by unfold maxLen; omega) (by omega) (by simp; omega) ?_; intro v' w3 hown3 hgrow3 _))
        go_roundw
        case rel =>
          refine ⟨j + 1, _, by go_num, by omega, ?_, HS, (bch B2 (bnew _ _)).grown hgrow3 (by simp; omega) (own_base hown2)⟩
          rw [HBC.out]; exact hown3
        case measure => simp [intOf]; omega
    · obtain rfl : j = n := by omega
      have hE : shp (txt xs) = l := by rw [← hR.out, List.take_of_length_le (by rw [HN.out]; exact Nat.le_refl _)]
      have hconv := own_string Try.prog Try.underlying48 Try.underlying5 (l := l) hown 9 Try.underlying9
      have HE := Lib.hid (show (⟨l.toArray⟩ : ByteArray) = shB xs by unfold shB; rw [hE])
      clear hR hE hown
      go_wp2
      go_ret
      exact ⟨by rw [HE.out] <;> rfl, hB⟩
set_option maxHeartbeats 1000000 in
set_option maxRecDepth 100000 in
theorem shape_none (a : Option Addr) (cap : Nat) (w : World) : Calls Try.prog 12 #[.slice a 0 cap] w fun e w' => e = .returned (.string (shB [])) ∧ Below w.heap.size w w' := by
  obtain ⟨i0, hi, hz0, hz1, hz2⟩ := info_parts Try.info5
  go_enter Try.func12, Try.ntmps12
  go_wp2_with (at_make; refine wpList_make_own _ rfl _ _ 48 rfl w.heap.size 5 i0 (.int .u8 0) 1 Try.underlying48 hi hz0 hz1 .i64 .i64 0 0 rfl rfl (by omega) (by rw [hz2]; omega) (by unfold maxLen; omega) (by simp) ?_; intro w1 hown hgrow)
  refine wp_loop_rounds 1 ?_
  rw [rounds_succ]
  have hbel : Below w.heap.size w w1 := (Below.refl _ _).grown hgrow (Nat.le_refl _) (fun j hj => by cases hj)
  have hconv := own_string (l := []) Try.prog Try.underlying48 Try.underlying5 (by simpa using hown) 9 Try.underlying9
  go_wp2
  go_ret
  exact ⟨rfl, hbel⟩
theorem shape8 (xs : Tks) (v : Value) (w : World) (hm : xs.length ≤ 100000) (hxt : ∀ t ∈ txt xs, TokT t) (hv : TksAt w v xs) : Calls Try.prog 12 #[v] w fun e w' => e = .returned (.string (shB xs)) ∧ Below w.heap.size w w' := by
  rcases hv with ⟨b, o, cap, rfl, _, hb, hc⟩ | ⟨rfl, a, cap, rfl⟩
  · exact shape_some b o _ cap xs rfl hm hxt w hb hc
  · exact shape_none a cap w
set_option maxHeartbeats 4000000 in
set_option maxRecDepth 100000 in
theorem words_some (b o n cap : Nat) (xs : Tks) (hn : xs.length = n) (hm : n ≤ 100000) (hxt : ∀ t ∈ txt xs, TokT t) (w : World) (hb : b < w.heap.size) (hc : Tksat w b o xs) :
    Calls Try.prog 15 #[.slice (some ⟨b, o, none⟩) n cap] w fun e w' => StP w (wdX xs) e w' := by
  obtain ⟨i0, hi, hz0, hz1, hz2⟩ := info_parts Try.info9
  have HC := Lib.hid hc
  have HN := Lib.hid hn
  have HXT := Lib.hid hxt
  clear hc hn hxt
  go_enter Try.func15, Try.ntmps15
  go_wp2
  go_loopw [3, 8] (fun sv a wr => ∃ (j m : Nat) (l : List ByteArray), a = .int .i64 (j : Int) ∧ j ≤ n ∧ m ≤ j ∧ wr.ownsRow w.heap.size 9 1 sv m (stC l) ∧ Hid (l.length = m) ∧ Hid (wdX (xs.take j) = l) ∧ Below w.heap.size w wr) (fun _ a _ => n - (intOf a).toNat)
  case atStart => exact ⟨0, 0, [], rfl, Nat.zero_le _, Nat.le_refl _, World.ownsRow_nil _ _ _ _, Lib.hid rfl, Lib.hid rfl, Below.refl _ _⟩
  case round =>
    obtain ⟨j, m, l, rfl, hj, hmj, hown, hL, hR, hB⟩ := hrel
    have hsz := hB.size
    by_cases hlt : j < n
    · have hjx : j < xs.length := by rw [HN.out]; exact hlt
      obtain ⟨T, q, e1, p1, p2⟩ := TksAt.cells (HC.out.below hb hB) j hjx
      have hTt : TokT T.data.toList := HXT.out _ (by
        unfold txt
        exact List.mem_map.2 ⟨xs[j], List.getElem_mem hjx, by rw [e1]⟩)
      obtain ⟨v, hv⟩ : ∃ v, isW T.data.toList = v := ⟨_, rfl⟩
      have HW := Lib.hid (fun w => isWord8_at T q v hTt hv w)
      have hst : wdX (xs.take (j + 1)) = l ++ (if v then [T] else []) := by rw [take_snoc xs j hjx, wdX_snoc, hR.out, e1, hv]
      clear hv e1 hTt
      cases v
      · have HS := Lib.hid (show wdX (xs.take (j + 1)) = l by rw [hst]; simp)
        clear hst
        go_upto_region 5 with (fail)
        have hx := heap_alloc_last wr (.cells #[.string T, .int .i64 q] 31)
        have b0 := bnew wr (.cells #[.string T, .int .i64 q] 31)
        obtain ⟨x0, x1⟩ := cells2 hx
        have B0 := bch hB b0
        have hown0 := own_below hown b0
        generalize wr.heap.size = g at x0 x1 ⊢
        generalize wr.alloc (.cells _ 31) = W1 at x0 x1 B0 hown0 ⊢
        clear p1 p2 hx b0 hown
        go_wp2_with (go_at_call 28; ((with_reducible refine (HW.out _).mono ?_); rintro e w2 ⟨rfl, b2⟩))
        go_roundw
        case rel => exact ⟨j + 1, m, l, by go_num, by omega, by omega, own_below hown0 b2, hL, HS, bch B0 b2⟩
        case measure => simp [intOf]; omega
      · have HS := Lib.hid (show wdX (xs.take (j + 1)) = l ++ [T] by rw [hst]; simp)
        clear hst
        go_upto_region 5 with (fail)
        have hx := heap_alloc_last wr (.cells #[.string T, .int .i64 q] 31)
        have b0 := bnew wr (.cells #[.string T, .int .i64 q] 31)
        obtain ⟨x0, x1⟩ := cells2 hx
        have hgl := lt_of_block hx
        have B0 := bch hB b0
        have hown0 := own_below hown b0
        generalize wr.heap.size = g at x0 x1 hgl ⊢
        generalize wr.alloc (.cells _ 31) = W1 at x0 x1 B0 hown0 hgl ⊢
        clear p1 p2 hx b0 hown
        go_wp2_with (first
          | (go_at_call 28; ((with_reducible refine (HW.out _).mono ?_); rintro e w2 ⟨rfl, b2⟩; have y0 := (b2.cell (by exact hgl)).trans x0; have B2 := bch B0 b2; have hown2 := own_below hown0 b2; have hs2 := B2.size))
          | (at_builtin; refine wpList_append_own _ rfl _ _ 37 rfl w.heap.size 9 i0 (.string ⟨#[]⟩) 1 16 Try.underlying37 hi hz0 hz1 hz2 rfl (by decide) _ m _ rfl (hown2.alloc _) ⟨w2.heap.size, 0, none⟩ 1 1 [.string T] rfl rfl (World.news_of_block (cs := #[.string T]) (t := 9) (fr := (0, 0)) (heap_alloc_last w2 _)) (by simp [Value.oneCell']) (by unfold maxLen; omega) (by omega) (by simp; omega) ?_; intro v' w3 hown3 hgrow3 _))
        go_roundw
        case rel =>
          refine ⟨j + 1, m + 1, l ++ [T], by go_num, by omega, by omega, ?_, Lib.hid ?_, HS, ?_⟩
          · rw [stC_snoc]; exact hown3
          · rw [List.length_append, hL.out]; rfl
          · exact (bch B2 (bnew _ _)).grown hgrow3 (by simp; omega) (own_base hown2)
        case measure => simp [intOf]; omega
    · obtain rfl : j = n := by omega
      have HS := Lib.hid (show wdX xs = l by rw [← hR.out, List.take_of_length_le (by rw [HN.out]; exact Nat.le_refl _)])
      clear hR
      obtain ⟨va, vc, rfl⟩ := owns_slice hown
      go_wp2
      go_ret
      refine ⟨⟨_, rfl, ?_⟩, hB⟩
      rw [HS.out, hL.out]; exact hown
theorem words_none (a : Option Addr) (cap : Nat) (w : World) : Calls Try.prog 15 #[.slice a 0 cap] w fun e w' => StP w (wdX []) e w' := by
  go_enter Try.func15, Try.ntmps15
  go_wp2
  refine wp_loop_rounds 1 ?_
  rw [rounds_succ]
  go_wp2
  go_ret
  exact ⟨⟨_, rfl, World.ownsRow_nil _ _ _ _⟩, Below.refl _ _⟩
theorem words8 (xs : Tks) (v : Value) (w : World) (hm : xs.length ≤ 100000) (hxt : ∀ t ∈ txt xs, TokT t) (hv : TksAt w v xs) : Calls Try.prog 15 #[v] w fun e w' => PS w (wdX xs) e w' := by
  rcases hv with ⟨b, o, cap, rfl, _, hb, hc⟩ | ⟨rfl, a, cap, rfl⟩
  · exact (words_some b o _ cap xs rfl hm hxt w hb hc).mono fun e w' h => PS_of h
  · exact (words_none a cap w).mono fun e w' h => PS_of h
end Go.Proofs.Ytdpdeelnabomlaa.L8
