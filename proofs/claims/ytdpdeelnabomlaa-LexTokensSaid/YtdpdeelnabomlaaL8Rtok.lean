/- What the reference's punct and Tokens return: the tokens of a line, at their places, or the place of the first wrong byte. No condition but that the line has at most 100000 bytes. -/
import Derived.Test.YtdpdeelnabomlaaL8Tk
import Derived.Maps.AppendAt
import Derived.Deep.AppendLies
import Derived.Deep.WholeRow
import Derived.Deep.DeepCutAuto
namespace Go.Proofs.Ytdpdeelnabomlaa.L8
open Go.RowKit L2
attribute [local go_sem] Oper.semAt_some

theorem Try.info32 : (Try.prog.info? 32).map (fun i => (i.zero, i.size, i.bytes)) = some (some (.agg #[.string ⟨#[]⟩, .int .i64 0]), 2, 24) := by kernel_rfl
theorem bnew (w : World) (o : Obj) : Below w.heap.size w (w.alloc o) := (Below.refl _ _).alloc (Nat.le_refl _) _
theorem own_below {w w' : World} {base e : TypeId} {size : Nat} {v : Value} {n : Nat} {xs : List Value} (h : w.ownsRow base e size v n xs) (hb : Below w.heap.size w w') : w'.ownsRow base e size v n xs := by
  refine ⟨h.1, ?_⟩
  rcases h.2 with h | ⟨g, cap, cur, hv, hg, hh, r⟩
  · exact .inl h
  · exact .inr ⟨g, cap, cur, hv, hg, (hb.block _ (lt_of_block hh)).trans hh, r⟩
theorem own_base {w : World} {base : Nat} {e : TypeId} {size : Nat} {v : Value} {n : Nat} {xs : List Value} (h : w.ownsRow base e size v n xs) : ∀ k, v.ownBlock = some k → base ≤ k := by
  intro k hk
  rcases h.2 with ⟨rfl, _⟩ | ⟨g, cap, cur, rfl, hb, _⟩
  · cases hk
  · simp [Value.ownBlock] at hk
    omega
theorem owns_slice {w : World} {base e : TypeId} {size : Nat} {v : Value} {n : Nat} {xs : List Value} (h : w.ownsRow base e size v n xs) : ∃ a c, v = .slice a n c := by
  rcases h.2 with ⟨rfl, rfl⟩ | ⟨g, cap, cur, rfl, _⟩
  · exact ⟨_, _, rfl⟩
  · exact ⟨_, _, rfl⟩

/-- A byte's class, as the tests ask for it. -/
theorem cls (c : UInt8) : (cmt c = true ∧ (((c.toNat : Int) == 59) = true ∨ (((c.toNat : Int) == 59) = false ∧ ((c.toNat : Int) == 35) = true))) ∨
    (((c.toNat : Int) == 59) = false ∧ ((c.toNat : Int) == 35) = false ∧ cmt c = false ∧
      ((spc c = true ∧ (((c.toNat : Int) == 32) = true ∨ (((c.toNat : Int) == 32) = false ∧ ((c.toNat : Int) == 9) = true) ∨ (((c.toNat : Int) == 32) = false ∧ ((c.toNat : Int) == 9) = false ∧ ((c.toNat : Int) == 13) = true))) ∨
       (spc c = false ∧ ((c.toNat : Int) == 32) = false ∧ ((c.toNat : Int) == 9) = false ∧ ((c.toNat : Int) == 13) = false))) := by
  have h : ∀ n, n < 256 → (fun c : UInt8 => (cmt c = true ∧ (((c.toNat : Int) == 59) = true ∨ (((c.toNat : Int) == 59) = false ∧ ((c.toNat : Int) == 35) = true))) ∨
    (((c.toNat : Int) == 59) = false ∧ ((c.toNat : Int) == 35) = false ∧ cmt c = false ∧
      ((spc c = true ∧ (((c.toNat : Int) == 32) = true ∨ (((c.toNat : Int) == 32) = false ∧ ((c.toNat : Int) == 9) = true) ∨ (((c.toNat : Int) == 32) = false ∧ ((c.toNat : Int) == 9) = false ∧ ((c.toNat : Int) == 13) = true))) ∨
       (spc c = false ∧ ((c.toNat : Int) == 32) = false ∧ ((c.toNat : Int) == 9) = false ∧ ((c.toNat : Int) == 13) = false)))) (UInt8.ofNat n) := by decide +kernel
  have := h c.toNat c.toNat_lt
  simpa using this
def puI (r : Int) : Bool := r == 44 || r == 91 || r == 93 || r == 43 || r == 45 || r == 58
theorem puI_is (c : UInt8) : puI (c.toNat : Int) = pun c := by
  have h : ∀ n, n < 256 → (fun c : UInt8 => puI (c.toNat : Int) = pun c) (UInt8.ofNat n) := by decide +kernel
  have := h c.toNat c.toNat_lt
  simpa using this
set_option maxHeartbeats 1000000 in
set_option maxRecDepth 100000 in
theorem rpunct_any (c : Int) (w : World) : Calls Try.prog 27 #[.int .u8 c] w fun e w' => e = .returned (.bool (puI c)) ∧ w = w' := by
  go_enter Try.func27, Try.ntmps27
  go_wp2
  all_goals
    go_ret
    exact ⟨ret_bool (by rw [Bool.eq_iff_iff]; simp [puI]; try omega), rfl⟩
theorem rpunct_at (c : UInt8) (b : Bool) (w : World) (h : pun c = b) : Calls Try.prog 27 #[.int .u8 (c.toNat : Int)] w fun e w' => e = .returned (.bool b) ∧ w = w' := by
  have := rpunct_any (c.toNat : Int) w
  rw [puI_is, h] at this
  exact this

/-- Tokens' cells. -/
def tkC (s : ByteArray) (ts : List (Nat × Nat)) : List Value := ts.flatMap fun p => [.string (s.extract p.1 p.2), .int .i64 (p.1 : Int)]
theorem tkC_snoc (s : ByteArray) (ts : List (Nat × Nat)) (p : Nat × Nat) : tkC s (ts ++ [p]) = tkC s ts ++ [.string (s.extract p.1 p.2), .int .i64 (p.1 : Int)] := by simp [tkC]
theorem ext_list (s : ByteArray) (i j : Nat) : (s.extract i j).data.toList = (s.data.toList.drop i).take (j - i) := by
  rw [ByteArray.data_extract, Array.toList_extract, List.extract_eq_take_drop]
theorem ext_rest (s : ByteArray) (i : Nat) : (s.extract i s.size).data.toList = s.data.toList.drop i := by
  rw [ext_list]
  exact List.take_of_length_le (by rw [List.length_drop, Array.length_toList]; exact Nat.le_refl _)
/-- What Tokens returns. -/
def TokP (w : World) (s : ByteArray) (e : Ending) (w' : World) : Prop :=
  ((0 ≤ bad s ∧ e = .returned (.tuple #[.slice none 0 0, .int .i64 (bad s)])) ∨ (bad s = -1 ∧ ∃ v, e = .returned (.tuple #[v, .int .i64 (-1)]) ∧ w'.ownsRow w.heap.size 32 2 v (tks s).length (tkC s (tks s)))) ∧ Below w.heap.size w w'

set_option maxHeartbeats 4000000 in
set_option maxRecDepth 100000 in
theorem rtokens_any (s : ByteArray) (hs : s.size ≤ 100000) (w : World) : Calls Try.prog 11 #[.string s] w fun e w' => TokP w s e w' := by
  obtain ⟨i0, hi, hz0, hz1, hz2⟩ := info_parts Try.info32
  go_enter Try.func11, Try.ntmps11
  go_wp2
  go_loopw [4, 5] (fun b a wr => ∃ (pre : List (Nat × Nat)) (i m fu : Nat), a = .int .i64 (i : Int) ∧ i ≤ s.size ∧ m ≤ i ∧ wr.ownsRow w.heap.size 32 2 b m (tkC s pre) ∧ Hid (pre.length = m) ∧ Hid (tk s.size 0 s.data.toList = (pre ++ (tk fu i (s.data.toList.drop i)).1, (tk fu i (s.data.toList.drop i)).2)) ∧ s.size ≤ i + fu ∧ Below w.heap.size w wr) (fun _ a _ => s.size - (intOf a).toNat)
  case atStart => exact ⟨[], 0, 0, s.size, rfl, by omega, by omega, World.ownsRow_nil _ _ _ _, Lib.hid rfl, Lib.hid (by simp), by omega, Below.refl _ _⟩
  case round =>
    obtain ⟨pre, i, m, fu, rfl, hi1, hm, hown, hP, hR, hf, hBw⟩ := hrel
    have hsz := hBw.size
    by_cases hlt : i < s.size
    · obtain ⟨fu, rfl⟩ : ∃ q, fu = q + 1 := ⟨fu - 1, by omega⟩
      have hE := drop_at s i hlt
      have hR1 := hR.out
      rw [hE] at hR1
      obtain ⟨T, hT⟩ : ∃ T, s.extract i s.size = T := ⟨_, rfl⟩
      have hTl : T.data.toList = s[i] :: s.data.toList.drop (i + 1) := by rw [← hT, ext_rest, hE]
      have hsl : ∀ w, (Instr.slice 9 (.string s) (some (.int .i64 (i : Int))) none none).run Try.prog w = .ok (.string T) w := fun w => by
        rw [run_slice_string_from_if w 9 s .i64 i Try.underlying9, if_pos (by omega), ← hT]; rfl
      obtain ⟨n, hn⟩ : ∃ n, wn (s[i] :: s.data.toList.drop (i + 1)) = n := ⟨_, rfl⟩
      have hnl : i + n ≤ s.size := by
        have h1 := wn_le (s[i] :: s.data.toList.drop (i + 1))
        rw [hn, ← hE, List.length_drop, Array.length_toList] at h1
        have : s.data.size = s.size := rfl
        omega
      have hTs : T.size ≤ 9223372036854775807 := by
        have h1 : T.data.toList.length = s.size - i := by rw [hTl, ← hE, List.length_drop, Array.length_toList]; rfl
        have h2 : T.size = T.data.toList.length := by rw [Array.length_toList]; rfl
        omega
      have HW := Lib.hid (fun w => rword_at T (n : Int) w hTs (by rw [hTl, hn]))
      obtain ⟨c, hc⟩ : ∃ c, s[i]'hlt = c := ⟨_, rfl⟩
      rw [hc] at hR1 hn hE
      have hix : ∀ w, (Instr.index 9 (.string s) (.int .i64 (i : Int))).run Try.prog w = .ok (.int .u8 (c.toNat : Int)) w := fun w => by
        rw [run_index_string w 9 s .i64 i Try.underlying9, dif_pos (by omega), ← hc]; rfl
      have hdn : s.data.toList.drop (i + n) = (c :: s.data.toList.drop (i + 1)).drop n := by rw [← hE, List.drop_drop]
      clear hT hTl hTs hR hE hc
      rcases cls c with ⟨k1, k2⟩ | ⟨k1, k2, k3, ⟨k4, k5⟩ | ⟨k4, k5, k6, k7⟩⟩
      · rw [tk_cmt k1] at hR1
        have hb : bad s = -1 := by unfold bad; rw [hR1]
        have ht : tks s = pre := by unfold tks; rw [hR1]; simp
        have HB := Lib.hid hb
        have HT := Lib.hid ht
        clear hR1 hb ht k1
        obtain ⟨va, vc, rfl⟩ := owns_slice hown
        rcases k2 with k2 | ⟨k2, k3⟩
        all_goals
          go_wp2_with (go_at_call 21; ((with_reducible refine (HW.out _).mono ?_); rintro e w1 ⟨rfl, rfl⟩))
          refine bodyPost_ret (v := .tuple #[.slice va m vc, .int .i64 (-1)]) (by simp [results, Try.results11, go_sem]) rfl ⟨.inr ⟨HB.out, _, rfl, ?_⟩, hBw⟩
          rw [HT.out, hP.out]; exact hown
      · rw [tk_spc k4] at hR1
        have HR1 := Lib.hid hR1
        clear hR1 k3 k4
        rcases k5 with k5 | ⟨k5, k6⟩ | ⟨k5, k6, k7⟩
        all_goals
          go_wp2_with (go_at_call 21; ((with_reducible refine (HW.out _).mono ?_); rintro e w1 ⟨rfl, rfl⟩))
          go_roundw
          case rel => exact ⟨pre, i + 1, m, fu, by go_num, by omega, by omega, hown, hP, HR1, by omega, hBw⟩
          case measure => simp [intOf]; omega
      by_cases hw : wb c = true
      · rw [tk_word hw, hn] at hR1
        have hn1 : 1 ≤ n := by have := wn_pos (r := s.data.toList.drop (i + 1)) hw; omega
        have HD := Lib.hid hdn
        clear hn hdn k3 k4 hw
        obtain ⟨U, hU⟩ : ∃ U, s.extract i (i + n) = U := ⟨_, rfl⟩
        have hsu : ∀ w, (Instr.slice 9 (.string s) (some (.int .i64 (i : Int))) (some (.int .i64 ((i : Int) + n))) none).run Try.prog w = .ok (.string U) w := fun w => by
          rw [run_slice_string w 9 s .i64 .i64 i ((i : Int) + n) Try.underlying9 (by omega) (by omega) (by omega), ← hU]; rfl
        have HR1 := Lib.hid hR1
        have HU := Lib.hid hU
        clear hR1 hU
        go_wp2_with (first | (go_at_call 21; ((with_reducible refine (HW.out _).mono ?_); rintro e w1 ⟨rfl, rfl⟩)) | (at_builtin; refine wpList_append_own _ rfl _ _ 27 rfl w.heap.size 32 i0 (.agg #[.string ⟨#[]⟩, .int .i64 0]) 2 24 Try.underlying27 hi hz0 hz1 hz2 rfl (by decide) _ m _ rfl (hown.alloc _) ⟨wr.heap.size, 0, none⟩ 1 1 [.string U, .int .i64 (i : Int)] rfl rfl (World.news_of_block (cs := #[.string U, .int .i64 (i : Int)]) (t := 32) (fr := (0, 0)) (heap_alloc_last wr _)) (by simp [Value.oneCell']) (by unfold maxLen; omega) (by omega) (by simp; omega) ?_; intro v' w3 hown3 hgrow3 _))
        go_roundw
        case rel =>
          refine ⟨pre ++ [(i, i + n)], i + n, m + 1, fu, by go_num, by omega, by omega, ?_, Lib.hid ?_, Lib.hid ?_, by omega, ?_⟩
          · rw [tkC_snoc, HU.out]; exact hown3
          · rw [List.length_append, hP.out]; rfl
          · rw [HR1.out, HD.out]; simp
          · exact (hBw.alloc hsz _).grown hgrow3 (by simp; omega) (own_base hown)
        case measure => simp [intOf]; omega
      · have hn0 : n = 0 := by rw [← hn]; exact wn_neg hw
        subst hn0
        have hw' : wb c = false := by simpa using hw
        cases hp : pun c
        · rw [tk_bad k3 k4 hw' hp] at hR1
          have hb : bad s = (i : Int) := by unfold bad; rw [hR1]
          have HB := Lib.hid hb
          have HP := Lib.hid hp
          clear hR1 hb hp hn hdn k3 k4 hw hw'
          go_wp2_with (first | (go_at_call 21; ((with_reducible refine (HW.out _).mono ?_); rintro e w1 ⟨rfl, rfl⟩)) | (go_at_call 27; ((with_reducible refine (rpunct_at c false _ HP.out).mono ?_); rintro e w1 ⟨rfl, rfl⟩)))
          refine bodyPost_ret (v := .tuple #[.slice none 0 0, .int .i64 (i : Int)]) (by simp [results, Try.results11, go_sem]) rfl ⟨.inl ⟨by rw [HB.out]; omega, by rw [HB.out]⟩, hBw⟩
        rw [tk_pun hp] at hR1
        have HP := Lib.hid hp
        clear hn hdn k3 k4 hw hw' hp
        obtain ⟨U, hU⟩ : ∃ U, s.extract i (i + 1) = U := ⟨_, rfl⟩
        have hsu : ∀ w, (Instr.slice 9 (.string s) (some (.int .i64 (i : Int))) (some (.int .i64 ((i : Int) + 1))) none).run Try.prog w = .ok (.string U) w := fun w => by
          rw [run_slice_string w 9 s .i64 .i64 i ((i : Int) + 1) Try.underlying9 (by omega) (by omega) (by omega), ← hU]; rfl
        have HR1 := Lib.hid hR1
        have HU := Lib.hid hU
        clear hR1 hU
        go_wp2_with (first | (go_at_call 21; ((with_reducible refine (HW.out _).mono ?_); rintro e w1 ⟨rfl, rfl⟩)) | (go_at_call 27; ((with_reducible refine (rpunct_at c true _ HP.out).mono ?_); rintro e w1 ⟨rfl, rfl⟩)) | (at_builtin; refine wpList_append_own _ rfl _ _ 27 rfl w.heap.size 32 i0 (.agg #[.string ⟨#[]⟩, .int .i64 0]) 2 24 Try.underlying27 hi hz0 hz1 hz2 rfl (by decide) _ m _ rfl (hown.alloc _) ⟨wr.heap.size, 0, none⟩ 1 1 [.string U, .int .i64 (i : Int)] rfl rfl (World.news_of_block (cs := #[.string U, .int .i64 (i : Int)]) (t := 32) (fr := (0, 0)) (heap_alloc_last wr _)) (by simp [Value.oneCell']) (by unfold maxLen; omega) (by omega) (by simp; omega) ?_; intro v' w3 hown3 hgrow3 _))
        go_roundw
        case rel =>
          refine ⟨pre ++ [(i, i + 1)], i + 1, m + 1, fu, by go_num, by omega, by omega, ?_, Lib.hid ?_, Lib.hid ?_, by omega, ?_⟩
          · rw [tkC_snoc, HU.out]; exact hown3
          · rw [List.length_append, hP.out]; rfl
          · rw [HR1.out]; simp
          · exact (hBw.alloc hsz _).grown hgrow3 (by simp; omega) (own_base hown)
        case measure => simp [intOf]; omega
    · obtain rfl : i = s.size := by omega
      have hl : s.data.toList.drop s.size = [] := List.drop_eq_nil_of_le (by rw [Array.length_toList]; exact Nat.le_refl _)
      have hR1 := hR.out
      rw [hl, tk_nil] at hR1
      have hb : bad s = -1 := by unfold bad; rw [hR1]
      have ht : tks s = pre := by unfold tks; rw [hR1]; simp
      have HB := Lib.hid hb
      have HT := Lib.hid ht
      clear hR1 hb ht hl hR
      obtain ⟨va, vc, rfl⟩ := owns_slice hown
      go_wp2
      refine bodyPost_ret (v := .tuple #[.slice va m vc, .int .i64 (-1)]) (by simp [results, Try.results11, go_sem]) rfl ⟨.inr ⟨HB.out, _, rfl, ?_⟩, hBw⟩
      rw [HT.out, hP.out]; exact hown
end Go.Proofs.Ytdpdeelnabomlaa.L8
