/- The law 'Shape and Words return the results of the reference, for every part of the tokens' returns true, if the program's functions return what they are to and the examples hold. -/
import Derived.Test.YtdpdeelnabomlaaL8Lwd
import Derived.Test.YtdpdeelnabomlaaL8Rsub
import Derived.Deep.RegionHeld3
namespace Go.Proofs.Ytdpdeelnabomlaa.L8
open Go.RowKit L2
attribute [local go_sem] Oper.semAt_some

theorem sub23 {w : World} {a : Option Addr} {n cap : Nat} {xs : Tks} (h : TksAt w (.slice a n cap) xs) (hn : xs.length = n) (f t : Nat) (hf : f ≤ t) (ht : t ≤ n) : ∃ a' cap', (∀ W, (Instr.slice 23 (.slice a n cap) (some (.int .i64 (f : Int))) (some (.int .i64 (t : Int))) none).run Try.prog W = .ok (.slice a' (t - f) cap') W) ∧ TksAt w (.slice a' (t - f) cap') ((xs.drop f).take (t - f)) := by
  by_cases h0 : 0 < n
  · obtain ⟨b, o, rfl, hc, hb, _, hx⟩ := h.get h0
    exact ⟨_, _, fun W => sub_own b o n cap f t hf ht hc W, tks_sub hb hx hn f t hf ht hc⟩
  · obtain rfl : n = 0 := by omega
    obtain rfl : f = 0 := by omega
    obtain rfl : t = 0 := by omega
    refine ⟨a, cap, fun W => ?_, .inr ⟨by simp, _, _, rfl⟩⟩
    cases a <;> simp [go_sem, Try.underlying23]
theorem sub27 {w : World} {a : Option Addr} {n cap : Nat} {xs : Tks} (h : TksAt w (.slice a n cap) xs) (hn : xs.length = n) (f t : Nat) (hf : f ≤ t) (ht : t ≤ n) : ∃ a' cap', (∀ W, (Instr.slice 27 (.slice a n cap) (some (.int .i64 (f : Int))) (some (.int .i64 (t : Int))) none).run Try.prog W = .ok (.slice a' (t - f) cap') W) ∧ TksAt w (.slice a' (t - f) cap') ((xs.drop f).take (t - f)) := by
  by_cases h0 : 0 < n
  · obtain ⟨b, o, rfl, hc, hb, _, hx⟩ := h.get h0
    exact ⟨_, _, fun W => sub_ref b o n cap f t hf ht hc W, tks_sub hb hx hn f t hf ht hc⟩
  · obtain rfl : n = 0 := by omega
    obtain rfl : f = 0 := by omega
    obtain rfl : t = 0 := by omega
    refine ⟨a, cap, fun W => ?_, .inr ⟨by simp, _, _, rfl⟩⟩
    cases a <;> simp [go_sem, Try.underlying27]

set_option maxHeartbeats 4000000 in
set_option maxRecDepth 100000 in
theorem lshapes_long (HA : Alive8) (s : ByteArray) (i j : Int) (h : 3000 < s.size) (w : World) : Calls Try.prog 4 #[.string s, .int .u8 i, .int .u8 j] w fun e w' => e = .returned (.bool true) ∧ Below w.heap.size w w' := by
  have HH := Lib.hid HA
  clear HA
  have h' : (3000 : Int) < (s.size : Int) := by omega
  go_enter Try.func4, Try.ntmps4
  go_wp2_with (go_at_call 9; ((with_reducible refine (HH.out _).mono ?_); rintro e w1 ⟨rfl, b1⟩))
  go_ret
  exact ⟨rfl, b1⟩
set_option maxHeartbeats 4000000 in
set_option maxRecDepth 100000 in
theorem lshapes_bad (HT : Toks8) (HA : Alive8) (s : ByteArray) (i j : Int) (h : s.size ≤ 3000) (hb : 0 ≤ bad s) (w : World) : Calls Try.prog 4 #[.string s, .int .u8 i, .int .u8 j] w fun e w' => e = .returned (.bool true) ∧ Below w.heap.size w w' := by
  have HH := Lib.hid HA
  have H1 := Lib.hid (fun w => (HT s w (by omega)).mono fun e w' h => PT_bad hb h)
  have H2 := Lib.hid (fun w => (rtokens_any s (by omega) w).mono fun e w' h => TokP_bad hb h)
  clear HA HT
  generalize bad s = q at hb H1 H2
  have h' : ¬ (3000 : Int) < (s.size : Int) := by omega
  go_enter Try.func4, Try.ntmps4
  go_wp2_with (first
    | (go_at_call 10; ((with_reducible refine (H1.out _).mono ?_); rintro e w1 ⟨a, cap, rfl, b1⟩))
    | (go_at_call 11; ((with_reducible refine (H2.out _).mono ?_); rintro e w2 ⟨rfl, b2⟩; have B2 := bch b1 b2))
    | (go_at_call 9; ((with_reducible refine (HH.out _).mono ?_); rintro e w3 ⟨rfl, b3⟩)))
  go_ret
  exact ⟨rfl, bch B2 b3⟩
theorem drop_take_mem {α : Type} {l : List α} {f k : Nat} {x : α} (h : x ∈ (l.drop f).take k) : x ∈ l := List.mem_of_mem_drop (List.mem_of_mem_take h)
theorem txt_sub {xs : Tks} (h : ∀ t ∈ txt xs, TokT t) (f k : Nat) : ∀ t ∈ txt ((xs.drop f).take k), TokT t := by
  intro t ht
  unfold txt at ht
  obtain ⟨x, hx, rfl⟩ := List.mem_map.1 ht
  exact h _ (List.mem_map.2 ⟨x, drop_take_mem hx, rfl⟩)
set_option maxHeartbeats 4000000 in
set_option maxRecDepth 100000 in
theorem lshapes_ok (HT : Toks8) (HW : Words8) (HS : Shape8) (HA : Alive8) (s : ByteArray) (i j : Int) (hi : 0 ≤ i ∧ i ≤ 255) (hj : 0 ≤ j ∧ j ≤ 255) (h : s.size ≤ 3000) (hb : bad s = -1) (w : World) : Calls Try.prog 4 #[.string s, .int .u8 i, .int .u8 j] w fun e w' => e = .returned (.bool true) ∧ Below w.heap.size w w' := by
  have HH := Lib.hid HA
  have H1 := Lib.hid (fun w => (HT s w (by omega)).mono fun e w' h => PT_ok hb h)
  have H2 := Lib.hid (fun w => (rtokens_any s (by omega) w).mono fun e w' h => TokP_ok hb h)
  have hn : (tks s).length ≤ 3000 := Nat.le_trans (tks_len s) h
  have hl := tkX_len s (tks s)
  have hxt : ∀ t ∈ txt (tkX s (tks s)), TokT t := by rw [txt_tkX]; exact txts_tok s
  obtain ⟨xs, hxs⟩ : ∃ xs, tkX s (tks s) = xs := ⟨_, rfl⟩
  rw [hxs] at H1 H2 hl hxt
  obtain ⟨n, hn2⟩ : ∃ n, (tks s).length = n := ⟨_, rfl⟩
  rw [hn2] at H1 H2 hl hn
  obtain ⟨F, hF⟩ : ∃ F : Nat, i % ((n : Int) + 1) = (F : Int) := ⟨(i % ((n : Int) + 1)).toNat, by have := Int.emod_nonneg i (show ((n : Int) + 1) ≠ 0 by omega); omega⟩
  have hF1 : F ≤ n := by have := Int.emod_lt_of_pos i (show 0 < ((n : Int) + 1) by omega); omega
  have hF2 : i.tmod ((n : Int) + 1) = (F : Int) := by rw [Int.tmod_eq_emod_of_nonneg hi.1]; exact hF
  obtain ⟨G, hG⟩ : ∃ G : Nat, j % ((n : Int) - (F : Int) + 1) = (G : Int) := ⟨(j % ((n : Int) - (F : Int) + 1)).toNat, by have := Int.emod_nonneg j (show ((n : Int) - (F : Int) + 1) ≠ 0 by omega); omega⟩
  have hG1 : F + G ≤ n := by have := Int.emod_lt_of_pos j (show 0 < ((n : Int) - (F : Int) + 1) by omega); omega
  have hG2 : j.tmod ((n : Int) - (F : Int) + 1) = (G : Int) := by rw [Int.tmod_eq_emod_of_nonneg hj.1]; exact hG
  obtain ⟨te, hto⟩ : ∃ te : Nat, F + G = te := ⟨_, rfl⟩
  have hto2 : (F : Int) + (G : Int) = (te : Int) := by omega
  obtain ⟨ys, hys⟩ : ∃ ys, (xs.drop F).take (te - F) = ys := ⟨_, rfl⟩
  have hyt := txt_sub hxt F (te - F)
  rw [hys] at hyt
  have hyl : ys.length ≤ 100000 := by rw [← hys, List.length_take, List.length_drop]; omega
  have hwl : (wdX ys).length ≤ 100000 := by
    refine Nat.le_trans ?_ hyl
    unfold wdX; rw [List.length_map]; exact List.length_filter_le _ _
  have H3 := Lib.hid (fun v w hv => HS ys v w hyl hyt hv)
  have H4 := Lib.hid (fun v w hv => rshape_at v ys hyl w hv)
  have H5 := Lib.hid (fun v w hv => (HW ys v w hyl hyt hv).mono fun e w' h => PS_form h)
  have H6 := Lib.hid (fun v w hv => (rwords_at v ys hyl w hv).mono fun e w' h => PS_form (PS_of h))
  obtain ⟨l, hl2⟩ : ∃ l, wdX ys = l := ⟨_, rfl⟩
  rw [hl2] at H5 H6 hwl
  have HE := Lib.hid (fun (v1 v2 : Value) (w : World) (h1 : StAt w v1 l) (h2 : StAt w v2 l) => eqs_at v1 v2 l l hwl hwl true (by simp) w h1 h2)
  obtain ⟨S, hS⟩ : ∃ S, shB ys = S := ⟨_, rfl⟩
  rw [hS] at H3 H4
  have HL := Lib.hid hl
  have HY := Lib.hid hys
  clear HA HT HW HS hb hxs hn2 hl hxt hys hyt hl2 hS hwl hyl
  have h' : ¬ (3000 : Int) < (s.size : Int) := by omega
  have z1 : ¬ (n : Int) + 1 = 0 := by omega
  have z2 : ¬ (n : Int) - (F : Int) + 1 = 0 := by omega
  obtain ⟨i0, i1⟩ := hi
  obtain ⟨j0, j1⟩ := hj
  go_enter Try.func4, Try.ntmps4
  go_upto_region 5 with (first
    | (go_at_call 10; ((with_reducible refine (H1.out _).mono ?_); rintro e w1 ⟨a1, cap1, rfl, hv1, b1⟩))
    | (go_at_call 11; ((with_reducible refine (H2.out _).mono ?_); rintro e w2 ⟨a2, cap2, rfl, hv2, b2⟩)))
  have B2 := bch b1 b2
  obtain ⟨a3, cap3, s1, u1⟩ := sub23 (hv1.below b2) HL.out F te (by omega) (by omega)
  obtain ⟨a4, cap4, s2, u2⟩ := sub27 hv2 HL.out F te (by omega) (by omega)
  rw [HY.out] at u1 u2
  clear hv1 hv2
  have U1 := Lib.hid u1
  have U2 := Lib.hid u2
  clear u1 u2 b1 b2
  go_upto_region 11 with (fail)
  go_region_held3 (fun W => Below w2.heap.size w2 W)
    (first | exact (Below.refl _ _).drew | exact (by assumption : Below w2.heap.size w2 _).trans (hb9.mono (by assumption : Below w2.heap.size w2 _).size) | assumption)
    (first
      | (go_at_call 9; ((with_reducible refine (HH.out _).mono ?_); rintro e w9 ⟨rfl, hb9⟩))
      | (go_at_call 12; ((with_reducible refine (H3.out _ _ (U1.out.below (by assumption))).mono ?_); rintro e w9 ⟨rfl, hb9⟩))
      | (go_at_call 13; ((with_reducible refine (H4.out _ _ (U2.out.below (by assumption))).mono ?_); rintro e w9 ⟨rfl, hb9⟩))
      | (go_at_call 15; ((with_reducible refine (H5.out _ _ (U1.out.below (by assumption))).mono ?_); rintro e w9 ⟨a5, cap5, rfl, hs5, hb9⟩))
      | (go_at_call 16; ((with_reducible refine (H6.out _ _ (U2.out.below (by assumption))).mono ?_); rintro e w9 ⟨a6, cap6, rfl, hs6, hb9⟩; have hs7 := hs5.below hb9))
      | (go_at_call 14; ((with_reducible refine (HE.out _ _ _ hs7 hs6).mono ?_); rintro e w9 ⟨rfl, hb9⟩)))
  all_goals
    rename_i hh
    go_wp2
    go_ret
    exact ⟨rfl, bch B2 hh⟩
theorem lshapes_walk (HT : Toks8) (HW : Words8) (HS : Shape8) (HA : Alive8) (s : ByteArray) (_ : s.size ≤ maxLen) (i : Int) (hi : 0 ≤ i ∧ i ≤ 255) (j : Int) (hj : 0 ≤ j ∧ j ≤ 255) (w : World) : Calls Try.prog 4 #[.string s, .int .u8 i, .int .u8 j] w fun e w' => e = .returned (.bool true) ∧ Below w.heap.size w w' := by
  by_cases h : 3000 < s.size
  · exact lshapes_long HA s i j h w
  · rcases bad_cases s with hb | hb
    · exact lshapes_ok HT HW HS HA s i j hi hj (by omega) hb w
    · exact lshapes_bad HT HA s i j (by omega) hb w
end Go.Proofs.Ytdpdeelnabomlaa.L8
