/- What the reference's small functions of layer 9 return: numbers, registers, names, helpers, sizes, the number of an operation's name, the shapes of a form. No condition but that texts are no longer than memory allows. -/
import Derived.Test.YtjcaonbejhdhkaaDoorL9Ln
namespace Go.Proofs.YtjcaonbejhdhkaaDoor.L9
open Go.RowKit
attribute [local go_sem] Oper.semAt_some

theorem rnumber_at (s : ByteArray) (b v x : Int) (w : World) (hs : s.size ≤ maxLen) (h1 : (nuV s b).1 = v) (h2 : (nuV s b).2 = x) :
    Calls Tryd.prog 57 #[.string s, .int .i64 b] w fun e w' => e = .returned (.tuple #[.int .i64 v, .int .i64 x]) ∧ w = w' := by
  have HP := Lib.hid (fun w => (L1.rparse_any s b w hs))
  unfold nuV at h1 h2
  rw [h1, h2] at HP
  clear h1 h2
  go_enter Tryd.func57, Tryd.ntmps57
  go_wp2_with (go_at_call 92; ((with_reducible refine (HP.out _).mono ?_); rintro e w1 ⟨rfl, rfl⟩))
  exact bodyPost_ret (v := .tuple #[.int .i64 v, .int .i64 x]) (by simp [results, Tryd.results57, go_sem]) rfl ⟨rfl, rfl⟩
theorem rregister_at (s : ByteArray) (v x : Int) (w : World) (h1 : (reV s).1 = v) (h2 : (reV s).2 = x) :
    Calls Tryd.prog 63 #[.string s] w fun e w' => e = .returned (.tuple #[.int .i64 v, .int .i64 x]) ∧ w = w' := by
  subst h1 h2
  unfold reV
  obtain ⟨b, hb⟩ : ∃ b, (L2.rg s).2 = b := ⟨_, rfl⟩
  obtain ⟨n, hn⟩ : ∃ n : Int, ((L2.rg s).1 : Int) = n := ⟨_, rfl⟩
  have HP := Lib.hid (fun w => (L2.rregister_at s n b w hn hb))
  rw [hb, hn]
  clear hb hn
  cases b
  · go_enter Tryd.func63, Tryd.ntmps63
    go_wp2_with (go_at_call 46; ((with_reducible refine (HP.out _).mono ?_); rintro e w1 ⟨rfl, rfl⟩))
    exact bodyPost_ret (v := .tuple #[.int .i64 0, .int .i64 5]) (by simp [results, Tryd.results63, go_sem]) rfl ⟨rfl, rfl⟩
  · go_enter Tryd.func63, Tryd.ntmps63
    go_wp2_with (go_at_call 46; ((with_reducible refine (HP.out _).mono ?_); rintro e w1 ⟨rfl, rfl⟩))
    exact bodyPost_ret (v := .tuple #[.int .i64 n, .int .i64 0]) (by simp [results, Tryd.results63, go_sem]) rfl ⟨rfl, rfl⟩
theorem rnam_at (s : ByteArray) (x : Int) (w : World) (hs : s.size ≤ 9223372036854775807) (h : naV s = x) :
    Calls Tryd.prog 26 #[.string s] w fun e w' => e = .returned (.int .i64 x) ∧ w = w' := by
  subst h
  unfold naV
  obtain ⟨b, hb⟩ : ∃ b, L2.vd s = b := ⟨_, rfl⟩
  have HP := Lib.hid (fun w => (L2.rvalid_at s b w hs hb))
  rw [hb]
  clear hb
  cases b
  all_goals
    go_enter Tryd.func26, Tryd.ntmps26
    go_wp2_with (go_at_call 20; ((with_reducible refine (HP.out _).mono ?_); rintro e w1 ⟨rfl, rfl⟩))
    go_ret
    exact ⟨rfl, rfl⟩
theorem beqt_ne {s : ByteArray} {l : List UInt8} (h : ¬ s = ⟨l.toArray⟩) : (s.toList == l) = false := by
  have := L2.txt_ne h
  rwa [Lib.toList_data ⟨l.toArray⟩, List.toList_toArray] at this
theorem rhelper_at (s : ByteArray) (x : Int) (w : World) (h : heV s = x) :
    Calls Tryd.prog 61 #[.string s] w fun e w' => e = .returned (.int .i64 x) ∧ w = w' := by
  subst h
  unfold heV
  by_cases h1 : s = ⟨#[108, 111, 111, 107, 117, 112]⟩
  · rw [if_pos h1]; subst h1
    go_enter Tryd.func61, Tryd.ntmps61
    go_wp2
    go_ret
    exact ⟨rfl, rfl⟩
  rw [if_neg h1]
  by_cases h2 : s = ⟨#[117, 112, 100, 97, 116, 101]⟩
  · rw [if_pos h2]; subst h2
    go_enter Tryd.func61, Tryd.ntmps61
    go_wp2
    go_ret
    exact ⟨rfl, rfl⟩
  rw [if_neg h2]
  by_cases h3 : s = ⟨#[100, 101, 108, 101, 116, 101]⟩
  · rw [if_pos h3]; subst h3
    go_enter Tryd.func61, Tryd.ntmps61
    go_wp2
    go_ret
    exact ⟨rfl, rfl⟩
  rw [if_neg h3]
  have t1 := beqt_ne (l := [108, 111, 111, 107, 117, 112]) h1
  have t2 := beqt_ne (l := [117, 112, 100, 97, 116, 101]) h2
  have t3 := beqt_ne (l := [100, 101, 108, 101, 116, 101]) h3
  clear h1 h2 h3
  go_enter Tryd.func61, Tryd.ntmps61
  go_wp2
  go_ret
  exact ⟨rfl, rfl⟩

theorem rsizes_at (d : Df) (b : Bool) (w : World) (h : sizV d = b) :
    Calls Tryd.prog 58 #[.agg #[.string d.nm, .int .i64 d.key, .int .i64 d.val, .int .i64 d.ent]] w fun e w' => e = .returned (.bool b) ∧ Below w.heap.size w w' := by
  subst h
  obtain ⟨nm, k, v, n⟩ := d
  have b0 := L8.bnew w (.cells #[.string nm, .int .i64 k, .int .i64 v, .int .i64 n] 29)
  go_enter Tryd.func58, Tryd.ntmps58
  go_wp2
  all_goals
    go_ret
    exact ⟨L2.ret_bool (by rw [Bool.eq_iff_iff]; simp [sizV]; try omega), b0⟩
theorem fiV_from (s : ByteArray) : ∀ i, i ≤ 86 → (∀ k, k < i → L3.nm k ≠ s) → fiV s = (match ((List.range 86).drop i).find? (fun k => decide (L3.nm k = s)) with | some k => (k : Int) | none => -1) := by
  intro i hi h
  unfold fiV
  rw [← List.take_append_drop i (List.range 86), List.find?_append]
  have e : ((List.range 86).take i).find? (fun k => decide (L3.nm k = s)) = none := by
    rw [List.find?_eq_none]
    intro x hx
    rw [List.take_range, List.mem_range] at hx
    simpa using h x (by omega)
  rw [e, List.take_append_drop]
  simp
  rfl
theorem fiV_hit {s : ByteArray} {i : Nat} (hi : i < 86) (h : ∀ k, k < i → L3.nm k ≠ s) (he : L3.nm i = s) : fiV s = (i : Int) := by
  rw [fiV_from s i (by omega) h]
  have e : (List.range 86).drop i = i :: (List.range 86).drop (i + 1) := by
    rw [List.drop_eq_getElem_cons (by simpa using hi)]; simp
  rw [e, List.find?_cons_of_pos (by simpa using he)]
theorem fiV_none {s : ByteArray} (h : ∀ k, k < 86 → L3.nm k ≠ s) : fiV s = -1 := by
  rw [fiV_from s 86 (by omega) h]; rfl
set_option maxHeartbeats 1000000 in
set_option maxRecDepth 100000 in
theorem rfind_at (s : ByteArray) (n : Int) (w : World) (h : fiV s = n) :
    Calls Tryd.prog 28 #[.string s] w fun e w' => e = .returned (.int .i64 n) ∧ Below w.heap.size w w' := by
  subst h
  go_enter Tryd.func28, Tryd.ntmps28
  go_wp2
  go_loopw [3] (fun a wr => ∃ i : Nat, a = .int .i64 (i : Int) ∧ i ≤ 86 ∧ Hid (∀ k, k < i → L3.nm k ≠ s) ∧ Below w.heap.size w wr) (fun a _ => 86 - (intOf a).toNat)
  case atStart => exact ⟨0, rfl, by omega, Lib.hid (fun k hk => by omega), Below.refl _ _⟩
  case round =>
    obtain ⟨i, rfl, hi, hN, hB⟩ := hrel
    by_cases hlt : i < 86
    · have hix : L3.ix (i : Int) = i := by unfold L3.ix; rw [if_pos (by omega)]; simp
      have t0 : ((i : Int) ≤ 85) := by omega
      obtain ⟨t, ht⟩ : ∃ t, L3.nm i = t := ⟨_, rfl⟩
      have HM := Lib.hid (fun w => L3.rname_at (i : Int) t w (by rw [hix, ht]))
      clear hix
      by_cases he : t = s
      · have hf := fiV_hit hlt hN.out (ht.trans he)
        have HF := Lib.hid hf
        have t1 := L2.txt_eq he
        clear he hf ht
        go_wp2_with (go_at_call 59; ((with_reducible refine (HM.out _).mono ?_); rintro e w1 ⟨rfl, b1⟩))
        go_ret
        exact ⟨by rw [HF.out] <;> rfl, L2.bch hB b1⟩
      · have HN2 : Hid (∀ k, k < i + 1 → L3.nm k ≠ s) := Lib.hid (fun k hk => by
          by_cases hk2 : k = i
          · rw [hk2, ht]; exact he
          · exact hN.out k (by omega))
        have t1 := L2.txt_ne he
        clear he ht
        go_wp2_with (go_at_call 59; ((with_reducible refine (HM.out _).mono ?_); rintro e w1 ⟨rfl, b1⟩))
        go_roundw
        case rel => exact ⟨i + 1, by go_num, by omega, HN2, L2.bch hB b1⟩
        case measure => simp [intOf]; omega
    · obtain rfl : i = 86 := by omega
      have HF := Lib.hid (fiV_none hN.out)
      go_wp2
      go_ret
      exact ⟨by rw [HF.out] <;> rfl, hB⟩
/-- A slice of texts that was laid. -/
theorem st_cells {w : World} {k : Nat} {l : List ByteArray} {t : TypeId} (h : w.heap[k]? = some (.cells (L8.stC l).toArray t)) : L8.StAt w (.slice (some ⟨k, 0, none⟩) l.length l.length) l := by
  refine .inl ⟨k, 0, _, rfl, lt_of_block h, fun j hj => ?_⟩
  simp [World.cell?, h, L8.stC, List.getD, List.getElem?_eq_getElem hj]
theorem st_new (w : World) (l : List ByteArray) (t : TypeId) : L8.StAt (w.alloc (.cells (L8.stC l).toArray t)) (.slice (some ⟨w.heap.size, 0, none⟩) l.length l.length) l := st_cells (heap_alloc_last w _)
theorem st_lit {w W : World} {v : Value} {l : List ByteArray} {cs : Array Value} {n : Nat} (l' : List ByteArray) (hv : v = .slice (some ⟨w.heap.size, 0, none⟩) n n) (hW : W = w.alloc (.cells cs 9)) (hl : l = l') (hn : l'.length = n) (hc : (L8.stC l').toArray = cs) : L8.StAt W v l := by
  subst hl hn hc hv hW; exact st_new w l _
set_option maxHeartbeats 4000000 in
set_option maxRecDepth 100000 in
theorem rshapes_at (f : Int) (w : World) :
    Calls Tryd.prog 29 #[.int .i64 f] w fun e w' => (∃ v, e = .returned v ∧ L8.StAt w' v (shV f)) ∧ Below w.heap.size w w' := by
  by_cases h : f = 0 ∨ f = 10 ∨ f = 2 ∨ f = 11 ∨ f = 1 ∨ f = 3 ∨ f = 5 ∨ f = 4 ∨ f = 7 ∨ f = 8 ∨ f = 9
  · rcases h with rfl | rfl | rfl | rfl | rfl | rfl | rfl | rfl | rfl | rfl | rfl
    all_goals
      go_enter Tryd.func29, Tryd.ntmps29
      go_wp2
      go_ret
      refine ⟨⟨_, rfl, ?_⟩, L8.bnew _ _⟩
      first
        | exact st_lit [sww, swmw] rfl rfl rfl rfl rfl
        | exact st_lit [sww] rfl rfl rfl rfl rfl
        | exact st_lit [sw] rfl rfl rfl rfl rfl
        | exact st_lit [swww, swmww] rfl rfl rfl rfl rfl
        | exact st_lit [swM0, swMp, swMm] rfl rfl rfl rfl rfl
        | exact st_lit [sM0w, sMpw, sMmw, sM0mw, sMpmw, sMmmw] rfl rfl rfl rfl rfl
        | exact st_lit [sM0w, sMpw, sMmw] rfl rfl rfl rfl rfl
  · have h0 : ¬ f = 0 := fun e => h (by omega)
    have h1 : ¬ f = 1 := fun e => h (by omega)
    have h2 : ¬ f = 2 := fun e => h (by omega)
    have h3 : ¬ f = 3 := fun e => h (by omega)
    have h4 : ¬ f = 4 := fun e => h (by omega)
    have h5 : ¬ f = 5 := fun e => h (by omega)
    have h7 : ¬ f = 7 := fun e => h (by omega)
    have h8 : ¬ f = 8 := fun e => h (by omega)
    have h9 : ¬ f = 9 := fun e => h (by omega)
    have h10 : ¬ f = 10 := fun e => h (by omega)
    have h11 : ¬ f = 11 := fun e => h (by omega)
    have HS := Lib.hid (show shV f = [eB] by unfold shV; simp [h0, h1, h2, h3, h4, h5, h7, h8, h9, h10, h11])
    clear h
    go_enter Tryd.func29, Tryd.ntmps29
    go_wp2
    go_ret
    exact ⟨⟨_, rfl, st_lit [eB] rfl rfl HS.out rfl rfl⟩, L8.bnew _ _⟩
end Go.Proofs.YtjcaonbejhdhkaaDoor.L9
