/- What the reference's Unhex returns, for every text of up to 6000 bytes: the bytes that num.Unhex returns, or false; it turns nothing that was there. -/
import Derived.Test.YthkkdkccadomkaaDoorUnhex
import Derived.OwnWalk
import Derived.Deep.AppendLies
namespace Go.Proofs.YthkkdkccadomkaaDoor
open Go.RowKit

set_option maxRecDepth 100000 in
theorem ix_case (c : UInt8) : ix c = if 65 ≤ c.toNat ∧ c.toNat ≤ 70 then -1 else rdg c.toNat 16 := by
  have h : ∀ n : Fin 256, ix (UInt8.ofNat n.val) = if 65 ≤ n.val ∧ n.val ≤ 70 then -1 else rdg (n.val : Int) 16 := by decide
  have h1 := h ⟨c.toNat, c.toNat_lt⟩
  simpa using h1

theorem rdig_at (c : UInt8) (h : Int) (w : World) (hh : h = rdg c.toNat 16) :
    Calls Tryd.prog 31 #[.int .u8 (c.toNat : Int), .int .i64 16] w fun e w' => e = .returned (.int .i64 h) ∧ w = w' := by
  subst hh
  exact rdigit_any c.toNat 16 w (by omega) (by have := c.toNat_lt; omega) (Or.inr rfl)

/-- What the reference's Unhex leaves. -/
def RUnhP (r : Option (List UInt8)) (e : Ending) (w' : World) : Prop := match r with
  | none => e = .returned (.tuple #[.slice none 0 0, .bool false])
  | some xs => ∃ v, e = .returned (.tuple #[v, .bool true]) ∧ BytesAt w' v xs

theorem bytes_of_own {w : World} {base : Nat} {v : Value} {xs : List UInt8} (h : w.ownsRow base 5 1 v xs.length (xs.map fun c : UInt8 => Value.int .u8 (c.toNat : Int))) : BytesAt w v xs := by
  rcases h.2 with ⟨rfl, hn⟩ | ⟨g, cap, cur, rfl, hb, hg, hnc, hcm, hcs, htk⟩
  · exact Or.inr ⟨List.eq_nil_of_length_eq_zero hn, none, 0, rfl⟩
  · refine Or.inl ⟨g, 0, cap, rfl, fun j hj => ?_⟩
    have h1 : (cur.toList.take (xs.length * 1))[j]? = some (.int .u8 (xs[j].toNat : Int)) := by
      rw [htk]; simp [hj]
    rw [List.getElem?_take] at h1
    simp [hj] at h1
    rw [(cell_in hg).1, Nat.zero_add, h1]
    simp [List.getD, hj]

theorem rdg_range (c : UInt8) : -1 ≤ rdg c.toNat 16 ∧ rdg c.toNat 16 < 16 := by
  have := dg_nonneg c.toNat
  unfold rdg
  split <;> omega

set_option maxHeartbeats 4000000 in
set_option maxRecDepth 100000 in
theorem runhex_even (s : ByteArray) (w : World) (hs : s.size ≤ 6000) (he : s.size % 2 = 0) :
    Calls Tryd.prog 18 #[.string s] w fun e w' => RUnhP (unh s.data.toList) e w' ∧ Below w.heap.size w w' := by
  obtain ⟨i0, hi, hz0, hz1, hz2⟩ := info_parts Tryd.info5
  obtain ⟨N, hN⟩ : ∃ N, N = s.size / 2 := ⟨_, rfl⟩
  have hev : ((s.size : Int) % 2 == 1) = false := by rw [beq_eq_false_iff_ne]; omega
  have HN : Hid (s.size = 2 * N) := Lib.hid (by omega)
  have hNs : 2 * N ≤ s.size := by omega
  have hNs2 : s.size ≤ 2 * N := by omega
  clear hN he
  go_enter Tryd.func18, Tryd.ntmps18
  go_wp2
  go_loopw [4, 5] (fun v i wr => ∃ (k : Nat) (xs : List UInt8), k ≤ N ∧ Hid (xs.length = k) ∧ i = .int .i64 (2 * (k : Int)) ∧ wr.ownsRow w.heap.size 5 1 v k (xs.map fun c : UInt8 => Value.int .u8 (c.toNat : Int)) ∧ Below w.heap.size w wr ∧ Hid ((unh (s.data.toList.drop (2 * k))).map (xs ++ ·) = unh s.data.toList)) (fun _ i _ => 2 * N - (intOf i).toNat)
  case atStart => exact ⟨0, [], Nat.zero_le _, Lib.hid rfl, rfl, ⟨rfl, Or.inl ⟨rfl, rfl⟩⟩, Below.refl _ _, Lib.hid (by simp)⟩
  case round =>
    obtain ⟨k, xs, hk, HX, rfl, hown, hbel, hR⟩ := hrel
    by_cases hlt : k < N
    · have hl1 : 2 * k < s.size := by omega
      have hl2 : 2 * k + 1 < s.size := by omega
      have HD : Hid (s.data.toList.drop (2 * k) = s[2 * k] :: s[2 * k + 1] :: s.data.toList.drop (2 * (k + 1))) := Lib.hid (by
        rw [drop_at s (2 * k) hl1, drop_at s (2 * k + 1) hl2]
        rfl)
      obtain ⟨h1, hh1⟩ : ∃ h1, h1 = rdg s[2 * k].toNat 16 := ⟨_, rfl⟩
      obtain ⟨h2, hh2⟩ : ∃ h2, h2 = rdg s[2 * k + 1].toNat 16 := ⟨_, rfl⟩
      have r1 := rdg_range s[2 * k]
      have r2 := rdg_range s[2 * k + 1]
      have e1 := ix_case s[2 * k]
      have e2 := ix_case s[2 * k + 1]
      rw [← hh1] at r1 e1
      rw [← hh2] at r2 e2
      obtain ⟨r1, r1'⟩ := r1
      obtain ⟨r2, r2'⟩ := r2
      have H1 := Lib.hid hh1
      have H2 := Lib.hid hh2
      have E1 := Lib.hid e1
      have E2 := Lib.hid e2
      clear hh1 hh2 e1 e2
      by_cases hbad : (h1 < 0 ∨ h2 < 0) ∨ (65 ≤ s[2 * k].toNat ∧ s[2 * k].toNat ≤ 70) ∨ (65 ≤ s[2 * k + 1].toNat ∧ s[2 * k + 1].toNat ≤ 70)
      · have HN2 : Hid (unh s.data.toList = none) := Lib.hid (by
          rw [← hR.out, HD.out]
          simp only [unh]
          rw [if_pos]
          · rfl
          · rw [E1.out, E2.out]
            repeat' split
            all_goals omega)
        rcases (show h1 < 0 ∨ (0 ≤ h1 ∧ h2 < 0) ∨ (0 ≤ h1 ∧ 0 ≤ h2 ∧ 65 ≤ s[2 * k].toNat ∧ s[2 * k].toNat ≤ 70) ∨ (0 ≤ h1 ∧ 0 ≤ h2 ∧ s[2 * k].toNat < 65 ∧ 65 ≤ s[2 * k + 1].toNat ∧ s[2 * k + 1].toNat ≤ 70) ∨ (0 ≤ h1 ∧ 0 ≤ h2 ∧ 70 < s[2 * k].toNat ∧ 65 ≤ s[2 * k + 1].toNat ∧ s[2 * k + 1].toNat ≤ 70) by omega) with hb | ⟨hb, hb2⟩ | ⟨hb, hb2, hb3, hb4⟩ | ⟨hb, hb2, hb3, hb4, hb5⟩ | ⟨hb, hb2, hb3, hb4, hb5⟩
        all_goals
          clear hbad
          go_wp2_with (first | (go_at_call 31; ((with_reducible refine (rdig_at s[2 * k] h1 _ H1.out).mono ?_); rintro e w' ⟨rfl, rfl⟩)) | (go_at_call 31; ((with_reducible refine (rdig_at s[2 * k + 1] h2 _ H2.out).mono ?_); rintro e w' ⟨rfl, rfl⟩)))
          go_ret2
          exact ⟨by rw [HN2.out]; rfl, hbel⟩
      · obtain ⟨d1, rfl⟩ : ∃ d1 : Nat, h1 = d1 := ⟨h1.toNat, by omega⟩
        obtain ⟨d2, rfl⟩ : ∃ d2 : Nat, h2 = d2 := ⟨h2.toNat, by omega⟩
        have F1 : ix s[2 * k] = d1 := by rw [E1.out, if_neg (by omega)]
        have F2 : ix s[2 * k + 1] = d2 := by rw [E2.out, if_neg (by omega)]
        have hstep : Hid ((unh (s.data.toList.drop (2 * (k + 1)))).map ((xs ++ [UInt8.ofNat (16 * d1 + d2)]) ++ ·) = unh s.data.toList) := Lib.hid (by
          rw [← hR.out, HD.out]
          simp only [unh, F1, F2]
          rw [if_neg (by omega), Option.map_map]
          congr 1
          funext ys
          simp)
        have hval : ((UInt8.ofNat (16 * d1 + d2)).toNat : Int) = 16 * (d1 : Int) + d2 := by
          have : (UInt8.ofNat (16 * d1 + d2)).toNat = 16 * d1 + d2 := by
            rw [UInt8.toNat_ofNat']; exact Nat.mod_eq_of_lt (by omega)
          rw [this]; omega
        have HV := Lib.hid hval
        clear F1 F2 hval
        have hsz := hbel.size
        rcases (show (s[2 * k].toNat < 65 ∧ s[2 * k + 1].toNat < 65) ∨ (s[2 * k].toNat < 65 ∧ 70 < s[2 * k + 1].toNat) ∨ (70 < s[2 * k].toNat ∧ s[2 * k + 1].toNat < 65) ∨ (70 < s[2 * k].toNat ∧ 70 < s[2 * k + 1].toNat) by omega) with ⟨q1, q2⟩ | ⟨q1, q2⟩ | ⟨q1, q2⟩ | ⟨q1, q2⟩
        all_goals
          clear hbad
          go_wp2_with (first | (go_at_call 31; ((with_reducible refine (rdig_at s[2 * k] d1 _ H1.out).mono ?_); rintro e w' ⟨rfl, rfl⟩)) | (go_at_call 31; ((with_reducible refine (rdig_at s[2 * k + 1] d2 _ H2.out).mono ?_); rintro e w' ⟨rfl, rfl⟩)) | (at_builtin; refine wpList_append_lies _ rfl _ _ 31 rfl w.heap.size 5 i0 (.int .u8 0) 1 1 Tryd.underlying31 hi hz0 hz1 hz2 rfl (by decide) u4 k _ rfl (hown.alloc _) ⟨wr.heap.size, 0, none⟩ 1 1 [.int .u8 (16 * (d1 : Int) + d2)] rfl rfl (World.news_of_block (cs := #[.int .u8 (16 * (d1 : Int) + d2)]) (t := 5) (fr := (0, 0)) (heap_alloc_new wr _)) (by simp [Value.oneCell']) (by decide) (by unfold maxLen; omega) (by omega) (by simp; omega) (wr.heap.size + 1) (by simp) ?_; intro g cap2 w2 hown2 hgrow2 hat hlt2))
          go_roundw
          case rel =>
            refine ⟨k + 1, xs ++ [UInt8.ofNat (16 * d1 + d2)], by omega, Lib.hid (by rw [List.length_append, HX.out]; rfl), by rw [show (2 : Int) * ((k + 1 : Nat) : Int) = 2 * (k : Int) + 2 by omega], ?_, (hbel.alloc hbel.size _).grown hgrow2 (by simp; omega) (own_base hown), hstep⟩
            rw [List.map_append, List.map_cons, List.map_nil, HV.out]
            exact hown2
          case measure => simp [intOf]; omega
    · have hkN : k = N := by omega
      have HS : Hid (unh s.data.toList = some xs) := Lib.hid (by
        rw [← hR.out, List.drop_eq_nil_of_le (by rw [Array.length_toList]; show s.size ≤ 2 * k; omega)]
        simp [unh])
      have HB : Hid (BytesAt wr u4 xs) := Lib.hid (bytes_of_own (base := w.heap.size) (by rw [HX.out]; exact hown))
      clear hown hkN
      go_wp2
      go_ret2
      exact ⟨by rw [HS.out]; exact ⟨_, rfl, HB.out⟩, hbel⟩

set_option maxRecDepth 100000 in
theorem runhex_odd (s : ByteArray) (w : World) (hs : s.size ≤ 6000) (he : s.size % 2 = 1) :
    Calls Tryd.prog 18 #[.string s] w fun e w' => RUnhP (unh s.data.toList) e w' ∧ Below w.heap.size w w' := by
  have hev : ((s.size : Int) % 2 == 1) = true := by rw [beq_iff_eq]; omega
  have HU : Hid (unh s.data.toList = none) := Lib.hid (unh_odd (s.size / 2) _ (by rw [Array.length_toList]; show s.size = _; omega))
  clear he
  go_enter Tryd.func18, Tryd.ntmps18
  go_wp2
  go_ret2
  exact ⟨by rw [HU.out]; rfl, Below.refl _ _⟩

theorem runhex_any (s : ByteArray) (w : World) (hs : s.size ≤ 6000) :
    Calls Tryd.prog 18 #[.string s] w fun e w' => RUnhP (unh s.data.toList) e w' ∧ Below w.heap.size w w' := by
  rcases Nat.mod_two_eq_zero_or_one s.size with h | h
  · exact runhex_even s w hs h
  · exact runhex_odd s w hs h
end Go.Proofs.YthkkdkccadomkaaDoor
