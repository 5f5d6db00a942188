/- What the reference's Read returns, for every text: the sign, the number, whether it is too great, whether the text is a numeral; it leaves memory alone. -/
import Derived.Test.YthkkdkccadomkaaDoorParse
import Derived.Deep.DeepCutAuto
namespace Go.Proofs.YthkkdkccadomkaaDoor
open Go.RowKit

/-- What the reference's Read returns. -/
def rdV (neg : Bool) (r : Option (Nat × Bool)) : Value := match r with
  | some (v, o) => .tuple #[.bool neg, .int .u64 (v : Int), .bool o, .bool true]
  | none => .tuple #[.bool false, .int .u64 0, .bool false, .bool false]

theorem ba_ext {s t : ByteArray} (h : s.data.toList = t.data.toList) : s = t := by
  cases s; cases t; congr; exact Array.toList_inj.1 h

theorem cons_of (s : ByteArray) (h : 0 < s.size) : s.data.toList = s[0] :: s.data.toList.drop 1 := by
  have := drop_at s 0 h; simpa using this

theorem nil_of (s : ByteArray) (h : ¬ 0 < s.size) : s.data.toList = [] := by
  have h3 : s.data.size = 0 := by have : s.size = s.data.size := rfl; omega
  have : s.data.toList.length = 0 := by rw [Array.length_toList]; exact h3
  exact List.eq_nil_of_length_eq_zero this

theorem u8_beq (a b : UInt8) : ((a.toNat : Int) == (b.toNat : Int)) = (a == b) := by
  rw [Bool.eq_iff_iff, beq_iff_eq, beq_iff_eq]
  constructor
  · intro h; exact UInt8.toNat_inj.1 (by omega)
  · intro h; rw [h]

theorem at0 (s : ByteArray) (c : UInt8) (h : 0 < s.size) : ((s[0].toNat : Int) == (c.toNat : Int)) = Lib.hasPrefix s.data.toList [c] := by
  rw [u8_beq, cons_of s h, Lib.hasPrefix, BEq.comm]
  simp [List.isPrefixOf]

theorem at01 (s : ByteArray) (c d : UInt8) (h : 1 < s.size) : (((s[0].toNat : Int) == (c.toNat : Int)) && ((s[1].toNat : Int) == (d.toNat : Int))) = Lib.hasPrefix s.data.toList [c, d] := by
  rw [u8_beq, u8_beq, cons_of s (by omega), drop_at s 1 h, Lib.hasPrefix, BEq.comm, BEq.comm (a := s[1])]
  simp [List.isPrefixOf]

theorem not01 (s : ByteArray) (c d : UInt8) (h : ¬ 1 < s.size) : Lib.hasPrefix s.data.toList [c, d] = false := by
  by_cases h0 : 0 < s.size
  · have : s.data.toList.length = 1 := by rw [Array.length_toList]; show s.size = 1; omega
    match hl : s.data.toList, this with
    | [x], _ => simp [Lib.hasPrefix, List.isPrefixOf]
  · rw [nil_of s h0]; rfl

theorem slice_eq (s : ByteArray) (k : Nat) : s.extract k s.size = ⟨(s.data.toList.drop k).toArray⟩ := by
  rw [Lib.extract_eq, List.take_of_length_le (by rw [List.length_drop, Array.length_toList]; exact Nat.le_refl _)]

theorem us_eq (t u : ByteArray) (x : Bool) (hx : Lib.hasPrefix t.data.toList [48, 120] = x) (hu : u = ⟨(Lib.trimPrefix t.data.toList [48, 120]).toArray⟩) (base : Nat) (hb : base = if x then 16 else 10) (hne : 0 < u.size) :
    us t.data.toList = rd base u.data.toList 0 false := by
  have hn : u.data.toList ≠ [] := by rw [cons_of u hne]; simp
  subst hu hb
  cases x
  · simp only [Lib.trimPrefix, hx] at hn ⊢
    have h : t.data.toList.isEmpty = false := by cases h : t.data.toList with
      | nil => exact absurd h hn
      | cons a l => rfl
    simp [us, hx, h]
  · simp only [Lib.trimPrefix, hx] at hn ⊢
    have h : (t.data.toList.drop 2).isEmpty = false := by cases h : t.data.toList.drop 2 with
      | nil => exact absurd h hn
      | cons a l => rfl
    simp only [us, hx, h]
    rfl

theorem us_nil (t u : ByteArray) (x : Bool) (hx : Lib.hasPrefix t.data.toList [48, 120] = x) (hu : u = ⟨(Lib.trimPrefix t.data.toList [48, 120]).toArray⟩) (hne : ¬ 0 < u.size) :
    us t.data.toList = none := by
  have hn := nil_of u hne
  subst hu
  cases x
  · simp only [Lib.trimPrefix, hx] at hn
    have h : t.data.toList.isEmpty = true := by rw [show t.data.toList = [] from hn]; rfl
    simp only [us, hx, h]
    rfl
  · simp only [Lib.trimPrefix, hx] at hn
    have h : (t.data.toList.drop 2).isEmpty = true := by rw [show t.data.toList.drop 2 = [] from hn]; rfl
    simp only [us, hx, h]
    rfl

theorem trim_le (l p : List UInt8) : (Lib.trimPrefix l p).length ≤ l.length := by
  unfold Lib.trimPrefix
  split
  · rw [List.length_drop]; omega
  · exact Nat.le_refl _

theorem trim_size (s t : ByteArray) (p : List UInt8) (h : t = ⟨(Lib.trimPrefix s.data.toList p).toArray⟩) : t.size ≤ s.size := by
  have h1 : t.size = (Lib.trimPrefix s.data.toList p).length := by rw [h]; show (List.toArray _).size = _; simp
  have h2 : s.size = s.data.toList.length := by rw [Array.length_toList]; rfl
  rw [h1, h2]; exact trim_le _ _

theorem rdg_of (c : UInt8) (base : Nat) : rdg c.toNat base = if dgn c < base then (dgn c : Int) else -1 := by
  unfold rdg
  rw [dgn_eq]
  by_cases h : dgn c < base
  · rw [if_pos h, if_pos (by omega)]
  · rw [if_neg h, if_neg (by omega)]

theorem rdigit_yes (c : UInt8) (base d : Nat) (w : World) (hb : base = 10 ∨ base = 16) (hd : d = dgn c) (h : d < base) :
    Calls Tryd.prog 31 #[.int .u8 (c.toNat : Int), .int .i64 (base : Int)] w fun e w' => e = .returned (.int .i64 (d : Int)) ∧ w = w' := by
  subst hd
  have := rdigit_any c.toNat base w (by omega) (by have := c.toNat_lt; omega) (by omega)
  rwa [rdg_of c base, if_pos h] at this
theorem rdigit_no (c : UInt8) (base : Nat) (w : World) (hb : base = 10 ∨ base = 16) (h : ¬ dgn c < base) :
    Calls Tryd.prog 31 #[.int .u8 (c.toNat : Int), .int .i64 (base : Int)] w fun e w' => e = .returned (.int .i64 (-1)) ∧ w = w' := by
  have := rdigit_any c.toNat base w (by omega) (by have := c.toNat_lt; omega) (by omega)
  rwa [rdg_of c base, if_neg h] at this

set_option maxHeartbeats 2000000 in
theorem read_any (s : ByteArray) (w : World) (hs : s.size ≤ maxLen) :
    Calls Tryd.prog 27 #[.string s] w fun e w' => e = .returned (rdV (Lib.hasPrefix s.data.toList [45]) (us (Lib.trimPrefix s.data.toList [45]))) ∧ w = w' := by
  unfold maxLen at hs
  obtain ⟨c, hc⟩ : ∃ c : Bool, Lib.hasPrefix s.data.toList [45] = c := ⟨_, rfl⟩
  obtain ⟨t, ht⟩ : ∃ t : ByteArray, t = ⟨(Lib.trimPrefix s.data.toList [45]).toArray⟩ := ⟨_, rfl⟩
  obtain ⟨x, hx⟩ : ∃ x : Bool, Lib.hasPrefix t.data.toList [48, 120] = x := ⟨_, rfl⟩
  obtain ⟨u, hu⟩ : ∃ u : ByteArray, u = ⟨(Lib.trimPrefix t.data.toList [48, 120]).toArray⟩ := ⟨_, rfl⟩
  rw [hc]
  have HC := Lib.hid hc
  have HT := Lib.hid ht
  have HX := Lib.hid hx
  have HU := Lib.hid hu
  clear hc ht hx hu
  go_enter Tryd.func27, Tryd.ntmps27
  go_upto_region 1 with (fail)
  go_cut [6] (fun m wx => m = .bool c ∧ wx = w)
  case first =>
    by_cases h0 : 0 < s.size
    · go_wp2
      go_meet
      exact ⟨by rw [← HC.out, ← at0 s 45 h0]; rfl, rfl⟩
    · have HN := Lib.hid (nil_of s h0)
      go_wp2
      go_meet
      exact ⟨by rw [← HC.out, HN.out]; rfl, rfl⟩
  case rest =>
    obtain ⟨rfl, rfl⟩ := hcut
    go_upto_if 20 with (fail)
    go_cut [0] (fun a wx => a = .string t ∧ wx = wc)
    case first =>
      cases c
      · go_wp2
        go_meet
        have h1 := HT.out
        simp only [Lib.trimPrefix, HC.out] at h1
        exact ⟨by rw [h1]; rfl, rfl⟩
      · have h0 : 0 < s.size := by
          by_cases h0 : 0 < s.size
          · exact h0
          · have h1 := HC.out
            rw [nil_of s h0] at h1
            cases h1
        go_wp2
        go_meet
        have h1 := HT.out
        simp only [Lib.trimPrefix, HC.out] at h1
        exact ⟨by rw [h1, slice_eq]; rfl, rfl⟩
    case rest =>
      obtain ⟨rfl, rfl⟩ := hcut
      go_upto_region 5 with (fail)
      go_cut [35] (fun m wx => m = .bool x ∧ wx = wc)
      case first =>
        by_cases h0 : 1 < t.size
        · have hat := at01 t 48 120 h0
          rw [HX.out] at hat
          have HA := Lib.hid hat
          clear hat
          cases h48 : ((t[0].toNat : Int) == 48)
          · have h48' : ((t[0].toNat : Int) == ((48 : UInt8).toNat : Int)) = false := h48
            have HA' := HA.out
            rw [h48', Bool.false_and] at HA'
            have HB := Lib.hid HA'
            clear HA HA' h48'
            go_wp2
            go_meet
            exact ⟨congrArg Value.bool HB.out, rfl⟩
          · have h48' : ((t[0].toNat : Int) == ((48 : UInt8).toNat : Int)) = true := h48
            have HA' := HA.out
            rw [h48', Bool.true_and] at HA'
            have HB := Lib.hid HA'
            clear HA HA' h48'
            go_wp2
            go_meet
            exact ⟨congrArg Value.bool HB.out, rfl⟩
        · have HN := Lib.hid (not01 t 48 120 h0)
          go_wp2
          go_meet
          exact ⟨by rw [← HX.out, HN.out], rfl⟩
      case rest =>
        obtain ⟨rfl, rfl⟩ := hcut
        go_upto_if 35 with (fail)
        go_cut [0, 7] (fun a b wx => a = .string u ∧ b = .int .i64 (if x then 16 else 10) ∧ wx = wc)
        case first =>
          cases x
          · go_wp2
            go_meet
            have h1 := HU.out
            simp only [Lib.trimPrefix, HX.out] at h1
            exact ⟨by rw [h1]; rfl, rfl, rfl⟩
          · have h0 : 1 < t.size := by
              by_cases h0 : 1 < t.size
              · exact h0
              · have h1 := HX.out
                rw [not01 t 48 120 h0] at h1
                cases h1
            go_wp2
            go_meet
            have h1 := HU.out
            simp only [Lib.trimPrefix, HX.out] at h1
            exact ⟨by rw [h1, slice_eq]; rfl, rfl, rfl⟩
        case rest =>
          obtain ⟨rfl, hb, rfl⟩ := hcut
          by_cases hu0 : 0 < u.size
          · have hsz : u.size ≤ s.size := Nat.le_trans (trim_size t u _ HU.out) (trim_size s t _ HT.out)
            have HE : Hid (us (Lib.trimPrefix s.data.toList [45]) = rd (if x then 16 else 10) u.data.toList 0 false) := by
              have h1 : t.data.toList = Lib.trimPrefix s.data.toList [45] := by rw [HT.out]
              rw [← h1]
              exact us_eq t u x HX.out HU.out _ rfl hu0
            clear HC HT HX HU
            cases x
            · subst hb
              go_wp2
              go_loop [8, 9, 10] (fun a b i => ∃ (k v : Nat) (o : Bool), k ≤ u.size ∧ v < 18446744073709551616 ∧ i = .int .i64 k ∧ a = .int .u64 v ∧ b = .bool o ∧ Hid (rd 10 (u.data.toList.drop k) v o = rd 10 u.data.toList 0 false)) (fun _ _ i => u.size - (intOf i).toNat)
              case atStart => exact ⟨0, 0, false, Nat.zero_le _, by decide, rfl, rfl, rfl, rfl⟩
              case round =>
                obtain ⟨k, v, o, hk, hv, rfl, rfl, rfl, hR⟩ := hrel
                by_cases hlt : k < u.size
                · have HD := Lib.hid (drop_at u k hlt)
                  by_cases hd : dgn u[k] < 10
                  · obtain ⟨d, hdd⟩ : ∃ d, d = dgn u[k] := ⟨_, rfl⟩
                    rw [← hdd] at hd
                    have HDD := Lib.hid hdd
                    clear hdd
                    go_wp2_with (go_at_call 31; refine (rdigit_yes _ 10 d _ (by decide) HDD.out hd).mono ?_; rintro e w' ⟨rfl, rfl⟩)
                    · go_round
                      case rel =>
                        have hov : (18446744073709551615 - (d : Int)) / 10 < (v : Int) := by assumption
                        have ho : (o || decide (18446744073709551616 ≤ v * 10 + d)) = true := by rw [decide_eq_true (by omega)]; simp
                        have h1 := hR.out
                        rw [HD.out] at h1
                        simp only [rd, ← HDD.out, if_pos hd, ho] at h1
                        refine ⟨k + 1, (v * 10 + d) % 18446744073709551616, true, by omega, Nat.mod_lt _ (by decide), by go_num, ?_, rfl, Lib.hid h1⟩
                        rw [IntKind.wrap_u64, IntKind.wrap_u64]
                        congr 1
                        omega
                      case measure => simp [intOf]; omega
                    · go_round
                      case rel =>
                        have hov : (v : Int) ≤ (18446744073709551615 - (d : Int)) / 10 := by assumption
                        have ho : (o || decide (18446744073709551616 ≤ v * 10 + d)) = o := by rw [decide_eq_false (by omega)]; simp
                        have h1 := hR.out
                        rw [HD.out] at h1
                        simp only [rd, ← HDD.out, if_pos hd, ho] at h1
                        refine ⟨k + 1, (v * 10 + d) % 18446744073709551616, o, by omega, Nat.mod_lt _ (by decide), by go_num, ?_, rfl, Lib.hid h1⟩
                        congr 1
                        omega
                      case measure => simp [intOf]; omega
                  · have h1 := hR.out
                    rw [HD.out] at h1
                    simp only [rd, if_neg hd] at h1
                    have HN := Lib.hid h1
                    clear h1
                    go_wp2_with (go_at_call 31; refine (rdigit_no _ 10 _ (by decide) hd).mono ?_; rintro e w' ⟨rfl, rfl⟩)
                    refine bodyPost_ret (v := .tuple #[.bool false, .int .u64 0, .bool false, .bool false]) ?_ rfl ⟨?_, rfl⟩
                    · simp [results, Tryd.results27, go_sem]
                    · rw [HE.out]; show _ = Ending.returned (rdV c (rd 10 u.data.toList 0 false)); rw [← HN.out]; rfl
                · have h1 := hR.out
                  rw [List.drop_eq_nil_of_le (by rw [Array.length_toList]; show u.size ≤ k; omega)] at h1
                  simp only [rd] at h1
                  have HN := Lib.hid h1
                  clear h1
                  go_wp2
                  refine bodyPost_ret (v := .tuple #[.bool c, .int .u64 v, .bool o, .bool true]) ?_ rfl ⟨?_, rfl⟩
                  · simp [results, Tryd.results27, go_sem]
                  · rw [HE.out]; show _ = Ending.returned (rdV c (rd 10 u.data.toList 0 false)); rw [← HN.out]; rfl
            · subst hb
              go_wp2
              go_loop [8, 9, 10] (fun a b i => ∃ (k v : Nat) (o : Bool), k ≤ u.size ∧ v < 18446744073709551616 ∧ i = .int .i64 k ∧ a = .int .u64 v ∧ b = .bool o ∧ Hid (rd 16 (u.data.toList.drop k) v o = rd 16 u.data.toList 0 false)) (fun _ _ i => u.size - (intOf i).toNat)
              case atStart => exact ⟨0, 0, false, Nat.zero_le _, by decide, rfl, rfl, rfl, rfl⟩
              case round =>
                obtain ⟨k, v, o, hk, hv, rfl, rfl, rfl, hR⟩ := hrel
                by_cases hlt : k < u.size
                · have HD := Lib.hid (drop_at u k hlt)
                  by_cases hd : dgn u[k] < 16
                  · obtain ⟨d, hdd⟩ : ∃ d, d = dgn u[k] := ⟨_, rfl⟩
                    rw [← hdd] at hd
                    have HDD := Lib.hid hdd
                    clear hdd
                    go_wp2_with (go_at_call 31; refine (rdigit_yes _ 16 d _ (by decide) HDD.out hd).mono ?_; rintro e w' ⟨rfl, rfl⟩)
                    · go_round
                      case rel =>
                        have hov : (18446744073709551615 - (d : Int)) / 16 < (v : Int) := by assumption
                        have ho : (o || decide (18446744073709551616 ≤ v * 16 + d)) = true := by rw [decide_eq_true (by omega)]; simp
                        have h1 := hR.out
                        rw [HD.out] at h1
                        simp only [rd, ← HDD.out, if_pos hd, ho] at h1
                        refine ⟨k + 1, (v * 16 + d) % 18446744073709551616, true, by omega, Nat.mod_lt _ (by decide), by go_num, ?_, rfl, Lib.hid h1⟩
                        rw [IntKind.wrap_u64, IntKind.wrap_u64]
                        congr 1
                        omega
                      case measure => simp [intOf]; omega
                    · go_round
                      case rel =>
                        have hov : (v : Int) ≤ (18446744073709551615 - (d : Int)) / 16 := by assumption
                        have ho : (o || decide (18446744073709551616 ≤ v * 16 + d)) = o := by rw [decide_eq_false (by omega)]; simp
                        have h1 := hR.out
                        rw [HD.out] at h1
                        simp only [rd, ← HDD.out, if_pos hd, ho] at h1
                        refine ⟨k + 1, (v * 16 + d) % 18446744073709551616, o, by omega, Nat.mod_lt _ (by decide), by go_num, ?_, rfl, Lib.hid h1⟩
                        congr 1
                        omega
                      case measure => simp [intOf]; omega
                  · have h1 := hR.out
                    rw [HD.out] at h1
                    simp only [rd, if_neg hd] at h1
                    have HN := Lib.hid h1
                    clear h1
                    go_wp2_with (go_at_call 31; refine (rdigit_no _ 16 _ (by decide) hd).mono ?_; rintro e w' ⟨rfl, rfl⟩)
                    refine bodyPost_ret (v := .tuple #[.bool false, .int .u64 0, .bool false, .bool false]) ?_ rfl ⟨?_, rfl⟩
                    · simp [results, Tryd.results27, go_sem]
                    · rw [HE.out]; show _ = Ending.returned (rdV c (rd 16 u.data.toList 0 false)); rw [← HN.out]; rfl
                · have h1 := hR.out
                  rw [List.drop_eq_nil_of_le (by rw [Array.length_toList]; show u.size ≤ k; omega)] at h1
                  simp only [rd] at h1
                  have HN := Lib.hid h1
                  clear h1
                  go_wp2
                  refine bodyPost_ret (v := .tuple #[.bool c, .int .u64 v, .bool o, .bool true]) ?_ rfl ⟨?_, rfl⟩
                  · simp [results, Tryd.results27, go_sem]
                  · rw [HE.out]; show _ = Ending.returned (rdV c (rd 16 u.data.toList 0 false)); rw [← HN.out]; rfl
          · have HE : Hid (us (Lib.trimPrefix s.data.toList [45]) = none) := by
              have h1 : t.data.toList = Lib.trimPrefix s.data.toList [45] := by rw [HT.out]
              rw [← h1]
              exact us_nil t u x HX.out HU.out hu0
            have hz : ((u.size : Int) == 0) = true := by rw [beq_iff_eq]; omega
            clear HC HT HX HU
            subst hb
            go_wp2
            all_goals
              refine bodyPost_ret (v := .tuple #[.bool false, .int .u64 0, .bool false, .bool false]) ?_ rfl ⟨?_, rfl⟩
              · simp [results, Tryd.results27, go_sem]
              · rw [HE.out]; rfl

end Go.Proofs.YthkkdkccadomkaaDoor
