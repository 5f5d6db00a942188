/- The walks of the laws Inverts and Finds. Condition: memory holds the texts and the bytes; no text has more than 2^47 - 4096 bytes, and there are no more than 2^43 texts (no reading weighs more). -/
import Derived.Test.YtegdffebdbkchaaL14Lx
namespace Go.Proofs.Ytegdffebdbkchaa.L14
open Go.RowKit
attribute [local go_sem] Oper.semAt_some

set_option maxHeartbeats 4000000 in
theorem inverts_no (v : Value) (l : List (List UInt8)) (w : World) (h : Rw eT w v l) (hr : TxR l) (hf : ¬ (tot l ≤ 3000 ∧ l.length ≤ 300)) :
    Calls Try.prog 7 #[v] w fun e w' => e = .returned (.bool true) ∧ Below w.heap.size w w' := by
  have HF := Lib.hid (few_at v l w h hr.1 hr.2 false (by simp only [Bool.false_eq_true, false_iff]; exact hf))
  obtain ⟨a, c, rfl, -⟩ := h
  generalize l.length = n at HF ⊢
  clear hf hr
  go_enter Try.func7, Try.ntmps7
  go_wp2_with (first
    | (go_at_call 9; ((with_reducible refine (HF.out).mono ?_); rintro e w1 ⟨rfl, rfl⟩))
    | (go_at_call 10; ((with_reducible refine (alive14 _).mono ?_); rintro e w1 ⟨rfl, b1⟩)))
  go_ret
  exact ⟨rfl, b1⟩
theorem get_ofs (l : List (List UInt8)) (k : Nat) (hk : k < l.length) (hr : ∀ t ∈ l, rt t = true) : ∃ o, (ofs 1 l)[k]? = some o ∧ gtE (tb l) (o : Int) = .returned (.tuple #[.string (mkB l[k]), .int .i64 0]) := by
  obtain ⟨o, h1, -, h3⟩ := gtx_ofs l [0] k hk hr
  have h3 : gtx (tb l) o = some l[k] := h3
  refine ⟨o, h1, ?_⟩
  unfold gtE gtI
  rw [if_pos (by omega), Int.toNat_natCast, h3]

set_option maxHeartbeats 4000000 in
set_option maxRecDepth 100000 in
theorem inverts_walk (v : Value) (l : List (List UInt8)) (w : World) (h : Rw eT w v l) (hr : TxR l) :
    Calls Try.prog 7 #[v] w fun e w' => e = .returned (.bool true) ∧ Below w.heap.size w w' := by
  by_cases hf : tot l ≤ 3000 ∧ l.length ≤ 300
  · have HF := Lib.hid (few_at v l w h hr.1 hr.2 true (by simp only [true_iff]; exact hf))
    obtain ⟨hf1, hf2⟩ := hf
    obtain ⟨n, hn⟩ : ∃ n, l.length = n := ⟨_, rfl⟩
    obtain ⟨N, hN⟩ : ∃ N, (tb l).length = N := ⟨_, rfl⟩
    have hNl : N ≤ 100000 := by rw [← hN, tb_len]; omega
    have hnl : n ≤ 300 := by omega
    have HN := Lib.hid hn
    have HV := Lib.hid h
    by_cases hall : ∀ t ∈ l, rt t = true
    · have HB := Lib.hid (build_yes v l n N w h (by omega) (by omega) hall hn hN)
      have HP := Lib.hid (fun (v : Value) (W : World) (hv : Rw eB W v (tb l)) => parse_some v (tb l) l n W hv (by omega) (prV_tb l hall) hn)
      have HE := Lib.hid (fun (v v' : Value) (W : World) (h1 : Rw eT W v l) (h2 : Rw eT W v' l) => eqT_at v v' l W (by omega) h1 h2)
      have HG := Lib.hid (fun (k : Nat) (hk : k < l.length) => get_ofs l k hk hall)
      have HL := Lib.hid (show (tb l).length ≤ 1000000000 by omega)
      obtain ⟨a, c, rfl, -, -, hc⟩ := h.form hn
      have HC := Lib.hid hc
      clear h hr hf1 hf2 hn hN hall hc
      go_enter Try.func7, Try.ntmps7
      go_wp2_with (first
        | (go_at_call 9; ((with_reducible refine (HF.out).mono ?_); rintro e w1 ⟨rfl, rfl⟩))
        | (go_at_call 11; ((with_reducible refine (HB.out).mono ?_); rintro e w1 ⟨⟨a1, c1, a2, c2, rfl, x1, y1⟩, b1⟩))
        | (go_at_call 16; ((with_reducible refine (HP.out _ _ x1).mono ?_); rintro e w2 ⟨⟨a3, c3, a4, c4, rfl, x3, -⟩, b2⟩; have B2 := bch b1 b2; have x2 := x1.below b2; have y2 := y1.below b2; have v2 := HV.out.below B2))
        | (go_at_call 18; ((with_reducible refine (HE.out _ _ _ v2 x3).mono ?_); rintro e w3 ⟨rfl, m3, hw3⟩; have b3 : Below w2.heap.size w2 w3 := (by rw [hw3]; exact bdN (Below.refl _ _) m3); clear hw3; have B3 := bch B2 b3; have x4 := x2.below b3; have y4 := y2.below b3)))
      have H0 := Lib.hid (And.intro B3 (And.intro x4 y4))
      clear x1 y1 b1 x3 b2 B2 x2 y2 v2 b3 B3 x4 y4
      go_loopw [9, 10, 11, 12, 49] (fun _ _ _ _ i wr => ∃ k : Nat, k ≤ n ∧ i = .int .i64 (k : Int) ∧ Hid (Below w.heap.size w wr ∧ Rw eB wr (.slice a1 N c1) (tb l) ∧ Rw eN wr (.slice a2 n c2) (ofs 1 l))) (fun _ _ _ _ i _ => n - (intOf i).toNat)
      case atStart => exact ⟨0, Nat.zero_le _, rfl, H0⟩
      case round =>
        obtain ⟨k, hk, rfl, hW⟩ := hrel
        obtain ⟨hBw, hx4, hy4⟩ := hW.out
        by_cases hlt : k < n
        · have hkl : k < l.length := by rw [HN.out]; exact hlt
          obtain ⟨bb, o, rfl, hbb, hcc⟩ := HC.out (by omega)
          have hx := (hBw.cell (p := ⟨bb, o + k, none⟩) (by exact hbb)).trans (hcc k hkl)
          unfold eT at hx
          obtain ⟨p, hp1, hp2⟩ := HG.out k hkl
          obtain ⟨hyl, -, -, hyc⟩ := hy4.at
          obtain ⟨b2, o2, rfl, hb2, hc2⟩ := hyc (by omega)
          have hko : k < (ofs 1 l).length := by rw [hyl]; exact hlt
          have hy := hc2 k hko
          rw [List.getElem?_eq_getElem hko] at hp1
          rw [Option.some.inj hp1] at hy
          unfold eN at hy
          have hG := get_at _ (tb l) (p : Int) wr HL.out hx4
          rw [hp2] at hG
          obtain ⟨T, hT⟩ : ∃ T, mkB l[k] = T := ⟨_, rfl⟩
          rw [hT] at hx hG
          have ht : (T.toList == T.toList) = true := txt_eq rfl
          have HGG := Lib.hid hG
          have HW := Lib.hid (And.intro hBw (And.intro hx4 hy4))
          have hlt' : (k : Int) < (n : Int) := by omega
          clear hcc hT hG hp1 hp2 hyl hyc hc2 hW hBw hx4 hy4
          go_wp2_with (go_at_call 19; ((with_reducible refine (HGG.out).mono ?_); rintro e w5 ⟨rfl, b5⟩; have HW5 := Lib.hid (And.intro (bch HW.out.1 b5) (And.intro (HW.out.2.1.below b5) (HW.out.2.2.below b5)))))
          go_roundw
          case rel => exact ⟨k + 1, by omega, by go_num, HW5⟩
          case measure => simp [intOf]; omega
        · obtain rfl : k = n := by omega
          go_wp2_with (go_at_call 10; ((with_reducible refine (alive14 _).mono ?_); rintro e w6 ⟨rfl, b6⟩))
          go_ret
          exact ⟨rfl, bch hBw b6⟩
    · have hbad : ∃ t ∈ l, rt t = false := by
        simpa using hall
      have HB := Lib.hid (build_no v l w h (by omega) (by omega) hbad)
      obtain ⟨a, c, rfl, -⟩ := h.form hn
      clear h hr hf1 hf2 hn hN hall hbad
      go_enter Try.func7, Try.ntmps7
      go_wp2_with (first
        | (go_at_call 9; ((with_reducible refine (HF.out).mono ?_); rintro e w1 ⟨rfl, rfl⟩))
        | (go_at_call 11; ((with_reducible refine (HB.out).mono ?_); rintro e w1 ⟨rfl, b1⟩))
        | (go_at_call 10; ((with_reducible refine (alive14 _).mono ?_); rintro e w6 ⟨rfl, b6⟩)))
      go_ret
      exact ⟨rfl, bch b1 b6⟩
  · exact inverts_no v l w h hr hf

/-! ### Find -/
/-- The least offset, or -1. -/
def wvI (r : Option Nat) : Int := match r with
  | none => -1
  | some x => (x : Int)
theorem fnd_step (s l : List UInt8) (j : Nat) (h : j < l.length) : fnd s j (l.drop j) = if gtx l j = some s then some j else fnd s (j + 1) (l.drop (j + 1)) := by
  rw [← gtx_drop l j, List.drop_eq_getElem_cons h, fnd]
theorem fnd_lt (s : List UInt8) : ∀ (l : List UInt8) (i x : Nat), fnd s i l = some x → x < i + l.length
  | [], _, _, h => by cases h
  | c :: r, i, x, h => by
    unfold fnd at h
    split at h
    · cases h; simp
    · have := fnd_lt s r (i + 1) x h
      simp only [List.length_cons]; omega
theorem rgE_no (l : List UInt8) (p : Nat) (h : gtx l p = none) : rgE l (p : Int) = .returned (.tuple #[.string ⟨#[]⟩, .bool false]) := by
  rw [rgE_gtx, h]
theorem rgE_yes (l : List UInt8) (p : Nat) (t : List UInt8) (h : gtx l p = some t) : rgE l (p : Int) = .returned (.tuple #[.string (mkB t), .bool true]) := by
  rw [rgE_gtx, h]

set_option maxHeartbeats 4000000 in
theorem finds_no (v : Value) (l : List UInt8) (S : ByteArray) (w : World) (h : Rw eB w v l) (hf : 300 < l.length ∨ 300 < S.size) :
    Calls Try.prog 6 #[v, .string S] w fun e w' => e = .returned (.bool true) ∧ Below w.heap.size w w' := by
  obtain ⟨a, c, rfl, -⟩ := h
  generalize l.length = n at hf ⊢
  by_cases h1 : 300 < n
  · have h1' : (300 : Int) < (n : Int) := by omega
    clear hf h1
    go_enter Try.func6, Try.ntmps6
    go_wp2_with (go_at_call 10; ((with_reducible refine (alive14 _).mono ?_); rintro e w1 ⟨rfl, b1⟩))
    go_ret
    exact ⟨rfl, b1⟩
  · have h1' : ¬ (300 : Int) < (n : Int) := by omega
    have h2' : (300 : Int) < (S.size : Int) := by omega
    clear hf h1
    go_enter Try.func6, Try.ntmps6
    go_wp2_with (go_at_call 10; ((with_reducible refine (alive14 _).mono ?_); rintro e w1 ⟨rfl, b1⟩))
    go_ret
    exact ⟨rfl, b1⟩

set_option maxHeartbeats 4000000 in
set_option maxRecDepth 100000 in
theorem finds_walk (v : Value) (l : List UInt8) (S : ByteArray) (w : World) (h : Rw eB w v l) :
    Calls Try.prog 6 #[v, .string S] w fun e w' => e = .returned (.bool true) ∧ Below w.heap.size w w' := by
  by_cases hf : 300 < l.length ∨ 300 < S.size
  · exact finds_no v l S w h hf
  obtain ⟨s, hs⟩ : ∃ s, S.data.toList = s := ⟨_, rfl⟩
  have hS : S = mkB s := by rw [← hs, mkB_of]
  have hSs : S.size = s.length := by rw [hS, mkB_size]
  obtain ⟨n, hn⟩ : ∃ n, l.length = n := ⟨_, rfl⟩
  have hF := find_at v l s S hS w h (by omega) (by omega)
  have HG := Lib.hid (fun (p : Nat) (W : World) (hb : Below w.heap.size w W) => rget_at v l (p : Int) W (by omega) (h.below hb))
  obtain ⟨a, c, rfl, -⟩ := h.form hn
  have h1 : ¬ (300 : Int) < (n : Int) := by omega
  have h2 : ¬ (300 : Int) < (S.size : Int) := by omega
  have hn3 : n ≤ 300 := by omega
  have HN := Lib.hid hn
  have HS := Lib.hid hS
  obtain ⟨R, hR⟩ : ∃ R, fnd s 0 l = R := ⟨_, rfl⟩
  have HR := Lib.hid hR
  have hRl : ∀ x, R = some x → x ≤ 300 := fun x hx => by
    rw [hx] at hR
    have := fnd_lt s l 0 x hR
    omega
  have HRL := Lib.hid hRl
  rw [hR] at hF
  obtain ⟨off, ok, hfe, hfo⟩ : ∃ (off : Int) (ok : Bool), fiE R = .returned (.tuple #[.int .i64 off, .bool ok]) ∧ ((R = none ∧ off = 0 ∧ ok = false) ∨ ∃ x, R = some x ∧ off = (x : Int) ∧ ok = true) := by
    cases R with
    | none => exact ⟨0, false, rfl, .inl ⟨rfl, rfl, rfl⟩⟩
    | some x => exact ⟨x, true, rfl, .inr ⟨x, rfl, rfl, rfl⟩⟩
  rw [hfe] at hF
  have HF := Lib.hid hF
  have HFO := Lib.hid hfo
  clear h hs hS hSs hn hF hR hRl hfe hfo hf
  go_enter Try.func6, Try.ntmps6
  go_wp2_with (go_at_call 21; ((with_reducible refine (HF.out).mono ?_); rintro e w1 ⟨rfl, b1⟩))
  have HB1 := Lib.hid b1
  clear b1
  go_loop [7, 8, 9, 10] (fun z i _ _ => ∃ j : Nat, j ≤ n ∧ i = .int .i64 ((j : Int) - 1) ∧ ∃ x : Int, z = .int .i64 x ∧ Hid (x = wvI (fnd s j (l.drop j)))) (fun _ i _ _ => (intOf i + 1).toNat)
  case atStart =>
    refine ⟨n, Nat.le_refl _, by go_num, -1, rfl, Lib.hid ?_⟩
    rw [List.drop_eq_nil_of_le (by rw [HN.out]; exact Nat.le_refl _)]; rfl
  case round =>
    obtain ⟨j, hj, rfl, x, rfl, hX⟩ := hrel
    cases j with
    | zero =>
      have hx := hX.out
      rw [List.drop_zero, HR.out] at hx
      have e0 : ((0 : Nat) : Int) - 1 = -1 := rfl
      rw [e0]
      rcases HFO.out with ⟨h1, rfl, rfl⟩ | ⟨y, h1, rfl, rfl⟩
      · rw [h1] at hx
        have hx : x = -1 := hx
        subst hx
        clear hX h1
        go_wp2_with (go_at_call 10; ((with_reducible refine (alive14 _).mono ?_); rintro e w6 ⟨rfl, b6⟩))
        go_ret
        exact ⟨rfl, bch HB1.out b6⟩
      · have hy := HRL.out y h1
        rw [h1] at hx
        have hx : x = (y : Int) := hx
        subst hx
        clear hX h1
        go_wp2_with (go_at_call 10; ((with_reducible refine (alive14 _).mono ?_); rintro e w6 ⟨rfl, b6⟩))
        go_ret
        exact ⟨rfl, bch HB1.out b6⟩
    | succ j =>
      have e1 : ((j + 1 : Nat) : Int) - 1 = (j : Int) := by omega
      rw [e1]
      have hjl : j < l.length := by rw [HN.out]; omega
      have hstep := fnd_step s l j hjl
      have hG := HG.out j w1 HB1.out
      have hjn : j < n := hj
      cases hg : gtx l j with
      | none =>
        rw [hg, if_neg (by simp)] at hstep
        rw [rgE_no l j hg] at hG
        have HX := Lib.hid (show x = wvI (fnd s j (l.drop j)) by rw [hstep]; exact hX.out)
        have HGG := Lib.hid hG
        clear hstep hG hg hX e1
        go_wp2_with (go_at_call 20; ((with_reducible refine (HGG.out).mono ?_); rintro e w5 ⟨rfl, rfl⟩))
        go_round
        case rel => exact ⟨j, by omega, by go_num, x, rfl, HX⟩
        case measure => simp [intOf]
      | some t =>
        rw [hg] at hstep
        rw [rgE_yes l j t hg] at hG
        by_cases hts : t = s
        · subst hts
          rw [if_pos rfl] at hstep
          have HX := Lib.hid (show (j : Int) = wvI (fnd t j (l.drop j)) by rw [hstep]; rfl)
          have ht : ((mkB t).toList == S.toList) = true := txt_eq HS.out.symm
          obtain ⟨T, hT⟩ : ∃ T, mkB t = T := ⟨_, rfl⟩
          rw [hT] at ht hG
          have HGG := Lib.hid hG
          clear hstep hG hg hX hT e1
          go_wp2_with (go_at_call 20; ((with_reducible refine (HGG.out).mono ?_); rintro e w5 ⟨rfl, rfl⟩))
          go_round
          case rel => exact ⟨j, by omega, by go_num, _, rfl, HX⟩
          case measure => simp [intOf]
        · rw [if_neg (by simpa using hts)] at hstep
          have HX := Lib.hid (show x = wvI (fnd s j (l.drop j)) by rw [hstep]; exact hX.out)
          have ht : ((mkB t).toList == S.toList) = false := txt_ne (fun e => hts (mkB_inj (e.trans HS.out)))
          obtain ⟨T, hT⟩ : ∃ T, mkB t = T := ⟨_, rfl⟩
          rw [hT] at ht hG
          have HGG := Lib.hid hG
          clear hstep hG hg hX hT e1 hts
          go_wp2_with (go_at_call 20; ((with_reducible refine (HGG.out).mono ?_); rintro e w5 ⟨rfl, rfl⟩))
          go_round
          case rel => exact ⟨j, by omega, by go_num, x, rfl, HX⟩
          case measure => simp [intOf]
end Go.Proofs.Ytegdffebdbkchaa.L14
