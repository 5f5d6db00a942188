/- What the program's Get and the reference's Get and Right return, and the law's 'few'. Conditions: memory holds the bytes (no more than 1000000000) and the texts. -/
import Derived.Test.YtegdffebdbkchaaL14Lb
import Derived.Lib.Strings
namespace Go.Proofs.Ytegdffebdbkchaa.L14
open Go.RowKit
attribute [local go_sem] Oper.semAt_some

/-- The text at an offset, which may be any number. -/
def gtI (l : List UInt8) (off : Int) : Option (List UInt8) := if 0 ≤ off then gtx l off.toNat else none
theorem gtx_some {l : List UInt8} {k : Nat} {t : List UInt8} (h : gtx l k = some t) : ∃ i, fz (l.drop k) = some i ∧ t = (l.drop k).take i := by
  unfold gtx at h
  cases hf : fz (l.drop k) with
  | none => rw [hf] at h; cases h
  | some i => rw [hf] at h; cases h; exact ⟨i, rfl, rfl⟩
theorem gtx_lt {l : List UInt8} {k : Nat} {t : List UInt8} (h : gtx l k = some t) : k < l.length := by
  obtain ⟨i, hi, -⟩ := gtx_some h
  have := (fz_some hi).1
  rw [List.length_drop] at this; omega
/-- What Get returns. -/
def gtE (l : List UInt8) (off : Int) : Ending := match gtI l off with
  | none => .returned (.tuple #[.string ⟨#[]⟩, .int .i64 4])
  | some t => .returned (.tuple #[.string (mkB t), .int .i64 0])
def rgE (l : List UInt8) (off : Int) : Ending := match gtI l off with
  | none => .returned (.tuple #[.string ⟨#[]⟩, .bool false])
  | some t => .returned (.tuple #[.string (mkB t), .bool true])

set_option maxHeartbeats 4000000 in
set_option maxRecDepth 100000 in
theorem get_at (v : Value) (l : List UInt8) (off : Int) (w : World) (hl : l.length ≤ 1000000000) (h : Rw eB w v l) :
    Calls Try.prog 19 #[v, .int .i64 off] w fun e w' => e = gtE l off ∧ Below w.heap.size w w' := by
  obtain ⟨n, hn⟩ : ∃ n, l.length = n := ⟨_, rfl⟩
  obtain ⟨a, c, rfl, hc, -⟩ := h.form hn
  obtain ⟨R, hR⟩ : ∃ R, gtE l off = R := ⟨_, rfl⟩
  rw [hR]
  unfold gtE gtI at hR
  by_cases h0 : 0 ≤ off
  · obtain ⟨k, rfl⟩ : ∃ k : Nat, off = (k : Int) := ⟨off.toNat, by omega⟩
    rw [if_pos h0, Int.toNat_natCast] at hR
    by_cases hk : k < n
    · have hd := h.drop k (by omega)
      have hs := run_from und8 size8 a n c k (by omega) hc
      generalize (if c = k then a else a.map (·.add k)) = a2 at hs hd
      generalize c - k = c2 at hs hd
      obtain ⟨n2, hn2⟩ : ∃ n2, n - k = n2 := ⟨_, rfl⟩
      rw [hn2] at hs hd
      have hcell : (w.alloc (.cells #[.int .u8 0] 5)).cell? ⟨w.heap.size, 0, none⟩ = some (.int .u8 0) := cell_new w _ _
      have b0 := bnew w (.cells #[.int .u8 0] 5)
      have hlt : (k : Int) < (n : Int) := by omega
      cases hf : fz (l.drop k) with
      | none =>
        have hgt : gtx l k = none := by unfold gtx; rw [hf]; rfl
        rw [hgt] at hR
        have hR := hR.symm
        subst hR
        have HC := Lib.hid (cut_none a2 n2 c2 (l.drop k) w.heap.size _ (hd.below b0) hcell hf)
        clear h hd hn hcell hf hgt hn2
        go_enter Try.func19, Try.ntmps19
        go_wp2_with (go_at_call 24; ((with_reducible refine (HC.out).mono ?_); rintro e w1 ⟨rfl, m, rfl⟩))
        refine bodyPost_ret (v := .tuple #[.string ⟨#[]⟩, .int .i64 4]) (by simp [results, Try.results19, go_sem]) rfl ⟨rfl, bdN b0 m⟩
      | some i =>
        have hgt : gtx l k = some ((l.drop k).take i) := by unfold gtx; rw [hf]; rfl
        rw [hgt] at hR
        have hR := hR.symm
        have hdl := hd.at.1
        have HC := Lib.hid (cut_some a2 n2 c2 (l.drop k) w.heap.size i _ (by omega) (hd.below b0) hcell hf)
        have HV := Lib.hid (fun m => conv_at (((hd.take i (by have := (fz_some hf).1; omega)).below b0).below (bdN (Below.refl _ _) m)))
        obtain ⟨T, hT⟩ : ∃ T, mkB ((l.drop k).take i) = T := ⟨_, rfl⟩
        dsimp only at hR
        rw [hT] at HV hR
        subst hR
        clear h hd hn hcell hf hgt hT hn2 hdl
        go_enter Try.func19, Try.ntmps19
        go_wp2_with (go_at_call 24; ((with_reducible refine (HC.out).mono ?_); rintro e w1 ⟨⟨v2, rfl⟩, m, rfl⟩; have hcv := HV.out m))
        refine bodyPost_ret (v := .tuple #[.string T, .int .i64 0]) (by simp [results, Try.results19, go_sem]) rfl ⟨rfl, bdN b0 m⟩
    · have hgt : gtx l k = none := by
        cases hq : gtx l k with
        | none => rfl
        | some t => have := gtx_lt hq; omega
      rw [hgt] at hR
      have hR := hR.symm
      subst hR
      have hge : ¬ ((k : Int) < (n : Int)) := by omega
      clear h hn hgt
      go_enter Try.func19, Try.ntmps19
      go_wp2
      refine bodyPost_ret (v := .tuple #[.string ⟨#[]⟩, .int .i64 4]) (by simp [results, Try.results19, go_sem]) rfl ⟨rfl, Below.refl _ _⟩
  · rw [if_neg h0] at hR
    have hR := hR.symm
    subst hR
    have hneg : off < 0 := by omega
    clear h hn
    go_enter Try.func19, Try.ntmps19
    go_wp2
    refine bodyPost_ret (v := .tuple #[.string ⟨#[]⟩, .int .i64 4]) (by simp [results, Try.results19, go_sem]) rfl ⟨rfl, Below.refl _ _⟩

theorem fz_cons0 (r : List UInt8) : fz (0 :: r) = some 0 := by rw [fz, if_pos rfl]
theorem fz_consN {c : UInt8} (h : ¬ c = 0) (r : List UInt8) : fz (c :: r) = (fz r).map (· + 1) := by rw [fz, if_neg h]
set_option maxHeartbeats 4000000 in
set_option maxRecDepth 100000 in
theorem rget_at (v : Value) (l : List UInt8) (off : Int) (w : World) (hl : l.length ≤ 1000000000) (h : Rw eB w v l) :
    Calls Try.prog 20 #[v, .int .i64 off] w fun e w' => e = rgE l off ∧ w = w' := by
  obtain ⟨n, hn⟩ : ∃ n, l.length = n := ⟨_, rfl⟩
  obtain ⟨a, c, rfl, hc, -, hcl⟩ := h.form hn
  obtain ⟨R, hR⟩ : ∃ R, rgE l off = R := ⟨_, rfl⟩
  rw [hR]
  unfold rgE gtI at hR
  by_cases h0 : 0 ≤ off
  · obtain ⟨k, rfl⟩ : ∃ k : Nat, off = (k : Int) := ⟨off.toNat, by omega⟩
    rw [if_pos h0, Int.toNat_natCast] at hR
    by_cases hk : k < n
    · have HG : Hid (gtx l k = (fz (l.drop (k + 0))).map fun i => (l.drop k).take (0 + i)) := Lib.hid (by simp [gtx])
      have HL := Lib.hid h
      have HCL := Lib.hid hcl
      have HN := Lib.hid hn
      have HR := Lib.hid hR
      rw [hn] at hl
      clear h hcl hn hR
      go_enter Try.func20, Try.ntmps20
      go_wp2
      go_loop [6, 7] (fun s i => ∃ q : Nat, k + q ≤ n ∧ i = .int .i64 ((k : Int) + (q : Int)) ∧ Hid (gtx l k = (fz (l.drop (k + q))).map fun i => (l.drop k).take (q + i)) ∧ ∃ T : ByteArray, s = .string T ∧ T.size = q ∧ Hid (T = mkB ((l.drop k).take q))) (fun _ i => n - (intOf i).toNat)
      case atStart => exact ⟨0, by omega, by simp, HG, ⟨#[]⟩, rfl, rfl, Lib.hid (by simp [mkB])⟩
      case round =>
        obtain ⟨q, hq, rfl, hG, T, rfl, hTs, hT⟩ := hrel
        clear HG
        by_cases hlt : k + q < n
        · have hkl : k + q < l.length := by rw [HN.out]; exact hlt
          obtain ⟨b, o, rfl, hb, hcc⟩ := HCL.out (by omega)
          have hx := hcc (k + q) hkl
          have hd : l.drop (k + q) = l[k + q] :: l.drop (k + q + 1) := List.drop_eq_getElem_cons hkl
          have hG1 := hG.out
          rw [hd] at hG1
          have hlt' : (k : Int) + (q : Int) < (n : Int) := by omega
          have hx2 : w.cell? ⟨b, o + (k + q), none⟩ = some (.int .u8 (l[k + q].toNat : Int)) := hx
          by_cases hz : l[k + q] = 0
          · rw [hz, fz_cons0] at hG1
            rw [hz] at hx2
            have HT : Hid (R = .returned (.tuple #[.string T, .bool true])) := Lib.hid (by rw [← HR.out, hG1, hT.out]; rfl)
            have e0 : ((0 : UInt8).toNat : Int) = 0 := rfl
            rw [e0] at hx2
            clear hx hcc hd hG1 hG hz hT
            go_wp2
            refine bodyPost_ret (v := .tuple #[.string T, .bool true]) (by simp [results, Try.results20, go_sem]) rfl ⟨HT.out.symm, rfl⟩
          · rw [fz_consN hz, Option.map_map] at hG1
            have hne : ((l[k + q].toNat : Int) == 0) = false := byte_ne (d := 0) hz
            have hs1 := run_part und8 size8 (some ⟨b, o, none⟩) n c (k + q) (k + q + 1) (by omega) (by omega) hc
            have hv1 := (HL.out.drop (k + q) (by omega)).take 1 (by omega)
            rw [hd] at hv1
            have hcv := conv_at hv1
            rw [show k + q + 1 - (k + q) = 1 by omega] at hs1
            generalize (if c = k + q then some (⟨b, o, none⟩ : Addr) else (some (⟨b, o, none⟩ : Addr)).map (·.add (k + q))) = a2 at hs1 hcv
            generalize c - (k + q) = c2 at hs1 hcv
            have e1 : ((k + q : Nat) : Int) = (k : Int) + (q : Int) := by omega
            have e2 : ((k + q + 1 : Nat) : Int) = (k : Int) + (q : Int) + 1 := by omega
            rw [e1, e2] at hs1
            obtain ⟨U, hU⟩ : ∃ U, mkB ((l[k + q] :: l.drop (k + q + 1)).take 1) = U := ⟨_, rfl⟩
            rw [hU] at hcv
            have hTU : T ++ U = mkB ((l.drop k).take (q + 1)) := by
              rw [hT.out, ← hU, mkB_app]
              congr 1
              rw [List.take_add_one (i := q), List.getElem?_drop, List.getElem?_eq_getElem hkl]; rfl
            have hUs : U.size = 1 := by rw [← hU, mkB_size]; rfl
            have hG2 : gtx l k = (fz (l.drop (k + (q + 1)))).map fun i => (l.drop k).take (q + 1 + i) := by
              rw [hG1, Nat.add_assoc]
              congr 1
              funext i
              show (l.drop k).take (q + (i + 1)) = _
              congr 1; omega
            have HG2 := Lib.hid hG2
            have HTU := Lib.hid hTU
            have hT1 : T.size + U.size ≤ 9223372036854775807 := by omega
            have hT2 : T.size + U.size ≤ maxLen := by unfold maxLen; omega
            obtain ⟨d, hd2⟩ : ∃ d : Int, (l[k + q].toNat : Int) = d := ⟨_, rfl⟩
            rw [hd2] at hx2 hne
            have hx3 : w.cell? ⟨b, o + ((k : Int) + (q : Int)).toNat, none⟩ = some (.int .u8 d) := by rw [← hx2]; congr 2
            clear hx hcc hd hG1 hG hz hT hTU hU hG2 hv1 e1 e2 hd2
            go_wp2
            go_round
            case rel => exact ⟨q + 1, by omega, by go_num, HG2, T ++ U, rfl, by rw [ByteArray.size_append]; omega, HTU⟩
            case measure => simp [intOf]; omega
        · obtain rfl : n = k + q := by omega
          have hG1 := hG.out
          have hz0 : l.drop (k + q) = [] := List.drop_eq_nil_of_le (by rw [HN.out]; exact Nat.le_refl _)
          rw [hz0] at hG1
          have HT : Hid (R = .returned (.tuple #[.string ⟨#[]⟩, .bool false])) := Lib.hid (by rw [← HR.out, hG1]; rfl)
          have hge : ¬ ((k : Int) + (q : Int) < ((k + q : Nat) : Int)) := by omega
          clear hG hG1 hT hz0
          go_wp2
          refine bodyPost_ret (v := .tuple #[.string ⟨#[]⟩, .bool false]) (by simp [results, Try.results20, go_sem]) rfl ⟨HT.out.symm, rfl⟩
    · have hgt : gtx l k = none := by
        cases hq : gtx l k with
        | none => rfl
        | some t => have := gtx_lt hq; omega
      rw [hgt] at hR
      have hR := hR.symm
      subst hR
      have hge : ¬ ((k : Int) < (n : Int)) := by omega
      clear h hn hgt hcl
      go_enter Try.func20, Try.ntmps20
      go_wp2
      refine wp_loop_rounds 1 ?_
      rw [rounds_succ]
      go_wp2
      refine bodyPost_ret (v := .tuple #[.string ⟨#[]⟩, .bool false]) (by simp [results, Try.results20, go_sem]) rfl ⟨rfl, rfl⟩
  · rw [if_neg h0] at hR
    have hR := hR.symm
    subst hR
    have hneg : off < 0 := by omega
    clear h hn hcl
    go_enter Try.func20, Try.ntmps20
    go_wp2
    refine bodyPost_ret (v := .tuple #[.string ⟨#[]⟩, .bool false]) (by simp [results, Try.results20, go_sem]) rfl ⟨rfl, rfl⟩
end Go.Proofs.Ytegdffebdbkchaa.L14
