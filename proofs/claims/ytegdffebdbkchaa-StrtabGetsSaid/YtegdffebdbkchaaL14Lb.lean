/- What the library's Equal and HasSuffix of bytes, Contains of texts (at a zero byte) and Equal of slices, and the reference's Same return for slices whose elements are known. Conditions: memory holds the elements, which are no more than 1000000000. -/
import Derived.Test.YtegdffebdbkchaaL14Mm
namespace Go.Proofs.Ytegdffebdbkchaa.L14
open Go.RowKit
attribute [local go_sem] Oper.semAt_some

set_option maxHeartbeats 1000000 in
theorem bequal_at (v1 v2 : Value) (l1 l2 : List UInt8) (b : Bool) (w : World) (h1 : Rw eB w v1 l1) (h2 : Rw eB w v2 l2) (hb : b = true ↔ l1 = l2) :
    Calls Try.prog 29 #[v1, v2] w fun e w' => e = .returned (.bool b) ∧ w = w' := by
  have k1 := conv_at h1
  have k2 := conv_at h2
  have ht : ((mkB l1).toList == (mkB l2).toList) = b := by
    cases b with
    | true => exact txt_eq (by rw [hb.1 rfl])
    | false => exact txt_ne (fun e => by simpa using hb.2 (mkB_inj e))
  obtain ⟨a1, c1, rfl, -⟩ := h1
  obtain ⟨a2, c2, rfl, -⟩ := h2
  generalize mkB l1 = T1 at k1 ht
  generalize mkB l2 = T2 at k2 ht
  generalize l1.length = n1 at k1 ⊢
  generalize l2.length = n2 at k2 ⊢
  clear hb
  go_enter Try.func29, Try.ntmps29
  go_wp2
  go_ret
  exact ⟨rfl, rfl⟩
set_option maxHeartbeats 2000000 in
set_option maxRecDepth 100000 in
theorem hsuf_at (v1 v2 : Value) (t s : List UInt8) (b : Bool) (w : World) (hl : t.length ≤ 1000000000) (hm : s.length ≤ 1000000000) (h1 : Rw eB w v1 t) (h2 : Rw eB w v2 s) (hb : b = true ↔ s <:+ t) :
    Calls Try.prog 25 #[v1, v2] w fun e w' => e = .returned (.bool b) ∧ w = w' := by
  obtain ⟨n, hn⟩ : ∃ n, t.length = n := ⟨_, rfl⟩
  obtain ⟨m, hm'⟩ : ∃ m, s.length = m := ⟨_, rfl⟩
  obtain ⟨a1, c1, rfl, hc1, -⟩ := h1.form hn
  obtain ⟨a2, c2, rfl, -⟩ := h2.form hm'
  by_cases hlt : m ≤ n
  · have hd := h1.drop (n - m) (by omega)
    have hs := run_from und8 size8 a1 n c1 (n - m) (by omega) hc1
    have HE := Lib.hid (bequal_at _ _ _ _ b w hd h2 (by rw [hb, List.suffix_iff_eq_drop, hn, hm']; exact eq_comm))
    generalize (if c1 = n - m then a1 else a1.map (·.add (n - m))) = a3 at hs HE
    generalize c1 - (n - m) = c3 at hs HE
    rw [show n - (n - m) = m by omega] at hs HE
    have e1 : ((n - m : Nat) : Int) = (n : Int) - (m : Int) := by omega
    rw [e1] at hs
    have hge : ((m : Int) ≤ (n : Int)) := by omega
    rw [hn] at hl
    rw [hm'] at hm
    clear hd h1 h2 hb hn hm' e1
    go_enter Try.func25, Try.ntmps25
    go_wp2_with (go_at_call 29; ((with_reducible refine (HE.out).mono ?_); rintro e w1 ⟨rfl, rfl⟩))
    go_ret
    exact ⟨rfl, rfl⟩
  · have hf : b = false := by
      cases b with
      | false => rfl
      | true =>
        have := (hb.1 rfl).length_le
        omega
    subst hf
    have hge : ¬ ((m : Int) ≤ (n : Int)) := by omega
    rw [hn] at hl
    rw [hm'] at hm
    clear h1 h2 hb hn hm'
    go_enter Try.func25, Try.ntmps25
    go_wp2
    go_ret
    exact ⟨rfl, rfl⟩

/-! ### strings.Contains at a zero byte -/
set_option maxHeartbeats 1000000 in
theorem sixb_at (t : List UInt8) (T : ByteArray) (hT : T = mkB t) (w : World) : Calls Try.prog 35 #[.string T, .int .u8 0] w fun e w' => e = .returned (.int .i64 (ixI t)) ∧ w = w' := by
  have hr := Lib.run_indexByteString (P := Try.prog) T 0
  have e : Lib.indexByte T.data.toList 0 = ixI t := by rw [hT, mkB_list, ix_is]
  go_enter Try.func35, Try.ntmps35
  go_wp2
  rw [run_callFunc_extern Try.func40 (by kernel_rfl) (by kernel_rfl) (by kernel_rfl) (e := Extern.BytealgIndexByte.indexByte) (by kernel_rfl), Lib.run_indexByteString]
  simp only [Result.andThen]
  rw [Oper.upon_value]
  go_wp2
  go_ret
  exact ⟨by rw [← e, hT]; rfl, rfl⟩
set_option maxHeartbeats 4000000 in
set_option maxRecDepth 100000 in
theorem sindex_at (t : List UInt8) (T : ByteArray) (hT : T = mkB t) (w : World) : Calls Try.prog 30 #[.string T, .string ⟨#[0]⟩] w fun e w' => e = .returned (.int .i64 (ixI t)) ∧ w = w' := by
  have HI := Lib.hid (fun w => sixb_at t T hT w)
  have hix : ∀ w, (Instr.index 9 (.string ⟨#[0]⟩) (.int .i64 0)).run Try.prog w = .ok (.int .u8 0) w := fun w => by
    rw [run_index_string w 9 ⟨#[0]⟩ .i64 0 Try.underlying9, dif_pos (by decide)]; rfl
  by_cases hs : T.data.toList = [0]
  · have hx : ixI t = 0 := by
      have : t = [0] := by rw [← mkB_list t, ← hT, hs]
      rw [this]; rfl
    have t1 : (([0] : List UInt8) == T.toList) = true := by rw [Lib.toList_data, hs]; rfl
    rw [hx]
    clear hs hx HI hT
    go_enter Try.func30, Try.ntmps30
    go_wp2
    go_ret
    exact ⟨rfl, rfl⟩
  · have t1 : (([0] : List UInt8) == T.toList) = false := by
      rw [Lib.toList_data, beq_eq_false_iff_ne]
      exact fun e => hs e.symm
    clear hs hT
    generalize ixI t = x at HI ⊢
    go_enter Try.func30, Try.ntmps30
    go_wp2_with (go_at_call 35; ((with_reducible refine (HI.out _).mono ?_); rintro e w1 ⟨rfl, rfl⟩))
    go_ret
    exact ⟨rfl, rfl⟩
set_option maxHeartbeats 1000000 in
theorem sindex2_at (t : List UInt8) (T : ByteArray) (hT : T = mkB t) (w : World) : Calls Try.prog 26 #[.string T, .string ⟨#[0]⟩] w fun e w' => e = .returned (.int .i64 (ixI t)) ∧ w = w' := by
  have HI := Lib.hid (fun w => sindex_at t T hT w)
  generalize ixI t = x at HI ⊢
  clear hT
  go_enter Try.func26, Try.ntmps26
  go_wp2_with (go_at_call 30; ((with_reducible refine (HI.out _).mono ?_); rintro e w1 ⟨rfl, rfl⟩))
  go_ret
  exact ⟨rfl, rfl⟩
set_option maxHeartbeats 1000000 in
theorem scont_at (t : List UInt8) (T : ByteArray) (hT : T = mkB t) (b : Bool) (hb : (fz t).isSome = b) (w : World) : Calls Try.prog 22 #[.string T, .string ⟨#[0]⟩] w fun e w' => e = .returned (.bool b) ∧ w = w' := by
  have HI := Lib.hid (fun w => sindex2_at t T hT w)
  have h0 : decide (0 ≤ ixI t) = b := by
    rw [← hb]
    unfold ixI
    cases fz t with
    | none => rfl
    | some i => simp
  generalize ixI t = x at HI h0
  clear hT hb
  cases b
  · have h1 : ¬ (0 ≤ x) := of_decide_eq_false h0
    clear h0
    go_enter Try.func22, Try.ntmps22
    go_wp2_with (go_at_call 26; ((with_reducible refine (HI.out _).mono ?_); rintro e w1 ⟨rfl, rfl⟩))
    go_ret
    exact ⟨congrArg Ending.returned (congrArg Value.bool (by simpa using h1)), rfl⟩
  · have h1 : 0 ≤ x := of_decide_eq_true h0
    clear h0
    go_enter Try.func22, Try.ntmps22
    go_wp2_with (go_at_call 26; ((with_reducible refine (HI.out _).mono ?_); rintro e w1 ⟨rfl, rfl⟩))
    go_ret
    exact ⟨congrArg Ending.returned (congrArg Value.bool (by simp)), rfl⟩

/-! ### slices.Equal, Same: of the same elements -/
set_option maxHeartbeats 2000000 in
set_option maxRecDepth 100000 in
theorem eqT_at (v v' : Value) (l : List (List UInt8)) (w : World) (hl : l.length ≤ 1000000000) (hv : Rw eT w v l) (hv' : Rw eT w v' l) :
    Calls Try.prog 18 #[v, v'] w fun e w' => e = .returned (.bool true) ∧ ∃ m, w' = w.drewN m := by
  obtain ⟨n, hn⟩ : ∃ n, l.length = n := ⟨_, rfl⟩
  obtain ⟨a, c, rfl, -, -, hc⟩ := hv.form hn
  obtain ⟨a', c', rfl, -, -, hc'⟩ := hv'.form hn
  rw [hn] at hl
  have HN := Lib.hid hn
  have HC := Lib.hid hc
  have HC' := Lib.hid hc'
  clear hn hc hc' hv hv'
  go_enter Try.func18, Try.ntmps18
  go_wp2
  go_loopw [5, 13] (fun _ i wr => ∃ (k q : Nat), k ≤ n ∧ i = .int .i64 (k : Int) ∧ wr = w.drewN q) (fun _ i _ => n - (intOf i).toNat)
  case atStart => exact ⟨0, 0, Nat.zero_le _, rfl, rfl⟩
  case round =>
    obtain ⟨k, q, hk, rfl, rfl⟩ := hrel
    by_cases hlt : k < n
    · have hk1 : k < l.length := by rw [HN.out]; exact hlt
      obtain ⟨b1, o1, rfl, hb1, hc1⟩ := HC.out (by omega)
      obtain ⟨b2, o2, rfl, hb2, hc2⟩ := HC'.out (by omega)
      have hx := hc1 k hk1
      have hy := hc2 k hk1
      clear hc1 hc2
      have hlt' : (k : Int) < (n : Int) := by omega
      obtain ⟨d, hd⟩ : ∃ d, mkB l[k] = d := ⟨_, rfl⟩
      unfold eT at hx hy
      rw [hd] at hx hy
      have ht : (d.toList == d.toList) = true := txt_eq rfl
      clear hd
      go_wp2
      go_quiet (fail)
      go_wp2
      go_roundw
      case rel => exact ⟨k + 1, q + nq, by omega, by go_num, rfl⟩
      case measure => simp [intOf]; omega
    · obtain rfl : k = n := by omega
      go_wp2
      go_ret
      exact ⟨rfl, _, rfl⟩
set_option maxHeartbeats 2000000 in
set_option maxRecDepth 100000 in
theorem eqN_at (v v' : Value) (l : List Nat) (w : World) (hl : l.length ≤ 1000000000) (hv : Rw eN w v l) (hv' : Rw eN w v' l) :
    Calls Try.prog 15 #[v, v'] w fun e w' => e = .returned (.bool true) ∧ ∃ m, w' = w.drewN m := by
  obtain ⟨n, hn⟩ : ∃ n, l.length = n := ⟨_, rfl⟩
  obtain ⟨a, c, rfl, -, -, hc⟩ := hv.form hn
  obtain ⟨a', c', rfl, -, -, hc'⟩ := hv'.form hn
  rw [hn] at hl
  have HN := Lib.hid hn
  have HC := Lib.hid hc
  have HC' := Lib.hid hc'
  clear hn hc hc' hv hv'
  go_enter Try.func15, Try.ntmps15
  go_wp2
  go_loopw [5, 13] (fun _ i wr => ∃ (k q : Nat), k ≤ n ∧ i = .int .i64 (k : Int) ∧ wr = w.drewN q) (fun _ i _ => n - (intOf i).toNat)
  case atStart => exact ⟨0, 0, Nat.zero_le _, rfl, rfl⟩
  case round =>
    obtain ⟨k, q, hk, rfl, rfl⟩ := hrel
    by_cases hlt : k < n
    · have hk1 : k < l.length := by rw [HN.out]; exact hlt
      obtain ⟨b1, o1, rfl, hb1, hc1⟩ := HC.out (by omega)
      obtain ⟨b2, o2, rfl, hb2, hc2⟩ := HC'.out (by omega)
      have hx := hc1 k hk1
      have hy := hc2 k hk1
      clear hc1 hc2
      have hlt' : (k : Int) < (n : Int) := by omega
      obtain ⟨d, hd⟩ : ∃ d, l[k] = d := ⟨_, rfl⟩
      unfold eN at hx hy
      rw [hd] at hx hy
      clear hd
      go_wp2
      go_quiet (fail)
      go_wp2
      go_roundw
      case rel => exact ⟨k + 1, q + nq, by omega, by go_num, rfl⟩
      case measure => simp [intOf]; omega
    · obtain rfl : k = n := by omega
      go_wp2
      go_ret
      exact ⟨rfl, _, rfl⟩
set_option maxHeartbeats 2000000 in
set_option maxRecDepth 100000 in
theorem same_at (v v' : Value) (l : List UInt8) (w : World) (hl : l.length ≤ 1000000000) (hv : Rw eB w v l) (hv' : Rw eB w v' l) :
    Calls Try.prog 14 #[v, v'] w fun e w' => e = .returned (.bool true) ∧ ∃ m, w' = w.drewN m := by
  obtain ⟨n, hn⟩ : ∃ n, l.length = n := ⟨_, rfl⟩
  obtain ⟨a, c, rfl, -, -, hc⟩ := hv.form hn
  obtain ⟨a', c', rfl, -, -, hc'⟩ := hv'.form hn
  rw [hn] at hl
  have HN := Lib.hid hn
  have HC := Lib.hid hc
  have HC' := Lib.hid hc'
  clear hn hc hc' hv hv'
  go_enter Try.func14, Try.ntmps14
  go_wp2
  go_loopw [5] (fun i wr => ∃ (k q : Nat), k ≤ n ∧ i = .int .i64 (k : Int) ∧ wr = w.drewN q) (fun i _ => n - (intOf i).toNat)
  case atStart => exact ⟨0, 0, Nat.zero_le _, rfl, rfl⟩
  case round =>
    obtain ⟨k, q, hk, rfl, rfl⟩ := hrel
    by_cases hlt : k < n
    · have hk1 : k < l.length := by rw [HN.out]; exact hlt
      obtain ⟨b1, o1, rfl, hb1, hc1⟩ := HC.out (by omega)
      obtain ⟨b2, o2, rfl, hb2, hc2⟩ := HC'.out (by omega)
      have hx := hc1 k hk1
      have hy := hc2 k hk1
      clear hc1 hc2
      have hlt' : (k : Int) < (n : Int) := by omega
      obtain ⟨d, hd⟩ : ∃ d, l[k].toNat = d := ⟨_, rfl⟩
      unfold eB at hx hy
      rw [hd] at hx hy
      clear hd
      go_wp2
      go_quiet (fail)
      go_wp2
      go_roundw
      case rel => exact ⟨k + 1, q + nq, by omega, by go_num, rfl⟩
      case measure => simp [intOf]; omega
    · obtain rfl : k = n := by omega
      go_wp2
      go_ret
      exact ⟨rfl, _, rfl⟩
end Go.Proofs.Ytegdffebdbkchaa.L14
