/- The walks of the laws on texts, and of the law on Find: Builds, Inverts, Finds. Condition: memory holds the texts and the bytes; no text has more than 2^47 - 4096 bytes, and there are no more than 2^43 texts (no reading weighs more). -/
import Derived.Test.YtegdffebdbkchaaL14Lw
namespace Go.Proofs.Ytegdffebdbkchaa.L14
open Go.RowKit
attribute [local go_sem] Oper.semAt_some

/-- Texts that fit into a reading. -/
def TxR (l : List (List UInt8)) : Prop := l.length ≤ 8796093022208 ∧ ∀ t ∈ l, t.length ≤ 140737488351232

set_option maxHeartbeats 4000000 in
theorem builds_no (v : Value) (l : List (List UInt8)) (w : World) (h : Rw eT w v l) (hr : TxR l) (hf : ¬ (tot l ≤ 3000 ∧ l.length ≤ 300)) :
    Calls Try.prog 3 #[v] w fun e w' => e = .returned (.bool true) ∧ Below w.heap.size w w' := by
  have HF := Lib.hid (few_at v l w h hr.1 hr.2 false (by simp only [Bool.false_eq_true, false_iff]; exact hf))
  obtain ⟨a, c, rfl, -⟩ := h
  generalize l.length = n at HF ⊢
  clear hf hr
  go_enter Try.func3, Try.ntmps3
  go_wp2_with (first
    | (go_at_call 9; ((with_reducible refine (HF.out).mono ?_); rintro e w1 ⟨rfl, rfl⟩))
    | (go_at_call 10; ((with_reducible refine (alive14 _).mono ?_); rintro e w1 ⟨rfl, b1⟩)))
  go_ret
  exact ⟨rfl, b1⟩
/-- What the loop over the texts asks of Right. -/
theorem right_q (l : List (List UInt8)) (k : Nat) (hk : k < l.length) (ht : tot l ≤ 3000) (T : ByteArray) (hT : mkB l[k] = T) (b : Bool) (hb : rt l[k] = b) (w : World) :
    Calls Try.prog 12 #[.string T] w fun e w' => e = .returned (.bool b) ∧ w = w' := by
  have h1 := tot_step l k hk
  have h2 := tot_le l (k + 1)
  exact right_at l[k] T hT.symm (by omega) b hb w

set_option maxHeartbeats 4000000 in
set_option maxRecDepth 100000 in
theorem builds_walk (v : Value) (l : List (List UInt8)) (w : World) (h : Rw eT w v l) (hr : TxR l) :
    Calls Try.prog 3 #[v] w fun e w' => e = .returned (.bool true) ∧ Below w.heap.size w w' := by
  by_cases hf : tot l ≤ 3000 ∧ l.length ≤ 300
  · have HF := Lib.hid (few_at v l w h hr.1 hr.2 true (by simp only [true_iff]; exact hf))
    obtain ⟨hf1, hf2⟩ := hf
    obtain ⟨n, hn⟩ : ∃ n, l.length = n := ⟨_, rfl⟩
    obtain ⟨N, hN⟩ : ∃ N, (tb l).length = N := ⟨_, rfl⟩
    have hNl : N ≤ 100000 := by rw [← hN, tb_len]; omega
    have HN := Lib.hid hn
    have HT := Lib.hid hf1
    have HV := Lib.hid h
    by_cases hall : ∀ t ∈ l, rt t = true
    · have HB := Lib.hid (build_yes v l n N w h (by omega) (by omega) hall hn hN)
      have HR := Lib.hid (fun (W : World) (hb : Below w.heap.size w W) => rbuild_n v l n N W (h.below hb) (by omega) (by omega) hn hN)
      have HS := Lib.hid (fun (v v' : Value) (W : World) (h1 : Rw eB W v (tb l)) (h2 : Rw eB W v' (tb l)) => same_at v v' (tb l) W (by omega) h1 h2)
      have HI := Lib.hid (fun (v v' : Value) (W : World) (h1 : Rw eN W v (ofs 1 l)) (h2 : Rw eN W v' (ofs 1 l)) => eqN_at v v' (ofs 1 l) W (by rw [ofs_len]; omega) h1 h2)
      have HA := Lib.hid hall
      obtain ⟨a, c, rfl, -, -, hc⟩ := h.form hn
      have HC := Lib.hid hc
      have hnl : n ≤ 300 := by omega
      clear h hr hf1 hf2 hn hN hall hc
      go_enter Try.func3, Try.ntmps3
      go_wp2_with (first
        | (go_at_call 9; ((with_reducible refine (HF.out).mono ?_); rintro e w1 ⟨rfl, rfl⟩))
        | (go_at_call 11; ((with_reducible refine (HB.out).mono ?_); rintro e w1 ⟨⟨a1, c1, a2, c2, rfl, x1, y1⟩, b1⟩)))
      have X1 := Lib.hid x1
      have Y1 := Lib.hid y1
      have HB1 := Lib.hid b1
      clear x1 y1 b1
      go_loop [7, 22] (fun _ i => ∃ k : Nat, k ≤ n ∧ i = .int .i64 (k : Int)) (fun _ i => n - (intOf i).toNat)
      case atStart => exact ⟨0, Nat.zero_le _, rfl⟩
      case round =>
        obtain ⟨k, hk, rfl⟩ := hrel
        by_cases hlt : k < n
        · have hkl : k < l.length := by rw [HN.out]; exact hlt
          obtain ⟨bb, o, rfl, hbb, hcc⟩ := HC.out (by omega)
          have hx := (HB1.out.cell (p := ⟨bb, o + k, none⟩) (by exact hbb)).trans (hcc k hkl)
          unfold eT at hx
          obtain ⟨T, hT⟩ : ∃ T, mkB l[k] = T := ⟨_, rfl⟩
          rw [hT] at hx
          have HQ := Lib.hid (fun W => right_q l k hkl HT.out T hT true (HA.out _ (List.getElem_mem hkl)) W)
          have hlt' : (k : Int) < (n : Int) := by omega
          clear hcc hT
          go_wp2_with (go_at_call 12; ((with_reducible refine (HQ.out _).mono ?_); rintro e w2 ⟨rfl, rfl⟩))
          go_round
          case rel => exact ⟨k + 1, by omega, by go_num⟩
          case measure => simp [intOf]; omega
        · obtain rfl : k = n := by omega
          have x1 := X1.out
          have y1 := Y1.out
          have b1 := HB1.out
          go_wp2_with (first
            | (go_at_call 13; ((with_reducible refine (HR.out _ b1).mono ?_); rintro e w3 ⟨⟨a3, c3, a4, c4, rfl, x3, y3⟩, b3⟩; have B3 := bch b1 b3; have x2 := x1.below b3; have y2 := y1.below b3))
            | (go_at_call 10; ((with_reducible refine (alive14 _).mono ?_); rintro e w4 ⟨rfl, b4⟩; have B4 := bch B3 b4; have x4 := x2.below b4; have y4 := y2.below b4; have x5 := x3.below b4; have y5 := y3.below b4))
            | (go_at_call 14; ((with_reducible refine (HS.out _ _ _ x4 x5).mono ?_); rintro e w5 ⟨rfl, m5, rfl⟩; have y6 := y4.below (bdN (Below.refl _ _) m5); have y7 := y5.below (bdN (Below.refl _ _) m5)))
            | (go_at_call 15; ((with_reducible refine (HI.out _ _ _ y6 y7).mono ?_); rintro e w6 ⟨rfl, m6, rfl⟩)))
          go_ret
          exact ⟨rfl, bdN B4 (m5 + m6)⟩
    · have hbad : ∃ t ∈ l, rt t = false := by
        simpa using hall
      have HB := Lib.hid (build_no v l w h (by omega) (by omega) hbad)
      have HBD := Lib.hid hbad
      obtain ⟨a, c, rfl, -, -, hc⟩ := h.form hn
      have HC := Lib.hid hc
      have hnl : n ≤ 300 := by omega
      clear h hr hf1 hf2 hn hN hall hc hbad
      go_enter Try.func3, Try.ntmps3
      go_wp2_with (first
        | (go_at_call 9; ((with_reducible refine (HF.out).mono ?_); rintro e w1 ⟨rfl, rfl⟩))
        | (go_at_call 11; ((with_reducible refine (HB.out).mono ?_); rintro e w1 ⟨rfl, b1⟩)))
      have HB1 := Lib.hid b1
      clear b1
      go_loop [7, 22] (fun _ i => ∃ k : Nat, k ≤ n ∧ i = .int .i64 (k : Int) ∧ Hid (∀ t ∈ l.take k, rt t = true)) (fun _ i => n - (intOf i).toNat)
      case atStart => exact ⟨0, Nat.zero_le _, rfl, Lib.hid (by simp)⟩
      case round =>
        obtain ⟨k, hk, rfl, hA⟩ := hrel
        by_cases hlt : k < n
        · have hkl : k < l.length := by rw [HN.out]; exact hlt
          obtain ⟨bb, o, rfl, hbb, hcc⟩ := HC.out (by omega)
          have hx := (HB1.out.cell (p := ⟨bb, o + k, none⟩) (by exact hbb)).trans (hcc k hkl)
          unfold eT at hx
          obtain ⟨T, hT⟩ : ∃ T, mkB l[k] = T := ⟨_, rfl⟩
          rw [hT] at hx
          have hlt' : (k : Int) < (n : Int) := by omega
          cases hq : rt l[k] with
          | true =>
            have HQ := Lib.hid (fun W => right_q l k hkl HT.out T hT true hq W)
            have hA2 : ∀ t ∈ l.take (k + 1), rt t = true := by
              rw [take_snoc l k hkl]
              intro t ht
              rcases List.mem_append.1 ht with h | h
              · exact hA.out t h
              · rw [List.mem_singleton.1 h]; exact hq
            have HA2 := Lib.hid hA2
            clear hcc hT hq hA2 hA
            go_wp2_with (go_at_call 12; ((with_reducible refine (HQ.out _).mono ?_); rintro e w2 ⟨rfl, rfl⟩))
            go_round
            case rel => exact ⟨k + 1, by omega, by go_num, HA2⟩
            case measure => simp [intOf]; omega
          | false =>
            have HQ := Lib.hid (fun W => right_q l k hkl HT.out T hT false hq W)
            clear hcc hT hq hA
            go_wp2_with (first
              | (go_at_call 12; ((with_reducible refine (HQ.out _).mono ?_); rintro e w2 ⟨rfl, rfl⟩))
              | (go_at_call 10; ((with_reducible refine (alive14 _).mono ?_); rintro e w4 ⟨rfl, b4⟩)))
            go_ret
            exact ⟨rfl, bch HB1.out b4⟩
        · exfalso
          obtain rfl : k = n := by omega
          obtain ⟨t, h1, h2⟩ := HBD.out
          have e : l.take k = l := List.take_of_length_le (by rw [HN.out]; exact Nat.le_refl _)
          have h3 := hA.out t (by rw [e]; exact h1)
          rw [h2] at h3; cases h3
  · exact builds_no v l w h hr hf
end Go.Proofs.Ytegdffebdbkchaa.L14
