/- The walks of the laws Writes, Reads, Inverts, IsCanonical. Condition: memory holds the sections and the bytes; there are no more than 2^63 sections. -/
import Derived.Test.YtdamijicombmkaaL15Al
namespace Go.Proofs.Ytdamijicombmkaa.L15
open Go.RowKit L14
attribute [local go_sem] Oper.semAt_some

theorem few_sml {l : List Sc} (h : (∀ s ∈ l, s.2.length ≤ 500) ∧ l.length ≤ 30) : Sml l := ⟨by omega, fun s hs => by have := h.1 s hs; omega⟩
theorem ne_i64 (a : Int) : (a != a) = false := by simp
theorem eq_i64 (a : Int) : (a == a) = true := by simp
set_option maxHeartbeats 4000000 in
set_option maxRecDepth 100000 in
theorem writes_walk (v : Value) (l : List Sc) (w : World) (h : Ss w v l) (hl : l.length ≤ 9223372036854775807) :
    Calls Try.prog 3 #[v] w fun e w' => e = .returned (.bool true) ∧ Below w.heap.size w w' := by
  by_cases hf : (∀ s ∈ l, s.2.length ≤ 500) ∧ l.length ≤ 30
  · have HF := Lib.hid (few_at v l true w h hl (by simpa using hf))
    have hs := few_sml hf
    obtain ⟨n, hn⟩ : ∃ n, l.length = n := ⟨_, rfl⟩
    have hn30 : n ≤ 30 := by rw [← hn]; exact hf.2
    obtain ⟨S, hS⟩ : ∃ S, szL l = S := ⟨_, rfl⟩
    obtain ⟨R, hR⟩ : ∃ R, chkV l = R := ⟨_, rfl⟩
    have HFw := Lib.hid (fun W (hb : Below w.heap.size w W) => forward_at v l n W (h.below hb) hn (by omega))
    have HSz := Lib.hid (fun W v (hv : Ss W v l) => size_at v l S W hv hs hS)
    have HRs := Lib.hid (fun W (hb : Below w.heap.size w W) => rsize_at v l S W (h.below hb) hs hS)
    have HRc := Lib.hid (fun W (hb : Below w.heap.size w W) => rcheck_at v l R W (h.below hb) hs hR)
    have e1 := ne_i64 (S : Int)
    obtain ⟨a, c, rfl, -⟩ := h.form hn
    by_cases h0 : R = 0
    · subst h0
      have hfw := fw_of hs hR
      have hSb := hfw.sz
      rw [hS] at hSb
      have HW := Lib.hid (fun W v (hv : Ss W v l) => write_yes v l S W hv hs hR hS)
      have HRw := Lib.hid (fun W (hb : Below w.heap.size w W) => rwrite_at (.slice a n c) l W (h.below hb) hfw (chk0.1 hR).2 S hS)
      have HWL := Lib.hid (show (wr l).length = S by rw [wr_len, hS])
      have HSm := Lib.hid (fun W v v' (h1 : Rw eB W v (wr l)) (h2 : Rw eB W v' (wr l)) => rsameB_at v v' (wr l) (wr l) true W (by rw [HWL.out]; omega) (by rw [HWL.out]; omega) h1 h2 (by simp))
      clear h hl hf hs hn hS hR hfw
      go_enter Try.func3, Try.ntmps3
      go_wp2_with (first
        | (go_at_call 9; ((with_reducible refine (HF.out).mono ?_); rintro e w1 ⟨rfl, b1⟩))
        | (go_at_call 12; ((with_reducible refine (HFw.out _ b1).mono ?_); rintro e w2 ⟨⟨a2, c2, rfl, s2⟩, b2⟩; have B2 := bch b1 b2))
        | (go_at_call 11; ((with_reducible refine (HW.out _ _ s2).mono ?_); rintro e w3 ⟨⟨a3, c3, rfl, r3⟩, b3⟩; have B3 := bch B2 b3))
        | (go_at_call 12; ((with_reducible refine (HFw.out _ B3).mono ?_); rintro e w4 ⟨⟨a4, c4, rfl, s4⟩, b4⟩; have B4 := bch B3 b4; have r4 := r3.below b4))
        | (go_at_call 13; ((with_reducible refine (HSz.out _ _ s4).mono ?_); rintro e w5 ⟨rfl, b5⟩; have B5 := bch B4 b5; have r5 := r4.below b5))
        | (go_at_call 14; ((with_reducible refine (HRs.out _ B5).mono ?_); rintro e w6 ⟨rfl, rfl⟩))
        | (go_at_call 15; ((with_reducible refine (HRc.out _ B5).mono ?_); rintro e w7 ⟨rfl, q7, hw7⟩; have b7 : Below w5.heap.size w5 w7 := (by rw [hw7]; exact bdN (Below.refl _ _) q7); clear hw7; have B7 := bch B5 b7; have r7 := r5.below b7))
        | (go_at_call 10; ((with_reducible refine (alive15 _).mono ?_); rintro e w8 ⟨rfl, b8⟩; have B8 := bch B7 b8; have r8 := r7.below b8))
        | (go_at_call 17; ((with_reducible refine (HRw.out _ B8).mono ?_); rintro e w9 ⟨⟨a9, c9, rfl, o9⟩, b9, z9⟩; have B9 := bch B8 b9; have r9 := r8.below b9; have y9 : Rw eB w9 (.slice a9 S c9) (wr l) := (by have e := HWL.out; subst e; exact Rw.own o9)))
        | (go_at_call 16; ((with_reducible refine (HSm.out _ _ _ r9 y9).mono ?_); rintro e w10 ⟨rfl, q10, rfl⟩)))
      go_ret
      exact ⟨rfl, bdN B9 _⟩
    · have HW := Lib.hid (fun W v (hv : Ss W v l) => write_no v l R W hv hs hR h0)
      have e2 : (R != 0) = true := by simpa using h0
      have e3 := eq_i64 R
      clear h hl hf hs hn hS hR h0
      go_enter Try.func3, Try.ntmps3
      go_wp2_with (first
        | (go_at_call 9; ((with_reducible refine (HF.out).mono ?_); rintro e w1 ⟨rfl, b1⟩))
        | (go_at_call 12; ((with_reducible refine (HFw.out _ b1).mono ?_); rintro e w2 ⟨⟨a2, c2, rfl, s2⟩, b2⟩; have B2 := bch b1 b2))
        | (go_at_call 11; ((with_reducible refine (HW.out _ _ s2).mono ?_); rintro e w3 ⟨rfl, b3⟩; have B3 := bch B2 b3))
        | (go_at_call 12; ((with_reducible refine (HFw.out _ B3).mono ?_); rintro e w4 ⟨⟨a4, c4, rfl, s4⟩, b4⟩; have B4 := bch B3 b4))
        | (go_at_call 13; ((with_reducible refine (HSz.out _ _ s4).mono ?_); rintro e w5 ⟨rfl, b5⟩; have B5 := bch B4 b5))
        | (go_at_call 14; ((with_reducible refine (HRs.out _ B5).mono ?_); rintro e w6 ⟨rfl, rfl⟩))
        | (go_at_call 15; ((with_reducible refine (HRc.out _ B5).mono ?_); rintro e w7 ⟨rfl, q7, hw7⟩; have b7 : Below w5.heap.size w5 w7 := (by rw [hw7]; exact bdN (Below.refl _ _) q7); clear hw7; have B7 := bch B5 b7))
        | (go_at_call 10; ((with_reducible refine (alive15 _).mono ?_); rintro e w8 ⟨rfl, b8⟩; have B8 := bch B7 b8)))
      go_ret
      exact ⟨rfl, B8⟩
  · have HF := Lib.hid (few_at v l false w h hl (by simpa using hf))
    obtain ⟨a, c, rfl, -⟩ := h
    generalize l.length = n at HF ⊢
    clear hf hl
    go_enter Try.func3, Try.ntmps3
    go_wp2_with (first
      | (go_at_call 9; ((with_reducible refine (HF.out).mono ?_); rintro e w1 ⟨rfl, b1⟩))
      | (go_at_call 10; ((with_reducible refine (alive15 _).mono ?_); rintro e w8 ⟨rfl, b8⟩)))
    go_ret
    exact ⟨rfl, bch b1 b8⟩
end Go.Proofs.Ytdamijicombmkaa.L15
