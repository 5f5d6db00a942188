/- What the reference's Identify returns: the same operation as the program's. No condition. -/
import Derived.Test.YthebdblncafijaaDoorL3Idf
import Derived.Test.YthebdblncafijaaDoorL3Rfx
import Derived.Test.YthebdblncafijaaDoorL3Rcd
namespace Go.Proofs.YthebdblncafijaaDoor.L3
open Go.RowKit

theorem grp1 : ∀ k, k < 86 → 35 ≤ k → k ≤ 43 → fm k = 1 ∧ im k ≠ 0 := by decide +kernel
theorem grp2 : ∀ k, k < 86 → 84 ≤ k → fm k = 10 ∨ fm k = 11 := by decide +kernel
theorem grp3 : ∀ k, k < 84 → k < 35 ∨ 43 < k → fm k ≠ 10 ∧ fm k ≠ 11 ∧ (fm k = 1 → im k = 0) ∧ (fm k = 2 → k < 35) := by decide +kernel
theorem grp (k : Nat) (hk : k < 86) : ((35 ≤ k ∧ k ≤ 43) ∧ fm k = 1 ∧ im k ≠ 0) ∨ (84 ≤ k ∧ (fm k = 10 ∨ fm k = 11)) ∨ (k < 35 ∧ fm k = 0) ∨ ((43 < k ∧ k < 84) ∧ fm k = 0) ∨ (k < 35 ∧ fm k = 2) ∨
    (k < 35 ∧ fm k ≠ 0 ∧ fm k ≠ 2 ∧ fm k ≠ 10 ∧ fm k ≠ 11 ∧ (fm k = 1 → im k = 0)) ∨ ((43 < k ∧ k < 84) ∧ fm k ≠ 0 ∧ fm k ≠ 2 ∧ fm k ≠ 10 ∧ fm k ≠ 11 ∧ (fm k = 1 → im k = 0)) := by
  by_cases h1 : 35 ≤ k ∧ k ≤ 43
  · exact Or.inl ⟨h1, grp1 k hk h1.1 h1.2⟩
  · by_cases h2 : 84 ≤ k
    · exact Or.inr (Or.inl ⟨h2, grp2 k hk h2⟩)
    · obtain ⟨a, b, c, d⟩ := grp3 k (by omega) (by omega)
      by_cases h3 : k < 35
      · by_cases h4 : fm k = 0
        · exact Or.inr (Or.inr (Or.inl ⟨h3, h4⟩))
        · by_cases h5 : fm k = 2
          · exact Or.inr (Or.inr (Or.inr (Or.inr (Or.inl ⟨h3, h5⟩))))
          · exact Or.inr (Or.inr (Or.inr (Or.inr (Or.inr (Or.inl ⟨h3, h4, h5, a, b, c⟩)))))
      · by_cases h4 : fm k = 0
        · exact Or.inr (Or.inr (Or.inr (Or.inl ⟨⟨by omega, by omega⟩, h4⟩)))
        · exact Or.inr (Or.inr (Or.inr (Or.inr (Or.inr (Or.inr ⟨⟨by omega, by omega⟩, h4, fun e => h3 (d e), a, b, c⟩)))))

theorem sm_a {src off imm r o i : Int} {e : Bool} (hi : i ≠ 0) (he : (i != imm) = e) : ((wiR 1 src r == r) && (wiO 1 off o == o) && (wiI 1 imm i == i)) = !e := by
  have h : wiI 1 imm i = imm := by simp [wiI, hi]
  rw [h, ← he, show wiR 1 src r = r from rfl, show wiO 1 off o = o from rfl]
  simp only [bne, beq_self_eq_true, Bool.true_and, Bool.not_not]
  rw [Bool.eq_iff_iff]
  simp only [beq_iff_eq]
  exact eq_comm
theorem sm_b {f src off imm r o i : Int} {e : Bool} (hf : f = 10 ∨ f = 11) (he : (r != src) = e) : ((wiR f src r == r) && (wiO f off o == o) && (wiI f imm i == i)) = !e := by
  have h : wiR f src r = src ∧ wiO f off o = o ∧ wiI f imm i = i := by rcases hf with rfl | rfl <;> exact ⟨rfl, rfl, rfl⟩
  rw [h.1, h.2.1, h.2.2, ← he]
  simp only [bne, beq_self_eq_true, Bool.and_true, Bool.not_not]
  rw [Bool.eq_iff_iff]
  simp only [beq_iff_eq]
  exact eq_comm
theorem sm_c {f src off imm r o i : Int} {e : Bool} (hf : f = 0 ∨ f = 2) (he : (o != off) = e) : ((wiR f src r == r) && (wiO f off o == o) && (wiI f imm i == i)) = !e := by
  have h : wiR f src r = r ∧ wiO f off o = off ∧ wiI f imm i = i := by rcases hf with rfl | rfl <;> exact ⟨rfl, rfl, rfl⟩
  rw [h.1, h.2.1, h.2.2, ← he]
  simp only [bne, beq_self_eq_true, Bool.and_true, Bool.true_and, Bool.not_not]
  rw [Bool.eq_iff_iff]
  simp only [beq_iff_eq]
  exact eq_comm
theorem sm_r {f src off imm r o i : Int} (h0 : f ≠ 0) (h2 : f ≠ 2) (h10 : f ≠ 10) (h11 : f ≠ 11) (h1 : f = 1 → i = 0) : ((wiR f src r == r) && (wiO f off o == o) && (wiI f imm i == i)) = !false := by
  have a : wiR f src r = r := by simp [wiR, h10, h11]
  have b : wiO f off o = o := by simp [wiO, h0, h2]
  have c : wiI f imm i = i := by
    by_cases hf : f = 1
    · simp [wiI, h1 hf]
    · simp [wiI, hf]
  rw [a, b, c]
  simp

/-- What a row's hit means for the search: the reference's way. -/
theorem hit_r {code src off imm : Int} {k : Nat} {s : ByteArray} {f b c r o i v : Int} {t b8 bc e : Bool} (h : Is k s f b c r o i) (hk : k < 86) (ht : isR f = t) (hv : cdV k true = v) (h8 : (v == code) = b8) (hc : (c == code) = bc)
    (hs : ((wiR f src r == r) && (wiO f off o == o) && (wiI f imm i == i)) = !e) {n : Nat} {R : Int × Bool × Bool} (hR : idF code src off imm (n + 1) k = R) :
    R = if e then idF code src off imm n (k + 1) else if bc then ((k : Int), false, true) else if t && b8 then ((k : Int), true, true) else idF code src off imm n (k + 1) := by
  have hB : cdB k true = t := by rw [cdB, decide_eq_true hk, h.fm, ht]; rfl
  have hV : t = true → v = (c + 8) % 256 := by
    intro e; rw [← hv, cdV, hB, e, ← h.cd]; rfl
  have hw := hit_is h ht rfl ((Bool.beq_comm (a := code) (b := c)).trans hc) hs hR
  rw [hw]
  cases e
  · cases bc
    · cases t
      · rfl
      · have e8 : (code == (c + 8) % 256) = b8 := by rw [← hV rfl, ← h8]; exact Bool.beq_comm
        rw [e8]
        cases b8 <;> rfl
    · obtain rfl : c = code := by simpa using hc
      have e8 : (c == (c + 8) % 256) = false := by rw [beq_eq_false_iff_ne]; omega
      rw [e8]
      cases t <;> rfl
  · cases t <;> cases bc <;> simp

set_option maxHeartbeats 8000000 in
set_option maxRecDepth 100000 in
theorem rident_any (code src off imm : Int) (w : World) : Calls Tryd.prog 45 #[.int .u8 code, .int .i64 src, .int .i64 off, .int .i64 imm] w fun e w' =>
    e = .returned (.tuple #[.int .i64 (idF code src off imm 86 0).1, .bool (idF code src off imm 86 0).2.1, .bool (idF code src off imm 86 0).2.2]) ∧ Below w.heap.size w w' := by
  obtain ⟨R, hR⟩ : ∃ R, idF code src off imm 86 0 = R := ⟨_, rfl⟩
  have HR := Lib.hid hR
  rw [hR]
  clear hR
  go_enter Tryd.func45, Tryd.ntmps45
  go_wp2
  go_loopw [11] (fun i wr => ∃ k : Nat, k ≤ 86 ∧ i = .int .i64 k ∧ Below w.heap.size w wr ∧ Hid (idF code src off imm (86 - k) k = R)) (fun i _ => 86 - (intOf i).toNat)
  case atStart => exact ⟨0, by omega, rfl, Below.refl _ _, HR⟩
  case round =>
    obtain ⟨k, hk, rfl, hnx, hQ⟩ := hrel
    by_cases hlt : k < 86
    · have hle : decide ((k : Int) ≤ 85) = true := by rw [decide_eq_true_iff]; omega
      obtain ⟨s, f, b, c, r, o, i, hI⟩ := Is.some k
      obtain ⟨t, ht⟩ : ∃ t, isR f = t := ⟨_, rfl⟩
      obtain ⟨v, hv⟩ : ∃ v, cdV k true = v := ⟨_, rfl⟩
      obtain ⟨b8, h8⟩ : ∃ b8, (v == code) = b8 := ⟨_, rfl⟩
      obtain ⟨bc, hbc⟩ : ∃ bc, (c == code) = bc := ⟨_, rfl⟩
      have H1 : Hid (sr (ix (k : Int)) = r) := Lib.hid (by rw [ix_nat hlt]; exact hI.sr)
      have H2 : Hid (of (ix (k : Int)) = o) := Lib.hid (by rw [ix_nat hlt]; exact hI.of)
      have H3 : Hid (im (ix (k : Int)) = i) := Lib.hid (by rw [ix_nat hlt]; exact hI.im)
      have H4 : Hid (frm (ix (k : Int)) = f) := Lib.hid (by rw [ix_nat hlt, frm, if_pos hlt]; exact hI.fm)
      have H5 : Hid (cdB (ix (k : Int)) false = true) := Lib.hid (by rw [ix_nat hlt, cdB, decide_eq_true hlt]; rfl)
      have H6 : Hid (cdV (ix (k : Int)) false = c) := Lib.hid (by rw [ix_nat hlt, cdV, show cdB k false = true by rw [cdB, decide_eq_true hlt]; rfl]; exact hI.cd)
      have H7 : Hid (cdB (ix (k : Int)) true = t) := Lib.hid (by rw [ix_nat hlt, cdB, decide_eq_true hlt, hI.fm, ht]; rfl)
      have H8 : Hid (cdV (ix (k : Int)) true = v) := Lib.hid (by rw [ix_nat hlt]; exact hv)
      have HL := Lib.hid hlt
      have hg := grp k hlt
      rw [hI.fm, hI.im] at hg
      have hQ2 : idF code src off imm (86 - (k + 1) + 1) k = R := by rw [← hQ.out, show 86 - k = 86 - (k + 1) + 1 by omega]
      have hb64 : (k : Int) < 86 := by omega
      rcases hg with ⟨hr, rfl, hi⟩ | ⟨hr, hf⟩ | ⟨hr, rfl⟩ | ⟨hr, rfl⟩ | ⟨hr, rfl⟩ | ⟨hr, h0, h2, h10, h11, h1⟩ | ⟨hr, h0, h2, h10, h11, h1⟩
      · obtain ⟨e, he⟩ : ∃ e, (i != imm) = e := ⟨_, rfl⟩
        have HG := Lib.hid (hit_r hI hlt ht hv h8 hbc (sm_a hi he) hQ2)
        have f3 : decide ((35 : Int) ≤ (k : Int)) = true := by rw [decide_eq_true_iff]; omega
        have f4 : decide ((k : Int) ≤ 43) = true := by rw [decide_eq_true_iff]; omega
        have f5 : decide ((84 : Int) ≤ (k : Int)) = false := by rw [decide_eq_false_iff_not]; omega
        clear hI ht hv hk hQ2 hr hi
        cases e
        · cases bc
          · cases t
            · clear h8
              have HN : Hid (idF code src off imm (86 - (k + 1)) (k + 1) = R) := Lib.hid (by rw [HG.out]; rfl)
              go_wp2_with (first | (go_at_call 36; ((with_reducible refine (rfixed_at _ _ _ _ _ H1.out H2.out H3.out).mono ?_); rintro e w1 ⟨rfl, hb1⟩)) | (go_at_call 28; ((with_reducible refine (rform_at _ _ _ H4.out).mono ?_); rintro e w' ⟨rfl, rfl⟩)) | (go_at_call 35; ((with_reducible refine (rcode_at _ _ _ _ _ H6.out H5.out).mono ?_); rintro e w2 ⟨rfl, hb2⟩)) | (go_at_call 35; ((with_reducible refine (rcode_at _ _ _ _ _ H8.out H7.out).mono ?_); rintro e w3 ⟨rfl, hb3⟩)))
              go_roundw
              case rel => exact ⟨k + 1, HL.out, by go_num, bch (bch (bch hnx hb1) hb2) hb3, HN⟩
              case measure => simp [intOf]; omega
            · cases b8
              · have HN : Hid (idF code src off imm (86 - (k + 1)) (k + 1) = R) := Lib.hid (by rw [HG.out]; rfl)
                go_wp2_with (first | (go_at_call 36; ((with_reducible refine (rfixed_at _ _ _ _ _ H1.out H2.out H3.out).mono ?_); rintro e w1 ⟨rfl, hb1⟩)) | (go_at_call 28; ((with_reducible refine (rform_at _ _ _ H4.out).mono ?_); rintro e w' ⟨rfl, rfl⟩)) | (go_at_call 35; ((with_reducible refine (rcode_at _ _ _ _ _ H6.out H5.out).mono ?_); rintro e w2 ⟨rfl, hb2⟩)) | (go_at_call 35; ((with_reducible refine (rcode_at _ _ _ _ _ H8.out H7.out).mono ?_); rintro e w3 ⟨rfl, hb3⟩)))
                go_roundw
                case rel => exact ⟨k + 1, HL.out, by go_num, bch (bch (bch hnx hb1) hb2) hb3, HN⟩
                case measure => simp [intOf]; omega
              · go_wp2_with (first | (go_at_call 36; ((with_reducible refine (rfixed_at _ _ _ _ _ H1.out H2.out H3.out).mono ?_); rintro e w1 ⟨rfl, hb1⟩)) | (go_at_call 28; ((with_reducible refine (rform_at _ _ _ H4.out).mono ?_); rintro e w' ⟨rfl, rfl⟩)) | (go_at_call 35; ((with_reducible refine (rcode_at _ _ _ _ _ H6.out H5.out).mono ?_); rintro e w2 ⟨rfl, hb2⟩)) | (go_at_call 35; ((with_reducible refine (rcode_at _ _ _ _ _ H8.out H7.out).mono ?_); rintro e w3 ⟨rfl, hb3⟩)))
                go_ret3
                exact ⟨by rw [HG.out] <;> rfl, bch (bch (bch hnx hb1) hb2) hb3⟩
          · go_wp2_with (first | (go_at_call 36; ((with_reducible refine (rfixed_at _ _ _ _ _ H1.out H2.out H3.out).mono ?_); rintro e w1 ⟨rfl, hb1⟩)) | (go_at_call 28; ((with_reducible refine (rform_at _ _ _ H4.out).mono ?_); rintro e w' ⟨rfl, rfl⟩)) | (go_at_call 35; ((with_reducible refine (rcode_at _ _ _ _ _ H6.out H5.out).mono ?_); rintro e w2 ⟨rfl, hb2⟩)) | (go_at_call 35; ((with_reducible refine (rcode_at _ _ _ _ _ H8.out H7.out).mono ?_); rintro e w3 ⟨rfl, hb3⟩)))
            go_ret3
            exact ⟨by rw [HG.out] <;> rfl, bch (bch hnx hb1) hb2⟩
        · clear h8 hbc
          have HN : Hid (idF code src off imm (86 - (k + 1)) (k + 1) = R) := Lib.hid (by rw [HG.out]; rfl)
          go_wp2_with (first | (go_at_call 36; ((with_reducible refine (rfixed_at _ _ _ _ _ H1.out H2.out H3.out).mono ?_); rintro e w1 ⟨rfl, hb1⟩)) | (go_at_call 28; ((with_reducible refine (rform_at _ _ _ H4.out).mono ?_); rintro e w' ⟨rfl, rfl⟩)) | (go_at_call 35; ((with_reducible refine (rcode_at _ _ _ _ _ H6.out H5.out).mono ?_); rintro e w2 ⟨rfl, hb2⟩)) | (go_at_call 35; ((with_reducible refine (rcode_at _ _ _ _ _ H8.out H7.out).mono ?_); rintro e w3 ⟨rfl, hb3⟩)))
          go_roundw
          case rel => exact ⟨k + 1, HL.out, by go_num, bch hnx hb1, HN⟩
          case measure => simp [intOf]; omega
      · obtain ⟨e, he⟩ : ∃ e, (r != src) = e := ⟨_, rfl⟩
        have HG := Lib.hid (hit_r hI hlt ht hv h8 hbc (sm_b hf he) hQ2)
        have f1 : (f == 0) = false := by rw [beq_eq_false_iff_ne]; omega
        have f2 : (f == 2) = false := by rw [beq_eq_false_iff_ne]; omega
        have f3 : decide ((35 : Int) ≤ (k : Int)) = true := by rw [decide_eq_true_iff]; omega
        have f4 : decide ((k : Int) ≤ 43) = false := by rw [decide_eq_false_iff_not]; omega
        have f5 : decide ((84 : Int) ≤ (k : Int)) = true := by rw [decide_eq_true_iff]; omega
        clear hI ht hv hk hQ2 hr hf
        cases e
        · cases bc
          · cases t
            · clear h8
              have HN : Hid (idF code src off imm (86 - (k + 1)) (k + 1) = R) := Lib.hid (by rw [HG.out]; rfl)
              go_wp2_with (first | (go_at_call 36; ((with_reducible refine (rfixed_at _ _ _ _ _ H1.out H2.out H3.out).mono ?_); rintro e w1 ⟨rfl, hb1⟩)) | (go_at_call 28; ((with_reducible refine (rform_at _ _ _ H4.out).mono ?_); rintro e w' ⟨rfl, rfl⟩)) | (go_at_call 35; ((with_reducible refine (rcode_at _ _ _ _ _ H6.out H5.out).mono ?_); rintro e w2 ⟨rfl, hb2⟩)) | (go_at_call 35; ((with_reducible refine (rcode_at _ _ _ _ _ H8.out H7.out).mono ?_); rintro e w3 ⟨rfl, hb3⟩)))
              go_roundw
              case rel => exact ⟨k + 1, HL.out, by go_num, bch (bch (bch hnx hb1) hb2) hb3, HN⟩
              case measure => simp [intOf]; omega
            · cases b8
              · have HN : Hid (idF code src off imm (86 - (k + 1)) (k + 1) = R) := Lib.hid (by rw [HG.out]; rfl)
                go_wp2_with (first | (go_at_call 36; ((with_reducible refine (rfixed_at _ _ _ _ _ H1.out H2.out H3.out).mono ?_); rintro e w1 ⟨rfl, hb1⟩)) | (go_at_call 28; ((with_reducible refine (rform_at _ _ _ H4.out).mono ?_); rintro e w' ⟨rfl, rfl⟩)) | (go_at_call 35; ((with_reducible refine (rcode_at _ _ _ _ _ H6.out H5.out).mono ?_); rintro e w2 ⟨rfl, hb2⟩)) | (go_at_call 35; ((with_reducible refine (rcode_at _ _ _ _ _ H8.out H7.out).mono ?_); rintro e w3 ⟨rfl, hb3⟩)))
                go_roundw
                case rel => exact ⟨k + 1, HL.out, by go_num, bch (bch (bch hnx hb1) hb2) hb3, HN⟩
                case measure => simp [intOf]; omega
              · go_wp2_with (first | (go_at_call 36; ((with_reducible refine (rfixed_at _ _ _ _ _ H1.out H2.out H3.out).mono ?_); rintro e w1 ⟨rfl, hb1⟩)) | (go_at_call 28; ((with_reducible refine (rform_at _ _ _ H4.out).mono ?_); rintro e w' ⟨rfl, rfl⟩)) | (go_at_call 35; ((with_reducible refine (rcode_at _ _ _ _ _ H6.out H5.out).mono ?_); rintro e w2 ⟨rfl, hb2⟩)) | (go_at_call 35; ((with_reducible refine (rcode_at _ _ _ _ _ H8.out H7.out).mono ?_); rintro e w3 ⟨rfl, hb3⟩)))
                go_ret3
                exact ⟨by rw [HG.out] <;> rfl, bch (bch (bch hnx hb1) hb2) hb3⟩
          · go_wp2_with (first | (go_at_call 36; ((with_reducible refine (rfixed_at _ _ _ _ _ H1.out H2.out H3.out).mono ?_); rintro e w1 ⟨rfl, hb1⟩)) | (go_at_call 28; ((with_reducible refine (rform_at _ _ _ H4.out).mono ?_); rintro e w' ⟨rfl, rfl⟩)) | (go_at_call 35; ((with_reducible refine (rcode_at _ _ _ _ _ H6.out H5.out).mono ?_); rintro e w2 ⟨rfl, hb2⟩)) | (go_at_call 35; ((with_reducible refine (rcode_at _ _ _ _ _ H8.out H7.out).mono ?_); rintro e w3 ⟨rfl, hb3⟩)))
            go_ret3
            exact ⟨by rw [HG.out] <;> rfl, bch (bch hnx hb1) hb2⟩
        · clear h8 hbc
          have HN : Hid (idF code src off imm (86 - (k + 1)) (k + 1) = R) := Lib.hid (by rw [HG.out]; rfl)
          go_wp2_with (first | (go_at_call 36; ((with_reducible refine (rfixed_at _ _ _ _ _ H1.out H2.out H3.out).mono ?_); rintro e w1 ⟨rfl, hb1⟩)) | (go_at_call 28; ((with_reducible refine (rform_at _ _ _ H4.out).mono ?_); rintro e w' ⟨rfl, rfl⟩)) | (go_at_call 35; ((with_reducible refine (rcode_at _ _ _ _ _ H6.out H5.out).mono ?_); rintro e w2 ⟨rfl, hb2⟩)) | (go_at_call 35; ((with_reducible refine (rcode_at _ _ _ _ _ H8.out H7.out).mono ?_); rintro e w3 ⟨rfl, hb3⟩)))
          go_roundw
          case rel => exact ⟨k + 1, HL.out, by go_num, bch hnx hb1, HN⟩
          case measure => simp [intOf]; omega
      · obtain ⟨e, he⟩ : ∃ e, (o != off) = e := ⟨_, rfl⟩
        have HG := Lib.hid (hit_r hI hlt ht hv h8 hbc (sm_c (Or.inl rfl) he) hQ2)
        have f3 : decide ((35 : Int) ≤ (k : Int)) = false := by rw [decide_eq_false_iff_not]; omega
        have f5 : decide ((84 : Int) ≤ (k : Int)) = false := by rw [decide_eq_false_iff_not]; omega
        clear hI ht hv hk hQ2 hr
        cases e
        · cases bc
          · cases t
            · clear h8
              have HN : Hid (idF code src off imm (86 - (k + 1)) (k + 1) = R) := Lib.hid (by rw [HG.out]; rfl)
              go_wp2_with (first | (go_at_call 36; ((with_reducible refine (rfixed_at _ _ _ _ _ H1.out H2.out H3.out).mono ?_); rintro e w1 ⟨rfl, hb1⟩)) | (go_at_call 28; ((with_reducible refine (rform_at _ _ _ H4.out).mono ?_); rintro e w' ⟨rfl, rfl⟩)) | (go_at_call 35; ((with_reducible refine (rcode_at _ _ _ _ _ H6.out H5.out).mono ?_); rintro e w2 ⟨rfl, hb2⟩)) | (go_at_call 35; ((with_reducible refine (rcode_at _ _ _ _ _ H8.out H7.out).mono ?_); rintro e w3 ⟨rfl, hb3⟩)))
              go_roundw
              case rel => exact ⟨k + 1, HL.out, by go_num, bch (bch (bch hnx hb1) hb2) hb3, HN⟩
              case measure => simp [intOf]; omega
            · cases b8
              · have HN : Hid (idF code src off imm (86 - (k + 1)) (k + 1) = R) := Lib.hid (by rw [HG.out]; rfl)
                go_wp2_with (first | (go_at_call 36; ((with_reducible refine (rfixed_at _ _ _ _ _ H1.out H2.out H3.out).mono ?_); rintro e w1 ⟨rfl, hb1⟩)) | (go_at_call 28; ((with_reducible refine (rform_at _ _ _ H4.out).mono ?_); rintro e w' ⟨rfl, rfl⟩)) | (go_at_call 35; ((with_reducible refine (rcode_at _ _ _ _ _ H6.out H5.out).mono ?_); rintro e w2 ⟨rfl, hb2⟩)) | (go_at_call 35; ((with_reducible refine (rcode_at _ _ _ _ _ H8.out H7.out).mono ?_); rintro e w3 ⟨rfl, hb3⟩)))
                go_roundw
                case rel => exact ⟨k + 1, HL.out, by go_num, bch (bch (bch hnx hb1) hb2) hb3, HN⟩
                case measure => simp [intOf]; omega
              · go_wp2_with (first | (go_at_call 36; ((with_reducible refine (rfixed_at _ _ _ _ _ H1.out H2.out H3.out).mono ?_); rintro e w1 ⟨rfl, hb1⟩)) | (go_at_call 28; ((with_reducible refine (rform_at _ _ _ H4.out).mono ?_); rintro e w' ⟨rfl, rfl⟩)) | (go_at_call 35; ((with_reducible refine (rcode_at _ _ _ _ _ H6.out H5.out).mono ?_); rintro e w2 ⟨rfl, hb2⟩)) | (go_at_call 35; ((with_reducible refine (rcode_at _ _ _ _ _ H8.out H7.out).mono ?_); rintro e w3 ⟨rfl, hb3⟩)))
                go_ret3
                exact ⟨by rw [HG.out] <;> rfl, bch (bch (bch hnx hb1) hb2) hb3⟩
          · go_wp2_with (first | (go_at_call 36; ((with_reducible refine (rfixed_at _ _ _ _ _ H1.out H2.out H3.out).mono ?_); rintro e w1 ⟨rfl, hb1⟩)) | (go_at_call 28; ((with_reducible refine (rform_at _ _ _ H4.out).mono ?_); rintro e w' ⟨rfl, rfl⟩)) | (go_at_call 35; ((with_reducible refine (rcode_at _ _ _ _ _ H6.out H5.out).mono ?_); rintro e w2 ⟨rfl, hb2⟩)) | (go_at_call 35; ((with_reducible refine (rcode_at _ _ _ _ _ H8.out H7.out).mono ?_); rintro e w3 ⟨rfl, hb3⟩)))
            go_ret3
            exact ⟨by rw [HG.out] <;> rfl, bch (bch hnx hb1) hb2⟩
        · clear h8 hbc
          have HN : Hid (idF code src off imm (86 - (k + 1)) (k + 1) = R) := Lib.hid (by rw [HG.out]; rfl)
          go_wp2_with (first | (go_at_call 36; ((with_reducible refine (rfixed_at _ _ _ _ _ H1.out H2.out H3.out).mono ?_); rintro e w1 ⟨rfl, hb1⟩)) | (go_at_call 28; ((with_reducible refine (rform_at _ _ _ H4.out).mono ?_); rintro e w' ⟨rfl, rfl⟩)) | (go_at_call 35; ((with_reducible refine (rcode_at _ _ _ _ _ H6.out H5.out).mono ?_); rintro e w2 ⟨rfl, hb2⟩)) | (go_at_call 35; ((with_reducible refine (rcode_at _ _ _ _ _ H8.out H7.out).mono ?_); rintro e w3 ⟨rfl, hb3⟩)))
          go_roundw
          case rel => exact ⟨k + 1, HL.out, by go_num, bch hnx hb1, HN⟩
          case measure => simp [intOf]; omega
      · obtain ⟨e, he⟩ : ∃ e, (o != off) = e := ⟨_, rfl⟩
        have HG := Lib.hid (hit_r hI hlt ht hv h8 hbc (sm_c (Or.inl rfl) he) hQ2)
        have f3 : decide ((35 : Int) ≤ (k : Int)) = true := by rw [decide_eq_true_iff]; omega
        have f4 : decide ((k : Int) ≤ 43) = false := by rw [decide_eq_false_iff_not]; omega
        have f5 : decide ((84 : Int) ≤ (k : Int)) = false := by rw [decide_eq_false_iff_not]; omega
        clear hI ht hv hk hQ2 hr
        cases e
        · cases bc
          · cases t
            · clear h8
              have HN : Hid (idF code src off imm (86 - (k + 1)) (k + 1) = R) := Lib.hid (by rw [HG.out]; rfl)
              go_wp2_with (first | (go_at_call 36; ((with_reducible refine (rfixed_at _ _ _ _ _ H1.out H2.out H3.out).mono ?_); rintro e w1 ⟨rfl, hb1⟩)) | (go_at_call 28; ((with_reducible refine (rform_at _ _ _ H4.out).mono ?_); rintro e w' ⟨rfl, rfl⟩)) | (go_at_call 35; ((with_reducible refine (rcode_at _ _ _ _ _ H6.out H5.out).mono ?_); rintro e w2 ⟨rfl, hb2⟩)) | (go_at_call 35; ((with_reducible refine (rcode_at _ _ _ _ _ H8.out H7.out).mono ?_); rintro e w3 ⟨rfl, hb3⟩)))
              go_roundw
              case rel => exact ⟨k + 1, HL.out, by go_num, bch (bch (bch hnx hb1) hb2) hb3, HN⟩
              case measure => simp [intOf]; omega
            · cases b8
              · have HN : Hid (idF code src off imm (86 - (k + 1)) (k + 1) = R) := Lib.hid (by rw [HG.out]; rfl)
                go_wp2_with (first | (go_at_call 36; ((with_reducible refine (rfixed_at _ _ _ _ _ H1.out H2.out H3.out).mono ?_); rintro e w1 ⟨rfl, hb1⟩)) | (go_at_call 28; ((with_reducible refine (rform_at _ _ _ H4.out).mono ?_); rintro e w' ⟨rfl, rfl⟩)) | (go_at_call 35; ((with_reducible refine (rcode_at _ _ _ _ _ H6.out H5.out).mono ?_); rintro e w2 ⟨rfl, hb2⟩)) | (go_at_call 35; ((with_reducible refine (rcode_at _ _ _ _ _ H8.out H7.out).mono ?_); rintro e w3 ⟨rfl, hb3⟩)))
                go_roundw
                case rel => exact ⟨k + 1, HL.out, by go_num, bch (bch (bch hnx hb1) hb2) hb3, HN⟩
                case measure => simp [intOf]; omega
              · go_wp2_with (first | (go_at_call 36; ((with_reducible refine (rfixed_at _ _ _ _ _ H1.out H2.out H3.out).mono ?_); rintro e w1 ⟨rfl, hb1⟩)) | (go_at_call 28; ((with_reducible refine (rform_at _ _ _ H4.out).mono ?_); rintro e w' ⟨rfl, rfl⟩)) | (go_at_call 35; ((with_reducible refine (rcode_at _ _ _ _ _ H6.out H5.out).mono ?_); rintro e w2 ⟨rfl, hb2⟩)) | (go_at_call 35; ((with_reducible refine (rcode_at _ _ _ _ _ H8.out H7.out).mono ?_); rintro e w3 ⟨rfl, hb3⟩)))
                go_ret3
                exact ⟨by rw [HG.out] <;> rfl, bch (bch (bch hnx hb1) hb2) hb3⟩
          · go_wp2_with (first | (go_at_call 36; ((with_reducible refine (rfixed_at _ _ _ _ _ H1.out H2.out H3.out).mono ?_); rintro e w1 ⟨rfl, hb1⟩)) | (go_at_call 28; ((with_reducible refine (rform_at _ _ _ H4.out).mono ?_); rintro e w' ⟨rfl, rfl⟩)) | (go_at_call 35; ((with_reducible refine (rcode_at _ _ _ _ _ H6.out H5.out).mono ?_); rintro e w2 ⟨rfl, hb2⟩)) | (go_at_call 35; ((with_reducible refine (rcode_at _ _ _ _ _ H8.out H7.out).mono ?_); rintro e w3 ⟨rfl, hb3⟩)))
            go_ret3
            exact ⟨by rw [HG.out] <;> rfl, bch (bch hnx hb1) hb2⟩
        · clear h8 hbc
          have HN : Hid (idF code src off imm (86 - (k + 1)) (k + 1) = R) := Lib.hid (by rw [HG.out]; rfl)
          go_wp2_with (first | (go_at_call 36; ((with_reducible refine (rfixed_at _ _ _ _ _ H1.out H2.out H3.out).mono ?_); rintro e w1 ⟨rfl, hb1⟩)) | (go_at_call 28; ((with_reducible refine (rform_at _ _ _ H4.out).mono ?_); rintro e w' ⟨rfl, rfl⟩)) | (go_at_call 35; ((with_reducible refine (rcode_at _ _ _ _ _ H6.out H5.out).mono ?_); rintro e w2 ⟨rfl, hb2⟩)) | (go_at_call 35; ((with_reducible refine (rcode_at _ _ _ _ _ H8.out H7.out).mono ?_); rintro e w3 ⟨rfl, hb3⟩)))
          go_roundw
          case rel => exact ⟨k + 1, HL.out, by go_num, bch hnx hb1, HN⟩
          case measure => simp [intOf]; omega
      · obtain ⟨e, he⟩ : ∃ e, (o != off) = e := ⟨_, rfl⟩
        have HG := Lib.hid (hit_r hI hlt ht hv h8 hbc (sm_c (Or.inr rfl) he) hQ2)
        have f3 : decide ((35 : Int) ≤ (k : Int)) = false := by rw [decide_eq_false_iff_not]; omega
        have f5 : decide ((84 : Int) ≤ (k : Int)) = false := by rw [decide_eq_false_iff_not]; omega
        clear hI ht hv hk hQ2 hr
        cases e
        · cases bc
          · cases t
            · clear h8
              have HN : Hid (idF code src off imm (86 - (k + 1)) (k + 1) = R) := Lib.hid (by rw [HG.out]; rfl)
              go_wp2_with (first | (go_at_call 36; ((with_reducible refine (rfixed_at _ _ _ _ _ H1.out H2.out H3.out).mono ?_); rintro e w1 ⟨rfl, hb1⟩)) | (go_at_call 28; ((with_reducible refine (rform_at _ _ _ H4.out).mono ?_); rintro e w' ⟨rfl, rfl⟩)) | (go_at_call 35; ((with_reducible refine (rcode_at _ _ _ _ _ H6.out H5.out).mono ?_); rintro e w2 ⟨rfl, hb2⟩)) | (go_at_call 35; ((with_reducible refine (rcode_at _ _ _ _ _ H8.out H7.out).mono ?_); rintro e w3 ⟨rfl, hb3⟩)))
              go_roundw
              case rel => exact ⟨k + 1, HL.out, by go_num, bch (bch (bch hnx hb1) hb2) hb3, HN⟩
              case measure => simp [intOf]; omega
            · cases b8
              · have HN : Hid (idF code src off imm (86 - (k + 1)) (k + 1) = R) := Lib.hid (by rw [HG.out]; rfl)
                go_wp2_with (first | (go_at_call 36; ((with_reducible refine (rfixed_at _ _ _ _ _ H1.out H2.out H3.out).mono ?_); rintro e w1 ⟨rfl, hb1⟩)) | (go_at_call 28; ((with_reducible refine (rform_at _ _ _ H4.out).mono ?_); rintro e w' ⟨rfl, rfl⟩)) | (go_at_call 35; ((with_reducible refine (rcode_at _ _ _ _ _ H6.out H5.out).mono ?_); rintro e w2 ⟨rfl, hb2⟩)) | (go_at_call 35; ((with_reducible refine (rcode_at _ _ _ _ _ H8.out H7.out).mono ?_); rintro e w3 ⟨rfl, hb3⟩)))
                go_roundw
                case rel => exact ⟨k + 1, HL.out, by go_num, bch (bch (bch hnx hb1) hb2) hb3, HN⟩
                case measure => simp [intOf]; omega
              · go_wp2_with (first | (go_at_call 36; ((with_reducible refine (rfixed_at _ _ _ _ _ H1.out H2.out H3.out).mono ?_); rintro e w1 ⟨rfl, hb1⟩)) | (go_at_call 28; ((with_reducible refine (rform_at _ _ _ H4.out).mono ?_); rintro e w' ⟨rfl, rfl⟩)) | (go_at_call 35; ((with_reducible refine (rcode_at _ _ _ _ _ H6.out H5.out).mono ?_); rintro e w2 ⟨rfl, hb2⟩)) | (go_at_call 35; ((with_reducible refine (rcode_at _ _ _ _ _ H8.out H7.out).mono ?_); rintro e w3 ⟨rfl, hb3⟩)))
                go_ret3
                exact ⟨by rw [HG.out] <;> rfl, bch (bch (bch hnx hb1) hb2) hb3⟩
          · go_wp2_with (first | (go_at_call 36; ((with_reducible refine (rfixed_at _ _ _ _ _ H1.out H2.out H3.out).mono ?_); rintro e w1 ⟨rfl, hb1⟩)) | (go_at_call 28; ((with_reducible refine (rform_at _ _ _ H4.out).mono ?_); rintro e w' ⟨rfl, rfl⟩)) | (go_at_call 35; ((with_reducible refine (rcode_at _ _ _ _ _ H6.out H5.out).mono ?_); rintro e w2 ⟨rfl, hb2⟩)) | (go_at_call 35; ((with_reducible refine (rcode_at _ _ _ _ _ H8.out H7.out).mono ?_); rintro e w3 ⟨rfl, hb3⟩)))
            go_ret3
            exact ⟨by rw [HG.out] <;> rfl, bch (bch hnx hb1) hb2⟩
        · clear h8 hbc
          have HN : Hid (idF code src off imm (86 - (k + 1)) (k + 1) = R) := Lib.hid (by rw [HG.out]; rfl)
          go_wp2_with (first | (go_at_call 36; ((with_reducible refine (rfixed_at _ _ _ _ _ H1.out H2.out H3.out).mono ?_); rintro e w1 ⟨rfl, hb1⟩)) | (go_at_call 28; ((with_reducible refine (rform_at _ _ _ H4.out).mono ?_); rintro e w' ⟨rfl, rfl⟩)) | (go_at_call 35; ((with_reducible refine (rcode_at _ _ _ _ _ H6.out H5.out).mono ?_); rintro e w2 ⟨rfl, hb2⟩)) | (go_at_call 35; ((with_reducible refine (rcode_at _ _ _ _ _ H8.out H7.out).mono ?_); rintro e w3 ⟨rfl, hb3⟩)))
          go_roundw
          case rel => exact ⟨k + 1, HL.out, by go_num, bch hnx hb1, HN⟩
          case measure => simp [intOf]; omega
      · have HG := Lib.hid (hit_r hI hlt ht hv h8 hbc (sm_r h0 h2 h10 h11 h1) hQ2)
        have f1 : (f == 0) = false := by rw [beq_eq_false_iff_ne]; omega
        have f2 : (f == 2) = false := by rw [beq_eq_false_iff_ne]; omega
        have f3 : decide ((35 : Int) ≤ (k : Int)) = false := by rw [decide_eq_false_iff_not]; omega
        have f5 : decide ((84 : Int) ≤ (k : Int)) = false := by rw [decide_eq_false_iff_not]; omega
        clear hI ht hv hk hQ2 hr h0 h2 h10 h11 h1
        cases bc
        · cases t
          · clear h8
            have HN : Hid (idF code src off imm (86 - (k + 1)) (k + 1) = R) := Lib.hid (by rw [HG.out]; rfl)
            go_wp2_with (first | (go_at_call 36; ((with_reducible refine (rfixed_at _ _ _ _ _ H1.out H2.out H3.out).mono ?_); rintro e w1 ⟨rfl, hb1⟩)) | (go_at_call 28; ((with_reducible refine (rform_at _ _ _ H4.out).mono ?_); rintro e w' ⟨rfl, rfl⟩)) | (go_at_call 35; ((with_reducible refine (rcode_at _ _ _ _ _ H6.out H5.out).mono ?_); rintro e w2 ⟨rfl, hb2⟩)) | (go_at_call 35; ((with_reducible refine (rcode_at _ _ _ _ _ H8.out H7.out).mono ?_); rintro e w3 ⟨rfl, hb3⟩)))
            go_roundw
            case rel => exact ⟨k + 1, HL.out, by go_num, bch (bch (bch hnx hb1) hb2) hb3, HN⟩
            case measure => simp [intOf]; omega
          · cases b8
            · have HN : Hid (idF code src off imm (86 - (k + 1)) (k + 1) = R) := Lib.hid (by rw [HG.out]; rfl)
              go_wp2_with (first | (go_at_call 36; ((with_reducible refine (rfixed_at _ _ _ _ _ H1.out H2.out H3.out).mono ?_); rintro e w1 ⟨rfl, hb1⟩)) | (go_at_call 28; ((with_reducible refine (rform_at _ _ _ H4.out).mono ?_); rintro e w' ⟨rfl, rfl⟩)) | (go_at_call 35; ((with_reducible refine (rcode_at _ _ _ _ _ H6.out H5.out).mono ?_); rintro e w2 ⟨rfl, hb2⟩)) | (go_at_call 35; ((with_reducible refine (rcode_at _ _ _ _ _ H8.out H7.out).mono ?_); rintro e w3 ⟨rfl, hb3⟩)))
              go_roundw
              case rel => exact ⟨k + 1, HL.out, by go_num, bch (bch (bch hnx hb1) hb2) hb3, HN⟩
              case measure => simp [intOf]; omega
            · go_wp2_with (first | (go_at_call 36; ((with_reducible refine (rfixed_at _ _ _ _ _ H1.out H2.out H3.out).mono ?_); rintro e w1 ⟨rfl, hb1⟩)) | (go_at_call 28; ((with_reducible refine (rform_at _ _ _ H4.out).mono ?_); rintro e w' ⟨rfl, rfl⟩)) | (go_at_call 35; ((with_reducible refine (rcode_at _ _ _ _ _ H6.out H5.out).mono ?_); rintro e w2 ⟨rfl, hb2⟩)) | (go_at_call 35; ((with_reducible refine (rcode_at _ _ _ _ _ H8.out H7.out).mono ?_); rintro e w3 ⟨rfl, hb3⟩)))
              go_ret3
              exact ⟨by rw [HG.out] <;> rfl, bch (bch (bch hnx hb1) hb2) hb3⟩
        · go_wp2_with (first | (go_at_call 36; ((with_reducible refine (rfixed_at _ _ _ _ _ H1.out H2.out H3.out).mono ?_); rintro e w1 ⟨rfl, hb1⟩)) | (go_at_call 28; ((with_reducible refine (rform_at _ _ _ H4.out).mono ?_); rintro e w' ⟨rfl, rfl⟩)) | (go_at_call 35; ((with_reducible refine (rcode_at _ _ _ _ _ H6.out H5.out).mono ?_); rintro e w2 ⟨rfl, hb2⟩)) | (go_at_call 35; ((with_reducible refine (rcode_at _ _ _ _ _ H8.out H7.out).mono ?_); rintro e w3 ⟨rfl, hb3⟩)))
          go_ret3
          exact ⟨by rw [HG.out] <;> rfl, bch (bch hnx hb1) hb2⟩
      · have HG := Lib.hid (hit_r hI hlt ht hv h8 hbc (sm_r h0 h2 h10 h11 h1) hQ2)
        have f1 : (f == 0) = false := by rw [beq_eq_false_iff_ne]; omega
        have f2 : (f == 2) = false := by rw [beq_eq_false_iff_ne]; omega
        have f3 : decide ((35 : Int) ≤ (k : Int)) = true := by rw [decide_eq_true_iff]; omega
        have f4 : decide ((k : Int) ≤ 43) = false := by rw [decide_eq_false_iff_not]; omega
        have f5 : decide ((84 : Int) ≤ (k : Int)) = false := by rw [decide_eq_false_iff_not]; omega
        clear hI ht hv hk hQ2 hr h0 h2 h10 h11 h1
        cases bc
        · cases t
          · clear h8
            have HN : Hid (idF code src off imm (86 - (k + 1)) (k + 1) = R) := Lib.hid (by rw [HG.out]; rfl)
            go_wp2_with (first | (go_at_call 36; ((with_reducible refine (rfixed_at _ _ _ _ _ H1.out H2.out H3.out).mono ?_); rintro e w1 ⟨rfl, hb1⟩)) | (go_at_call 28; ((with_reducible refine (rform_at _ _ _ H4.out).mono ?_); rintro e w' ⟨rfl, rfl⟩)) | (go_at_call 35; ((with_reducible refine (rcode_at _ _ _ _ _ H6.out H5.out).mono ?_); rintro e w2 ⟨rfl, hb2⟩)) | (go_at_call 35; ((with_reducible refine (rcode_at _ _ _ _ _ H8.out H7.out).mono ?_); rintro e w3 ⟨rfl, hb3⟩)))
            go_roundw
            case rel => exact ⟨k + 1, HL.out, by go_num, bch (bch (bch hnx hb1) hb2) hb3, HN⟩
            case measure => simp [intOf]; omega
          · cases b8
            · have HN : Hid (idF code src off imm (86 - (k + 1)) (k + 1) = R) := Lib.hid (by rw [HG.out]; rfl)
              go_wp2_with (first | (go_at_call 36; ((with_reducible refine (rfixed_at _ _ _ _ _ H1.out H2.out H3.out).mono ?_); rintro e w1 ⟨rfl, hb1⟩)) | (go_at_call 28; ((with_reducible refine (rform_at _ _ _ H4.out).mono ?_); rintro e w' ⟨rfl, rfl⟩)) | (go_at_call 35; ((with_reducible refine (rcode_at _ _ _ _ _ H6.out H5.out).mono ?_); rintro e w2 ⟨rfl, hb2⟩)) | (go_at_call 35; ((with_reducible refine (rcode_at _ _ _ _ _ H8.out H7.out).mono ?_); rintro e w3 ⟨rfl, hb3⟩)))
              go_roundw
              case rel => exact ⟨k + 1, HL.out, by go_num, bch (bch (bch hnx hb1) hb2) hb3, HN⟩
              case measure => simp [intOf]; omega
            · go_wp2_with (first | (go_at_call 36; ((with_reducible refine (rfixed_at _ _ _ _ _ H1.out H2.out H3.out).mono ?_); rintro e w1 ⟨rfl, hb1⟩)) | (go_at_call 28; ((with_reducible refine (rform_at _ _ _ H4.out).mono ?_); rintro e w' ⟨rfl, rfl⟩)) | (go_at_call 35; ((with_reducible refine (rcode_at _ _ _ _ _ H6.out H5.out).mono ?_); rintro e w2 ⟨rfl, hb2⟩)) | (go_at_call 35; ((with_reducible refine (rcode_at _ _ _ _ _ H8.out H7.out).mono ?_); rintro e w3 ⟨rfl, hb3⟩)))
              go_ret3
              exact ⟨by rw [HG.out] <;> rfl, bch (bch (bch hnx hb1) hb2) hb3⟩
        · go_wp2_with (first | (go_at_call 36; ((with_reducible refine (rfixed_at _ _ _ _ _ H1.out H2.out H3.out).mono ?_); rintro e w1 ⟨rfl, hb1⟩)) | (go_at_call 28; ((with_reducible refine (rform_at _ _ _ H4.out).mono ?_); rintro e w' ⟨rfl, rfl⟩)) | (go_at_call 35; ((with_reducible refine (rcode_at _ _ _ _ _ H6.out H5.out).mono ?_); rintro e w2 ⟨rfl, hb2⟩)) | (go_at_call 35; ((with_reducible refine (rcode_at _ _ _ _ _ H8.out H7.out).mono ?_); rintro e w3 ⟨rfl, hb3⟩)))
          go_ret3
          exact ⟨by rw [HG.out] <;> rfl, bch (bch hnx hb1) hb2⟩
    · have hle : decide ((k : Int) ≤ 85) = false := by rw [decide_eq_false_iff_not]; omega
      go_wp2
      go_ret3
      have hR : idF code src off imm 0 k = R := by have := hQ.out; rwa [show 86 - k = 0 by omega] at this
      exact ⟨by rw [← hR] <;> rfl, hnx⟩

theorem rident_at (code src off imm n : Int) (r ok : Bool) (w : World) (h : idF code src off imm 86 0 = (n, r, ok)) : Calls Tryd.prog 45 #[.int .u8 code, .int .i64 src, .int .i64 off, .int .i64 imm] w fun e w' =>
    e = .returned (.tuple #[.int .i64 n, .bool r, .bool ok]) ∧ Below w.heap.size w w' := by
  have := rident_any code src off imm w
  rwa [h] at this
end Go.Proofs.YthebdblncafijaaDoor.L3
