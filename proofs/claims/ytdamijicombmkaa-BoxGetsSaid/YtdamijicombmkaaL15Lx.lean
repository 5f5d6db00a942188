/- The walks of the laws Reads, Inverts and IsCanonical. Condition: memory holds the sections and the bytes; there are no more than 2^63 sections. -/
import Derived.Test.YtdamijicombmkaaL15Lw
namespace Go.Proofs.Ytdamijicombmkaa.L15
open Go.RowKit L14
attribute [local go_sem] Oper.semAt_some

theorem few_sz {l : List Sc} (h : (∀ s ∈ l, s.2.length ≤ 500) ∧ l.length ≤ 30) : szL l ≤ 100000 := by
  have h1 := tot_bound l 500 h.1
  have h2 : l.length * (500 + 7) ≤ 30 * (500 + 7) := Nat.mul_le_mul_right _ h.2
  have h3 := up_le (16 + 12 * l.length)
  have h4 := h.2
  unfold szL L15.hd; omega
set_option maxHeartbeats 1000000 in
theorem long_walk (a : Option Addr) (n c : Nat) (w : World) (hl : 5000 < n) :
    Calls Try.prog 4 #[.slice a n c] w fun e w' => e = .returned (.bool true) ∧ Below w.heap.size w w' := by
  have h1 : (5000 : Int) < (n : Int) := by omega
  clear hl
  go_enter Try.func4, Try.ntmps4
  go_wp2_with (go_at_call 10; ((with_reducible refine (alive15 _).mono ?_); rintro e w8 ⟨rfl, b8⟩))
  go_ret
  exact ⟨rfl, b8⟩
set_option maxHeartbeats 1000000 in
theorem long_walk2 (a : Option Addr) (n c : Nat) (w : World) (hl : 5000 < n) :
    Calls Try.prog 6 #[.slice a n c] w fun e w' => e = .returned (.bool true) ∧ Below w.heap.size w w' := by
  have h1 : (5000 : Int) < (n : Int) := by omega
  clear hl
  go_enter Try.func6, Try.ntmps6
  go_wp2_with (go_at_call 10; ((with_reducible refine (alive15 _).mono ?_); rintro e w8 ⟨rfl, b8⟩))
  go_ret
  exact ⟨rfl, b8⟩
set_option maxHeartbeats 4000000 in
set_option maxRecDepth 100000 in
theorem reads_walk (v : Value) (b : List UInt8) (w : World) (h : Rw eB w v b) :
    Calls Try.prog 4 #[v] w fun e w' => e = .returned (.bool true) ∧ Below w.heap.size w w' := by
  obtain ⟨n, hn⟩ : ∃ n, b.length = n := ⟨_, rfl⟩
  have hv := h
  obtain ⟨a, c, rfl, -⟩ := h.form hn
  by_cases hlong : 5000 < n
  · exact long_walk a n c w hlong
  have h5 : ¬ (5000 : Int) < (n : Int) := by omega
  have HC := Lib.hid (sclone_at (.slice a n c) b w (by omega) hv)
  unfold ClB at HC
  rw [hn] at HC
  have HV := Lib.hid hv
  have HN := Lib.hid hn
  have HSm := Lib.hid (fun W v v' (h1 : Rw eB W v b) (h2 : Rw eB W v' b) => rsameB_at v v' b b true W (by omega) (by omega) h1 h2 (by simp))
  by_cases hr : rdOk b
  · have HRd := Lib.hid (fun W a c (h : Rw eB W (.slice a n c) b) => (read_at a n c b W h (by omega)).mono fun e w' hh => show (∃ a c, e = .returned (.tuple #[.slice a (nS b) c, .int .i64 0]) ∧ Ss w' (.slice a (nS b) c) (rdT b (nS b))) ∧ Below W.heap.size W w' from ⟨(hh.1.resolve_left (fun x => x.1 hr)).2, hh.2⟩)
    have HRr := Lib.hid (fun W (hb : Below w.heap.size w W) => (rread_at a n c b W (hv.below hb) (by omega)).mono fun e w' hh => show (∃ a c, e = .returned (.tuple #[.slice a (nS b) c, .bool true]) ∧ Ss w' (.slice a (nS b) c) (rdT b (nS b))) ∧ Below W.heap.size W w' from ⟨(hh.1.resolve_left (fun x => x.1 hr)).2, hh.2⟩)
    obtain ⟨hsm, hkb⟩ := (rdT_sml b (by omega)).resolve_right (fun x => x hr.1)
    have hkl := rdT_len b (nS b)
    obtain ⟨l, hl⟩ : ∃ l, rdT b (nS b) = l := ⟨_, rfl⟩
    obtain ⟨k, hk⟩ : ∃ k, nS b = k := ⟨_, rfl⟩
    rw [hl] at HRd HRr hsm hkl
    rw [hk] at HRd HRr hkl hkb
    have HB := Lib.hid (fun W v (hs : Ss W v l) => back_at v l k W hs hkl (by omega))
    have HS5 := Lib.hid (fun W v v' (h1 : Ss W v l) (h2 : Ss W v' l) => rsame15_at v v' l l true W hsm hsm h1 h2 (by simp))
    clear h hv hn hlong hr hsm hkl hl hk
    go_enter Try.func4, Try.ntmps4
    go_wp2_with (first
      | (go_at_call 18; ((with_reducible refine (HC.out).mono ?_); rintro e w1 ⟨v1, rfl, o1, b1⟩; obtain ⟨a1, c1, rfl⟩ := owns_slice o1; have r1 : Rw eB w1 (.slice a1 n c1) b := (by have e := HN.out; subst e; exact Rw.own o1)))
      | (go_at_call 19; ((with_reducible refine (HRd.out _ _ _ r1).mono ?_); rintro e w2 ⟨⟨a2, c2, rfl, s2⟩, b2⟩; have B2 := bch b1 b2; have r2 := r1.below b2))
      | (go_at_call 20; ((with_reducible refine (HRr.out _ B2).mono ?_); rintro e w3 ⟨⟨a3, c3, rfl, s3⟩, b3⟩; have B3 := bch B2 b3; have r3 := r2.below b3; have s23 := s2.below b3))
      | (go_at_call 10; ((with_reducible refine (alive15 _).mono ?_); rintro e w4 ⟨rfl, b4⟩; have B4 := bch B3 b4; have r4 := r3.below b4; have s4 := s23.below b4; have t4 := s3.below b4))
      | (go_at_call 22; ((with_reducible refine (HB.out _ _ s4).mono ?_); rintro e w5 ⟨⟨a5, c5, rfl, s5⟩, b5⟩; have B5 := bch B4 b5; have r5 := r4.below b5; have t5 := t4.below b5))
      | (go_at_call 21; ((with_reducible refine (HS5.out _ _ _ s5 t5).mono ?_); rintro e w6 ⟨rfl, q6, hw6⟩; have b6 : Below w5.heap.size w5 w6 := (by rw [hw6]; exact bdN (Below.refl _ _) q6); clear hw6; have B6 := bch B5 b6; have r6 := r5.below b6; have v6 := HV.out.below B6))
      | (go_at_call 16; ((with_reducible refine (HSm.out _ _ _ v6 r6).mono ?_); rintro e w7 ⟨rfl, q7, rfl⟩)))
    go_ret
    exact ⟨rfl, bdN B6 _⟩
  · have HRd := Lib.hid (fun W a c (h : Rw eB W (.slice a n c) b) => (read_at a n c b W h (by omega)).mono fun e w' hh => show e = .returned (.tuple #[.slice none 0 0, .int .i64 19]) ∧ Below W.heap.size W w' from ⟨(hh.1.resolve_right (fun x => hr x.1)).2, hh.2⟩)
    have HRr := Lib.hid (fun W (hb : Below w.heap.size w W) => (rread_at a n c b W (hv.below hb) (by omega)).mono fun e w' hh => show e = .returned (.tuple #[.slice none 0 0, .bool false]) ∧ Below W.heap.size W w' from ⟨(hh.1.resolve_right (fun x => hr x.1)).2, hh.2⟩)
    clear h hv hn hlong hr
    go_enter Try.func4, Try.ntmps4
    go_wp2_with (first
      | (go_at_call 18; ((with_reducible refine (HC.out).mono ?_); rintro e w1 ⟨v1, rfl, o1, b1⟩; obtain ⟨a1, c1, rfl⟩ := owns_slice o1; have r1 : Rw eB w1 (.slice a1 n c1) b := (by have e := HN.out; subst e; exact Rw.own o1)))
      | (go_at_call 19; ((with_reducible refine (HRd.out _ _ _ r1).mono ?_); rintro e w2 ⟨rfl, b2⟩; have B2 := bch b1 b2; have r2 := r1.below b2))
      | (go_at_call 20; ((with_reducible refine (HRr.out _ B2).mono ?_); rintro e w3 ⟨rfl, b3⟩; have B3 := bch B2 b3; have r3 := r2.below b3))
      | (go_at_call 10; ((with_reducible refine (alive15 _).mono ?_); rintro e w4 ⟨rfl, b4⟩; have B4 := bch B3 b4; have r4 := r3.below b4; have v4 := HV.out.below B4))
      | (go_at_call 16; ((with_reducible refine (HSm.out _ _ _ v4 r4).mono ?_); rintro e w7 ⟨rfl, q7, rfl⟩)))
    go_ret
    exact ⟨rfl, bdN B4 _⟩

set_option maxHeartbeats 4000000 in
set_option maxRecDepth 100000 in
theorem canon_walk (v : Value) (b : List UInt8) (w : World) (h : Rw eB w v b) :
    Calls Try.prog 6 #[v] w fun e w' => e = .returned (.bool true) ∧ Below w.heap.size w w' := by
  obtain ⟨n, hn⟩ : ∃ n, b.length = n := ⟨_, rfl⟩
  have hv := h
  obtain ⟨a, c, rfl, -⟩ := h.form hn
  by_cases hlong : 5000 < n
  · exact long_walk2 a n c w hlong
  have h5 : ¬ (5000 : Int) < (n : Int) := by omega
  have HV := Lib.hid hv
  by_cases hr : rdOk b
  · have HRd := Lib.hid ((read_at a n c b w hv (by omega)).mono fun e w' hh => show (∃ a c, e = .returned (.tuple #[.slice a (nS b) c, .int .i64 0]) ∧ Ss w' (.slice a (nS b) c) (rdT b (nS b))) ∧ Below w.heap.size w w' from ⟨(hh.1.resolve_left (fun x => x.1 hr)).2, hh.2⟩)
    obtain ⟨hsm, hkb⟩ := (rdT_sml b (by omega)).resolve_right (fun x => x hr.1)
    have hR := hr.2.1
    have hwr := hr.2.2
    obtain ⟨l, hl⟩ : ∃ l, rdT b (nS b) = l := ⟨_, rfl⟩
    obtain ⟨k, hk⟩ : ∃ k, nS b = k := ⟨_, rfl⟩
    rw [hl] at HRd hsm hR hwr
    rw [hk] at HRd
    have HW := Lib.hid (fun W v (hv : Ss W v l) => write_yes v l n W hv hsm hR (by rw [← wr_len, hwr, hn]))
    rw [hwr] at HW
    have HSm := Lib.hid (fun W v v' (h1 : Rw eB W v b) (h2 : Rw eB W v' b) => rsameB_at v v' b b true W (by omega) (by omega) h1 h2 (by simp))
    clear h hv hn hlong hr hsm hR hwr hl hk
    go_enter Try.func6, Try.ntmps6
    go_wp2_with (first
      | (go_at_call 19; ((with_reducible refine (HRd.out).mono ?_); rintro e w2 ⟨⟨a2, c2, rfl, s2⟩, b2⟩))
      | (go_at_call 11; ((with_reducible refine (HW.out _ _ s2).mono ?_); rintro e w3 ⟨⟨a3, c3, rfl, r3⟩, b3⟩; have B3 := bch b2 b3))
      | (go_at_call 10; ((with_reducible refine (alive15 _).mono ?_); rintro e w4 ⟨rfl, b4⟩; have B4 := bch B3 b4; have r4 := r3.below b4; have v4 := HV.out.below B4))
      | (go_at_call 16; ((with_reducible refine (HSm.out _ _ _ v4 r4).mono ?_); rintro e w7 ⟨rfl, q7, rfl⟩)))
    go_ret
    exact ⟨rfl, bdN B4 _⟩
  · have HRd := Lib.hid ((read_at a n c b w hv (by omega)).mono fun e w' hh => show e = .returned (.tuple #[.slice none 0 0, .int .i64 19]) ∧ Below w.heap.size w w' from ⟨(hh.1.resolve_right (fun x => hr x.1)).2, hh.2⟩)
    clear h hv hn hlong hr
    go_enter Try.func6, Try.ntmps6
    go_wp2_with (first
      | (go_at_call 19; ((with_reducible refine (HRd.out).mono ?_); rintro e w2 ⟨rfl, b2⟩))
      | (go_at_call 10; ((with_reducible refine (alive15 _).mono ?_); rintro e w4 ⟨rfl, b4⟩)))
    go_ret
    exact ⟨rfl, bch b2 b4⟩

set_option maxHeartbeats 4000000 in
set_option maxRecDepth 100000 in
theorem inverts_walk (v : Value) (l : List Sc) (w : World) (h : Ss w v l) (hl : l.length ≤ 9223372036854775807) :
    Calls Try.prog 5 #[v] w fun e w' => e = .returned (.bool true) ∧ Below w.heap.size w w' := by
  by_cases hf : (∀ s ∈ l, s.2.length ≤ 500) ∧ l.length ≤ 30
  · have HF := Lib.hid (few_at v l true w h hl (by simpa using hf))
    have hs := few_sml hf
    obtain ⟨n, hn⟩ : ∃ n, l.length = n := ⟨_, rfl⟩
    have hn30 : n ≤ 30 := by rw [← hn]; exact hf.2
    obtain ⟨R, hR⟩ : ∃ R, chkV l = R := ⟨_, rfl⟩
    have HRc := Lib.hid (fun W (hb : Below w.heap.size w W) => rcheck_at v l R W (h.below hb) hs hR)
    have HV := Lib.hid h
    obtain ⟨a, c, rfl, -⟩ := h.form hn
    by_cases h0 : R = 0
    · subst h0
      obtain ⟨S, hS⟩ : ∃ S, szL l = S := ⟨_, rfl⟩
      have hfw := fw_of hs hR
      have hSb := few_sz hf
      rw [hS] at hSb
      have HFw := Lib.hid (fun W (hb : Below w.heap.size w W) => forward_at (.slice a n c) l n W (h.below hb) hn (by omega))
      have HW := Lib.hid (fun W v (hv : Ss W v l) => write_yes v l S W hv hs hR hS)
      have hi : rdOk (wr l) ∧ rdT (wr l) (nS (wr l)) = l := rdOk_is ⟨hR, rfl⟩
      have hk : nS (wr l) = n := by rw [nS_wr l (by omega), hn]
      have HRd := Lib.hid (fun W a c (hx : Rw eB W (.slice a S c) (wr l)) => (read_at a S c (wr l) W hx (by omega)).mono fun e w' hh => show (∃ a c, e = .returned (.tuple #[.slice a n c, .int .i64 0]) ∧ Ss w' (.slice a n c) l) ∧ Below W.heap.size W w' from ⟨by have := (hh.1.resolve_left (fun x => x.1 hi.1)).2; rw [hi.2, hk] at this; exact this, hh.2⟩)
      have HB := Lib.hid (fun W v (hx : Ss W v l) => back_at v l n W hx hn (by omega))
      have HS5 := Lib.hid (fun W v v' (h1 : Ss W v l) (h2 : Ss W v' l) => rsame15_at v v' l l true W hs hs h1 h2 (by simp))
      clear h hl hf hs hn hR hS hfw hi hk
      go_enter Try.func5, Try.ntmps5
      go_wp2_with (first
        | (go_at_call 9; ((with_reducible refine (HF.out).mono ?_); rintro e w1 ⟨rfl, b1⟩))
        | (go_at_call 15; ((with_reducible refine (HRc.out _ b1).mono ?_); rintro e w2 ⟨rfl, q2, hw2⟩; have b2 : Below w1.heap.size w1 w2 := (by rw [hw2]; exact bdN (Below.refl _ _) q2); clear hw2; have B2 := bch b1 b2))
        | (go_at_call 12; ((with_reducible refine (HFw.out _ B2).mono ?_); rintro e w3 ⟨⟨a3, c3, rfl, s3⟩, b3⟩; have B3 := bch B2 b3))
        | (go_at_call 11; ((with_reducible refine (HW.out _ _ s3).mono ?_); rintro e w4 ⟨⟨a4, c4, rfl, r4⟩, b4⟩; have B4 := bch B3 b4))
        | (go_at_call 19; ((with_reducible refine (HRd.out _ _ _ r4).mono ?_); rintro e w5 ⟨⟨a5, c5, rfl, s5⟩, b5⟩; have B5 := bch B4 b5))
        | (go_at_call 10; ((with_reducible refine (alive15 _).mono ?_); rintro e w6 ⟨rfl, b6⟩; have B6 := bch B5 b6; have s6 := s5.below b6))
        | (go_at_call 22; ((with_reducible refine (HB.out _ _ s6).mono ?_); rintro e w7 ⟨⟨a7, c7, rfl, s7⟩, b7⟩; have B7 := bch B6 b7; have v7 := HV.out.below B7))
        | (go_at_call 21; ((with_reducible refine (HS5.out _ _ _ s7 v7).mono ?_); rintro e w8 ⟨rfl, q8, rfl⟩)))
      go_ret
      exact ⟨rfl, bdN B7 _⟩
    · have e2 : (R != 0) = true := by simpa using h0
      clear h hl hf hs hn hR h0
      go_enter Try.func5, Try.ntmps5
      go_wp2_with (first
        | (go_at_call 9; ((with_reducible refine (HF.out).mono ?_); rintro e w1 ⟨rfl, b1⟩))
        | (go_at_call 15; ((with_reducible refine (HRc.out _ b1).mono ?_); rintro e w2 ⟨rfl, q2, hw2⟩; have b2 : Below w1.heap.size w1 w2 := (by rw [hw2]; exact bdN (Below.refl _ _) q2); clear hw2; have B2 := bch b1 b2))
        | (go_at_call 10; ((with_reducible refine (alive15 _).mono ?_); rintro e w6 ⟨rfl, b6⟩)))
      go_ret
      exact ⟨rfl, bch B2 b6⟩
  · have HF := Lib.hid (few_at v l false w h hl (by simpa using hf))
    obtain ⟨a, c, rfl, -⟩ := h
    generalize l.length = n at HF ⊢
    clear hf hl
    go_enter Try.func5, Try.ntmps5
    go_wp2_with (first
      | (go_at_call 9; ((with_reducible refine (HF.out).mono ?_); rintro e w1 ⟨rfl, b1⟩))
      | (go_at_call 10; ((with_reducible refine (alive15 _).mono ?_); rintro e w8 ⟨rfl, b8⟩)))
    go_ret
    exact ⟨rfl, bch b1 b8⟩
end Go.Proofs.Ytdamijicombmkaa.L15
