/- What the program's Read returns: the sections whose container the bytes are, or the error. Condition: memory holds the bytes, which are no more than 1000000. -/
import Derived.Test.YtdamijicombmkaaL15Se
namespace Go.Proofs.Ytdamijicombmkaa.L15
open Go.RowKit Go.Shelf L14
attribute [local go_sem] Oper.semAt_some

/-- What Read leaves. -/
def RdP (b : List UInt8) (w : World) (e : Ending) (w' : World) : Prop :=
  ((¬ rdOk b ∧ e = .returned (.tuple #[.slice none 0 0, .int .i64 19])) ∨ (rdOk b ∧ ∃ a c, e = .returned (.tuple #[.slice a (nS b) c, .int .i64 0]) ∧ Ss w' (.slice a (nS b) c) (rdT b (nS b)))) ∧ Below w.heap.size w w'

set_option maxRecDepth 100000 in
set_option maxHeartbeats 4000000 in
theorem read_no1 (a : Option Addr) (n c : Nat) (b : List UInt8) (w : World) (hv : Rw eB w (.slice a n c) b) (hb : n ≤ 1000000) (hno : ¬ rdB b) :
    Calls Try.prog 19 #[.slice a n c] w (RdP b w) := by
  have hB2 : Below w.heap.size w ((w.alloc (.cells #[.slice none 0 0] 29)).alloc (.cells #[.int .i64 0] 26)) := bch (bnew _ _) (bnew _ _)
  have HS := Lib.hid (callsIn_wide (n := 6 - 1).2 (sections_at a n c b _ (hv.below hB2) hb))
  have hr : ¬ rdOk b := fun h => hno h.1
  have HR := Lib.hid hr
  have HNO := Lib.hid hno
  have b0 := (Boxed.new w 29 (.slice none 0 0)).alloc (.cells #[.int .i64 0] 26)
  have b1 := Boxed.new (w.alloc (.cells #[.slice none 0 0] 29)) 26 (.int .i64 0)
  rw [World.size_alloc] at b1
  have HB2 := Lib.hid hB2
  have HX0 := Lib.hid b0
  have HX1 := Lib.hid b1
  clear hv hr hno hB2 b0 b1
  refine (callsIn_wide (n := 6)).1 ?_
  refine callsIn_of_wp_marks Try.func19 rfl trivial ?_ rfl
  simp only [Try.ntmps19, List.size_toArray, List.length_cons, List.length_nil, Nat.reduceAdd, Nat.reduceSub, Array.replicate_succ, Array.replicate_zero, List.push_toArray, List.append_toArray, List.nil_append, List.cons_append]
  gi_wp2_with (refine ⟨trivial, ?_⟩; gi_at_call 31; ((with_reducible refine (HS.out).mono ?_); rintro e w1 ⟨h1, b3⟩; obtain ⟨-, rfl⟩ := (show _ ∧ _ from h1.elim id (fun h => absurd h.1 HNO.out))))
  have x0 := (L14.Boxed.below HX0.out b3).alloc (.cells #[.bool false] 4)
  have x1 := (L14.Boxed.below HX1.out b3).alloc (.cells #[.bool false] 4)
  have hb4 := (HB2.out.trans (b3.mono HB2.out.size)).alloc (Nat.le_trans HB2.out.size b3.size) (.cells #[.bool false] 4)
  have c0 := x0.cell
  have c1 := x1.cell
  have f0 := x0.frozen
  have f1 := x1.frozen
  have l0 := x0.lt
  have l1 := x1.lt
  have z1 : w.heap.size ≤ w1.heap.size := Nat.le_trans HB2.out.size b3.size
  clear HS h1
  refine ⟨trivial, ?_⟩
  gi_wp2
  refine ⟨trivial, ?_⟩
  gi_wp2
  have k0 := ((x0.set (.slice none 0 0)).other (B' := w.heap.size + 1) (by omega) (.int .i64 19)).cell
  have k1 := ((x1.other (B' := w.heap.size) (by omega) (.slice none 0 0)).set (.int .i64 19)).cell
  refine ⟨.tuple #[.slice none 0 0, .int .i64 19], by simp [results, Try.results19, go_sem, k0, k1], .inl ⟨HR.out, rfl⟩, ?_⟩
  exact (hb4.setCell (p := ⟨w.heap.size, 0, none⟩) (Nat.le_refl _) _).setCell (p := ⟨w.heap.size + 1, 0, none⟩) (Nat.le_succ _) _

theorem sub_le (b : List UInt8) (i n : Nat) : (sub b i n).length ≤ b.length := by
  unfold sub
  rw [List.length_take, List.length_drop]; omega
theorem rdT_sml (b : List UInt8) (hb : b.length ≤ 1000000) : Sml (rdT b (nS b)) ∧ nS b < 65536 ∨ ¬ rdB b := by
  by_cases h : rdB b
  · refine .inl ?_
    have hk : nS b < 65536 := by
      have := va_lt (sub b 6 2)
      rw [sub_len _ _ _ (by have := h.1; omega)] at this
      exact this
    refine ⟨⟨by rw [rdT_len]; omega, fun s hs => ?_⟩, hk⟩
    obtain ⟨i, hi, rfl⟩ := List.mem_map.1 hs
    exact Nat.le_trans (sub_le _ _ _) hb
  · exact .inr h

set_option maxRecDepth 100000 in
set_option maxHeartbeats 4000000 in
theorem read_no2 (a : Option Addr) (n c : Nat) (b : List UInt8) (w : World) (hv : Rw eB w (.slice a n c) b) (hb : n ≤ 1000000) (hok : rdB b) (hR : chkV (rdT b (nS b)) ≠ 0) :
    Calls Try.prog 19 #[.slice a n c] w (RdP b w) := by
  have hn := hv.at.1
  have hB2 : Below w.heap.size w ((w.alloc (.cells #[.slice none 0 0] 29)).alloc (.cells #[.int .i64 0] 26)) := bch (bnew _ _) (bnew _ _)
  have HS := Lib.hid (callsIn_wide (n := 6 - 1).2 (sections_at a n c b _ (hv.below hB2) hb))
  obtain ⟨hsm, hkb⟩ : Sml (rdT b (nS b)) ∧ nS b < 65536 := (rdT_sml b (by omega)).resolve_right (fun h => h hok)
  have hr : ¬ rdOk b := fun h => hR h.2.1
  obtain ⟨l, hl⟩ : ∃ l, rdT b (nS b) = l := ⟨_, rfl⟩
  have hlk : l.length = nS b := by rw [← hl, rdT_len]
  unfold SeP at HS
  rw [hl] at HS hsm hR
  have HR := Lib.hid hr
  obtain ⟨k, hk⟩ : ∃ k, nS b = k := ⟨_, rfl⟩
  rw [hk] at HS hlk hkb
  have HO := Lib.hid hok
  have HLK := Lib.hid hlk
  have HN := Lib.hid hn
  obtain ⟨R, hRR⟩ : ∃ R, chkV l = R := ⟨_, rfl⟩
  have HC := Lib.hid (fun W v (h : Ss W v l) => callsIn_wide (n := 6 - 1).2 (check_at v l R W h hsm hRR))
  rw [hRR] at hR
  have hRb : (R != 0) = true := by simpa using hR
  clear hRR
  have b0 := (Boxed.new w 29 (.slice none 0 0)).alloc (.cells #[.int .i64 0] 26)
  have b1 := Boxed.new (w.alloc (.cells #[.slice none 0 0] 29)) 26 (.int .i64 0)
  rw [World.size_alloc] at b1
  have HB2 := Lib.hid hB2
  have HX0 := Lib.hid b0
  have HX1 := Lib.hid b1
  clear hv hr hok hB2 b0 b1 hl hk hsm hlk hR hn
  refine (callsIn_wide (n := 6)).1 ?_
  refine callsIn_of_wp_marks Try.func19 rfl trivial ?_ rfl
  simp only [Try.ntmps19, List.size_toArray, List.length_cons, List.length_nil, Nat.reduceAdd, Nat.reduceSub, Array.replicate_succ, Array.replicate_zero, List.push_toArray, List.append_toArray, List.nil_append, List.cons_append]
  gi_wp2_with (first
    | (refine ⟨trivial, ?_⟩; gi_at_call 31; ((with_reducible refine (HS.out).mono ?_); rintro e w1 ⟨h1, b3⟩; obtain ⟨-, la, lc, ps, rfl, ho, hf⟩ := h1.resolve_left (fun h => h.1 HO.out); have hss := own_ss HLK.out ho (hf.below b3); have hs4 := hss.below (bnew w1 (.cells #[.bool true] 4))))
    | (refine ⟨trivial, ?_⟩; gi_at_call 24; ((with_reducible refine (HC.out _ _ hs4).mono ?_); rintro e w5 ⟨rfl, b5⟩)))
  have x0 := (L14.Boxed.below HX0.out b3).alloc (.cells #[.bool true] 4)
  have x1 := (L14.Boxed.below HX1.out b3).alloc (.cells #[.bool true] 4)
  have hb4 := (HB2.out.trans (b3.mono HB2.out.size)).alloc (Nat.le_trans HB2.out.size b3.size) (.cells #[.bool true] 4)
  have y0 := L14.Boxed.below x0 b5
  have y1 := L14.Boxed.below x1 b5
  have hb5 := hb4.trans (b5.mono hb4.size)
  have c0 := y0.cell
  have c1 := y1.cell
  have f0 := y0.frozen
  have f1 := y1.frozen
  have l0 := y0.lt
  have l1 := y1.lt
  clear HS h1 HC
  refine ⟨trivial, ?_⟩
  gi_wp2
  have k0 := ((y0.set (.slice none 0 0)).other (B' := w.heap.size + 1) (by omega) (.int .i64 19)).cell
  have k1 := ((y1.other (B' := w.heap.size) (by omega) (.slice none 0 0)).set (.int .i64 19)).cell
  refine ⟨.tuple #[.slice none 0 0, .int .i64 19], by simp [results, Try.results19, go_sem, k0, k1], .inl ⟨HR.out, rfl⟩, ?_⟩
  exact (hb5.setCell (p := ⟨w.heap.size, 0, none⟩) (Nat.le_refl _) _).setCell (p := ⟨w.heap.size + 1, 0, none⟩) (Nat.le_succ _) _

set_option maxRecDepth 100000 in
set_option maxHeartbeats 4000000 in
theorem read_no3 (a : Option Addr) (n c : Nat) (b : List UInt8) (w : World) (hv : Rw eB w (.slice a n c) b) (hb : n ≤ 1000000) (hok : rdB b) (hR : chkV (rdT b (nS b)) = 0) (hsz : szL (rdT b (nS b)) ≠ n) :
    Calls Try.prog 19 #[.slice a n c] w (RdP b w) := by
  have hn := hv.at.1
  have hB2 : Below w.heap.size w ((w.alloc (.cells #[.slice none 0 0] 29)).alloc (.cells #[.int .i64 0] 26)) := bch (bnew _ _) (bnew _ _)
  have HS := Lib.hid (callsIn_wide (n := 6 - 1).2 (sections_at a n c b _ (hv.below hB2) hb))
  obtain ⟨hsm, hkb⟩ : Sml (rdT b (nS b)) ∧ nS b < 65536 := (rdT_sml b (by omega)).resolve_right (fun h => h hok)
  have hr : ¬ rdOk b := fun h => hsz (by rw [← wr_len, h.2.2]; exact hn)
  obtain ⟨l, hl⟩ : ∃ l, rdT b (nS b) = l := ⟨_, rfl⟩
  have hlk : l.length = nS b := by rw [← hl, rdT_len]
  unfold SeP at HS
  rw [hl] at HS hsm hR hsz
  have HR := Lib.hid hr
  obtain ⟨k, hk⟩ : ∃ k, nS b = k := ⟨_, rfl⟩
  rw [hk] at HS hlk hkb
  have HO := Lib.hid hok
  have HLK := Lib.hid hlk
  have HN := Lib.hid hn
  obtain ⟨S, hSS⟩ : ∃ S, szL l = S := ⟨_, rfl⟩
  have HC := Lib.hid (fun W v (h : Ss W v l) => callsIn_wide (n := 6 - 1).2 (check_at v l 0 W h hsm hR))
  have HZ := Lib.hid (fun W v (h : Ss W v l) => callsIn_wide (n := 6 - 1).2 (size_at v l S W h hsm hSS))
  rw [hSS] at hsz
  have hRb : ((S : Int) != (n : Int)) = true := by
    simp only [bne_iff_ne, ne_eq]
    omega
  clear hSS
  have b0 := (Boxed.new w 29 (.slice none 0 0)).alloc (.cells #[.int .i64 0] 26)
  have b1 := Boxed.new (w.alloc (.cells #[.slice none 0 0] 29)) 26 (.int .i64 0)
  rw [World.size_alloc] at b1
  have HB2 := Lib.hid hB2
  have HX0 := Lib.hid b0
  have HX1 := Lib.hid b1
  clear hv hr hok hB2 b0 b1 hl hk hsm hlk hR hn hsz
  refine (callsIn_wide (n := 6)).1 ?_
  refine callsIn_of_wp_marks Try.func19 rfl trivial ?_ rfl
  simp only [Try.ntmps19, List.size_toArray, List.length_cons, List.length_nil, Nat.reduceAdd, Nat.reduceSub, Array.replicate_succ, Array.replicate_zero, List.push_toArray, List.append_toArray, List.nil_append, List.cons_append]
  gi_wp2_with (first
    | (refine ⟨trivial, ?_⟩; gi_at_call 31; ((with_reducible refine (HS.out).mono ?_); rintro e w1 ⟨h1, b3⟩; obtain ⟨-, la, lc, ps, rfl, ho, hf⟩ := h1.resolve_left (fun h => h.1 HO.out); have hss := own_ss HLK.out ho (hf.below b3); have hs4 := hss.below (bnew w1 (.cells #[.bool true] 4))))
    | (refine ⟨trivial, ?_⟩; gi_at_call 24; ((with_reducible refine (HC.out _ _ hs4).mono ?_); rintro e w5 ⟨rfl, b5⟩; have hs5 := hs4.below b5))
    | (refine ⟨trivial, ?_⟩; gi_at_call 13; ((with_reducible refine (HZ.out _ _ hs5).mono ?_); rintro e w6 ⟨rfl, b6⟩; have x0 := (L14.Boxed.below HX0.out b3).alloc (.cells #[.bool true] 4); have x1 := (L14.Boxed.below HX1.out b3).alloc (.cells #[.bool true] 4); have hb4 := (HB2.out.trans (b3.mono HB2.out.size)).alloc (Nat.le_trans HB2.out.size b3.size) (.cells #[.bool true] 4); have y0 := L14.Boxed.below (L14.Boxed.below x0 b5) b6; have y1 := L14.Boxed.below (L14.Boxed.below x1 b5) b6; have hb6 := (hb4.trans (b5.mono hb4.size)).trans (b6.mono (Nat.le_trans hb4.size b5.size)); have c0 := y0.cell; have c1 := y1.cell; have f0 := y0.frozen; have f1 := y1.frozen; have l0 := y0.lt; have l1 := y1.lt; clear x0 x1 hb4)))
  have k0 := ((y0.set (.slice none 0 0)).other (B' := w.heap.size + 1) (by omega) (.int .i64 19)).cell
  have k1 := ((y1.other (B' := w.heap.size) (by omega) (.slice none 0 0)).set (.int .i64 19)).cell
  refine ⟨.tuple #[.slice none 0 0, .int .i64 19], by simp [results, Try.results19, go_sem, k0, k1], .inl ⟨HR.out, rfl⟩, ?_⟩
  exact (hb6.setCell (p := ⟨w.heap.size, 0, none⟩) (Nat.le_refl _) _).setCell (p := ⟨w.heap.size + 1, 0, none⟩) (Nat.le_succ _) _
end Go.Proofs.Ytdamijicombmkaa.L15
