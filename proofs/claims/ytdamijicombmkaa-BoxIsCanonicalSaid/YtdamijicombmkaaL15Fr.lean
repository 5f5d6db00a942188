/- What front returns: what stands ahead of the data in the container of correct sections. Condition: memory holds the sections, which are no more than 16 of no more than 1000000 bytes each. -/
import Derived.Test.YtdamijicombmkaaL15Tl
namespace Go.Proofs.Ytdamijicombmkaa.L15
open Go.RowKit L14
attribute [local go_sem] Oper.semAt_some

theorem rowZ_zeros (xs : List UInt8) (N : Nat) : ∀ k, xs.length + k ≤ N → rowZ eB (.int .u8 0) xs N = rowZ eB (.int .u8 0) (xs ++ List.replicate k 0) N
  | 0, _ => by simp
  | k + 1, h => by
    rw [rowZ_zeros xs N k (by omega), List.replicate_succ', ← List.append_assoc]
    exact rowZ_zero eB (.int .u8 0) _ 0 N rfl (by simp; omega)
/-- The row of N bytes at block g begins with xs, and is zero behind them. -/
def At (w : World) (g N : Nat) (xs : List UInt8) : Prop := w.heap[g]? = some (.cells (rowZ eB (.int .u8 0) xs N) 5 (0, 0))
theorem At.up {w w' : World} {g N : Nat} {xs : List UInt8} (h : At w g N xs) (hb : Below w.heap.size w w') : At w' g N xs := (hb.block g (lt_of_block h)).trans h
theorem put_is (g m N x : Nat) (xs ys : List UInt8) (o : Nat) (X : Int) (w : World) (h : At w g N xs) (ho : xs.length = o) (hm : m ≤ 4) (hN : o + m ≤ N) (hNN : N ≤ 1000000000) (hx : x < 4294967296) (hX : X = (x : Int)) (hys : ys = xs ++ le m x) :
    Calls Try.prog 41 #[.slice (some ⟨g, o, none⟩) m m, .int .i64 X] w fun e w' => e = .returned (.tuple #[]) ∧ At w' g N ys ∧ Oth g w w' := by
  subst hX hys
  exact put_at g m N x xs o w ho hm hN hNN hx h

set_option maxHeartbeats 8000000 in
set_option maxRecDepth 100000 in
theorem front_at (v : Value) (l : List Sc) (H : Nat) (w : World) (hv : Ss w v l) (hs : Fw l) (hk : asc 0 l = true) (hH : hd l.length = H) :
    Calls Try.prog 36 #[v] w fun e w' => (∃ g, e = .returned (.slice (some ⟨g, 0, none⟩) H H) ∧ Rw eB w' (.slice (some ⟨g, 0, none⟩) H H) (frt l)) ∧ Below w.heap.size w w' := by
  obtain ⟨ib, ki, kz0, kz1, kz2⟩ := info_parts infoByte
  have hsz8 : (Try.prog.info? 5).map (·.size) = some 1 := by rw [ki]; simp [kz1]
  obtain ⟨n, hn⟩ : ∃ n, l.length = n := ⟨_, rfl⟩
  obtain ⟨S, hS⟩ : ∃ S, szL l = S := ⟨_, rfl⟩
  obtain ⟨a, c, rfl, -, -, hc⟩ := hv.form hn
  have hnl := hs.n
  have htt := hs.tot
  have hsz := hs.sz
  rw [hn] at hnl hH
  rw [hS] at hsz
  have hHb : H ≤ 300 ∧ 16 + 12 * n ≤ H := by
    have h1 := up_le (16 + 12 * n)
    have h2 := up_ge (16 + 12 * n)
    rw [← hH]; unfold hd; omega
  obtain ⟨hH1, hH2⟩ := hHb
  have HZ := Lib.hid (fun W (hb : Below w.heap.size w W) => size_at (.slice a n c) l S W (hv.below hb) hs.sml hS)
  have HDS := Lib.hid (fun W => dataS_at n H W (by omega) hH)
  have hs1 : ∀ W, (Instr.slice 25 (.slice (some ⟨w.heap.size, 0, none⟩) H H) (some (.int .i64 4)) (some (.int .i64 6)) (some (.int .i64 6))).run Try.prog W = .ok (.slice (some ⟨w.heap.size, 4, none⟩) 2 2) W := fun W => run_three und8 size8 w.heap.size 0 H H 4 6 (by omega) (by omega) W
  have hs2 : ∀ W, (Instr.slice 25 (.slice (some ⟨w.heap.size, 0, none⟩) H H) (some (.int .i64 6)) (some (.int .i64 8)) (some (.int .i64 8))).run Try.prog W = .ok (.slice (some ⟨w.heap.size, 6, none⟩) 2 2) W := fun W => run_three und8 size8 w.heap.size 0 H H 6 8 (by omega) (by omega) W
  have hs3 : ∀ W, (Instr.slice 25 (.slice (some ⟨w.heap.size, 0, none⟩) H H) (some (.int .i64 8)) (some (.int .i64 12)) (some (.int .i64 12))).run Try.prog W = .ok (.slice (some ⟨w.heap.size, 8, none⟩) 4 4) W := fun W => run_three und8 size8 w.heap.size 0 H H 8 12 (by omega) (by omega) W
  have G1 := Lib.hid (show (w.alloc (.cells (madeCells #[.int .u8 0] H) 5)).heap[w.heap.size]? = some (.cells (rowZ eB (.int .u8 0) [] H) 5 (0, 0)) by
    rw [← rowZ_made eB]
    exact heap_alloc_new w _)
  have HX := Lib.hid (show ((rowZ eB (.int .u8 0) [] H).toList.take 0 ++ Lib.byteCells ([83, 76, 67, 49] : List UInt8) ++ (rowZ eB (.int .u8 0) [] H).toList.drop (0 + 4)).toArray = rowZ eB (.int .u8 0) [83, 76, 67, 49] H from rowZ_copy eB (.int .u8 0) [] [83, 76, 67, 49] H (by simp; omega))
  have HSz := Lib.hid (show (⟨#[83, 76, 67, 49]⟩ : ByteArray).size = 4 from rfl)
  have HRS := Lib.hid (rowZ_size eB (.int .u8 0) [] H (by simp))
  have P1 := Lib.hid (fun W (h : At W w.heap.size H [83, 76, 67, 49]) => put_is w.heap.size 2 H 1 _ ([83, 76, 67, 49] ++ le 2 1) 4 1 W h rfl (by omega) (by omega) (by omega) (by omega) rfl rfl)
  have P2 := Lib.hid (fun W (h : At W w.heap.size H ([83, 76, 67, 49] ++ le 2 1)) => put_is w.heap.size 2 H n _ ([83, 76, 67, 49] ++ le 2 1 ++ le 2 n) 6 (n : Int) W h rfl (by omega) (by omega) (by omega) (by omega) rfl rfl)
  have P3 := Lib.hid (fun W (h : At W w.heap.size H ([83, 76, 67, 49] ++ le 2 1 ++ le 2 n)) => put_is w.heap.size 4 H S _ ([83, 76, 67, 49] ++ le 2 1 ++ le 2 n ++ le 4 S) 8 (S : Int) W h rfl (by omega) (by omega) (by omega) (by omega) rfl rfl)
  have HE := Lib.hid (show rowZ eB (.int .u8 0) ([83, 76, 67, 49] ++ le 2 1 ++ le 2 n ++ le 4 S) H = rowZ eB (.int .u8 0) (hea l) H by
    rw [rowZ_zeros _ H 4 (by simp [le_len]; omega), hea, hn, hS]; rfl)
  have HC := Lib.hid hc
  have HN := Lib.hid hn
  have HT := Lib.hid htt
  have HH := Lib.hid hH
  have HM := Lib.hid hs.d
  have HK := Lib.hid hk
  clear hn hc hv hs hk hS htt hH
  go_enter Try.func36, Try.ntmps36
  go_wp2_with (first
    | (go_at_call 26; ((with_reducible refine (HDS.out _).mono ?_); rintro e w1 ⟨rfl, rfl⟩))
    | (at_make; refine wpList_make_row _ rfl _ _ 25 rfl 5 ib (.int .u8 0) Try.underlying25 ki kz0 kz1 rfl .i64 .i64 H rfl rfl (by rw [kz2]; omega) (by omega) ?_)
    | ((with_reducible refine wpList_copy_str rfl _ _ 25 9 rfl 5 Try.underlying25 hsz8 w.heap.size 0 H H ⟨#[83, 76, 67, 49]⟩ rfl rfl _ 5 G1.out (by rw [HSz.out]; omega) (by rw [HRS.out, HSz.out]; omega) ?_); intro w2 hw2; have BT2 : Below w.heap.size w w2 := (by rw [hw2]; exact below_setRow (bnew w _) (Nat.le_refl _) _); have G2 : At w2 w.heap.size H [83, 76, 67, 49] := (by unfold At; rw [← HX.out, hw2]; exact setRow_heap _ _ _ _ _ _ G1.out); clear hw2)
    | (go_at_call 41; ((with_reducible refine (P1.out _ G2).mono ?_); rintro e w3 ⟨rfl, G3, b3⟩; have BT3 := BT2.trans b3.b))
    | (go_at_call 41; ((with_reducible refine (P2.out _ G3).mono ?_); rintro e w4 ⟨rfl, G4, b4⟩; have BT4 := BT3.trans b4.b)))
  have G4h := Lib.hid G4
  have B4h := Lib.hid BT4
  clear G2 G3 G4 BT2 BT3 BT4 b3 b4 P1 P2 hs1 hs2
  refine wp_region_held_drew (S := fun _ => True) (by kernel_rfl) trivial (fun hH => ?_)
  refine wpAnyH_take (i := 0) (oi := ⟨some 23, .move (.tmp 4), _, _, _, none⟩) (v := .slice (some ⟨w.heap.size, 0, none⟩) H H) rfl (by kernel_rfl) (by kernel_rfl) (by kernel_rfl) (fun _ _ _ h => h) (Or.inl ⟨by rfl, fun wS hS => by rfl⟩) hH ?_
  simp only [Act.put, List.setIfInBounds_toArray, List.set_cons_zero, List.set_cons_succ]
  refine wpAnyH_take (i := 1) (oi := ⟨some 24, .slice 25 (.tmp 23) (some (.const (.int .i64 8))) (some (.const (.int .i64 12))) (some (.const (.int .i64 12))), _, _, _, none⟩) (v := .slice (some ⟨w.heap.size, 8, none⟩) 4 4) rfl (by kernel_rfl) (by kernel_rfl) (by kernel_rfl) (fun _ _ _ h => h) (Or.inl ⟨by rfl, fun wS hS => (by have q := hs3 wS; go_simp)⟩) hH ?_
  simp only [Act.put, List.setIfInBounds_toArray, List.set_cons_zero, List.set_cons_succ]
  refine wpAnyH_take (i := 2) (oi := ⟨some 25, .move (.tmp 0), _, _, _, none⟩) (v := .slice a n c) rfl (by kernel_rfl) (by kernel_rfl) (by kernel_rfl) (fun _ _ _ h => h) (Or.inl ⟨by rfl, fun wS hS => by rfl⟩) hH ?_
  simp only [Act.put, List.setIfInBounds_toArray, List.set_cons_zero, List.set_cons_succ]
  refine wpAnyH_ready (rs := [3]) (by kernel_rfl) (by simp) ?_
  refine AllReadyH.cons (o := ⟨some 26, .call ⟨.value (.func 13), #[.tmp 25], #[29]⟩, _, _, _, none⟩) rfl (fun K hK => ?_) AllReadyH.nil
  go_simp
  refine (HZ.out _ B4h.out.drew).mono ?_
  rintro e w5 ⟨rfl, b5⟩
  have G5 : At w5 w.heap.size H _ := (show At w4.drew w.heap.size H _ from G4h.out).up b5
  have B5 := B4h.out.drew.trans (b5.mono B4h.out.size)
  refine hK.out _ _ trivial (fun hH2 => ?_)
  clear hK K hH
  (try simp only [Act.put, List.setIfInBounds_toArray, List.set_cons_zero, List.set_cons_succ])
  refine wpAnyH_ready (rs := [4]) (by kernel_rfl) (by simp) ?_
  refine AllReadyH.cons (o := ⟨some 27, .call ⟨.value (.func 41), #[.tmp 24, .tmp 26], #[25, 3]⟩, _, _, _, none⟩) rfl (fun K hK => ?_) AllReadyH.nil
  go_simp
  refine (P3.out _ G5).mono ?_
  rintro e w6 ⟨rfl, G6, b6⟩
  have B6 := B5.trans b6.b
  refine hK.out _ _ trivial (fun hH3 => ?_)
  clear hK K hH2
  (try simp only [Act.put, List.setIfInBounds_toArray, List.set_cons_zero, List.set_cons_succ])
  refine wpAnyH_done (by kernel_rfl) ?_ _
  have H6 := Lib.hid (show At w6 w.heap.size H (hea l) ∧ Below w.heap.size w w6 from ⟨by unfold At; rw [← HE.out]; exact G6, B6⟩)
  clear G6 B6 b6 G5 B5 b5 hH3 P3 hs3
  go_wp2
  go_loopw [3, 5, 6, 7, 30] (fun at' _ _ _ q wr => ∃ j : Nat, j ≤ n ∧ q = .int .i64 (j : Int) ∧ at' = .int .i64 ((H + tot (l.take j) : Nat) : Int) ∧ Hid (At wr w.heap.size H (hea l ++ rows H (l.take j)) ∧ Below w.heap.size w wr)) (fun _ _ _ _ q _ => n - (intOf q).toNat)
  case atStart => exact ⟨0, Nat.zero_le _, rfl, by simp [tot], Lib.hid ⟨by simpa [rows] using H6.out.1, H6.out.2⟩⟩
  case round =>
    clear H6
    obtain ⟨j, hj, rfl, rfl, hI⟩ := hrel
    obtain ⟨hA, hB⟩ := hI.out
    by_cases hlt : j < n
    · have hjl : j < l.length := by rw [HN.out]; exact hlt
      obtain ⟨bb, o, rfl, hbl, hcc⟩ := HC.out (by omega)
      obtain ⟨x0, dv, x1, hr⟩ := hcc j hjl
      obtain ⟨m, hm⟩ : ∃ m, l[j].2.length = m := ⟨_, rfl⟩
      obtain ⟨da, dc, rfl, -⟩ := hr.form hm
      have hk := asc_lt l 0 l[j] HK.out (List.getElem_mem hjl)
      obtain ⟨kn, hkn⟩ : ∃ kn : Nat, l[j].1 = (kn : Int) := ⟨l[j].1.toNat, by omega⟩
      rw [hkn] at x0 hk
      have hml := HM.out _ (List.getElem_mem hjl)
      rw [hm] at hml
      have hst := tot_step l j hjl
      have hle := tot_le l (j + 1)
      have htt := HT.out
      rw [hm] at hst
      obtain ⟨u, hu⟩ : ∃ u, up m = u := ⟨_, rfl⟩
      have HP := Lib.hid (fun W => padded_at m u W (by omega) hu)
      rw [hu] at hst
      have hrw := rows_snoc l j H hjl
      have hro : row l[j] (H + tot (l.take j)) = le 4 kn ++ le 4 (H + tot (l.take j)) ++ le 4 m := by
        unfold row
        rw [hkn, hm, Int.toNat_natCast]
      rw [hro] at hrw
      obtain ⟨t, ht⟩ : ∃ t, tot (l.take j) = t := ⟨_, rfl⟩
      rw [ht] at hst hrw ⊢
      have htb : t ≤ 17000000 := by omega
      have hub : u ≤ 17000000 := by omega
      obtain ⟨A, hA'⟩ : ∃ A, H + t = A := ⟨_, rfl⟩
      rw [hA'] at hrw ⊢
      have hAb : A ≤ 17000300 := by omega
      have HA2 := Lib.hid (show H + tot (l.take (j + 1)) = A + u by omega)
      have hln : (hea l ++ rows H (l.take j)).length = 16 + 12 * j := by
        rw [List.length_append, hea_len, rows_len, List.length_take, Nat.min_eq_left (by omega)]
      have hap : hea l ++ rows H (l.take (j + 1)) = hea l ++ rows H (l.take j) ++ le 4 kn ++ le 4 A ++ le 4 m := by
        rw [hrw]; simp only [List.append_assoc]
      have HAP := Lib.hid hap
      obtain ⟨R, hR⟩ : ∃ R, 16 + 12 * j = R := ⟨_, rfl⟩
      obtain ⟨R2, hR2⟩ : ∃ R2, 16 + 12 * (j + 1) = R2 := ⟨_, rfl⟩
      have hRR : R2 = R + 12 := by omega
      have hRH : R + 12 ≤ H := by omega
      have RS1 := Lib.hid (fun W => rowS_at j (R : Int) W (by omega) (by rw [hR]))
      have hrs2 := fun W => rowS_at (j + 1) (R2 : Int) W (by omega) (by rw [hR2])
      have e1 : ((j + 1 : Nat) : Int) = (j : Int) + 1 := by omega
      rw [e1] at hrs2
      have RS2 := Lib.hid hrs2
      rw [hR] at hln
      have hsr : ∀ W, (Instr.slice 25 (.slice (some ⟨w.heap.size, 0, none⟩) H H) (some (.int .i64 (R : Int))) (some (.int .i64 (R2 : Int))) (some (.int .i64 (R2 : Int)))).run Try.prog W = .ok (.slice (some ⟨w.heap.size, R, none⟩) 12 12) W := fun W => by
        have := run_three und8 size8 w.heap.size 0 H H R R2 (by omega) (by omega) W
        rw [Nat.zero_add, show R2 - R = 12 by omega] at this
        exact this
      have hr1 : ∀ W, (Instr.slice 25 (.slice (some ⟨w.heap.size, R, none⟩) 12 12) (some (.int .i64 0)) (some (.int .i64 4)) (some (.int .i64 4))).run Try.prog W = .ok (.slice (some ⟨w.heap.size, R, none⟩) 4 4) W := fun W => run_three und8 size8 w.heap.size R 12 12 0 4 (by omega) (by omega) W
      have hr2 : ∀ W, (Instr.slice 25 (.slice (some ⟨w.heap.size, R, none⟩) 12 12) (some (.int .i64 4)) (some (.int .i64 8)) (some (.int .i64 8))).run Try.prog W = .ok (.slice (some ⟨w.heap.size, R + 4, none⟩) 4 4) W := fun W => run_three und8 size8 w.heap.size R 12 12 4 8 (by omega) (by omega) W
      have hr3 : ∀ W, (Instr.slice 25 (.slice (some ⟨w.heap.size, R, none⟩) 12 12) (some (.int .i64 8)) (some (.int .i64 12)) (some (.int .i64 12))).run Try.prog W = .ok (.slice (some ⟨w.heap.size, R + 8, none⟩) 4 4) W := fun W => run_three und8 size8 w.heap.size R 12 12 8 12 (by omega) (by omega) W
      have Q1 := Lib.hid (fun W (h : At W w.heap.size H (hea l ++ rows H (l.take j))) => put_is w.heap.size 4 H kn _ (hea l ++ rows H (l.take j) ++ le 4 kn) R (kn : Int) W h hln (by omega) (by omega) (by omega) (by omega) rfl rfl)
      have Q2 := Lib.hid (fun W (h : At W w.heap.size H (hea l ++ rows H (l.take j) ++ le 4 kn)) => put_is w.heap.size 4 H A _ (hea l ++ rows H (l.take j) ++ le 4 kn ++ le 4 A) (R + 4) (A : Int) W h (by rw [List.length_append, hln, le_len]) (by omega) (by omega) (by omega) (by omega) rfl rfl)
      have Q3 := Lib.hid (fun W (h : At W w.heap.size H (hea l ++ rows H (l.take j) ++ le 4 kn ++ le 4 A)) => put_is w.heap.size 4 H m _ (hea l ++ rows H (l.take j) ++ le 4 kn ++ le 4 A ++ le 4 m) (R + 8) (m : Int) W h (by rw [List.length_append, List.length_append, hln, le_len, le_len]) (by omega) (by omega) (by omega) (by omega) rfl rfl)
      have y0 := (hB.cell (p := ⟨bb, o + j * 2, none⟩) (by exact hbl)).trans x0
      have y1 := (hB.cell (p := ⟨bb, o + j * 2 + 1, none⟩) (by exact hbl)).trans x1
      have hsz1 := hB.size
      have HBA := Lib.hid (And.intro hA hB)
      clear hcc x0 x1 hr hm hkn hk hst hle htt hu hrw hro ht hA' hap hI hA hln hR hR2 hrs2 e1 hRR
      go_upto_region 10 with (fail)
      have hx := heap_alloc_last wr (.cells #[.int .i64 (kn : Int), .slice da m dc] 50)
      have B1 := bch HBA.out.2 (bnew wr (.cells #[.int .i64 (kn : Int), .slice da m dc] 50))
      have A1 := HBA.out.1.up (bnew wr (.cells #[.int .i64 (kn : Int), .slice da m dc] 50))
      have hgb : wr.heap.size ≠ w.heap.size := by
        have := lt_of_block HBA.out.1
        omega
      obtain ⟨gb, hg⟩ : ∃ gb, gb = wr.heap.size := ⟨_, rfl⟩
      rw [← hg] at hx hgb ⊢
      generalize wr.alloc (.cells _ 50) = W1 at hx B1 A1 ⊢
      have z0 : W1.cell? ⟨gb, 0, none⟩ = some (.int .i64 (kn : Int)) := by simp [World.cell?, hx]
      have z1 : W1.cell? ⟨gb, 1, none⟩ = some (.slice da m dc) := by simp [World.cell?, hx]
      have hlb : gb < W1.heap.size := lt_of_block hx
      have HGB := Lib.hid hgb
      have HA1 := Lib.hid A1
      have HB1 := Lib.hid B1
      clear hg y0 y1 hB hsz1 hx B1 A1 hgb HBA
      go_upto_region 11 with (first
        | (go_at_call 37; ((with_reducible refine (RS1.out _).mono ?_); rintro e w7 ⟨rfl, rfl⟩))
        | (go_at_call 37; ((with_reducible refine (RS2.out _).mono ?_); rintro e w7 ⟨rfl, rfl⟩)))
      refine wp_region_held_drew (S := fun W => W.cell? ⟨gb, 0, none⟩ = some (.int .i64 (kn : Int)) ∧ W.cell? ⟨gb, 1, none⟩ = some (.slice da m dc)) (by kernel_rfl) ⟨z0, z1⟩ (fun hH => ?_)
      refine wpAnyH_take (i := 0) (oi := ⟨some 45, .move (.tmp 7), _, _, _, none⟩) (v := .slice (some ⟨w.heap.size, R, none⟩) 12 12) rfl (by kernel_rfl) (by kernel_rfl) (by kernel_rfl) (fun _ _ _ h => h) (Or.inl ⟨by rfl, fun wS hS => by rfl⟩) hH ?_
      simp only [Act.put, List.setIfInBounds_toArray, List.set_cons_zero, List.set_cons_succ]
      refine wpAnyH_take (i := 1) (oi := ⟨some 46, .slice 25 (.tmp 45) (some (.const (.int .i64 0))) (some (.const (.int .i64 4))) (some (.const (.int .i64 4))), _, _, _, none⟩) (v := .slice (some ⟨w.heap.size, R, none⟩) 4 4) rfl (by kernel_rfl) (by kernel_rfl) (by kernel_rfl) (fun _ _ _ h => h) (Or.inl ⟨by rfl, fun wS hS => (by have q := hr1 wS; go_simp)⟩) hH ?_
      simp only [Act.put, List.setIfInBounds_toArray, List.set_cons_zero, List.set_cons_succ]
      refine wpAnyH_take (i := 2) (oi := ⟨some 47, .fieldAddr 50 (.tmp 6) 0, _, _, _, none⟩) (v := .pointer (some ⟨gb, 0, none⟩)) rfl (by kernel_rfl) (by kernel_rfl) (by kernel_rfl) (fun _ _ _ h => h) (Or.inl ⟨by rfl, fun wS hS => (by obtain ⟨q0, q1⟩ := hS; go_simp)⟩) hH ?_
      simp only [Act.put, List.setIfInBounds_toArray, List.set_cons_zero, List.set_cons_succ]
      refine wpAnyH_take (i := 3) (oi := ⟨some 48, .load 3 (.tmp 47), _, _, _, none⟩) (v := .int .i64 (kn : Int)) rfl (by kernel_rfl) (by kernel_rfl) (by kernel_rfl) (fun _ _ _ h => h) (Or.inl ⟨by rfl, fun wS hS => (by obtain ⟨q0, q1⟩ := hS; go_simp)⟩) hH ?_
      simp only [Act.put, List.setIfInBounds_toArray, List.set_cons_zero, List.set_cons_succ]
      refine wpAnyH_ready (rs := [4]) (by kernel_rfl) (by simp) ?_
      refine AllReadyH.cons (o := ⟨some 49, .call ⟨.value (.func 41), #[.tmp 46, .tmp 48], #[25, 3]⟩, _, _, _, none⟩) rfl (fun K hK => ?_) AllReadyH.nil
      go_simp
      refine (Q1.out _ (show At W1.drew _ _ _ from HA1.out)).mono ?_
      rintro e w7 ⟨rfl, G7, b7⟩
      refine hK.out _ _ ⟨(b7.cell HGB.out).trans hH.1, (b7.cell HGB.out).trans hH.2⟩ (fun hH2 => ?_)
      clear hK K hH
      (try simp only [Act.put, List.setIfInBounds_toArray, List.set_cons_zero, List.set_cons_succ])
      refine wpAnyH_done (by kernel_rfl) ?_ _
      have HG7 := Lib.hid G7
      have HB7 := Lib.hid ((HB1.out.drew).trans b7.b)
      have y7 := hH2.1
      have z7 := hH2.2
      have hlb7 : gb < w7.heap.size := World.block_lt_of_cell? _ _ y7
      clear G7 b7 hH2 z0 z1 hlb RS1 RS2 hsr hr1 Q1
      go_upto_region 13 with (go_at_call 41; ((with_reducible refine (Q2.out _ HG7.out).mono ?_); rintro e w8 ⟨rfl, G8, b8⟩; have y8 := (b8.cell HGB.out).trans y7; have z8 := (b8.cell HGB.out).trans z7))
      have HB8 := Lib.hid (HB7.out.trans b8.b)
      clear y7 z7 hlb7 Q2 hr2
      refine wp_region_held_drew (S := fun W => W.cell? ⟨gb, 0, none⟩ = some (.int .i64 (kn : Int)) ∧ W.cell? ⟨gb, 1, none⟩ = some (.slice da m dc)) (by kernel_rfl) ⟨y8, z8⟩ (fun hH => ?_)
      refine wpAnyH_take (i := 0) (oi := ⟨some 54, .move (.tmp 7), _, _, _, none⟩) (v := .slice (some ⟨w.heap.size, R, none⟩) 12 12) rfl (by kernel_rfl) (by kernel_rfl) (by kernel_rfl) (fun _ _ _ h => h) (Or.inl ⟨by rfl, fun wS hS => by rfl⟩) hH ?_
      simp only [Act.put, List.setIfInBounds_toArray, List.set_cons_zero, List.set_cons_succ]
      refine wpAnyH_take (i := 1) (oi := ⟨some 55, .slice 25 (.tmp 54) (some (.const (.int .i64 8))) (some (.const (.int .i64 12))) (some (.const (.int .i64 12))), _, _, _, none⟩) (v := .slice (some ⟨w.heap.size, R + 8, none⟩) 4 4) rfl (by kernel_rfl) (by kernel_rfl) (by kernel_rfl) (fun _ _ _ h => h) (Or.inl ⟨by rfl, fun wS hS => (by have q := hr3 wS; go_simp)⟩) hH ?_
      simp only [Act.put, List.setIfInBounds_toArray, List.set_cons_zero, List.set_cons_succ]
      refine wpAnyH_take (i := 2) (oi := ⟨some 56, .fieldAddr 50 (.tmp 6) 1, _, _, _, none⟩) (v := .pointer (some ⟨gb, 1, none⟩)) rfl (by kernel_rfl) (by kernel_rfl) (by kernel_rfl) (fun _ _ _ h => h) (Or.inl ⟨by rfl, fun wS hS => (by obtain ⟨q0, q1⟩ := hS; go_simp)⟩) hH ?_
      simp only [Act.put, List.setIfInBounds_toArray, List.set_cons_zero, List.set_cons_succ]
      refine wpAnyH_take (i := 3) (oi := ⟨some 57, .load 25 (.tmp 56), _, _, _, none⟩) (v := .slice da m dc) rfl (by kernel_rfl) (by kernel_rfl) (by kernel_rfl) (fun _ _ _ h => h) (Or.inl ⟨by rfl, fun wS hS => (by obtain ⟨q0, q1⟩ := hS; go_simp)⟩) hH ?_
      simp only [Act.put, List.setIfInBounds_toArray, List.set_cons_zero, List.set_cons_succ]
      refine wpAnyH_take (i := 4) (oi := ⟨some 58, .call ⟨.builtin .len, #[.tmp 57], #[25]⟩, _, _, _, none⟩) (v := .int .i64 (m : Int)) rfl (by kernel_rfl) (by kernel_rfl) (by kernel_rfl) (fun _ _ _ h => h) (Or.inl ⟨by rfl, fun wS hS => (by go_simp)⟩) hH ?_
      simp only [Act.put, List.setIfInBounds_toArray, List.set_cons_zero, List.set_cons_succ]
      refine wpAnyH_ready (rs := [5]) (by kernel_rfl) (by simp) ?_
      refine AllReadyH.cons (o := ⟨some 59, .call ⟨.value (.func 41), #[.tmp 55, .tmp 58], #[25, 3]⟩, _, _, _, none⟩) rfl (fun K hK => ?_) AllReadyH.nil
      go_simp
      refine (Q3.out _ (show At w8.drew _ _ _ from G8)).mono ?_
      rintro e w9 ⟨rfl, G9, b9⟩
      refine hK.out _ _ ⟨(b9.cell HGB.out).trans hH.1, (b9.cell HGB.out).trans hH.2⟩ (fun hH3 => ?_)
      clear hK K hH
      (try simp only [Act.put, List.setIfInBounds_toArray, List.set_cons_zero, List.set_cons_succ])
      refine wpAnyH_done (by kernel_rfl) ?_ _
      have HG9 := Lib.hid G9
      have HB9 := Lib.hid ((HB8.out.drew).trans b9.b)
      have y9 := hH3.1
      have z9 := hH3.2
      have hlb9 : gb < w9.heap.size := World.block_lt_of_cell? _ _ y9
      clear G9 b9 hH3 G8 b8 y8 z8 Q3 hr3
      go_wp2_with (go_at_call 27; ((with_reducible refine (HP.out _).mono ?_); rintro e w10 ⟨rfl, rfl⟩))
      go_roundw
      case rel => exact ⟨j + 1, hlt, by go_num, by rw [HA2.out]; go_num, Lib.hid ⟨by rw [HAP.out]; exact HG9.out, HB9.out⟩⟩
      case measure => simp [intOf]; omega
    · obtain rfl : j = n := by omega
      have hto : l.take j = l := List.take_of_length_le (by rw [HN.out]; exact Nat.le_refl _)
      rw [hto] at hA
      have hfr : At wr w.heap.size H (frt l) := by
        have e : rowZ eB (.int .u8 0) (hea l ++ rows H l) H = rowZ eB (.int .u8 0) (frt l) H := by
          rw [rowZ_zeros (hea l ++ rows H l) H (H - (16 + 12 * j)) (by rw [List.length_append, hea_len, rows_len, HN.out]; omega), frt, tab, HN.out, HH.out, zs]
          congr 4
          rw [← HH.out]; rfl
        unfold At
        rw [← e]
        exact hA
      have HR := Lib.hid (Rw.rowZ (z := .int .u8 0) hfr (by rw [frt_len, HN.out, HH.out]))
      have HBB := Lib.hid hB
      clear hto hA hfr hI hB
      go_wp2
      go_ret
      exact ⟨⟨_, rfl, HR.out⟩, HBB.out⟩
end Go.Proofs.Ytdamijicombmkaa.L15
