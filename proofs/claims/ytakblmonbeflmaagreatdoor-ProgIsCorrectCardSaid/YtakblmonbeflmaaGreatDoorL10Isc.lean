/- ProgIsCorrect's walk: a program that Parse returns is correct, and has a line for each statement, in ascending order. Condition: the tables read as the program's text lays them. -/
import Derived.Test.YtakblmonbeflmaaGreatDoorL10Alv
import Derived.Test.YtakblmonbeflmaaGreatDoorShelc
namespace Go.Proofs.YtakblmonbeflmaaGreatDoor.L10
open Go.RowKit
attribute [local go_sem] Oper.semAt_some

set_option maxHeartbeats 1000000 in
theorem long_ex (t : ByteArray) (ht : t.size ≤ maxLen) : ∃ v : Int, (v = 1 ∨ (v = 0 ∧ t.size ≤ 20000)) ∧ ∀ w, Calls Tryz.prog 18 #[.string t] w fun e w' => e = .returned (.int .i64 v) ∧ w = w' := by
  have HC := Lib.hid (fun W => Tryz.strings_Count_one t 10 W)
  unfold maxLen at ht
  obtain ⟨n, hn⟩ : ∃ n, Lib.countByte t.data.toList 10 = n := ⟨_, rfl⟩
  rw [hn] at HC
  clear hn
  by_cases h : 20000 < t.size
  · refine ⟨1, .inl rfl, fun w => ?_⟩
    go_enter Tryz.func18, Tryz.ntmps18
    go_wp2
    go_ret
    exact ⟨rfl, rfl⟩
  · have h2 : t.size ≤ 20000 := by omega
    by_cases h3 : 400 < n
    · refine ⟨1, .inl rfl, fun w => ?_⟩
      go_enter Tryz.func18, Tryz.ntmps18
      go_wp2_with (go_at_call 38; ((with_reducible refine (HC.out _).mono ?_); rintro e w' ⟨rfl, rfl⟩))
      go_ret
      exact ⟨rfl, rfl⟩
    · refine ⟨0, .inr ⟨rfl, h2⟩, fun w => ?_⟩
      go_enter Tryz.func18, Tryz.ntmps18
      go_wp2_with (go_at_call 38; ((with_reducible refine (HC.out _).mono ?_); rintro e w' ⟨rfl, rfl⟩))
      go_ret
      exact ⟨rfl, rfl⟩
theorem less_at (x y : Int) (b : Bool) (w : World) (h : decide (x < y) = b) : Calls Tryz.prog 42 #[.int .i64 x, .int .i64 y] w fun e w' => e = .returned (.bool b) ∧ w' = w := by
  have HN := Lib.hid (fun (x : Int) (w : World) => show Calls Tryz.prog 58 #[.int .i64 x] w fun e w' => e = .returned (.bool false) ∧ w = w' by
    have hx : (x != x) = false := by simp
    go_enter Tryz.func58, Tryz.ntmps58
    go_wp2
    go_ret
    exact ⟨rfl, rfl⟩)
  subst h
  go_enter Tryz.func42, Tryz.ntmps42
  go_wp2_with (go_at_call 58; ((with_reducible refine (HN.out _ _).mono ?_); rintro e w' ⟨rfl, rfl⟩))
  go_ret
  exact ⟨rfl, rfl⟩
set_option maxHeartbeats 1000000 in
set_option maxRecDepth 100000 in
theorem sorted_at (v : Value) (l : List Int) (w : World) (hl : l.length ≤ 100000) (hv : InAt w v l) (hs : l.Pairwise (· ≤ ·)) :
    Calls Tryz.prog 20 #[v] w fun e w' => e = .returned (.bool true) ∧ Below w.heap.size w w' := by
  obtain ⟨n, hn⟩ : ∃ n, l.length = n := ⟨_, rfl⟩
  obtain ⟨a, c, rfl, hc⟩ := in_form hn hv
  rw [hn] at hl
  have HN := Lib.hid hn
  have HC := Lib.hid hc
  have HS := Lib.hid hs
  clear hn hc hv hs
  go_enter Tryz.func20, Tryz.ntmps20
  go_wp2
  go_loopw [3] (fun i wr => ∃ (k q : Nat), k ≤ n ∧ i = .int .i64 ((k : Int) - 1) ∧ wr = w.drewN q) (fun i _ => (intOf i).toNat)
  case atStart => exact ⟨n, 0, Nat.le_refl _, rfl, rfl⟩
  case round =>
    obtain ⟨k, q, hk, rfl, hw⟩ := hrel
    have HW := Lib.hid hw
    clear hw
    by_cases h2 : 2 ≤ k
    · obtain ⟨m, rfl⟩ : ∃ m, k = m + 2 := ⟨k - 2, by omega⟩
      have e1 : ((m + 2 : Nat) : Int) - 1 = (m : Int) + 1 := by omega
      rw [e1]
      obtain ⟨b, o, rfl, hb, hc⟩ := HC.out (by omega)
      have hm1 : m + 1 < l.length := by rw [HN.out]; omega
      have x1 : wr.cell? ⟨b, o + (m + 1), none⟩ = some (.int .i64 l[m + 1]) := by rw [HW.out]; exact hc (m + 1) hm1
      have x0 : wr.cell? ⟨b, o + m, none⟩ = some (.int .i64 l[m]) := by rw [HW.out]; exact hc m (by omega)
      have hle : l[m] ≤ l[m + 1] := List.pairwise_iff_getElem.1 HS.out m (m + 1) (by omega) hm1 (by omega)
      obtain ⟨x, hx⟩ : ∃ x, l[m] = x := ⟨_, rfl⟩
      obtain ⟨y, hy⟩ : ∃ y, l[m + 1] = y := ⟨_, rfl⟩
      rw [hx] at x0 hle
      rw [hy] at x1 hle
      have HL := Lib.hid (fun W => less_at y x false W (by simp; omega))
      clear hx hy hc e1 hle
      have g1 : IntKind.i64.wrap (m : Int) = (m : Int) := IntWalk.i64_in _ (by omega)
      have g2 : (0 : Int) ≤ (m : Int) := by omega
      have g3 : (m : Int) < (n : Int) := by omega
      have g4 : (0 : Int) ≤ (m : Int) + 1 := by omega
      have g5 : (m : Int) + 1 < (n : Int) := by omega
      have g6 : (0 : Int) < (m : Int) + 1 := by omega
      have g7 : ((m : Int) + 1).toNat = m + 1 := by omega
      go_wp2
      go_quiet ((go_at_call 42; exact Calls.quiet_of_same (HL.out _)))
      go_wp2
      go_roundw
      case rel => exact ⟨m + 1, q + nq, by omega, by simp, by rw [HW.out, World.drewN_drewN]⟩
      case measure => simp [intOf]
    · have h3 : ¬ (0 : Int) < (k : Int) - 1 := by omega
      go_wp2
      go_ret
      exact ⟨rfl, by rw [HW.out]; exact L8.bdN (Below.refl _ _) _⟩
theorem frB_all : ∀ (l : List (Bool × Nat × Int)), (frB l).2.2 = 0 → frB l = (false, 0, 0) ∧ ∀ c ∈ l, c.2.2 = 0
  | [], _ => ⟨rfl, fun c hc => by cases hc⟩
  | c :: r, h => by
    rw [frB] at h ⊢
    by_cases hc : c.2.2 = 0
    · rw [if_pos hc] at h ⊢
      obtain ⟨h1, h2⟩ := frB_all r h
      refine ⟨h1, fun d hd => ?_⟩
      rcases List.mem_cons.1 hd with rfl | hd
      · exact hc
      · exact h2 d hd
    · rw [if_neg hc] at h
      exact absurd h hc
theorem paV_ok {t : ByteArray} {p : Pg} {l : List Int} {k er : Int} (ht : t.size ≤ 20000) (h : paV t = (p, l, k, er)) (he : er = 0) :
    brV p = (false, 0, 0) ∧ Fits p ∧ Sml p ∧ l.length = p.stmts.length ∧ l.Pairwise (· ≤ ·) ∧ 0 < p.stmts.length := by
  have hO := foldL_ok (L8.lns t) Rd.z 0 Rd.Ok.z
  have hsz := lns_szs t
  unfold paV at h
  generalize foldL Rd.z (L8.lns t) = q at h hO
  subst he
  unfold paF at h
  split at h
  · rename_i h1
    exact absurd (by simpa using congrArg (fun r : Pg × List Int × Int × Int => r.2.2.2) h) h1
  split at h
  · exact absurd (congrArg (fun r : Pg × List Int × Int × Int => r.2.2.2) h) (by simp)
  split at h
  · rename_i h1
    exact absurd (by simpa using congrArg (fun r : Pg × List Int × Int × Int => r.2.2.2) h) h1
  · rename_i h1
    have h1 : (brV ⟨q.1.maps, q.1.stmts⟩).2.2 = 0 := by simpa using h1
    obtain ⟨rfl, rfl⟩ : (⟨q.1.maps, q.1.stmts⟩ : Pg) = p ∧ q.1.sl = l := by
      simp only [Prod.mk.injEq] at h
      exact ⟨h.1, h.2.1⟩
    obtain ⟨h2, h3⟩ := frB_all _ h1
    have hf := hO.fits (by omega)
    refine ⟨h2, hf, ⟨hf.maps, hf.stmts, fun s hs => ?_⟩, hO.sl, hO.asc, ?_⟩
    · obtain ⟨i, hi, rfl⟩ := List.mem_iff_getElem.1 hs
      exact hf.lab_le i hi
    · have := h3 (false, (0, if 0 < q.1.stmts.length then 0 else 15)) (by simp [cnd])
      by_cases h4 : 0 < q.1.stmts.length
      · exact h4
      · simp [h4] at this
set_option maxHeartbeats 4000000 in
set_option maxRecDepth 100000 in
theorem iscorrect_walk (t : ByteArray) (ht : t.size ≤ maxLen) (w : World) (hT : L1.Wid w ∧ L2.Regs w) (h3 : 3 ≤ w.heap.size) : Calls Tryz.prog 7 #[.string t] w fun e w' => e = .returned (.bool true) ∧ Below w.heap.size w w' := by
  have tb : ∀ W, Below w.heap.size w W → L1.Wid W ∧ L2.Regs W := fun W hb => ⟨L4.wid_below hT.1 hb, hT.2.below hb⟩
  have HA := Lib.hid (fun W hb => alive10 W (tb W hb) (Nat.le_trans h3 hb.size))
  have HT := Lib.hid tb
  obtain ⟨v, hv, hl⟩ := long_ex t ht
  have HL := Lib.hid hl
  rcases hv with rfl | ⟨rfl, hs⟩
  · clear hT tb hl
    go_enter Tryz.func7, Tryz.ntmps7
    go_wp2_with (first | (go_at_call 18; ((with_reducible refine (HL.out _).mono ?_); rintro e w1 ⟨rfl, rfl⟩)) | (go_at_call 9; ((with_reducible refine (HA.out _ (Below.refl _ _)).mono ?_); rintro e w1 ⟨rfl, b1⟩)))
    go_ret
    exact ⟨rfl, b1⟩
  · obtain ⟨p, l, k, er, hpa⟩ : ∃ p l k er, paV t = (p, l, k, er) := ⟨_, _, _, _, rfl⟩
    have HP := Lib.hid (parse_at t w (by omega) hT h3 _ hpa)
    by_cases he : er = 0
    · obtain ⟨hbr, hf, hsm, hln, hso, hpos⟩ := paV_ok hs hpa he
      subst he
      obtain ⟨n, hn⟩ : ∃ n, p.stmts.length = n := ⟨_, rfl⟩
      obtain ⟨n1, hn1⟩ : ∃ n, p.maps.length = n := ⟨_, rfl⟩
      rw [hn] at hln hpos
      have hnb : n ≤ 100000 := by rw [← hn]; exact hf.stmts
      have HF := Lib.hid (And.intro hbr (And.intro hf (And.intro hso (And.intro hn (And.intro hn1 hln)))))
      have hposI : (0 : Int) < (n : Int) := by omega
      clear hT tb hl hs hpa hbr hf hsm hln hso hn hn1
      go_enter Tryz.func7, Tryz.ntmps7
      go_upto_region 6 with (first | (go_at_call 18; ((with_reducible refine (HL.out _).mono ?_); rintro e w1 ⟨rfl, rfl⟩)) | (go_at_call 19; ((with_reducible refine (HP.out).mono ?_); rintro e w1 ⟨vm, vs, lv, rfl, hp, hi, b1⟩; obtain ⟨a1, c1, rfl, -⟩ := df_form HF.out.2.2.2.2.1 hp.1; obtain ⟨a2, c2, rfl, -⟩ := sm_form HF.out.2.2.2.1 hp.2; obtain ⟨a3, c3, rfl, -⟩ := in_form HF.out.2.2.2.2.2 hi)))
      have hk1 := heap_alloc_last w1 (.cells #[.slice a1 n1 c1, .slice a2 n c2] 25)
      have hb1 := L8.bnew w1 (.cells #[.slice a1 n1 c1, .slice a2 n c2] 25)
      have hp1 := hp.below hb1
      have hi1 := hi.below hb1
      have B1 := L2.bch b1 hb1
      generalize w1.heap.size = k1 at hk1 ⊢
      generalize w1.alloc (.cells #[.slice a1 n1 c1, .slice a2 n c2] 25) = W1 at hk1 hb1 hp1 hi1 B1 ⊢
      clear hb1 hp hi b1
      have HC := Lib.hid (check_at (.slice a1 n1 c1) (.slice a2 n c2) p W1 hp1 HF.out.2.1 (HT.out W1 B1) false 0 0 HF.out.1)
      have HI := Lib.hid (fun W (hb : Below W1.heap.size W1 W) => sorted_at (.slice a3 n c3) l W (by rw [HF.out.2.2.2.2.2]; exact hnb) (hi1.below hb) HF.out.2.2.1)
      obtain ⟨x0, x1⟩ := cells2p hk1
      have HK := Lib.hid hk1
      have HB1 := Lib.hid B1
      clear hp1 hi1 hk1 B1
      go_wp2_with (first
        | (go_at_call 10; ((with_reducible refine HC.out.mono ?_); rintro e w2 ⟨rfl, b2⟩))
        | (go_at_call 9; ((with_reducible refine (HA.out _ (L2.bch HB1.out b2)).mono ?_); rintro e w3 ⟨rfl, b3⟩; have hk3 := L8.row_up (L8.row_up HK.out b2) b3; clear x0 x1; obtain ⟨x0, x1⟩ := cells2p hk3))
        | (go_at_call 20; ((with_reducible refine (HI.out _ (L2.bch b2 b3)).mono ?_); rintro e w4 ⟨rfl, b4⟩; have hk4 := L8.row_up hk3 b4; clear x0 x1; obtain ⟨x0, x1⟩ := cells2p hk4)))
      go_ret
      exact ⟨rfl, L2.bch (L2.bch (L2.bch HB1.out b2) b3) b4⟩
    · clear hT tb hl hs hpa
      obtain ⟨n, hn⟩ : ∃ n, p.stmts.length = n := ⟨_, rfl⟩
      obtain ⟨n1, hn1⟩ : ∃ n, p.maps.length = n := ⟨_, rfl⟩
      obtain ⟨n2, hn2⟩ : ∃ n, l.length = n := ⟨_, rfl⟩
      have HF := Lib.hid (And.intro hn (And.intro hn1 hn2))
      clear hn hn1 hn2
      go_enter Tryz.func7, Tryz.ntmps7
      go_wp2_with (first
        | (go_at_call 18; ((with_reducible refine (HL.out _).mono ?_); rintro e w1 ⟨rfl, rfl⟩))
        | (go_at_call 19; ((with_reducible refine (HP.out).mono ?_); rintro e w1 ⟨vm, vs, lv, rfl, hp, hi, b1⟩; obtain ⟨a1, c1, rfl, -⟩ := df_form HF.out.2.1 hp.1; obtain ⟨a2, c2, rfl, -⟩ := sm_form HF.out.1 hp.2; obtain ⟨a3, c3, rfl, -⟩ := in_form HF.out.2.2 hi; clear hp hi))
        | (go_at_call 9; ((with_reducible refine (HA.out _ (L2.bch b1 (L8.bnew _ _))).mono ?_); rintro e w3 ⟨rfl, b3⟩)))
      go_ret
      exact ⟨rfl, L2.bch (L2.bch b1 (L8.bnew _ _)) b3⟩
end Go.Proofs.YtakblmonbeflmaaGreatDoor.L10
