/- The examples of the chapter on programs hold. Condition: the tables read as the program's text lays them. -/
import Derived.Test.YtakblmonbeflmaaGreatDoorL10Clm
namespace Go.Proofs.YtakblmonbeflmaaGreatDoor.L10
open Go.RowKit
attribute [local go_sem] Oper.semAt_some

/-- The program of "exit". -/
def pgE : Pg := ⟨[], [⟨[], ⟨68, false, 0, 0, 0, 0⟩, ⟨#[]⟩, ⟨#[]⟩⟩]⟩
theorem pa0 : paV ⟨#[101, 120, 105, 116]⟩ = (pgE, [1], 0, 0) := by kernel_rfl
theorem pa1 : paV ⟨#[106, 97, 32, 120]⟩ = (pgZ, [], 1, 11) := by kernel_rfl
theorem pa2 : paV ⟨#[120, 58]⟩ = (pgZ, [], 1, 15) := by kernel_rfl
theorem brE : brV pgE = (false, 0, 0) := by kernel_rfl
theorem CloR.pg {H : Nat} {W : World} {vm vs : Value} {p : Pg} (h : CloR H W vm vs p) : PgAt W vm vs p := by
  obtain ⟨ll, hll, om, os, ow⟩ := h
  refine ⟨?_, ?_⟩
  · rcases om.2 with ⟨rfl, h0⟩ | ⟨g, cap, cur, rfl, _, hh, _⟩
    · exact .inr ⟨List.eq_nil_of_length_eq_zero (by simpa using h0), none, 0, rfl⟩
    · refine .inl ⟨g, 0, cap, rfl, lt_of_block hh, fun j hj i u hu => ?_⟩
      have := om.cells (g := g) rfl (j * 4 + i) u (flat_get dfL 4 (fun _ => rfl) p.maps j hj i u hu)
      rw [L8.add0] at this
      rw [Nat.zero_add]; exact this
  · rcases os.2 with ⟨rfl, h0⟩ | ⟨g, cap, cur, rfl, _, hh, _⟩
    · refine .inr ⟨?_, none, 0, rfl⟩
      rw [← hll, List.eq_nil_of_length_eq_zero (l := ll) (by simpa using h0)]; rfl
    · refine .inl ⟨g, 0, cap, by rw [← hll, List.length_map], lt_of_block hh, fun j hj => ?_⟩
      have hjl : j < ll.length := by rw [← hll, List.length_map] at hj; exact hj
      have e : p.stmts[j]'hj = ll[j].2 := by
        rw [List.getElem_of_eq hll.symm hj, List.getElem_map]
      rw [e]
      refine ⟨ll[j].1, L8.own_st (ow ll[j] (List.getElem_mem hjl)), fun i u hu => ?_⟩
      have := os.cells (g := g) rfl (j * 9 + i) u (flat_get (fun x : Value × Stm => smL x.1 x.2) 9 (fun _ => rfl) ll j hjl i u hu)
      rw [L8.add0] at this
      rw [Nat.zero_add]; exact this
theorem smlE : Sml pgE := ⟨by decide, by decide, fun s hs => by
  obtain rfl : s = ⟨[], ⟨68, false, 0, 0, 0, 0⟩, ⟨#[]⟩, ⟨#[]⟩⟩ := by simpa [pgE] using hs
  exact Nat.zero_le _⟩
theorem smlZ : Sml pgZ := ⟨by decide, by decide, fun s hs => by cases hs⟩
theorem fitE : Fits pgE := by
  refine ⟨by decide, by decide, by decide, fun d hd => (by cases hd), fun s hs t ht => ?_, fun s hs => ?_⟩
  · obtain rfl : s = ⟨[], ⟨68, false, 0, 0, 0, 0⟩, ⟨#[]⟩, ⟨#[]⟩⟩ := by simpa [pgE] using hs
    cases ht
  · obtain rfl : s = ⟨[], ⟨68, false, 0, 0, 0, 0⟩, ⟨#[]⟩, ⟨#[]⟩⟩ := by simpa [pgE] using hs
    exact ⟨Nat.zero_le _, Nat.zero_le _⟩
theorem neEZ : pgE ≠ pgZ := by
  intro h
  have := congrArg (fun p : Pg => p.stmts.length) h
  simp [pgE, pgZ] at this
/-- What the region of the examples keeps. -/
def PX (w0 W : World) (k : Nat) (vm vs : Value) : Prop := Below w0.heap.size w0 W ∧ W.heap[k]? = some (.cells #[vm, vs] 25)
theorem PX.below {w0 W W' : World} {k : Nat} {vm vs : Value} (h : PX w0 W k vm vs) (hb : Below W.heap.size W W') : PX w0 W' k vm vs := ⟨L2.bch h.1 hb, L8.row_up h.2 hb⟩
theorem keepX {w0 W W' : World} {k : Nat} {vm vs : Value} (hb : Below W.heap.size W W') (h : PX w0 W k vm vs) : PX w0 W' k vm vs ∧ W'.cell? ⟨k, 0, none⟩ = some vm ∧ W'.cell? ⟨k, 1, none⟩ = some vs := ⟨h.below hb, cells2p (h.below hb).2⟩
theorem keepY {w0 W W' : World} {k : Nat} {vm vs : Value} (hb : Below W.heap.size W W') (h : PX w0 W k vm vs ∧ W.cell? ⟨k, 0, none⟩ = some vm ∧ W.cell? ⟨k, 1, none⟩ = some vs) : PX w0 W' k vm vs ∧ W'.cell? ⟨k, 0, none⟩ = some vm ∧ W'.cell? ⟨k, 1, none⟩ = some vs := keepX hb h.1
set_option maxHeartbeats 8000000 in
set_option maxRecDepth 100000 in
theorem alive10 (w : World) (hT : L1.Wid w ∧ L2.Regs w) (h3 : 3 ≤ w.heap.size) : Calls Tryz.prog 9 #[] w fun e w' => e = .returned (.bool true) ∧ Below w.heap.size w w' := by
  have tb : ∀ W, Below w.heap.size w W → L1.Wid W ∧ L2.Regs W := fun W hb => ⟨L4.wid_below hT.1 hb, hT.2.below hb⟩
  have HT := Lib.hid tb
  have H0 := Lib.hid (fun W hb => parse_at ⟨#[101, 120, 105, 116]⟩ W (by decide) (tb W hb) (Nat.le_trans h3 hb.size) _ pa0)
  have H1 := Lib.hid (fun W hb => parse_at ⟨#[106, 97, 32, 120]⟩ W (by decide) (tb W hb) (Nat.le_trans h3 hb.size) _ pa1)
  have H2 := Lib.hid (fun W hb => parse_at ⟨#[120, 58]⟩ W (by decide) (tb W hb) (Nat.le_trans h3 hb.size) _ pa2)
  clear hT tb
  go_enter Tryz.func9, Tryz.ntmps9
  go_upto_region 2 with (go_at_call 19; ((with_reducible refine (H0.out _ (Below.refl _ _)).mono ?_); rintro e w1 ⟨vm, vs, lv, rfl, hp, hi, b1⟩; obtain ⟨a1, c1, rfl, -⟩ := df_form (n := 0) rfl hp.1; obtain ⟨a2, c2, rfl, -⟩ := sm_form (n := 1) rfl hp.2; obtain ⟨a3, c3, rfl, -⟩ := in_form (n := 1) rfl hi))
  have hk1 := heap_alloc_last w1 (.cells #[.slice a1 0 c1, .slice a2 1 c2] 25)
  have hb1 := L8.bnew w1 (.cells #[.slice a1 0 c1, .slice a2 1 c2] 25)
  have hp1 := hp.below hb1
  have hi1 := hi.below hb1
  have B1 := L2.bch b1 hb1
  generalize w1.heap.size = k at hk1 ⊢
  generalize w1.alloc (.cells #[.slice a1 0 c1, .slice a2 1 c2] 25) = W1 at hk1 hb1 hp1 hi1 B1 ⊢
  clear hb1 hp hi b1
  go_upto_region 3 with (go_at_call 19; ((with_reducible refine (H1.out _ B1).mono ?_); rintro e w2 ⟨vm2, vs2, lv2, rfl, hp2, hi2, b2⟩; obtain ⟨a4, c4, rfl, -⟩ := df_form (n := 0) rfl hp2.1; obtain ⟨a5, c5, rfl, -⟩ := sm_form (n := 0) rfl hp2.2; obtain ⟨a6, c6, rfl, -⟩ := in_form (n := 0) rfl hi2))
  have hb2 := L8.bnew w2 (.cells #[.slice a4 0 c4, .slice a5 0 c5] 25)
  have hk2 := L8.row_up (L8.row_up hk1 b2) hb2
  have hp2' := (hp1.below b2).below hb2
  have hi2' := (hi1.below b2).below hb2
  have B2 := L2.bch (L2.bch B1 b2) hb2
  generalize w2.heap.size = k5 at ⊢
  generalize w2.alloc (.cells #[.slice a4 0 c4, .slice a5 0 c5] 25) = W2 at hk2 hb2 hp2' hi2' B2 ⊢
  clear hb2 hp2 hi2 b2 hk1 hp1 hi1 B1
  go_upto_region 4 with (go_at_call 19; ((with_reducible refine (H2.out _ B2).mono ?_); rintro e w3 ⟨vm3, vs3, lv3, rfl, hp3, hi3, b3⟩; obtain ⟨a7, c7, rfl, -⟩ := df_form (n := 0) rfl hp3.1; obtain ⟨a8, c8, rfl, -⟩ := sm_form (n := 0) rfl hp3.2; obtain ⟨a9, c9, rfl, -⟩ := in_form (n := 0) rfl hi3))
  have hb3 := L8.bnew w3 (.cells #[.slice a7 0 c7, .slice a8 0 c8] 25)
  have hk3 := L8.row_up (L8.row_up hk2 b3) hb3
  have hp3' := (hp2'.below b3).below hb3
  have hi3' := (hi2'.below b3).below hb3
  have B3 := L2.bch (L2.bch B2 b3) hb3
  generalize w3.heap.size = k9 at ⊢
  generalize w3.alloc (.cells #[.slice a7 0 c7, .slice a8 0 c8] 25) = W3 at hk3 hb3 hp3' hi3' B3 ⊢
  clear hb3 hp3 hi3 b3 hk2 hp2' hi2' B2
  obtain ⟨x0, x1⟩ := cells2p hk3
  have HC := Lib.hid (check_at (.slice a1 0 c1) (.slice a2 1 c2) pgE W3 hp3' fitE (HT.out W3 B3) false 0 0 brE)
  go_upto_region 5 with (go_at_call 10; ((with_reducible refine HC.out.mono ?_); rintro e w4 ⟨rfl, b4⟩))
  have hk4 := L8.row_up hk3 b4
  have hp4 := hp3'.below b4
  have hi4 := hi3'.below b4
  have B4 := Lib.hid (L2.bch B3 b4)
  clear x0 x1 hk3 hp3' hi3' B3 b4 HC H0 H1 H2 HT
  have X : PX w4 w4 k (.slice a1 0 c1) (.slice a2 1 c2) := ⟨Below.refl _ _, hk4⟩
  have hg : (w4.alloc (.cells #[.int .i64 1] 3)).drew.heap[w4.heap.size]? = some (.cells #[.int .i64 1] 3) := heap_alloc_last w4 _
  have HE := Lib.hid (equalI_at (.slice a3 1 c3) (.slice (some ⟨w4.heap.size, 0, none⟩) 1 1) [1] [1] true (w4.alloc (.cells #[.int .i64 1] 3)).drew (by decide) (by decide) (hi4.below (L8.bnew w4 _).drew) (.inl ⟨w4.heap.size, 0, 1, rfl, lt_of_block hg, fun j hj => by
    obtain rfl : j = 0 := by simp at hj; omega
    exact cell_row hg rfl⟩) (by simp))
  have HCl := Lib.hid (fun (W : World) (h : PX w4 W k (.slice a1 0 c1) (.slice a2 1 c2) ∧ W.cell? ⟨k, 0, none⟩ = some (.slice a1 0 c1) ∧ W.cell? ⟨k, 1, none⟩ = some (.slice a2 1 c2)) => clone_at (.slice a1 0 c1) (.slice a2 1 c2) pgE W (hp4.below h.1.1) smlE)
  have HS1 := Lib.hid (fun (W : World) (h : PX w4 W k (.slice a1 0 c1) (.slice a2 1 c2) ∧ W.cell? ⟨k, 0, none⟩ = some (.slice a1 0 c1) ∧ W.cell? ⟨k, 1, none⟩ = some (.slice a2 1 c2)) vm' vs' (hq : PgAt W vm' vs' pgE) => same_at (.slice a1 0 c1) (.slice a2 1 c2) vm' vs' pgE pgE true W (hp4.below h.1.1) hq smlE smlE (by simp))
  have HS2 := Lib.hid (fun (W : World) (h : PX w4 W k (.slice a1 0 c1) (.slice a2 1 c2) ∧ W.cell? ⟨k, 0, none⟩ = some (.slice a1 0 c1) ∧ W.cell? ⟨k, 1, none⟩ = some (.slice a2 1 c2)) => same_at (.slice a1 0 c1) (.slice a2 1 c2) (.slice none 0 0) (.slice none 0 0) pgE pgZ false W (hp4.below h.1.1) (pgZ_at W) smlE smlZ (by simp [neEZ]))
  clear hk4 hp4 hi4 hg
  go_region_held3 (fun W => PX w4 W k (.slice a1 0 c1) (.slice a2 1 c2) ∧ W.cell? ⟨k, 0, none⟩ = some (.slice a1 0 c1) ∧ W.cell? ⟨k, 1, none⟩ = some (.slice a2 1 c2))
    (first | exact keepX (Below.refl _ _).drew X | exact keepX (L8.bnew w4 _).drew X | exact keepY hb9 (by assumption) | exact keepY (L8.bnew _ _) (by assumption) | assumption)
    (first | (go_at_call 21; ((with_reducible refine HE.out.mono ?_); rintro e w9 ⟨rfl, hb9⟩)) | (go_at_call 14; ((with_reducible refine (HCl.out _ (by assumption)).mono ?_); rintro e w9 ⟨d1, m1, e1, d2, m2, e2, rfl, hcl, hb9⟩)) | (go_at_call 12; ((with_reducible refine (HS1.out _ (by assumption) _ _ hcl.pg).mono ?_); rintro e w9 ⟨rfl, hb9⟩)) | (go_at_call 12; ((with_reducible refine (HS2.out _ (by assumption)).mono ?_); rintro e w9 ⟨rfl, hb9⟩)))
  all_goals
    rename_i hh
    go_wp2
    go_ret
    exact ⟨rfl, L2.bch B4.out hh.1.1⟩
end Go.Proofs.YtakblmonbeflmaaGreatDoor.L10
