/- ProgSame's walk: Same returns the result of the reference. Condition: the tables read as the program's text lays them, memory holds the programs. -/
import Derived.Test.YtakblmonbeflmaaGreatDoorL10Alv
import Derived.Test.YtakblmonbeflmaaGreatDoorL10Rsa
import Derived.Test.YtakblmonbeflmaaGreatDoorL10Few
namespace Go.Proofs.YtakblmonbeflmaaGreatDoor.L10
open Go.RowKit
attribute [local go_sem] Oper.semAt_some

/-- What the law's region keeps: two programs' boxes. -/
def PX2 (w0 W : World) (k k' : Nat) (vm vs vm' vs' : Value) : Prop := Below w0.heap.size w0 W ∧ W.heap[k]? = some (.cells #[vm, vs] 25) ∧ W.heap[k']? = some (.cells #[vm', vs'] 25)
theorem keep2 {w0 W W' : World} {k k' : Nat} {vm vs vm' vs' : Value} (hb : Below W.heap.size W W') (h : PX2 w0 W k k' vm vs vm' vs') :
    PX2 w0 W' k k' vm vs vm' vs' ∧ W'.cell? ⟨k, 0, none⟩ = some vm ∧ W'.cell? ⟨k, 1, none⟩ = some vs ∧ W'.cell? ⟨k', 0, none⟩ = some vm' ∧ W'.cell? ⟨k', 1, none⟩ = some vs' := by
  have h1 := L8.row_up h.2.1 hb
  have h2 := L8.row_up h.2.2 hb
  exact ⟨⟨L2.bch h.1 hb, h1, h2⟩, (cells2p h1).1, (cells2p h1).2, (cells2p h2).1, (cells2p h2).2⟩
theorem keep2c {w0 W W' : World} {k k' : Nat} {vm vs vm' vs' : Value} (hb : Below W.heap.size W W') (h : PX2 w0 W k k' vm vs vm' vs' ∧ W.cell? ⟨k, 0, none⟩ = some vm ∧ W.cell? ⟨k, 1, none⟩ = some vs ∧ W.cell? ⟨k', 0, none⟩ = some vm' ∧ W.cell? ⟨k', 1, none⟩ = some vs') :
    PX2 w0 W' k k' vm vs vm' vs' ∧ W'.cell? ⟨k, 0, none⟩ = some vm ∧ W'.cell? ⟨k, 1, none⟩ = some vs ∧ W'.cell? ⟨k', 0, none⟩ = some vm' ∧ W'.cell? ⟨k', 1, none⟩ = some vs' := keep2 hb h.1
set_option maxHeartbeats 8000000 in
set_option maxRecDepth 100000 in
theorem same_walk (vm vs vm' vs' : Value) (p q : Pg) (w : World) (hT : L1.Wid w ∧ L2.Regs w) (h3 : 3 ≤ w.heap.size) (hp : PgAt w vm vs p) (hq : PgAt w vm' vs' q) (hr : ∀ s ∈ p.stmts, TxRoom s.labs) (hr' : ∀ s ∈ q.stmts, TxRoom s.labs) :
    Calls Tryz.prog 4 #[.agg #[vm, vs], .agg #[vm', vs']] w fun e w' => e = .returned (.bool true) ∧ Below w.heap.size w w' := by
  obtain ⟨f1, hf1, F1⟩ := few_ex vm vs p w hp hr
  obtain ⟨f2, hf2, F2⟩ := few_ex vm' vs' q w hq hr'
  have tb : ∀ W, Below w.heap.size w W → L1.Wid W ∧ L2.Regs W := fun W hb => ⟨L4.wid_below hT.1 hb, hT.2.below hb⟩
  have HA := Lib.hid (fun W hb => alive10 W (tb W hb) (Nat.le_trans h3 hb.size))
  obtain ⟨b, hb⟩ := bx (p = q)
  have HP := Lib.hid (And.intro hp hq)
  obtain ⟨n1, hn1⟩ : ∃ n, p.maps.length = n := ⟨_, rfl⟩
  obtain ⟨n2, hn2⟩ : ∃ n, p.stmts.length = n := ⟨_, rfl⟩
  obtain ⟨n3, hn3⟩ : ∃ n, q.maps.length = n := ⟨_, rfl⟩
  obtain ⟨n4, hn4⟩ : ∃ n, q.stmts.length = n := ⟨_, rfl⟩
  obtain ⟨a1, c1, rfl, -⟩ := df_form hn1 hp.1
  obtain ⟨a2, c2, rfl, -⟩ := sm_form hn2 hp.2
  obtain ⟨a3, c3, rfl, -⟩ := df_form hn3 hq.1
  obtain ⟨a4, c4, rfl, -⟩ := sm_form hn4 hq.2
  have hb0 : Below w.heap.size w ((w.alloc (.cells #[.slice a1 n1 c1, .slice a2 n2 c2] 25)).alloc (.cells #[.slice a3 n3 c3, .slice a4 n4 c4] 25)) := L2.bch (L8.bnew w _) (L8.bnew _ _)
  have k0 := L8.row_up (heap_alloc_last w (.cells #[.slice a1 n1 c1, .slice a2 n2 c2] 25)) (L8.bnew _ (.cells #[.slice a3 n3 c3, .slice a4 n4 c4] 25))
  have k1 : ((w.alloc (.cells #[.slice a1 n1 c1, .slice a2 n2 c2] 25)).alloc (.cells #[.slice a3 n3 c3, .slice a4 n4 c4] 25)).heap[w.heap.size + 1]? = some (.cells #[.slice a3 n3 c3, .slice a4 n4 c4] 25) := by have := heap_alloc_last (w.alloc (.cells #[.slice a1 n1 c1, .slice a2 n2 c2] 25)) (.cells #[.slice a3 n3 c3, .slice a4 n4 c4] 25); simpa using this
  have HF1 := Lib.hid F1
  have HF2 := Lib.hid F2
  have HB := Lib.hid hb0
  have K0 := Lib.hid k0
  have K1 := Lib.hid k1
  clear tb hT F1 F2 hp hq hr hr' hn1 hn2 hn3 hn4 hb0 k0 k1
  have HM := Lib.hid (And.intro hf1 hf2)
  have HE := Lib.hid hb
  clear hf1 hf2 hb
  cases f1
  · go_enter Tryz.func4, Tryz.ntmps4
    go_wp2_with (first | (go_at_call 8; ((with_reducible refine (HF1.out _ HB.out).mono ?_); rintro e w1 ⟨rfl, b1⟩)) | (go_at_call 9; ((with_reducible refine (HA.out _ (L2.bch HB.out b1)).mono ?_); rintro e w2 ⟨rfl, b2⟩)))
    go_ret
    exact ⟨rfl, L2.bch (L2.bch HB.out b1) b2⟩
  cases f2
  · go_enter Tryz.func4, Tryz.ntmps4
    go_wp2_with (first | (go_at_call 8; ((with_reducible refine (HF1.out _ HB.out).mono ?_); rintro e w1 ⟨rfl, b1⟩; obtain ⟨x0, x1⟩ := cells2p (L8.row_up K1.out b1))) | (go_at_call 8; ((with_reducible refine (HF2.out _ (L2.bch HB.out b1)).mono ?_); rintro e w2 ⟨rfl, b2⟩)) | (go_at_call 9; ((with_reducible refine (HA.out _ (L2.bch (L2.bch HB.out b1) b2)).mono ?_); rintro e w3 ⟨rfl, b3⟩)))
    go_ret
    exact ⟨rfl, L2.bch (L2.bch (L2.bch HB.out b1) b2) b3⟩
  · have hs := sml_few (HM.out.1 rfl)
    have hs' := sml_few (HM.out.2 rfl)
    have H1 := Lib.hid (fun W hb => same_at (.slice a1 n1 c1) (.slice a2 n2 c2) (.slice a3 n3 c3) (.slice a4 n4 c4) p q b W (HP.out.1.below hb) (HP.out.2.below hb) hs hs' HE.out)
    have H2 := Lib.hid (fun W hb => same_at (.slice a1 n1 c1) (.slice a2 n2 c2) (.slice a1 n1 c1) (.slice a2 n2 c2) p p true W (HP.out.1.below hb) (HP.out.1.below hb) hs hs (by simp))
    have H3 := Lib.hid (fun W hb => same_at (.slice a3 n3 c3) (.slice a4 n4 c4) (.slice a1 n1 c1) (.slice a2 n2 c2) q p b W (HP.out.2.below hb) (HP.out.1.below hb) hs' hs (HE.out.trans eq_comm))
    have H4 := Lib.hid (fun W hb => rsame_at (.slice a1 n1 c1) (.slice a2 n2 c2) (.slice a3 n3 c3) (.slice a4 n4 c4) p q b W (HP.out.1.below hb) (HP.out.2.below hb) hs hs' HE.out)
    clear hs hs'
    go_enter Tryz.func4, Tryz.ntmps4
    go_upto_region 3 with (first | (go_at_call 8; ((with_reducible refine (HF1.out _ HB.out).mono ?_); rintro e w1 ⟨rfl, b1⟩; obtain ⟨x0, x1⟩ := cells2p (L8.row_up K1.out b1))) | (go_at_call 8; ((with_reducible refine (HF2.out _ (L2.bch HB.out b1)).mono ?_); rintro e w2 ⟨rfl, b2⟩)))
    have X : PX2 w2 w2 w.heap.size (w.heap.size + 1) (.slice a1 n1 c1) (.slice a2 n2 c2) (.slice a3 n3 c3) (.slice a4 n4 c4) := ⟨Below.refl _ _, L8.row_up (L8.row_up K0.out b1) b2, L8.row_up (L8.row_up K1.out b1) b2⟩
    have HB2 := Lib.hid (L2.bch (L2.bch HB.out b1) b2)
    clear x0 x1 b1 b2 K0 K1 HF1 HF2 HB HM
    have lift : ∀ W, Below w2.heap.size w2 W → Below w.heap.size w W := fun W h => L2.bch HB2.out h
    have HA2 := Lib.hid (fun (W : World) (h : Below w2.heap.size w2 W) => HA.out W (lift W h))
    have G1 := Lib.hid (fun (W : World) (h : Below w2.heap.size w2 W) => H1.out W (lift W h))
    have G2 := Lib.hid (fun (W : World) (h : Below w2.heap.size w2 W) => H2.out W (lift W h))
    have G3 := Lib.hid (fun (W : World) (h : Below w2.heap.size w2 W) => H3.out W (lift W h))
    have G4 := Lib.hid (fun (W : World) (h : Below w2.heap.size w2 W) => H4.out W (lift W h))
    have HL := Lib.hid lift
    clear lift H1 H2 H3 H4 HA HP HB2 HE
    obtain ⟨k, hk⟩ : ∃ k, w.heap.size = k := ⟨_, rfl⟩
    rw [hk] at X ⊢
    clear hk
    have A2 := Lib.hid (fun (W : World) (h : PX2 w2 W k (k + 1) (.slice a1 n1 c1) (.slice a2 n2 c2) (.slice a3 n3 c3) (.slice a4 n4 c4) ∧ W.cell? ⟨k, 0, none⟩ = some (.slice a1 n1 c1) ∧ W.cell? ⟨k, 1, none⟩ = some (.slice a2 n2 c2) ∧ W.cell? ⟨k + 1, 0, none⟩ = some (.slice a3 n3 c3) ∧ W.cell? ⟨k + 1, 1, none⟩ = some (.slice a4 n4 c4)) => HA2.out W h.1.1)
    have C1 := Lib.hid (fun (W : World) (h : PX2 w2 W k (k + 1) (.slice a1 n1 c1) (.slice a2 n2 c2) (.slice a3 n3 c3) (.slice a4 n4 c4) ∧ W.cell? ⟨k, 0, none⟩ = some (.slice a1 n1 c1) ∧ W.cell? ⟨k, 1, none⟩ = some (.slice a2 n2 c2) ∧ W.cell? ⟨k + 1, 0, none⟩ = some (.slice a3 n3 c3) ∧ W.cell? ⟨k + 1, 1, none⟩ = some (.slice a4 n4 c4)) => G1.out W h.1.1)
    have C2 := Lib.hid (fun (W : World) (h : PX2 w2 W k (k + 1) (.slice a1 n1 c1) (.slice a2 n2 c2) (.slice a3 n3 c3) (.slice a4 n4 c4) ∧ W.cell? ⟨k, 0, none⟩ = some (.slice a1 n1 c1) ∧ W.cell? ⟨k, 1, none⟩ = some (.slice a2 n2 c2) ∧ W.cell? ⟨k + 1, 0, none⟩ = some (.slice a3 n3 c3) ∧ W.cell? ⟨k + 1, 1, none⟩ = some (.slice a4 n4 c4)) => G2.out W h.1.1)
    have C3 := Lib.hid (fun (W : World) (h : PX2 w2 W k (k + 1) (.slice a1 n1 c1) (.slice a2 n2 c2) (.slice a3 n3 c3) (.slice a4 n4 c4) ∧ W.cell? ⟨k, 0, none⟩ = some (.slice a1 n1 c1) ∧ W.cell? ⟨k, 1, none⟩ = some (.slice a2 n2 c2) ∧ W.cell? ⟨k + 1, 0, none⟩ = some (.slice a3 n3 c3) ∧ W.cell? ⟨k + 1, 1, none⟩ = some (.slice a4 n4 c4)) => G3.out W h.1.1)
    have C4 := Lib.hid (fun (W : World) (h : PX2 w2 W k (k + 1) (.slice a1 n1 c1) (.slice a2 n2 c2) (.slice a3 n3 c3) (.slice a4 n4 c4) ∧ W.cell? ⟨k, 0, none⟩ = some (.slice a1 n1 c1) ∧ W.cell? ⟨k, 1, none⟩ = some (.slice a2 n2 c2) ∧ W.cell? ⟨k + 1, 0, none⟩ = some (.slice a3 n3 c3) ∧ W.cell? ⟨k + 1, 1, none⟩ = some (.slice a4 n4 c4)) => G4.out W h.1.1)
    clear HA2 G1 G2 G3 G4
    cases b
    all_goals
      go_region_held3 (fun W => PX2 w2 W k (k + 1) (.slice a1 n1 c1) (.slice a2 n2 c2) (.slice a3 n3 c3) (.slice a4 n4 c4) ∧ W.cell? ⟨k, 0, none⟩ = some (.slice a1 n1 c1) ∧ W.cell? ⟨k, 1, none⟩ = some (.slice a2 n2 c2) ∧ W.cell? ⟨k + 1, 0, none⟩ = some (.slice a3 n3 c3) ∧ W.cell? ⟨k + 1, 1, none⟩ = some (.slice a4 n4 c4))
        (first | exact keep2 (Below.refl _ _).drew X | exact keep2c hb9 (by assumption) | assumption)
        (first | (go_at_call 9; ((with_reducible refine (A2.out _ (by assumption)).mono ?_); rintro e w9 ⟨rfl, hb9⟩)) | (go_at_call 13; ((with_reducible refine (C4.out _ (by assumption)).mono ?_); rintro e w9 ⟨rfl, hb9⟩)) | (go_at_call 12; ((with_reducible refine (C1.out _ (by assumption)).mono ?_); rintro e w9 ⟨rfl, hb9⟩)) | (go_at_call 12; ((with_reducible refine (C2.out _ (by assumption)).mono ?_); rintro e w9 ⟨rfl, hb9⟩)) | (go_at_call 12; ((with_reducible refine (C3.out _ (by assumption)).mono ?_); rintro e w9 ⟨rfl, hb9⟩)))
    all_goals
      rename_i hh
      go_wp2
      go_ret
      exact ⟨rfl, HL.out _ hh.1.1⟩
end Go.Proofs.YtakblmonbeflmaaGreatDoor.L10
