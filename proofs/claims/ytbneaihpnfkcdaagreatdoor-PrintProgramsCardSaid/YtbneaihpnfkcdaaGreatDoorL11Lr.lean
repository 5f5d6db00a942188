/- PrintPrograms' walk: Program returns the text of the reference, from which Parse reads the program. Condition: the tables read as the program's text lays them. -/
import Derived.Test.YtbneaihpnfkcdaaGreatDoorL11Rpg
import Derived.Test.YtbneaihpnfkcdaaGreatDoorM25
import Derived.Test.YtbneaihpnfkcdaaGreatDoorM15
namespace Go.Proofs.YtbneaihpnfkcdaaGreatDoor.L11
open Go.RowKit
open L10 (Stm Pg)
attribute [local go_sem] Oper.semAt_some

theorem paV_nil : L10.paV ⟨#[]⟩ = (L10.pgZ, [], 0, 15) := by kernel_rfl
theorem beq_self (R : ByteArray) : (R.toList == R.toList) = true := by simp
set_option maxHeartbeats 8000000 in
set_option maxRecDepth 100000 in
theorem programs_walk (vm vs : Value) (p : Pg) (w : World) (hT : Tb w) (hp : L10.PgAt w vm vs p) (hf : L10.PgFit p) (hr : ∀ s ∈ p.stmts, L10.TxRoom s.labs) :
    Calls Tryz.prog 4 #[.agg #[vm, vs]] w fun e w' => e = .returned (.bool true) ∧ Below w.heap.size w w' := by
  obtain ⟨f1, hf1, F1⟩ := L10.few_ex vm vs p w hp hr
  have HA := Lib.hid (fun W hb => alive11 W (hT.below hb))
  have HP := Lib.hid hp
  have HFT := Lib.hid hf
  have HTB := Lib.hid (fun W hb => hT.below (w' := W) hb)
  have HBIG := Lib.hid hT.big
  obtain ⟨n1, hn1⟩ : ∃ n, p.maps.length = n := ⟨_, rfl⟩
  obtain ⟨n2, hn2⟩ : ∃ n, p.stmts.length = n := ⟨_, rfl⟩
  obtain ⟨a1, c1, rfl, -⟩ := L10.df_form hn1 hp.1
  obtain ⟨a2, c2, rfl, -⟩ := L10.sm_form hn2 hp.2
  have HB := Lib.hid (L8.bnew w (.cells #[.slice a1 n1 c1, .slice a2 n2 c2] 30))
  have K0 := Lib.hid (heap_alloc_last w (.cells #[.slice a1 n1 c1, .slice a2 n2 c2] 30))
  have HF1 := Lib.hid F1
  have HM := Lib.hid hf1
  have HN := Lib.hid (And.intro hn1 hn2)
  clear hT F1 hp hf hr hn1 hn2 hf1
  cases f1
  · go_enter Tryz.func4, Tryz.ntmps4
    go_wp2_with (first
      | (go_at_call 10; ((with_reducible refine (HF1.out _ HB.out).mono ?_); rintro e w1 ⟨rfl, b1⟩))
      | (go_at_call 7; ((with_reducible refine (HA.out _ (L2.bch HB.out b1)).mono ?_); rintro e w2 ⟨rfl, b2⟩)))
    go_ret
    exact ⟨rfl, L2.bch (L2.bch HB.out b1) b2⟩
  · have hfew := HM.out rfl
    have hft := L10.fits_few HFT.out hfew
    by_cases hz : (L10.brV p).2.2 = 0
    · have hsz := few_size hz hfew
      have HPR := Lib.hid (fun W (hb : Below w.heap.size w W) => program_ok (.slice a1 n1 c1) (.slice a2 n2 c2) p W (HP.out.below hb) hft (HTB.out W hb) (few_room hz hfew) hz)
      have HRP := Lib.hid (fun W (hb : Below w.heap.size w W) => rprogram_ok (.slice a1 n1 c1) (.slice a2 n2 c2) p W (HP.out.below hb) HFT.out hfew (by omega) hz)
      obtain ⟨sl, hpa⟩ := pa_text p hz
      have HPA := Lib.hid (fun W (hb : Below w.heap.size w W) => L10.parse_at (pgT p) W hsz (HTB.out W hb).two (by have := HBIG.out; have := hb.size; omega) _ hpa)
      have HSA := Lib.hid (fun (vm' vs' : Value) W (hb : Below w.heap.size w W) (hq : L10.PgAt W vm' vs' p) => L10.rsame_at (.slice a1 n1 c1) (.slice a2 n2 c2) vm' vs' p p true W (HP.out.below hb) hq (L10.sml_few hfew) (L10.sml_few hfew) (by simp))
      have hne := pgT_ne hz
      obtain ⟨n3, hn3⟩ : ∃ n, sl.length = n := ⟨_, rfl⟩
      have HN3 := Lib.hid hn3
      clear hz hfew hft hpa hn3 hsz
      have hbq := beq_self (pgT p)
      generalize pgT p = T at HPR HRP HPA hne hbq
      go_enter Tryz.func4, Tryz.ntmps4
      go_upto_region 3 with (go_at_call 10; ((with_reducible refine (HF1.out _ HB.out).mono ?_); rintro e w1 ⟨rfl, b1⟩; have B1 := L2.bch HB.out b1; have r1 := L8.row_up K0.out b1; obtain ⟨x0, x1⟩ := L10.cells2p r1))
      go_upto_region 4 with (go_at_call 11; ((with_reducible refine (HPR.out _ B1).mono ?_); rintro e w2 ⟨rfl, b2⟩; have B2 := L2.bch B1 b2; have r2 := L8.row_up r1 b2; clear x0 x1; obtain ⟨x0, x1⟩ := L10.cells2p r2))
      go_upto_region 6 with (go_at_call 12; ((with_reducible refine (HRP.out _ B2).mono ?_); rintro e w3 ⟨rfl, b3⟩; have B3 := L2.bch B2 b3; have r3 := L8.row_up r2 b3; clear x0 x1; obtain ⟨x0, x1⟩ := L10.cells2p r3))
      go_upto_region 7 with (go_at_call 13; ((with_reducible refine (HPA.out _ B3).mono ?_); rintro e w4 ⟨vm', vs', lv', rfl, hq, hi, b4⟩; obtain ⟨a3, c3, rfl, -⟩ := L10.df_form HN.out.1 hq.1; obtain ⟨a4, c4, rfl, -⟩ := L10.sm_form HN.out.2 hq.2; obtain ⟨a5, c5, rfl, -⟩ := L10.in_form HN3.out hi; have B4 := L2.bch B3 b4; have r4 := L8.row_up r3 b4; clear x0 x1))
      have hk5 := heap_alloc_last w4 (.cells #[.slice a3 n1 c3, .slice a4 n2 c4] 30)
      have hb5 := L8.bnew w4 (.cells #[.slice a3 n1 c3, .slice a4 n2 c4] 30)
      have r5 := L8.row_up r4 hb5
      have hq5 := hq.below hb5
      have B5 := L2.bch B4 hb5
      generalize w4.heap.size = k5 at hk5 ⊢
      generalize w4.alloc (.cells #[.slice a3 n1 c3, .slice a4 n2 c4] 30) = W5 at hk5 hb5 r5 hq5 B5 ⊢
      have HK5 := Lib.hid hk5
      have HR5 := Lib.hid r5
      have HQ5 := Lib.hid hq5
      have HB5 := Lib.hid B5
      clear hk5 hb5 r5 hq5 B5 hq hi b4 r4 B4 b3 r3 B3 b2 r2 B2 b1 r1 B1
      go_wp2_with (first
        | (go_at_call 7; ((with_reducible refine (HA.out _ HB5.out).mono ?_); rintro e w6 ⟨rfl, b6⟩; have hk6 := L8.row_up HK5.out b6; have r6 := L8.row_up HR5.out b6; obtain ⟨x0, x1⟩ := L10.cells2p hk6; obtain ⟨y0, y1⟩ := L10.cells2p r6; have B6 := L2.bch HB5.out b6; have q6 := HQ5.out.below b6))
        | (go_at_call 14; ((with_reducible refine (HSA.out _ _ _ B6 q6).mono ?_); rintro e w7 ⟨rfl, b7⟩)))
      go_ret
      exact ⟨rfl, L2.bch B6 b7⟩
    · have HPR := Lib.hid (fun W (hb : Below w.heap.size w W) => program_no (.slice a1 n1 c1) (.slice a2 n2 c2) p W (HP.out.below hb) hft (HTB.out W hb) hz)
      have HRP := Lib.hid (fun W (hb : Below w.heap.size w W) => rprogram_no (.slice a1 n1 c1) (.slice a2 n2 c2) p W (HP.out.below hb) HFT.out hfew hz)
      have HPA := Lib.hid (fun W (hb : Below w.heap.size w W) => L10.parse_at L9.eB W (by decide) (HTB.out W hb).two (by have := HBIG.out; have := hb.size; omega) _ paV_nil)
      clear hz hfew hft
      have hbq := beq_self L9.eB
      have hne : L9.eB.toList.isEmpty = true := eB_emp
      generalize L9.eB = T at HPR HRP HPA hne hbq
      go_enter Tryz.func4, Tryz.ntmps4
      go_upto_region 3 with (go_at_call 10; ((with_reducible refine (HF1.out _ HB.out).mono ?_); rintro e w1 ⟨rfl, b1⟩; have B1 := L2.bch HB.out b1; have r1 := L8.row_up K0.out b1; obtain ⟨x0, x1⟩ := L10.cells2p r1))
      go_upto_region 4 with (go_at_call 11; ((with_reducible refine (HPR.out _ B1).mono ?_); rintro e w2 ⟨rfl, b2⟩; have B2 := L2.bch B1 b2; have r2 := L8.row_up r1 b2; clear x0 x1; obtain ⟨x0, x1⟩ := L10.cells2p r2))
      go_upto_region 6 with (go_at_call 12; ((with_reducible refine (HRP.out _ B2).mono ?_); rintro e w3 ⟨rfl, b3⟩; have B3 := L2.bch B2 b3; have r3 := L8.row_up r2 b3; clear x0 x1; obtain ⟨x0, x1⟩ := L10.cells2p r3))
      go_upto_region 7 with (go_at_call 13; ((with_reducible refine (HPA.out _ B3).mono ?_); rintro e w4 ⟨vm', vs', lv', rfl, hq, hi, b4⟩; obtain ⟨a3, c3, rfl, -⟩ := L10.df_form (n := 0) rfl hq.1; obtain ⟨a4, c4, rfl, -⟩ := L10.sm_form (n := 0) rfl hq.2; obtain ⟨a5, c5, rfl, -⟩ := L10.in_form (n := 0) rfl hi; have B4 := L2.bch B3 b4; clear x0 x1))
      have hb5 := L8.bnew w4 (.cells #[.slice a3 0 c3, .slice a4 0 c4] 30)
      have HB5 := Lib.hid (L2.bch B4 hb5)
      generalize w4.heap.size = k5
      generalize w4.alloc (.cells #[.slice a3 0 c3, .slice a4 0 c4] 30) = W5 at hb5 HB5 ⊢
      clear hb5 hq hi b4 B4 b3 r3 B3 b2 r2 B2 b1 r1 B1
      go_wp2_with (go_at_call 7; ((with_reducible refine (HA.out _ HB5.out).mono ?_); rintro e w6 ⟨rfl, b6⟩))
      go_ret
      exact ⟨rfl, L2.bch HB5.out b6⟩
end Go.Proofs.YtbneaihpnfkcdaaGreatDoor.L11
