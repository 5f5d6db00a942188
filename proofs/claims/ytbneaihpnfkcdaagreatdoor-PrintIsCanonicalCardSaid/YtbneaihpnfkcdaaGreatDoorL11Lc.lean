/- PrintIsCanonical's walk: the text of a program that was read is read again as the same program. Condition: the tables read as the program's text lays them. -/
import Derived.Test.YtbneaihpnfkcdaaGreatDoorM23
import Derived.Test.YtbneaihpnfkcdaaGreatDoorM26
import Derived.Test.YtbneaihpnfkcdaaGreatDoorL10Par
import Derived.Test.YtbneaihpnfkcdaaGreatDoorM15
namespace Go.Proofs.YtbneaihpnfkcdaaGreatDoor.L11
open Go.RowKit
open L10 (Stm Pg)
attribute [local go_sem] Oper.semAt_some

theorem beq_selfC (R : ByteArray) : (R.toList == R.toList) = true := by simp
set_option maxHeartbeats 8000000 in
set_option maxRecDepth 100000 in
theorem canon_walk (t : ByteArray) (ht : t.size ≤ maxLen) (w : World) (hT : Tb w) :
    Calls Tryz.prog 5 #[.string t] w fun e w' => e = .returned (.bool true) ∧ Below w.heap.size w w' := by
  have HA := Lib.hid (fun W hb => alive11 W (hT.below hb))
  have HTB := Lib.hid (fun W hb => hT.below (w' := W) hb)
  have HBIG := Lib.hid hT.big
  obtain ⟨v, hv, hl⟩ := long11 t ht
  have HL := Lib.hid hl
  rcases hv with rfl | ⟨rfl, hs, hct⟩
  · clear hT hl
    go_enter Tryz.func5, Tryz.ntmps5
    go_wp2_with (first
      | (go_at_call 15; ((with_reducible refine (HL.out _).mono ?_); rintro e w1 ⟨rfl, rfl⟩))
      | (go_at_call 7; ((with_reducible refine (HA.out _ (Below.refl _ _)).mono ?_); rintro e w1 ⟨rfl, b1⟩)))
    go_ret
    exact ⟨rfl, b1⟩
  · obtain ⟨p, l, k, er, hpa⟩ : ∃ p l k er, L10.paV t = (p, l, k, er) := ⟨_, _, _, _, rfl⟩
    have HP := Lib.hid (L10.parse_at t w (by omega) hT.two (by have := hT.big; omega) _ hpa)
    obtain ⟨n1, hn1⟩ : ∃ n, p.maps.length = n := ⟨_, rfl⟩
    obtain ⟨n2, hn2⟩ : ∃ n, p.stmts.length = n := ⟨_, rfl⟩
    obtain ⟨n3, hn3⟩ : ∃ n, l.length = n := ⟨_, rfl⟩
    have HN := Lib.hid (And.intro hn1 (And.intro hn2 hn3))
    by_cases he : er = 0
    · obtain ⟨hz, hft, hsm, hsz, hrm⟩ := read_size hs hct hpa he
      subst he
      have HPR := Lib.hid (fun (vm vs : Value) W (hb : Below w.heap.size w W) (hp : L10.PgAt W vm vs p) => program_ok vm vs p W hp hft (HTB.out W hb) hrm hz)
      obtain ⟨sl, hpt⟩ := pa_text p hz
      have HPA := Lib.hid (fun W (hb : Below w.heap.size w W) => L10.parse_at (pgT p) W hsz (HTB.out W hb).two (by have := HBIG.out; have := hb.size; omega) _ hpt)
      have HSA := Lib.hid (fun (vm vs vm' vs' : Value) W (hp : L10.PgAt W vm vs p) (hq : L10.PgAt W vm' vs' p) => L10.rsame_at vm vs vm' vs' p p true W hp hq hsm hsm (by simp))
      have hne := pgT_ne hz
      obtain ⟨n4, hn4⟩ : ∃ n, sl.length = n := ⟨_, rfl⟩
      have HN4 := Lib.hid hn4
      have hbq := beq_selfC (pgT p)
      generalize pgT p = T at HPR HPA hne hbq
      clear hT hl hs hct hpa hz hft hsm hsz hrm hpt hn1 hn2 hn3 hn4
      go_enter Tryz.func5, Tryz.ntmps5
      go_upto_region 3 with (go_at_call 15; ((with_reducible refine (HL.out _).mono ?_); rintro e w1 ⟨rfl, rfl⟩))
      go_upto_region 4 with (go_at_call 13; ((with_reducible refine (HP.out).mono ?_); rintro e w1 ⟨vm, vs, lv, rfl, hp, hi, b1⟩; obtain ⟨a1, c1, rfl, -⟩ := L10.df_form HN.out.1 hp.1; obtain ⟨a2, c2, rfl, -⟩ := L10.sm_form HN.out.2.1 hp.2; obtain ⟨a3, c3, rfl, -⟩ := L10.in_form HN.out.2.2 hi))
      have hk1 := heap_alloc_last w1 (.cells #[.slice a1 n1 c1, .slice a2 n2 c2] 30)
      have hb1 := L8.bnew w1 (.cells #[.slice a1 n1 c1, .slice a2 n2 c2] 30)
      have hp1 := hp.below hb1
      have B1 := L2.bch b1 hb1
      generalize w1.heap.size = k1 at hk1 ⊢
      generalize w1.alloc (.cells #[.slice a1 n1 c1, .slice a2 n2 c2] 30) = W1 at hk1 hb1 hp1 B1 ⊢
      obtain ⟨x0, x1⟩ := L10.cells2p hk1
      clear hb1 hp hi b1
      go_upto_region 7 with (go_at_call 11; ((with_reducible refine (HPR.out _ _ _ B1 hp1).mono ?_); rintro e w2 ⟨rfl, b2⟩; have B2 := L2.bch B1 b2; have hk2 := L8.row_up hk1 b2; have hp2 := hp1.below b2; clear x0 x1))
      go_upto_region 8 with (go_at_call 13; ((with_reducible refine (HPA.out _ B2).mono ?_); rintro e w3 ⟨vm', vs', lv', rfl, hq, hi, b3⟩; obtain ⟨a4, c4, rfl, -⟩ := L10.df_form HN.out.1 hq.1; obtain ⟨a5, c5, rfl, -⟩ := L10.sm_form HN.out.2.1 hq.2; obtain ⟨a6, c6, rfl, -⟩ := L10.in_form HN4.out hi; have B3 := L2.bch B2 b3; have hk3 := L8.row_up hk2 b3; have hp3 := hp2.below b3))
      have hk4 := heap_alloc_last w3 (.cells #[.slice a4 n1 c4, .slice a5 n2 c5] 30)
      have hb4 := L8.bnew w3 (.cells #[.slice a4 n1 c4, .slice a5 n2 c5] 30)
      have HK := Lib.hid (L8.row_up hk3 hb4)
      have HP4 := Lib.hid (hp3.below hb4)
      have HQ4 := Lib.hid (hq.below hb4)
      have HB4 := Lib.hid (L2.bch B3 hb4)
      have HK4 := Lib.hid hk4
      clear hp1 hk1 hp2 hk2 hp3 hk3 hq hi b2 b3 B1 B2 B3 hb4 hk4
      generalize w3.heap.size = k4 at HK4 ⊢
      generalize w3.alloc (.cells #[.slice a4 n1 c4, .slice a5 n2 c5] 30) = W4 at HK HP4 HQ4 HB4 HK4 ⊢
      go_wp2_with (first
        | (go_at_call 7; ((with_reducible refine (HA.out _ HB4.out).mono ?_); rintro e w5 ⟨rfl, b5⟩; have r5 := L8.row_up HK.out b5; have s5 := L8.row_up HK4.out b5; obtain ⟨x0, x1⟩ := L10.cells2p r5; obtain ⟨y0, y1⟩ := L10.cells2p s5; have B5 := L2.bch HB4.out b5; have p5 := HP4.out.below b5; have q5 := HQ4.out.below b5))
        | (go_at_call 14; ((with_reducible refine (HSA.out _ _ _ _ _ p5 q5).mono ?_); rintro e w6 ⟨rfl, b6⟩; clear x0 x1 y0 y1; have s6 := L8.row_up s5 b6; obtain ⟨y0, y1⟩ := L10.cells2p s6; have B6 := L2.bch B5 b6; have q6 := q5.below b6))
        | (go_at_call 11; ((with_reducible refine (HPR.out _ _ _ B6 q6).mono ?_); rintro e w7 ⟨rfl, b7⟩)))
      go_ret
      exact ⟨rfl, L2.bch B6 b7⟩
    · clear hT hl hs hct hpa hn1 hn2 hn3
      go_enter Tryz.func5, Tryz.ntmps5
      go_wp2_with (first
        | (go_at_call 15; ((with_reducible refine (HL.out _).mono ?_); rintro e w1 ⟨rfl, rfl⟩))
        | (go_at_call 13; ((with_reducible refine (HP.out).mono ?_); rintro e w1 ⟨vm, vs, lv, rfl, hp, hi, b1⟩; obtain ⟨a1, c1, rfl, -⟩ := L10.df_form HN.out.1 hp.1; obtain ⟨a2, c2, rfl, -⟩ := L10.sm_form HN.out.2.1 hp.2; obtain ⟨a3, c3, rfl, -⟩ := L10.in_form HN.out.2.2 hi; clear hp hi))
        | (go_at_call 7; ((with_reducible refine (HA.out _ (L2.bch b1 (L8.bnew _ _))).mono ?_); rintro e w3 ⟨rfl, b3⟩)))
      go_ret
      exact ⟨rfl, L2.bch (L2.bch b1 (L8.bnew _ _)) b3⟩
end Go.Proofs.YtbneaihpnfkcdaaGreatDoor.L11
