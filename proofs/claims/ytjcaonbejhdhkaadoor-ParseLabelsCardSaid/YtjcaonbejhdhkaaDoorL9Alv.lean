/- The chapter's examples hold, where the tables read as the program's text lays them. -/
import Derived.Test.YtjcaonbejhdhkaaDoorL9Sta
import Derived.KernelRfl
namespace Go.Proofs.YtjcaonbejhdhkaaDoor.L9
open Go.RowKit
attribute [local go_sem] Oper.semAt_some

theorem li0 : liV ⟨#[97, 58, 32, 98, 58, 32, 106, 101, 113, 32, 114, 49, 44, 32, 45, 53, 44, 32, 101, 110, 100]⟩ = ([⟨#[97]⟩, ⟨#[98]⟩], ⟨2, Df.z, ⟨45, false, 1, 0, 0, -5⟩, ⟨#[101, 110, 100]⟩, ⟨#[]⟩⟩, 0) := by kernel_rfl
theorem li1 : (liV ⟨#[97, 100, 100, 32, 114, 49, 44, 32, 53]⟩).2.2 = 6 := by kernel_rfl
theorem li2 : liV ⟨#[101, 120, 105, 116]⟩ = ([], ⟨2, Df.z, ⟨68, false, 0, 0, 0, 0⟩, ⟨#[]⟩, ⟨#[]⟩⟩, 0) := by kernel_rfl
theorem eq_c0 (w : World) : (binOp .eql 39 (.agg #[.int .i64 45, .bool false, .int .i64 1, .int .i64 0, .int .i64 0, .int .i64 (-5), .string ⟨#[101, 110, 100]⟩, .string ⟨#[]⟩]) (.agg #[.int .i64 45, .bool false, .int .i64 1, .int .i64 0, .int .i64 0, .int .i64 (-5), .string ⟨#[101, 110, 100]⟩, .string ⟨#[]⟩])).run Tryd.prog w = .ok (.bool true) w := by kernel_rfl
set_option maxHeartbeats 4000000 in
set_option maxRecDepth 100000 in
theorem alive9 (w : World) (hT : Tab w) : Calls Tryd.prog 9 #[] w fun e w' => e = .returned (.bool true) ∧ Below w.heap.size w w' := by
  have h2 := hT.lt
  have HT := Lib.hid hT
  have H0 : Hid (∀ W, Tab W → Calls Tryd.prog 10 #[.string ⟨#[97, 58, 32, 98, 58, 32, 106, 101, 113, 32, 114, 49, 44, 32, 45, 53, 44, 32, 101, 110, 100]⟩] W fun e w' => ∃ v, e = .returned (.tuple #[v, .int .i64 0]) ∧ ItAt w' v [.iface 73 (.agg #[.string ⟨#[97]⟩]), .iface 73 (.agg #[.string ⟨#[98]⟩]), .iface 39 (.agg #[.int .i64 45, .bool false, .int .i64 1, .int .i64 0, .int .i64 0, .int .i64 (-5), .string ⟨#[101, 110, 100]⟩, .string ⟨#[]⟩])] ∧ Below W.heap.size W w') := Lib.hid fun W hW => (line_li ⟨#[97, 58, 32, 98, 58, 32, 106, 101, 113, 32, 114, 49, 44, 32, 45, 53, 44, 32, 101, 110, 100]⟩ (by decide) W hW 0 (by rw [li0])).mono fun e w' ⟨v, he, hv, hb⟩ => ⟨v, he, by rw [if_pos rfl, li0] at hv; exact hv, hb⟩
  have H1 : Hid (∀ W, Tab W → Calls Tryd.prog 10 #[.string ⟨#[97, 100, 100, 32, 114, 49, 44, 32, 53]⟩] W fun e w' => ∃ v, e = .returned (.tuple #[v, .int .i64 6]) ∧ Below W.heap.size W w') := Lib.hid fun W hW => (line_li ⟨#[97, 100, 100, 32, 114, 49, 44, 32, 53]⟩ (by decide) W hW 6 li1).mono fun e w' ⟨v, he, _, hb⟩ => ⟨v, he, hb⟩
  have H2 : Hid (∀ W, Tab W → Calls Tryd.prog 13 #[.string ⟨#[101, 120, 105, 116]⟩] W fun e w' => e = .returned (.tuple #[.agg #[.int .i64 68, .bool false, .int .i64 0, .int .i64 0, .int .i64 0, .int .i64 0, .string ⟨#[]⟩, .string ⟨#[]⟩], .int .i64 0]) ∧ Below W.heap.size W w') := Lib.hid fun W hW => stat_at ⟨#[101, 120, 105, 116]⟩ (by decide) W hW ⟨⟨68, false, 0, 0, 0, 0⟩, ⟨#[]⟩, ⟨#[]⟩⟩ 0 (by unfold stV; rw [li2]; rfl)
  have A0 : Hid (∀ W, Calls Tryd.prog 14 #[.iface 39 (.agg #[.int .i64 45, .bool false, .int .i64 1, .int .i64 0, .int .i64 0, .int .i64 (-5), .string ⟨#[101, 110, 100]⟩, .string ⟨#[]⟩])] W fun e w' => e = .returned (.tuple #[.agg #[.int .i64 45, .bool false, .int .i64 1, .int .i64 0, .int .i64 0, .int .i64 (-5), .string ⟨#[101, 110, 100]⟩, .string ⟨#[]⟩], .bool true]) ∧ Below W.heap.size W w') := Lib.hid fun W => asCode_code ⟨45, false, 1, 0, 0, -5⟩ ⟨#[101, 110, 100]⟩ ⟨#[]⟩ W
  have K0 : Hid (∀ W, Calls Tryd.prog 15 #[.iface 39 (.agg #[.int .i64 45, .bool false, .int .i64 1, .int .i64 0, .int .i64 0, .int .i64 (-5), .string ⟨#[101, 110, 100]⟩, .string ⟨#[]⟩])] W fun e w' => e = .returned (.int .i64 0) ∧ Below W.heap.size W w') := Lib.hid fun W => catch_code ⟨45, false, 1, 0, 0, -5⟩ ⟨#[101, 110, 100]⟩ ⟨#[]⟩ W
  have eqc := eq_c0
  clear hT
  go_enter Tryd.func9, Tryd.ntmps9
  go_wp2_with (first
    | (go_at_call 10; ((with_reducible refine (H0.out _ HT.out).mono ?_); rintro e w1 ⟨v, rfl, hv, b1⟩; obtain ⟨a, cp, rfl, hA⟩ := it_form (n := 3) rfl hv; obtain ⟨b, o, rfl, hb, hcs⟩ := hA (by decide); have k0 : w1.cell? ⟨b, o, none⟩ = some (.iface 73 (.agg #[.string ⟨#[97]⟩])) := (by have := hcs 0 (by simp); simpa using this); have k2 : w1.cell? ⟨b, o + 2, none⟩ = some (.iface 39 (.agg #[.int .i64 45, .bool false, .int .i64 1, .int .i64 0, .int .i64 0, .int .i64 (-5), .string ⟨#[101, 110, 100]⟩, .string ⟨#[]⟩])) := (by have := hcs 2 (by simp); simpa using this); have HK := Lib.hid (And.intro k0 k2); clear hv hA hcs k0 k2))
    | (go_at_call 10; ((with_reducible refine (H1.out _ (HT.out.below b1 h2)).mono ?_); rintro e w2 ⟨v2, rfl, b2⟩; have c2 := (b2.cell (p := ⟨b, o + 2, none⟩) hb).trans HK.out.2; have hb2 : b < w2.heap.size := Nat.lt_of_lt_of_le hb b2.size))
    | (go_at_call 14; ((with_reducible refine (A0.out _).mono ?_); rintro e w3 ⟨rfl, b3⟩; have B3 := L2.bch b2 b3; have d0 := (B3.cell (p := ⟨b, o, none⟩) hb).trans HK.out.1; have hb3 : b < w3.heap.size := Nat.lt_of_lt_of_le hb B3.size; have r3 := heap_alloc_last w3 (.cells #[.int .i64 45, .bool false, .int .i64 1, .int .i64 0, .int .i64 0, .int .i64 (-5), .string ⟨#[101, 110, 100]⟩, .string ⟨#[]⟩] 39); clear c2))
    | (go_at_call 14; ((with_reducible refine (asCode_label _ _).mono ?_); rintro e w4 ⟨rfl, b4⟩; have B4 := L2.bch B3 (L2.bch (L8.bnew w3 _) b4); have r4 := row_up (row_up r3 b4) (L8.bnew w4 (.cells codZ 39)); have hs4 : w3.heap.size < w4.heap.size := Nat.lt_of_lt_of_le (by simp) b4.size; clear d0 r3))
    | (go_at_call 13; ((with_reducible refine (H2.out _ (HT.out.below (L2.bch (L2.bch b1 B4) (L8.bnew w4 (.cells codZ 39))) h2)).mono ?_); rintro e w5 ⟨rfl, b5⟩; have B5 := L2.bch B4 (L2.bch (L8.bnew w4 (.cells codZ 39)) b5); have r5 := row_up r4 b5; have f2 := (B5.cell (p := ⟨b, o + 2, none⟩) hb).trans HK.out.2; have hb5 : b < w5.heap.size := Nat.lt_of_lt_of_le hb B5.size; have hs5 : w3.heap.size < w5.heap.size := lt_of_block r5; obtain ⟨y0, y1, y2, y3, y4, y5, y6, y7⟩ := cells8 r5; have r9 := heap_alloc_last w5 (.cells #[.int .i64 68, .bool false, .int .i64 0, .int .i64 0, .int .i64 0, .int .i64 0, .string ⟨#[]⟩, .string ⟨#[]⟩] 39); clear r4))
    | (go_at_call 15; ((with_reducible refine (K0.out _).mono ?_); rintro e w6 ⟨rfl, b6⟩; have B6 := L2.bch B5 (L2.bch (L8.bnew w5 (.cells #[.int .i64 68, .bool false, .int .i64 0, .int .i64 0, .int .i64 0, .int .i64 0, .string ⟨#[]⟩, .string ⟨#[]⟩] 39)) b6); have g0 := (B6.cell (p := ⟨b, o, none⟩) hb).trans HK.out.1; have r6 := row_up r9 b6; clear f2 y0 y1 y2 y3 y4 y5 y6 y7 r9 r5))
    | (go_at_call 15; ((with_reducible refine (catch_label _ _).mono ?_); rintro e w7 ⟨rfl, b7⟩; have B7 := L2.bch B6 b7; obtain ⟨x0, x1, x2, x3, x4, x5, x6, x7⟩ := cells8 (row_up r6 b7); clear x1 x2 x3 x4 x5 x6 x7)))
  go_ret
  exact ⟨rfl, L2.bch b1 B7⟩
end Go.Proofs.YtjcaonbejhdhkaaDoor.L9
