/- The examples of the chapter on slots hold. No condition. -/
import Derived.Test.YthoghcejmnnniaaL12Dis
namespace Go.Proofs.Ythoghcejmnnniaa.L12
open Go.RowKit Go.Shelf L3 L4
attribute [local go_sem] Oper.semAt_some

/-- The three instructions of the example. -/
def exL : List L9.Ins := [⟨84, false, 0, 0, 0, 0⟩, ⟨68, false, 0, 0, 0, 0⟩, ⟨68, false, 0, 0, 0, 0⟩]
abbrev exC : Array Value := #[.int .i64 84, .bool false, .int .i64 0, .int .i64 0, .int .i64 0, .int .i64 0, .int .i64 68, .bool false, .int .i64 0, .int .i64 0, .int .i64 0, .int .i64 0, .int .i64 68, .bool false, .int .i64 0, .int .i64 0, .int .i64 0, .int .i64 0]
theorem ex_s : (stL 0 exL).map (fun (a : Nat) => (a : Int)) = [0, 2, 3] := by kernel_rfl
theorem ex_n : smN exL = 4 := by kernel_rfl
theorem ex_d : diV exL 2 0 = (-4, true) := by kernel_rfl
theorem ex_t : taV exL 2 (-4) = (0, true) := by kernel_rfl
theorem ex_t0 : taV exL 2 0 = (0, false) := by kernel_rfl
theorem ex_a3 : atN 0 0 exL 3 = 2 := by kernel_rfl
theorem ex_a1 : atN 0 0 exL 1 = -1 := by kernel_rfl
theorem ex_a4 : atN 0 0 exL 4 = -1 := by kernel_rfl
theorem ex_at (w : World) : IsAt (w.alloc (.cells exC 34)) (.slice (some ⟨w.heap.size, 0, none⟩) 3 3) exL := by
  have h := heap_alloc_last w (.cells exC 34)
  refine .inl ⟨w.heap.size, 0, 3, rfl, lt_of_block h, fun j hj i u hu => ?_⟩
  have hi : i < 6 := by
    have := (List.getElem?_eq_some_iff.1 hu).1
    simpa using this
  have h3 : j < 3 := hj
  unfold World.cell?
  simp only [h]
  rcases (by omega : j = 0 ∨ j = 1 ∨ j = 2) with rfl | rfl | rfl <;> rcases (by omega : i = 0 ∨ i = 1 ∨ i = 2 ∨ i = 3 ∨ i = 4 ∨ i = 5) with rfl | rfl | rfl | rfl | rfl | rfl <;> (cases hu; rfl)
theorem lit_at (w : World) : L10.InAt (w.alloc (.cells #[.int .i64 0, .int .i64 2, .int .i64 3] 3)) (.slice (some ⟨w.heap.size, 0, none⟩) 3 3) [0, 2, 3] := by
  have h := heap_alloc_last w (.cells #[.int .i64 0, .int .i64 2, .int .i64 3] 3)
  refine .inl ⟨w.heap.size, 0, 3, rfl, lt_of_block h, fun j hj => ?_⟩
  have h3 : j < 3 := hj
  unfold World.cell?
  simp only [h]
  rcases (by omega : j = 0 ∨ j = 1 ∨ j = 2) with rfl | rfl | rfl <;> rfl

set_option maxHeartbeats 4000000 in
set_option maxRecDepth 100000 in
theorem alive12 (w : World) : Calls Try.prog 9 #[] w fun e w' => e = .returned (.bool true) ∧ Below w.heap.size w w' := by
  have hI := ex_at w
  have hB0 := L8.bnew w (.cells exC 34)
  go_enter Try.func9, Try.ntmps9
  go_upto_region 2 with (fail)
  obtain ⟨g, hg⟩ : ∃ g, w.heap.size = g := ⟨_, rfl⟩
  rw [hg] at hI ⊢
  generalize w.alloc (.cells _ 34) = W0 at hI hB0 ⊢
  have HB0 := Lib.hid hB0
  have HS := Lib.hid (starts_is _ exL 3 rfl (by decide) W0 hI)
  rw [ex_s, ex_n] at HS
  have HD := Lib.hid (fun (W : World) (hb : Below W0.heap.size W0 W) => distance_at _ exL 2 0 (-4) true W (hI.below hb) (by decide) ex_d)
  have HT := Lib.hid (fun (W : World) (hb : Below W0.heap.size W0 W) => target_at _ exL 2 (-4) 0 true W (hI.below hb) (by decide) ex_t)
  have HT0 := Lib.hid (fun (W : World) (hb : Below W0.heap.size W0 W) => target_at _ exL 2 0 0 false W (hI.below hb) (by decide) ex_t0)
  have HA3 := Lib.hid (fun (W : World) (hb : Below W0.heap.size W0 W) => at_at _ exL 3 2 (by decide) W (hI.below hb) ex_a3)
  have HA1 := Lib.hid (fun (W : World) (hb : Below W0.heap.size W0 W) => at_at _ exL 1 (-1) (by decide) W (hI.below hb) ex_a1)
  have HA4 := Lib.hid (fun (W : World) (hb : Below W0.heap.size W0 W) => at_at _ exL 4 (-1) (by decide) W (hI.below hb) ex_a4)
  have HE := Lib.hid (fun (a c W) (hin : L10.InAt W (.slice a 3 c) [0, 2, 3]) => L10.equalI_at (.slice a 3 c) (.slice (some ⟨W.heap.size, 0, none⟩) 3 3) [0, 2, 3] [0, 2, 3] true _ (by decide) (by decide) (hin.below (L8.bnew W (.cells #[.int .i64 0, .int .i64 2, .int .i64 3] 3))) (lit_at W) (by simp))
  clear hI hB0
  go_wp2_with (first | (go_at_call 10; ((with_reducible refine (HS.out).mono ?_); rintro e w1 ⟨⟨a1, c1, rfl, i1⟩, b1⟩)) | (go_at_call 14; ((with_reducible refine (HD.out _ b1).mono ?_); rintro e w2 ⟨rfl, b2⟩; have B2 := L2.bch b1 b2; have i2 := i1.below b2)) | (go_at_call 16; ((with_reducible refine (HT.out _ B2).mono ?_); rintro e w3 ⟨rfl, b3⟩; have B3 := L2.bch B2 b3; have i3 := i2.below b3)) | (go_at_call 16; ((with_reducible refine (HT0.out _ B3).mono ?_); rintro e w4 ⟨rfl, b4⟩; have B4 := L2.bch B3 b4; have i4 := i3.below b4)) | (go_at_call 25; ((with_reducible refine (HE.out _ _ _ i4).mono ?_); rintro e w5 ⟨rfl, b5⟩; have B5 := L2.bch (L2.bch B4 (L8.bnew w4 (.cells #[.int .i64 0, .int .i64 2, .int .i64 3] 3))) b5)) | (go_at_call 12; ((with_reducible refine (HA3.out _ B5).mono ?_); rintro e w6 ⟨rfl, b6⟩; have B6 := L2.bch B5 b6)) | (go_at_call 12; ((with_reducible refine (HA1.out _ B6).mono ?_); rintro e w7 ⟨rfl, b7⟩; have B7 := L2.bch B6 b7)) | (go_at_call 12; ((with_reducible refine (HA4.out _ B7).mono ?_); rintro e w8 ⟨rfl, b8⟩; have B8 := L2.bch B7 b8)))
  go_ret
  exact ⟨rfl, L2.bch HB0.out B8⟩
end Go.Proofs.Ythoghcejmnnniaa.L12
