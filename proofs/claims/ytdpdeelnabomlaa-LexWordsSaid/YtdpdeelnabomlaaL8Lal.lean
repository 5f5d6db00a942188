/- The chapter's example: the function that all statements call answers true, if the program's functions return what they are to. -/
import Derived.Test.YtdpdeelnabomlaaL8Lwd
namespace Go.Proofs.Ytdpdeelnabomlaa.L8
open Go.RowKit L2
attribute [local go_sem] Oper.semAt_some

def line0 : ByteArray := ⟨#[120, 58, 32, 97, 100, 100, 54, 52, 32, 114, 49, 44, 32, 45, 53, 32, 59, 32, 102, 105, 118, 101]⟩
def line1 : ByteArray := ⟨#[97, 32, 42]⟩
def text0 : ByteArray := ⟨#[97, 10, 10, 98]⟩
theorem bad0 : bad line0 = -1 := by decide +kernel
theorem bad1 : bad line1 = 2 := by decide +kernel
theorem shp0 : shB (tkX line0 (tks line0)) = ⟨#[119, 58, 119, 119, 44, 45, 119]⟩ := by decide +kernel
theorem wdX0 : wdX (tkX line0 (tks line0)) = [⟨#[120]⟩, ⟨#[97, 100, 100, 54, 52]⟩, ⟨#[114, 49]⟩, ⟨#[53]⟩] := by decide +kernel
theorem lns0 : lns text0 = [⟨#[97]⟩, ⟨#[]⟩, ⟨#[98]⟩] := by decide +kernel
theorem st4' {w : World} {k : Nat} (a b c d : ByteArray) (h : w.heap[k]? = some (.cells #[.string a, .string b, .string c, .string d] 9)) : StAt w (.slice (some ⟨k, 0, none⟩) 4 4) [a, b, c, d] := by
  refine .inl ⟨_, 0, 4, rfl, lt_of_block h, fun j hj => ?_⟩
  have : j = 0 ∨ j = 1 ∨ j = 2 ∨ j = 3 := by simp at hj; omega
  rcases this with rfl | rfl | rfl | rfl <;> simp [World.cell?, h]
theorem st4 (w : World) (a b c d : ByteArray) : StAt (w.alloc (.cells #[.string a, .string b, .string c, .string d] 9)) (.slice (some ⟨w.heap.size, 0, none⟩) 4 4) [a, b, c, d] := st4' a b c d (heap_alloc_last w _)
theorem st3' {w : World} {k : Nat} (a b c : ByteArray) (h : w.heap[k]? = some (.cells #[.string a, .string b, .string c] 9)) : StAt w (.slice (some ⟨k, 0, none⟩) 3 3) [a, b, c] := by
  refine .inl ⟨_, 0, 3, rfl, lt_of_block h, fun j hj => ?_⟩
  have : j = 0 ∨ j = 1 ∨ j = 2 := by simp at hj; omega
  rcases this with rfl | rfl | rfl <;> simp [World.cell?, h]
theorem st3 (w : World) (a b c : ByteArray) : StAt (w.alloc (.cells #[.string a, .string b, .string c] 9)) (.slice (some ⟨w.heap.size, 0, none⟩) 3 3) [a, b, c] := st3' a b c (heap_alloc_last w _)
theorem PS_formn {w w' : World} {l : List ByteArray} {e : Ending} (n : Nat) (hn : l.length = n) (h : PS w l e w') : ∃ a cap, e = .returned (.slice a n cap) ∧ StAt w' (.slice a n cap) l ∧ Below w.heap.size w w' := by
  subst hn; exact PS_form h

set_option maxHeartbeats 4000000 in
set_option maxRecDepth 100000 in
theorem alive8_of (HT : Toks8) (HW : Words8) (HS : Shape8) (HL : Lines8) : Alive8 := by
  intro w
  have hxt : ∀ t ∈ txt (tkX line0 (tks line0)), TokT t := by rw [txt_tkX]; exact txts_tok line0
  have hl : (tkX line0 (tks line0)).length ≤ 100000 := by rw [tkX_len]; exact Nat.le_trans (tks_len line0) (by decide)
  have H1 := Lib.hid (fun w => (HT line0 w (by decide)).mono fun e w' h => PT_ok bad0 h)
  have H2 := Lib.hid (fun w => (HT line1 w (by decide)).mono fun e w' h => PT_bad (by rw [bad1]; decide) h)
  have H3 := Lib.hid (fun v w hv => HS _ v w hl hxt hv)
  have H4 := Lib.hid (fun v w hv => (HW _ v w hl hxt hv).mono fun e w' h => PS_formn 4 (by rw [wdX0]; rfl) h)
  have H5 := Lib.hid (fun w => (HL text0 w (by decide)).mono fun e w' h => PS_formn 3 (by rw [lns0]; rfl) h)
  rw [shp0] at H3
  rw [wdX0] at H4
  rw [lns0] at H5
  rw [bad1] at H2
  generalize tkX line0 (tks line0) = xs at H1 H3 H4
  generalize (tks line0).length = n at H1
  have HE4 := Lib.hid (fun (v1 v2 : Value) (w : World) (h1 : StAt w v1 _) (h2 : StAt w v2 _) => eqs_at v1 v2 [⟨#[120]⟩, ⟨#[97, 100, 100, 54, 52]⟩, ⟨#[114, 49]⟩, ⟨#[53]⟩] [⟨#[120]⟩, ⟨#[97, 100, 100, 54, 52]⟩, ⟨#[114, 49]⟩, ⟨#[53]⟩] (by decide) (by decide) true (by simp) w h1 h2)
  have HE3 := Lib.hid (fun (v1 v2 : Value) (w : World) (h1 : StAt w v1 _) (h2 : StAt w v2 _) => eqs_at v1 v2 [⟨#[97]⟩, ⟨#[]⟩, ⟨#[98]⟩] [⟨#[97]⟩, ⟨#[]⟩, ⟨#[98]⟩] (by decide) (by decide) true (by simp) w h1 h2)
  clear HT HW HS HL hxt hl
  unfold line0 at H1
  unfold line1 at H2
  unfold text0 at H5
  go_enter Try.func9, Try.ntmps9
  go_upto_region 2 with (go_at_call 10; ((with_reducible refine (H1.out _).mono ?_); rintro e w1 ⟨a1, cap1, rfl, hv1, b1⟩))
  go_upto_region 3 with (go_at_call 10; ((with_reducible refine (H2.out _).mono ?_); rintro e w2 ⟨a2, cap2, rfl, b2⟩; have B2 := bch b1 b2; have hv2 := hv1.below b2))
  go_wp2_with (first
    | (go_at_call 12; ((with_reducible refine (H3.out _ _ hv2).mono ?_); rintro e w3 ⟨rfl, b3⟩; have B3 := bch B2 b3; have hv3 := hv2.below b3))
    | (go_at_call 15; ((with_reducible refine (H4.out _ _ hv3).mono ?_); rintro e w4 ⟨a4, cap4, rfl, hs4, b4⟩; have B4 := bch (bch B3 b4) (bnew w4 (.cells #[.string ⟨#[120]⟩, .string ⟨#[97, 100, 100, 54, 52]⟩, .string ⟨#[114, 49]⟩, .string ⟨#[53]⟩] 9)); have hs4' := hs4.below (bnew w4 (.cells #[.string ⟨#[120]⟩, .string ⟨#[97, 100, 100, 54, 52]⟩, .string ⟨#[114, 49]⟩, .string ⟨#[53]⟩] 9))))
    | (go_at_call 14; ((with_reducible refine (HE4.out _ _ _ hs4' (st4 w4 _ _ _ _)).mono ?_); rintro e w5 ⟨rfl, b5⟩; have B5 := bch B4 b5))
    | (go_at_call 17; ((with_reducible refine (H5.out _).mono ?_); rintro e w6 ⟨a6, cap6, rfl, hs6, b6⟩; have B6 := bch (bch B5 b6) (bnew w6 (.cells #[.string ⟨#[97]⟩, .string ⟨#[]⟩, .string ⟨#[98]⟩] 9)); have hs6' := hs6.below (bnew w6 (.cells #[.string ⟨#[97]⟩, .string ⟨#[]⟩, .string ⟨#[98]⟩] 9))))
    | (go_at_call 14; ((with_reducible refine (HE3.out _ _ _ hs6' (st3 w6 _ _ _)).mono ?_); rintro e w7 ⟨rfl, b7⟩)))
  go_ret
  exact ⟨rfl, bch B6 b7⟩
end Go.Proofs.Ytdpdeelnabomlaa.L8
