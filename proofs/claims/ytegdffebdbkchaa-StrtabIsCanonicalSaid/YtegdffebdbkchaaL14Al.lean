/- The examples of the chapter on tables of texts hold. No condition. -/
import Derived.Test.YtegdffebdbkchaaL14Fd
import Derived.Test.YtegdffebdbkchaaL14Bd
namespace Go.Proofs.Ytegdffebdbkchaa.L14
open Go.RowKit
attribute [local go_sem] Oper.semAt_some

/-- The example's texts and their table. -/
def exT : List (List UInt8) := [[97], [98, 99]]
def exL : List UInt8 := [0, 97, 0, 98, 99, 0]
theorem ex_tb : tb exT = exL := by kernel_rfl
theorem ex_of : ofs 1 exT = [1, 3] := by kernel_rfl
theorem ex_rt : ∀ t ∈ exT, rt t = true := by decide
theorem ex_gt : gtE exL 4 = .returned (.tuple #[.string ⟨#[99]⟩, .int .i64 0]) := by kernel_rfl
theorem ex_fi : fiE (fnd [98, 99] 0 exL) = .returned (.tuple #[.int .i64 3, .bool true]) := by
  have h : fnd [98, 99] 0 exL = some 3 := by decide +kernel
  rw [h]; rfl
theorem ex_pr : prV [1] = none := by kernel_rfl
theorem lit_row {α : Type} (enc : α → Value) (w : World) (l : List α) (n : Nat) (hn : l.length = n) (t : TypeId) (cs : Array Value) (hc : cs = (l.map enc).toArray) : Rw enc (w.alloc (.cells cs t)) (.slice (some ⟨w.heap.size, 0, none⟩) n n) l := by
  subst hn hc
  have h := heap_alloc_new w (.cells (l.map enc).toArray t)
  refine ⟨_, _, rfl, Nat.le_refl _, fun e => (by cases e), fun _ => ⟨w.heap.size, 0, rfl, lt_of_block h, fun j hj => ?_⟩⟩
  unfold World.cell?
  simp only [h]
  simp [hj]
theorem build_ex (w : World) : Calls Try.prog 11 #[.slice (some ⟨w.heap.size, 0, none⟩) 2 2] (w.alloc (.cells #[.string ⟨#[97]⟩, .string ⟨#[98, 99]⟩] 9)) fun e w' => (∃ a1 c1 a2 c2, e = .returned (.tuple #[.slice a1 6 c1, .slice a2 2 c2, .int .i64 0]) ∧ Rw eB w' (.slice a1 6 c1) exL ∧ Rw eN w' (.slice a2 2 c2) [1, 3]) ∧ Below w.heap.size w w' := by
  refine (build_at _ exT _ (lit_row eT w exT 2 rfl 9 _ rfl) (by decide) (by decide)).mono fun e w' h => ?_
  obtain ⟨⟨⟨t, ht, hf⟩, -⟩ | ⟨-, a1, c1, a2, c2, he, h1, h2⟩, hb⟩ := h
  · rw [ex_rt t ht] at hf; cases hf
  · rw [ex_tb] at he h1
    rw [ex_of] at h2
    exact ⟨⟨a1, c1, a2, c2, he, h1, h2⟩, bch (bnew _ _) hb⟩
theorem get_ex (v : Value) (w : World) (h : Rw eB w v exL) : Calls Try.prog 19 #[v, .int .i64 4] w fun e w' => e = .returned (.tuple #[.string ⟨#[99]⟩, .int .i64 0]) ∧ Below w.heap.size w w' := by
  have := get_at v exL 4 w (by decide) h
  rwa [ex_gt] at this
theorem find_ex (v : Value) (w : World) (h : Rw eB w v exL) : Calls Try.prog 21 #[v, .string ⟨#[98, 99]⟩] w fun e w' => e = .returned (.tuple #[.int .i64 3, .bool true]) ∧ Below w.heap.size w w' := by
  have := find_at v exL [98, 99] ⟨#[98, 99]⟩ rfl w h (by decide) (by decide)
  rwa [ex_fi] at this
theorem parse_ex (w : World) : Calls Try.prog 16 #[.slice (some ⟨w.heap.size, 0, none⟩) 1 1] (w.alloc (.cells #[.int .u8 1] 5)) fun e w' => e = .returned (.tuple #[.slice none 0 0, .slice none 0 0, .int .i64 19]) ∧ Below w.heap.size w w' := by
  refine (parse_at _ [1] _ (lit_row eB w [1] 1 rfl 5 _ rfl) (by decide)).mono fun e w' h => ?_
  obtain ⟨⟨-, he⟩ | ⟨ts, _, _, _, _, hp, -⟩, hb⟩ := h
  · exact ⟨he, bch (bnew _ _) hb⟩
  · rw [ex_pr] at hp; cases hp

set_option maxHeartbeats 4000000 in
set_option maxRecDepth 100000 in
theorem alive14 (w : World) : Calls Try.prog 10 #[] w fun e w' => e = .returned (.bool true) ∧ Below w.heap.size w w' := by
  have HB := Lib.hid (build_ex w)
  have HS := Lib.hid (fun (a c W) (h : Rw eB W (.slice a 6 c) exL) => same_at (.slice a 6 c) (.slice (some ⟨W.heap.size, 0, none⟩) 6 6) exL (W.alloc (.cells #[.int .u8 0, .int .u8 97, .int .u8 0, .int .u8 98, .int .u8 99, .int .u8 0] 5)) (by decide) (h.below (bnew _ _)) (lit_row eB W exL 6 rfl 5 _ rfl))
  have HE := Lib.hid (fun (a c W) (h : Rw eN W (.slice a 2 c) [1, 3]) => eqN_at (.slice a 2 c) (.slice (some ⟨W.heap.size, 0, none⟩) 2 2) [1, 3] (W.alloc (.cells #[.int .i64 1, .int .i64 3] 3)) (by decide) (h.below (bnew _ _)) (lit_row eN W [1, 3] 2 rfl 3 _ rfl))
  go_enter Try.func10, Try.ntmps10
  go_wp2_with (first
    | (go_at_call 11; ((with_reducible refine (HB.out).mono ?_); rintro e w1 ⟨⟨a1, c1, a2, c2, rfl, h1, o1⟩, b1⟩))
    | (go_at_call 19; ((with_reducible refine (get_ex _ _ h1).mono ?_); rintro e w2 ⟨rfl, b2⟩; have h2 := h1.below b2; have o2 := o1.below b2; have B2 := bch b1 b2))
    | (go_at_call 21; ((with_reducible refine (find_ex _ _ h2).mono ?_); rintro e w3 ⟨rfl, b3⟩; have h3 := h2.below b3; have o3 := o2.below b3; have B3 := bch B2 b3))
    | (go_at_call 16; ((with_reducible refine (parse_ex _).mono ?_); rintro e w4 ⟨rfl, b4⟩; have h4 := h3.below b4; have o4 := o3.below b4; have B4 := bch B3 b4))
    | (go_at_call 14; ((with_reducible refine (HS.out _ _ _ h4).mono ?_); rintro e w5 ⟨rfl, m5, hw5⟩; have b5 : Below w4.heap.size w4 w5 := (by rw [hw5]; exact bdN (bnew w4 (.cells #[.int .u8 0, .int .u8 97, .int .u8 0, .int .u8 98, .int .u8 99, .int .u8 0] 5)) m5); clear hw5; have o5 := o4.below b5; have B5 := bch B4 b5))
    | (go_at_call 15; ((with_reducible refine (HE.out _ _ _ o5).mono ?_); rintro e w6 ⟨rfl, m6, hw6⟩; have b6 : Below w5.heap.size w5 w6 := (by rw [hw6]; exact bdN (bnew w5 _) m6); clear hw6)))
  go_ret
  exact ⟨rfl, bch B5 b6⟩
end Go.Proofs.Ytegdffebdbkchaa.L14
