/- The examples of the chapter on containers hold. No condition. -/
import Derived.Test.YtdamijicombmkaaL15Rr
import Derived.Lib.SlBytesConst
namespace Go.Proofs.Ytdamijicombmkaa.L15
open Go.RowKit L14
attribute [local go_sem] Oper.semAt_some

theorem lit_row {α : Type} (enc : α → Value) (w : World) (l : List α) (n : Nat) (hn : l.length = n) (t : TypeId) (fr : Nat × Nat) (cs : Array Value) (hc : cs = (l.map enc).toArray) : Rw enc (w.alloc (.cells cs t fr)) (.slice (some ⟨w.heap.size, 0, none⟩) n n) l := by
  subst hn hc
  have h := heap_alloc_new w (.cells (l.map enc).toArray t fr)
  refine ⟨_, _, rfl, Nat.le_refl _, fun e => (by cases e), fun _ => ⟨w.heap.size, 0, rfl, lt_of_block h, fun j hj => ?_⟩⟩
  unfold World.cell?
  simp only [h]
  simp [hj]
/-- The example's section and its container. -/
def exS : List Sc := [(7, [5])]
def exB : List UInt8 := wr exS
theorem ex_chk : chkV exS = 0 := by decide +kernel
theorem ex_sz : szL exS = 40 := by decide +kernel
theorem ex_sml : Sml exS := ⟨by decide, by decide⟩
theorem ex_len : exB.length = 40 := by rw [exB, wr_len, ex_sz]
theorem ex_rd : rdOk exB ∧ rdT exB (nS exB) = exS := rdOk_is ⟨ex_chk, rfl⟩
theorem ex_nS : nS exB = 1 := nS_wr exS (by decide)
theorem ex_get : getV exS 7 = some [5] := by decide
theorem no_rd : ¬ rdOk [83, 76, 67, 49] := fun h => absurd h.1.1 (by decide)
theorem ex_ss (w : World) : Ss ((w.alloc (.cells #[.int .u8 5] 5)).alloc (.cells #[.int .i64 7, .slice (some ⟨w.heap.size, 0, none⟩) 1 1] 50)) (.slice (some ⟨w.heap.size + 1, 0, none⟩) 1 1) exS := by
  have h1 := heap_alloc_new (w.alloc (.cells #[.int .u8 5] 5)) (.cells #[.int .i64 7, .slice (some ⟨w.heap.size, 0, none⟩) 1 1] 50)
  rw [World.size_alloc] at h1
  have h2 := (lit_row eB w [5] 1 rfl 5 (0, 0) #[.int .u8 5] rfl).below (bnew _ (.cells #[.int .i64 7, .slice (some ⟨w.heap.size, 0, none⟩) 1 1] 50))
  refine ⟨_, 1, rfl, Nat.le_refl _, fun e => (by cases e), fun _ => ⟨w.heap.size + 1, 0, rfl, lt_of_block h1, fun j hj => ?_⟩⟩
  have hj0 : j = 0 := by simp [exS] at hj; exact hj
  subst hj0
  refine ⟨?_, .slice (some ⟨w.heap.size, 0, none⟩) 1 1, ?_, h2⟩
  · unfold World.cell?
    simp only [h1]
    rfl
  · unfold World.cell?
    simp only [h1]
    rfl
theorem alive_get (v : Value) (w : World) (h : Ss w v exS) : Calls Try.prog 23 #[v, .int .i64 7] w fun e w' => (∃ a c, e = .returned (.tuple #[.slice a 1 c, .bool true]) ∧ Rw eB w' (.slice a 1 c) [5]) ∧ Below w.heap.size w w' := by
  refine (get_at v exS 7 w h (by decide)).mono fun e w' hh => ?_
  obtain ⟨⟨h0, -⟩ | ⟨d, a, c, hd, he, hr⟩, hb⟩ := hh
  · rw [ex_get] at h0; cases h0
  · rw [ex_get] at hd
    obtain rfl := Option.some.inj hd
    exact ⟨⟨a, c, he, hr⟩, hb⟩
theorem alive_read (a : Option Addr) (c : Nat) (w : World) (h : Rw eB w (.slice a 40 c) exB) : Calls Try.prog 19 #[.slice a 40 c] w fun e w' => (∃ a c, e = .returned (.tuple #[.slice a 1 c, .int .i64 0]) ∧ Ss w' (.slice a 1 c) exS) ∧ Below w.heap.size w w' := by
  refine (read_at a 40 c exB w h (by decide)).mono fun e w' hh => ?_
  obtain ⟨⟨h0, -⟩ | ⟨-, a', c', he, hr⟩, hb⟩ := hh
  · exact absurd ex_rd.1 h0
  · rw [ex_rd.2] at hr
    rw [ex_nS] at he hr
    exact ⟨⟨a', c', he, hr⟩, hb⟩
theorem alive_no (w : World) : Calls Try.prog 19 #[.slice (some ⟨w.heap.size, 0, none⟩) 4 4] (w.alloc (.cells #[.int .u8 83, .int .u8 76, .int .u8 67, .int .u8 49] 5 (4, 5))) fun e w' => e = .returned (.tuple #[.slice none 0 0, .int .i64 19]) ∧ Below w.heap.size w w' := by
  refine (read_at _ 4 4 [83, 76, 67, 49] _ (lit_row eB w [83, 76, 67, 49] 4 rfl 5 (4, 5) _ rfl) (by decide)).mono fun e w' hh => ?_
  obtain ⟨⟨-, he⟩ | ⟨h0, -⟩, hb⟩ := hh
  · exact ⟨he, bch (bnew _ _) hb⟩
  · exact absurd h0 no_rd

set_option maxHeartbeats 4000000 in
set_option maxRecDepth 100000 in
theorem alive15 (w : World) : Calls Try.prog 10 #[] w fun e w' => e = .returned (.bool true) ∧ Below w.heap.size w w' := by
  have HW0 := Lib.hid (write_yes (.slice none 0 0) [] 16 w (Ss.nil w) ⟨by simp, by simp⟩ (by decide +kernel) (by decide +kernel))
  have hkc := fun (W : World) => Lib.run_convert_bytes_const (P := Try.prog) W 25 5 #[.int .u8 83, .int .u8 76, .int .u8 67, .int .u8 49] 4 4 Try.underlying25 Try.underlying5
  go_enter Try.func10, Try.ntmps10
  go_wp2_with (first
    | (go_at_call 11; ((with_reducible refine (HW0.out).mono ?_); rintro e w1 ⟨⟨a1, c1, rfl, -⟩, b1⟩; have hs1 := ex_ss w1; have bb1 := bch (bnew w1 (.cells #[.int .u8 5] 5)) (bnew (w1.alloc (.cells #[.int .u8 5] 5)) (.cells #[.int .i64 7, .slice (some ⟨w1.heap.size, 0, none⟩) 1 1] 50))))
    | (go_at_call 11; ((with_reducible refine (write_yes _ exS 40 _ hs1 ex_sml ex_chk ex_sz).mono ?_); rintro e w3 ⟨⟨a3, c3, rfl, r3⟩, b3⟩; have B3 := bch b1 (bb1.trans (b3.mono bb1.size)); have hs3 := hs1.below b3))
    | (go_at_call 19; ((with_reducible refine (alive_read a3 c3 _ r3).mono ?_); rintro e w4 ⟨⟨a4, c4, rfl, s4⟩, b4⟩; have B4 := bch B3 b4; have hs4 := hs3.below b4))
    | (go_at_call 23; ((with_reducible refine (alive_get _ _ s4).mono ?_); rintro e w5 ⟨⟨a5, c5, rfl, r5⟩, b5⟩; have B5 := bch B4 b5; have hs5 := hs4.below b5))
    | (go_at_call 19; ((with_reducible refine (alive_no w5).mono ?_); rintro e w6 ⟨rfl, b6⟩; have B6 := bch B5 b6; have hs6 := hs5.below b6; have r6 := r5.below b6; have r6a := r6.below (bnew w6 (.cells #[.int .u8 5] 5)); have l6 := lit_row eB w6 [5] 1 rfl 5 (0, 0) #[.int .u8 5] rfl))
    | (go_at_call 16; ((with_reducible refine (rsameB_at _ _ [5] [5] true _ (by decide) (by decide) r6a l6 (by decide)).mono ?_); rintro e w7 ⟨rfl, q7, hw7⟩; have b7 : Below w6.heap.size w6 w7 := (by rw [hw7]; exact bdN (bnew w6 _) q7); clear hw7; have B7 := bch B6 b7; have hs7 := hs6.below b7))
    | (go_at_call 13; ((with_reducible refine (size_at _ exS 40 _ hs7 ex_sml ex_sz).mono ?_); rintro e w8 ⟨rfl, b8⟩; have B8 := bch B7 b8)))
  go_ret
  exact ⟨rfl, B8⟩
end Go.Proofs.Ytdamijicombmkaa.L15
