/- What the reference's Decode returns, way by way. No condition but that the bytes are known. -/
import Derived.Test.YthebdblncafijaaDoorRdecf
import Derived.Test.YthebdblncafijaaDoorRenca
import Derived.Test.YthebdblncafijaaDoorL3Rix
namespace Go.Proofs.YthebdblncafijaaDoor
open Go.RowKit L3 L1 L4

theorem rext_is (x b v : Int) (w : World) (h0 : 0 ≤ x) (h1 : x < 18446744073709551616) (hb : b = 8 ∨ b = 16 ∨ b = 32 ∨ b = 64) (hv : sx b x = v) :
    Calls Tryd.prog 34 #[.int .u64 x, .int .i64 b] w fun e w' => e = .returned (.int .i64 v) ∧ w = w' := by
  subst hv
  exact rextend_yes x b w h0 h1 hb
/-- Two results' blocks: the result's, and the zero instruction's. -/
structure TwoS (w W : World) (X : Array Value) : Prop where
  hb : Below w.heap.size w W
  hg : W.heap[w.heap.size]? = some (.cells X 23)
  hz : W.heap[w.heap.size + 1]? = some (.cells #[.int .i64 0, .bool false, .int .i64 0, .int .i64 0, .int .i64 0, .int .i64 0] 23)
theorem TwoS.start (w : World) : TwoS w ((w.alloc (.cells #[.int .i64 0, .bool false, .int .i64 0, .int .i64 0, .int .i64 0, .int .i64 0] 23)).alloc (.cells #[.int .i64 0, .bool false, .int .i64 0, .int .i64 0, .int .i64 0, .int .i64 0] 23)) #[.int .i64 0, .bool false, .int .i64 0, .int .i64 0, .int .i64 0, .int .i64 0] :=
  ⟨bch (bnew w _) (bnew _ _), (Below.heap_alloc _ _ _ (by simp)).trans (heap_alloc_last w _), by have := heap_alloc_last (w.alloc (.cells #[.int .i64 0, .bool false, .int .i64 0, .int .i64 0, .int .i64 0, .int .i64 0] 23)) (.cells #[.int .i64 0, .bool false, .int .i64 0, .int .i64 0, .int .i64 0, .int .i64 0] 23); rwa [World.size_alloc] at this⟩
theorem TwoS.below {w W W' : World} {X : Array Value} (h : TwoS w W X) (hb : Below W.heap.size W W') : TwoS w W' X :=
  ⟨bch h.hb hb, row_up h.hg hb, row_up h.hz hb⟩
theorem TwoS.set {w W : World} {X : Array Value} (h : TwoS w W X) (cs : Array Value) : TwoS w (W.setRow w.heap.size cs) cs :=
  ⟨below_setRow h.hb (Nat.le_refl _) cs, setRow_heap W _ _ cs _ _ h.hg, (setRow_other W _ _ cs (by omega)).trans h.hz⟩

theorem TwoS.size {w W : World} {X : Array Value} (h : TwoS w W X) : w.heap.size + 1 < W.heap.size := by
  have := h.hz
  rw [Array.getElem?_eq_some_iff] at this
  exact this.1
theorem TwoS.setc {w W : World} {X : Array Value} (h : TwoS w W X) (g i : Nat) (v : Value) (hg : w.heap.size + 1 < g) : TwoS w (W.setCell ⟨g, i, none⟩ v) X := by
  have hb : Below (w.heap.size + 2) W (W.setCell ⟨g, i, none⟩ v) := (Below.refl _ _).setCell (show w.heap.size + 2 ≤ g by omega) v
  exact ⟨h.hb.setCell (show w.heap.size ≤ g by omega) v, (hb.block w.heap.size (by omega)).trans h.hg, (hb.block (w.heap.size + 1) (by omega)).trans h.hz⟩

set_option maxHeartbeats 4000000 in
set_option maxRecDepth 100000 in
theorem rdec_op (k o n cap : Nat) (c0 c1 c2 c3 c4 c5 c6 c7 : UInt8) (off imm : Int) (w : World) (h : Eight w k o c0 c1 c2 c3 c4 c5 c6 c7) (hn : 8 ≤ n)
    (ho : sx 16 ((c2.toNat : Int) * 1 + (c3.toNat : Int) * 256) = off) (hi : sx 32 ((c4.toNat : Int) * 1 + (c5.toNat : Int) * 256 + (c6.toNat : Int) * 65536 + (c7.toNat : Int) * 16777216) = imm)
    (op : Int) (r ok : Bool) (hid : idF (c0.toNat : Int) ((c1.toNat : Int) / 16) off imm 86 0 = (op, r, ok)) (hok : ok = false) :
    Calls Tryd.prog 15 #[.slice (some ⟨k, o, none⟩) n cap] w fun e w' => e = .returned (.tuple #[.agg #[.int .i64 0, .bool false, .int .i64 0, .int .i64 0, .int .i64 0, .int .i64 0], .int .i64 0, .int .i64 6]) ∧ Below w.heap.size w w' := by
  have S := TwoS.start w
  have h8 := h.below S.hb
  have d0 := h8.a0
  have d1 := h8.a1
  obtain ⟨s2, hs2⟩ : ∃ s2, (c2.toNat : Int) * 1 + (c3.toNat : Int) * 256 = s2 := ⟨_, rfl⟩
  obtain ⟨s4, hs4⟩ : ∃ s4, (c4.toNat : Int) * 1 + (c5.toNat : Int) * 256 + (c6.toNat : Int) * 65536 + (c7.toNat : Int) * 16777216 = s4 := ⟨_, rfl⟩
  have HG2 := Lib.hid (fun (W : World) (hb : Below w.heap.size w W) => rget_2 k o n cap c2 c3 s2 W (by omega) (h.below hb).a2 (h.below hb).a3 hs2)
  have HG4 := Lib.hid (fun (W : World) (hb : Below w.heap.size w W) => rget_4 k o n cap c4 c5 c6 c7 s4 W (by omega) (h.below hb).a4 (h.below hb).a5 (h.below hb).a6 (h.below hb).a7 hs4)
  have HX2 := Lib.hid (fun (W : World) => rext_is s2 16 off W (hs2 ▸ (sum2 c2 c3).1) (hs2 ▸ (sum2 c2 c3).2) (by decide) (hs2 ▸ ho))
  have HX4 := Lib.hid (fun (W : World) => rext_is s4 32 imm W (hs4 ▸ (sum4 c4 c5 c6 c7).1) (hs4 ▸ (sum4 c4 c5 c6 c7).2) (by decide) (hs4 ▸ hi))
  have HD := Lib.hid (fun (W : World) => rident_at (c0.toNat : Int) ((c1.toNat : Int) / 16) off imm op r ok W hid)
  have n8 : ¬ (n : Int) < 8 := by omega
  have n0 : 0 < n := by omega
  have n1 : 1 < n := by omega
  have n0' : (0 : Int) < (n : Int) := by omega
  have n1' : (1 : Int) < (n : Int) := by omega
  have b1 := c1.toNat_lt
  clear h ho hi hid hn h8 hs2 hs4
  go_enter Tryd.func15, Tryd.ntmps15
  obtain ⟨y0, y1, y2, y3, y4, y5⟩ := cells6 S.hz
  go_wp2_with (first | (go_at_call 44; ((with_reducible refine (HG2.out _ S.hb).mono ?_); rintro e w1 ⟨rfl, rfl⟩)) | (go_at_call 44; ((with_reducible refine (HG4.out _ S.hb).mono ?_); rintro e w1 ⟨rfl, rfl⟩)) | (go_at_call 34; ((with_reducible refine (HX2.out _).mono ?_); rintro e w1 ⟨rfl, rfl⟩)) | (go_at_call 34; ((with_reducible refine (HX4.out _).mono ?_); rintro e w1 ⟨rfl, rfl⟩)) | (go_at_call 45; ((with_reducible refine (HD.out _).mono ?_); rintro e w2 ⟨rfl, b2⟩; replace S := S.below b2; clear y0 y1 y2 y3 y4 y5; obtain ⟨y0, y1, y2, y3, y4, y5⟩ := cells6 S.hz)) | (refine wpList_store_row rfl _ _ _ rfl w.heap.size #[.int .i64 0, .bool false, .int .i64 0, .int .i64 0, .int .i64 0, .int .i64 0] rfl rfl 23 _ S.hg (by kernel_rfl) rfl (ins_one _ _ _ _ _ _) ?_; replace S := S.set #[.int .i64 0, .bool false, .int .i64 0, .int .i64 0, .int .i64 0, .int .i64 0]; obtain ⟨x0, x1, x2, x3, x4, x5⟩ := cells6 S.hg))
  exact bodyPost_ret (v := .tuple #[.agg #[.int .i64 0, .bool false, .int .i64 0, .int .i64 0, .int .i64 0, .int .i64 0], .int .i64 0, .int .i64 6]) (by simp [results, Tryd.results15, go_sem, x0, x1, x2, x3, x4, x5]) rfl ⟨rfl, S.hb⟩

theorem rdec_short (a : Option Addr) (n cap : Nat) (w : World) (hn : n < 8) : Calls Tryd.prog 15 #[.slice a n cap] w fun e w' => e = .returned (.tuple #[.agg #[.int .i64 0, .bool false, .int .i64 0, .int .i64 0, .int .i64 0, .int .i64 0], .int .i64 0, .int .i64 17]) ∧ Below w.heap.size w w' := by
  have S := TwoS.start w
  have n8 : (n : Int) < 8 := by omega
  clear hn
  go_enter Tryd.func15, Tryd.ntmps15
  obtain ⟨y0, y1, y2, y3, y4, y5⟩ := cells6 S.hz
  go_wp2_with (refine wpList_store_row rfl _ _ _ rfl w.heap.size #[.int .i64 0, .bool false, .int .i64 0, .int .i64 0, .int .i64 0, .int .i64 0] rfl rfl 23 _ S.hg (by kernel_rfl) rfl (ins_one _ _ _ _ _ _) ?_; replace S := S.set #[.int .i64 0, .bool false, .int .i64 0, .int .i64 0, .int .i64 0, .int .i64 0]; obtain ⟨x0, x1, x2, x3, x4, x5⟩ := cells6 S.hg)
  exact bodyPost_ret (v := .tuple #[.agg #[.int .i64 0, .bool false, .int .i64 0, .int .i64 0, .int .i64 0, .int .i64 0], .int .i64 0, .int .i64 17]) (by simp [results, Tryd.results15, go_sem, x0, x1, x2, x3, x4, x5]) rfl ⟨rfl, S.hb⟩

set_option maxHeartbeats 4000000 in
set_option maxRecDepth 100000 in
theorem rdec_short2 (k o n cap : Nat) (c0 c1 c2 c3 c4 c5 c6 c7 : UInt8) (off imm : Int) (w : World) (h : Eight w k o c0 c1 c2 c3 c4 c5 c6 c7) (hn : 8 ≤ n)
    (ho : sx 16 ((c2.toNat : Int) * 1 + (c3.toNat : Int) * 256) = off) (hi : sx 32 ((c4.toNat : Int) * 1 + (c5.toNat : Int) * 256 + (c6.toNat : Int) * 65536 + (c7.toNat : Int) * 16777216) = imm)
    (op : Int) (r ok : Bool) (hid : idF (c0.toNat : Int) ((c1.toNat : Int) / 16) off imm 86 0 = (op, r, ok)) (hok : ok = true) (f : Int) (hf : frm (ix op) = f) (hs : slo f = 2) (h16 : n < 16) :
    Calls Tryd.prog 15 #[.slice (some ⟨k, o, none⟩) n cap] w fun e w' => e = .returned (.tuple #[.agg #[.int .i64 0, .bool false, .int .i64 0, .int .i64 0, .int .i64 0, .int .i64 0], .int .i64 0, .int .i64 17]) ∧ Below w.heap.size w w' := by
  have HT := Lib.hid (fun (W : World) => rslots_at op f 2 W hf hs)
  have n16 : (n : Int) < 16 := by omega
  clear hf hs
  have S := TwoS.start w
  have h8 := h.below S.hb
  have d0 := h8.a0
  have d1 := h8.a1
  obtain ⟨s2, hs2⟩ : ∃ s2, (c2.toNat : Int) * 1 + (c3.toNat : Int) * 256 = s2 := ⟨_, rfl⟩
  obtain ⟨s4, hs4⟩ : ∃ s4, (c4.toNat : Int) * 1 + (c5.toNat : Int) * 256 + (c6.toNat : Int) * 65536 + (c7.toNat : Int) * 16777216 = s4 := ⟨_, rfl⟩
  have HG2 := Lib.hid (fun (W : World) (hb : Below w.heap.size w W) => rget_2 k o n cap c2 c3 s2 W (by omega) (h.below hb).a2 (h.below hb).a3 hs2)
  have HG4 := Lib.hid (fun (W : World) (hb : Below w.heap.size w W) => rget_4 k o n cap c4 c5 c6 c7 s4 W (by omega) (h.below hb).a4 (h.below hb).a5 (h.below hb).a6 (h.below hb).a7 hs4)
  have HX2 := Lib.hid (fun (W : World) => rext_is s2 16 off W (hs2 ▸ (sum2 c2 c3).1) (hs2 ▸ (sum2 c2 c3).2) (by decide) (hs2 ▸ ho))
  have HX4 := Lib.hid (fun (W : World) => rext_is s4 32 imm W (hs4 ▸ (sum4 c4 c5 c6 c7).1) (hs4 ▸ (sum4 c4 c5 c6 c7).2) (by decide) (hs4 ▸ hi))
  have HD := Lib.hid (fun (W : World) => rident_at (c0.toNat : Int) ((c1.toNat : Int) / 16) off imm op r ok W hid)
  have n8 : ¬ (n : Int) < 8 := by omega
  have n0 : 0 < n := by omega
  have n1 : 1 < n := by omega
  have n0' : (0 : Int) < (n : Int) := by omega
  have n1' : (1 : Int) < (n : Int) := by omega
  have b1 := c1.toNat_lt
  clear h16 h ho hi hid hn h8 hs2 hs4
  go_enter Tryd.func15, Tryd.ntmps15
  obtain ⟨y0, y1, y2, y3, y4, y5⟩ := cells6 S.hz
  go_wp2_with (first | (go_at_call 44; ((with_reducible refine (HG2.out _ S.hb).mono ?_); rintro e w1 ⟨rfl, rfl⟩)) | (go_at_call 44; ((with_reducible refine (HG4.out _ S.hb).mono ?_); rintro e w1 ⟨rfl, rfl⟩)) | (go_at_call 34; ((with_reducible refine (HX2.out _).mono ?_); rintro e w1 ⟨rfl, rfl⟩)) | (go_at_call 34; ((with_reducible refine (HX4.out _).mono ?_); rintro e w1 ⟨rfl, rfl⟩)) | (go_at_call 45; ((with_reducible refine (HD.out _).mono ?_); rintro e w2 ⟨rfl, b2⟩; replace S := S.below b2; clear y0 y1 y2 y3 y4 y5; obtain ⟨y0, y1, y2, y3, y4, y5⟩ := cells6 S.hz)) | (go_at_call 38; ((with_reducible refine (HT.out _).mono ?_); rintro e w3 ⟨rfl, rfl⟩)) | (refine wpList_store_row rfl _ _ _ rfl w.heap.size #[.int .i64 0, .bool false, .int .i64 0, .int .i64 0, .int .i64 0, .int .i64 0] rfl rfl 23 _ S.hg (by kernel_rfl) rfl (ins_one _ _ _ _ _ _) ?_; replace S := S.set #[.int .i64 0, .bool false, .int .i64 0, .int .i64 0, .int .i64 0, .int .i64 0]; obtain ⟨x0, x1, x2, x3, x4, x5⟩ := cells6 S.hg))
  exact bodyPost_ret (v := .tuple #[.agg #[.int .i64 0, .bool false, .int .i64 0, .int .i64 0, .int .i64 0, .int .i64 0], .int .i64 0, .int .i64 17]) (by simp [results, Tryd.results15, go_sem, x0, x1, x2, x3, x4, x5]) rfl ⟨rfl, S.hb⟩

set_option maxHeartbeats 4000000 in
set_option maxRecDepth 100000 in
theorem rdec_reg1 (k o n cap : Nat) (c0 c1 c2 c3 c4 c5 c6 c7 : UInt8) (off imm : Int) (w : World) (h : Eight w k o c0 c1 c2 c3 c4 c5 c6 c7) (hn : 8 ≤ n)
    (ho : sx 16 ((c2.toNat : Int) * 1 + (c3.toNat : Int) * 256) = off) (hi : sx 32 ((c4.toNat : Int) * 1 + (c5.toNat : Int) * 256 + (c6.toNat : Int) * 65536 + (c7.toNat : Int) * 16777216) = imm)
    (op : Int) (r ok : Bool) (hid : idF (c0.toNat : Int) ((c1.toNat : Int) / 16) off imm 86 0 = (op, r, ok)) (hok : ok = true) (f : Int) (hf : frm (ix op) = f) (hs : slo f = 1) (hreg : 11 ≤ (c1.toNat : Int) % 16 ∨ 11 ≤ (c1.toNat : Int) / 16) :
    Calls Tryd.prog 15 #[.slice (some ⟨k, o, none⟩) n cap] w fun e w' => e = .returned (.tuple #[.agg #[.int .i64 0, .bool false, .int .i64 0, .int .i64 0, .int .i64 0, .int .i64 0], .int .i64 0, .int .i64 5]) ∧ Below w.heap.size w w' := by
  have HT := Lib.hid (fun (W : World) => rslots_at op f 1 W hf hs)
  clear hf hs
  have S := TwoS.start w
  have h8 := h.below S.hb
  have d0 := h8.a0
  have d1 := h8.a1
  obtain ⟨s2, hs2⟩ : ∃ s2, (c2.toNat : Int) * 1 + (c3.toNat : Int) * 256 = s2 := ⟨_, rfl⟩
  obtain ⟨s4, hs4⟩ : ∃ s4, (c4.toNat : Int) * 1 + (c5.toNat : Int) * 256 + (c6.toNat : Int) * 65536 + (c7.toNat : Int) * 16777216 = s4 := ⟨_, rfl⟩
  have HG2 := Lib.hid (fun (W : World) (hb : Below w.heap.size w W) => rget_2 k o n cap c2 c3 s2 W (by omega) (h.below hb).a2 (h.below hb).a3 hs2)
  have HG4 := Lib.hid (fun (W : World) (hb : Below w.heap.size w W) => rget_4 k o n cap c4 c5 c6 c7 s4 W (by omega) (h.below hb).a4 (h.below hb).a5 (h.below hb).a6 (h.below hb).a7 hs4)
  have HX2 := Lib.hid (fun (W : World) => rext_is s2 16 off W (hs2 ▸ (sum2 c2 c3).1) (hs2 ▸ (sum2 c2 c3).2) (by decide) (hs2 ▸ ho))
  have HX4 := Lib.hid (fun (W : World) => rext_is s4 32 imm W (hs4 ▸ (sum4 c4 c5 c6 c7).1) (hs4 ▸ (sum4 c4 c5 c6 c7).2) (by decide) (hs4 ▸ hi))
  have HD := Lib.hid (fun (W : World) => rident_at (c0.toNat : Int) ((c1.toNat : Int) / 16) off imm op r ok W hid)
  have n8 : ¬ (n : Int) < 8 := by omega
  have n0 : 0 < n := by omega
  have n1 : 1 < n := by omega
  have n0' : (0 : Int) < (n : Int) := by omega
  have n1' : (1 : Int) < (n : Int) := by omega
  have b1 := c1.toNat_lt
  clear h ho hi hid hn h8 hs2 hs4
  go_enter Tryd.func15, Tryd.ntmps15
  obtain ⟨y0, y1, y2, y3, y4, y5⟩ := cells6 S.hz
  go_wp2_with (first | (go_at_call 44; ((with_reducible refine (HG2.out _ S.hb).mono ?_); rintro e w1 ⟨rfl, rfl⟩)) | (go_at_call 44; ((with_reducible refine (HG4.out _ S.hb).mono ?_); rintro e w1 ⟨rfl, rfl⟩)) | (go_at_call 34; ((with_reducible refine (HX2.out _).mono ?_); rintro e w1 ⟨rfl, rfl⟩)) | (go_at_call 34; ((with_reducible refine (HX4.out _).mono ?_); rintro e w1 ⟨rfl, rfl⟩)) | (go_at_call 45; ((with_reducible refine (HD.out _).mono ?_); rintro e w2 ⟨rfl, b2⟩; replace S := S.below b2; clear y0 y1 y2 y3 y4 y5; obtain ⟨y0, y1, y2, y3, y4, y5⟩ := cells6 S.hz)) | (go_at_call 38; ((with_reducible refine (HT.out _).mono ?_); rintro e w3 ⟨rfl, rfl⟩)) | (refine wpList_store_row rfl _ _ _ rfl w.heap.size #[.int .i64 0, .bool false, .int .i64 0, .int .i64 0, .int .i64 0, .int .i64 0] rfl rfl 23 _ S.hg (by kernel_rfl) rfl (ins_one _ _ _ _ _ _) ?_; replace S := S.set #[.int .i64 0, .bool false, .int .i64 0, .int .i64 0, .int .i64 0, .int .i64 0]; obtain ⟨x0, x1, x2, x3, x4, x5⟩ := cells6 S.hg))
  all_goals exact bodyPost_ret (v := .tuple #[.agg #[.int .i64 0, .bool false, .int .i64 0, .int .i64 0, .int .i64 0, .int .i64 0], .int .i64 0, .int .i64 5]) (by simp [results, Tryd.results15, go_sem, x0, x1, x2, x3, x4, x5]) rfl ⟨rfl, S.hb⟩

set_option maxHeartbeats 4000000 in
set_option maxRecDepth 100000 in
theorem rdec_reg2 (k o n cap : Nat) (c0 c1 c2 c3 c4 c5 c6 c7 : UInt8) (off imm : Int) (w : World) (h : Eight w k o c0 c1 c2 c3 c4 c5 c6 c7) (hn : 8 ≤ n)
    (ho : sx 16 ((c2.toNat : Int) * 1 + (c3.toNat : Int) * 256) = off) (hi : sx 32 ((c4.toNat : Int) * 1 + (c5.toNat : Int) * 256 + (c6.toNat : Int) * 65536 + (c7.toNat : Int) * 16777216) = imm)
    (op : Int) (r ok : Bool) (hid : idF (c0.toNat : Int) ((c1.toNat : Int) / 16) off imm 86 0 = (op, r, ok)) (hok : ok = true) (f : Int) (hf : frm (ix op) = f) (hs : slo f = 2) (h16 : 16 ≤ n) (hreg : 11 ≤ (c1.toNat : Int) % 16 ∨ 11 ≤ (c1.toNat : Int) / 16) :
    Calls Tryd.prog 15 #[.slice (some ⟨k, o, none⟩) n cap] w fun e w' => e = .returned (.tuple #[.agg #[.int .i64 0, .bool false, .int .i64 0, .int .i64 0, .int .i64 0, .int .i64 0], .int .i64 0, .int .i64 5]) ∧ Below w.heap.size w w' := by
  have HT := Lib.hid (fun (W : World) => rslots_at op f 2 W hf hs)
  have n16 : ¬ (n : Int) < 16 := by omega
  clear hf hs
  have S := TwoS.start w
  have h8 := h.below S.hb
  have d0 := h8.a0
  have d1 := h8.a1
  obtain ⟨s2, hs2⟩ : ∃ s2, (c2.toNat : Int) * 1 + (c3.toNat : Int) * 256 = s2 := ⟨_, rfl⟩
  obtain ⟨s4, hs4⟩ : ∃ s4, (c4.toNat : Int) * 1 + (c5.toNat : Int) * 256 + (c6.toNat : Int) * 65536 + (c7.toNat : Int) * 16777216 = s4 := ⟨_, rfl⟩
  have HG2 := Lib.hid (fun (W : World) (hb : Below w.heap.size w W) => rget_2 k o n cap c2 c3 s2 W (by omega) (h.below hb).a2 (h.below hb).a3 hs2)
  have HG4 := Lib.hid (fun (W : World) (hb : Below w.heap.size w W) => rget_4 k o n cap c4 c5 c6 c7 s4 W (by omega) (h.below hb).a4 (h.below hb).a5 (h.below hb).a6 (h.below hb).a7 hs4)
  have HX2 := Lib.hid (fun (W : World) => rext_is s2 16 off W (hs2 ▸ (sum2 c2 c3).1) (hs2 ▸ (sum2 c2 c3).2) (by decide) (hs2 ▸ ho))
  have HX4 := Lib.hid (fun (W : World) => rext_is s4 32 imm W (hs4 ▸ (sum4 c4 c5 c6 c7).1) (hs4 ▸ (sum4 c4 c5 c6 c7).2) (by decide) (hs4 ▸ hi))
  have HD := Lib.hid (fun (W : World) => rident_at (c0.toNat : Int) ((c1.toNat : Int) / 16) off imm op r ok W hid)
  have n8 : ¬ (n : Int) < 8 := by omega
  have n0 : 0 < n := by omega
  have n1 : 1 < n := by omega
  have n0' : (0 : Int) < (n : Int) := by omega
  have n1' : (1 : Int) < (n : Int) := by omega
  have b1 := c1.toNat_lt
  clear h16 h ho hi hid hn h8 hs2 hs4
  go_enter Tryd.func15, Tryd.ntmps15
  obtain ⟨y0, y1, y2, y3, y4, y5⟩ := cells6 S.hz
  go_wp2_with (first | (go_at_call 44; ((with_reducible refine (HG2.out _ S.hb).mono ?_); rintro e w1 ⟨rfl, rfl⟩)) | (go_at_call 44; ((with_reducible refine (HG4.out _ S.hb).mono ?_); rintro e w1 ⟨rfl, rfl⟩)) | (go_at_call 34; ((with_reducible refine (HX2.out _).mono ?_); rintro e w1 ⟨rfl, rfl⟩)) | (go_at_call 34; ((with_reducible refine (HX4.out _).mono ?_); rintro e w1 ⟨rfl, rfl⟩)) | (go_at_call 45; ((with_reducible refine (HD.out _).mono ?_); rintro e w2 ⟨rfl, b2⟩; replace S := S.below b2; clear y0 y1 y2 y3 y4 y5; obtain ⟨y0, y1, y2, y3, y4, y5⟩ := cells6 S.hz)) | (go_at_call 38; ((with_reducible refine (HT.out _).mono ?_); rintro e w3 ⟨rfl, rfl⟩)) | (refine wpList_store_row rfl _ _ _ rfl w.heap.size #[.int .i64 0, .bool false, .int .i64 0, .int .i64 0, .int .i64 0, .int .i64 0] rfl rfl 23 _ S.hg (by kernel_rfl) rfl (ins_one _ _ _ _ _ _) ?_; replace S := S.set #[.int .i64 0, .bool false, .int .i64 0, .int .i64 0, .int .i64 0, .int .i64 0]; obtain ⟨x0, x1, x2, x3, x4, x5⟩ := cells6 S.hg))
  all_goals exact bodyPost_ret (v := .tuple #[.agg #[.int .i64 0, .bool false, .int .i64 0, .int .i64 0, .int .i64 0, .int .i64 0], .int .i64 0, .int .i64 5]) (by simp [results, Tryd.results15, go_sem, x0, x1, x2, x3, x4, x5]) rfl ⟨rfl, S.hb⟩

set_option maxHeartbeats 4000000 in
set_option maxRecDepth 100000 in
theorem rdec_one (k o n cap : Nat) (c0 c1 c2 c3 c4 c5 c6 c7 : UInt8) (off imm : Int) (w : World) (h : Eight w k o c0 c1 c2 c3 c4 c5 c6 c7) (hn : 8 ≤ n)
    (ho : sx 16 ((c2.toNat : Int) * 1 + (c3.toNat : Int) * 256) = off) (hi : sx 32 ((c4.toNat : Int) * 1 + (c5.toNat : Int) * 256 + (c6.toNat : Int) * 65536 + (c7.toNat : Int) * 16777216) = imm)
    (op : Int) (r ok : Bool) (hid : idF (c0.toNat : Int) ((c1.toNat : Int) / 16) off imm 86 0 = (op, r, ok)) (hok : ok = true) (f : Int) (hf : frm (ix op) = f) (hs : slo f = 1) (g1 : (c1.toNat : Int) % 16 ≤ 10) (g2 : (c1.toNat : Int) / 16 ≤ 10) (sr' of' im' : Int) (e1 : sr (ix op) = sr') (e2 : of (ix op) = of') (e3 : im (ix op) = im') (bs : 0 ≤ sr' ∧ sr' ≤ 10) (bo : -32768 ≤ of' ∧ of' ≤ 32767) (bi : -2147483648 ≤ im' ∧ im' ≤ 2147483647) (bo' : -32768 ≤ off ∧ off ≤ 32767) (bi' : -2147483648 ≤ imm ∧ imm ≤ 2147483647) (S' O' V' : Int) (q1 : (c1.toNat : Int) / 16 - sr' = S') (q2 : off - of' = O') (q3 : imm - im' = V') (hR : (Ix.mk op r ((c1.toNat : Int) % 16) S' O' V').err = 0) (hfit : (Ix.mk op r ((c1.toNat : Int) % 16) S' O' V').fits) :
    Calls Tryd.prog 15 #[.slice (some ⟨k, o, none⟩) n cap] w fun e w' => e = .returned (.tuple #[.agg #[.int .i64 op, .bool r, .int .i64 ((c1.toNat : Int) % 16), .int .i64 S', .int .i64 O', .int .i64 V'], .int .i64 1, .int .i64 0]) ∧ Below w.heap.size w w' := by
  have HT := Lib.hid (fun (W : World) => rslots_at op f 1 W hf hs)
  have HFX := Lib.hid (fun (W : World) => rfixed_at op sr' of' im' W e1 e2 e3)
  clear e1 e2 e3
  have HC := Lib.hid (fun W => rchk_is (Ix.mk op r ((c1.toNat : Int) % 16) S' O' V') 0 W hfit hR)
  clear hR hfit
  clear hf hs
  have S := TwoS.start w
  have h8 := h.below S.hb
  have d0 := h8.a0
  have d1 := h8.a1
  obtain ⟨s2, hs2⟩ : ∃ s2, (c2.toNat : Int) * 1 + (c3.toNat : Int) * 256 = s2 := ⟨_, rfl⟩
  obtain ⟨s4, hs4⟩ : ∃ s4, (c4.toNat : Int) * 1 + (c5.toNat : Int) * 256 + (c6.toNat : Int) * 65536 + (c7.toNat : Int) * 16777216 = s4 := ⟨_, rfl⟩
  have HG2 := Lib.hid (fun (W : World) (hb : Below w.heap.size w W) => rget_2 k o n cap c2 c3 s2 W (by omega) (h.below hb).a2 (h.below hb).a3 hs2)
  have HG4 := Lib.hid (fun (W : World) (hb : Below w.heap.size w W) => rget_4 k o n cap c4 c5 c6 c7 s4 W (by omega) (h.below hb).a4 (h.below hb).a5 (h.below hb).a6 (h.below hb).a7 hs4)
  have HX2 := Lib.hid (fun (W : World) => rext_is s2 16 off W (hs2 ▸ (sum2 c2 c3).1) (hs2 ▸ (sum2 c2 c3).2) (by decide) (hs2 ▸ ho))
  have HX4 := Lib.hid (fun (W : World) => rext_is s4 32 imm W (hs4 ▸ (sum4 c4 c5 c6 c7).1) (hs4 ▸ (sum4 c4 c5 c6 c7).2) (by decide) (hs4 ▸ hi))
  have HD := Lib.hid (fun (W : World) => rident_at (c0.toNat : Int) ((c1.toNat : Int) / 16) off imm op r ok W hid)
  have n8 : ¬ (n : Int) < 8 := by omega
  have n0 : 0 < n := by omega
  have n1 : 1 < n := by omega
  have n0' : (0 : Int) < (n : Int) := by omega
  have n1' : (1 : Int) < (n : Int) := by omega
  have b1 := c1.toNat_lt
  clear h ho hi hid hn h8 hs2 hs4
  go_enter Tryd.func15, Tryd.ntmps15
  obtain ⟨y0, y1, y2, y3, y4, y5⟩ := cells6 S.hz
  go_wp2_with (first | (go_at_call 44; ((with_reducible refine (HG2.out _ S.hb).mono ?_); rintro e w1 ⟨rfl, rfl⟩)) | (go_at_call 44; ((with_reducible refine (HG4.out _ S.hb).mono ?_); rintro e w1 ⟨rfl, rfl⟩)) | (go_at_call 34; ((with_reducible refine (HX2.out _).mono ?_); rintro e w1 ⟨rfl, rfl⟩)) | (go_at_call 34; ((with_reducible refine (HX4.out _).mono ?_); rintro e w1 ⟨rfl, rfl⟩)) | (go_at_call 45; ((with_reducible refine (HD.out _).mono ?_); rintro e w2 ⟨rfl, b2⟩; replace S := S.below b2; clear y0 y1 y2 y3 y4 y5; obtain ⟨y0, y1, y2, y3, y4, y5⟩ := cells6 S.hz)) | (go_at_call 38; ((with_reducible refine (HT.out _).mono ?_); rintro e w3 ⟨rfl, rfl⟩)) | (go_at_call 36; ((with_reducible refine (HFX.out _).mono ?_); rintro e w4 ⟨rfl, b4⟩; replace S := S.below b4; clear y0 y1 y2 y3 y4 y5; obtain ⟨y0, y1, y2, y3, y4, y5⟩ := cells6 S.hz)) | (go_at_call 10; ((with_reducible refine (HC.out _).mono ?_); rintro e w5 ⟨rfl, b5⟩; have hx := row_up (heap_alloc_last w4 (.cells #[.int .i64 op, .bool r, .int .i64 ((c1.toNat : Int) % 16), .int .i64 S', .int .i64 O', .int .i64 V'] 23)) b5; replace S := S.below (bch (bnew w4 (.cells #[.int .i64 op, .bool r, .int .i64 ((c1.toNat : Int) % 16), .int .i64 S', .int .i64 O', .int .i64 V'] 23)) b5); clear y0 y1 y2 y3 y4 y5; obtain ⟨y0, y1, y2, y3, y4, y5⟩ := cells6 S.hz; obtain ⟨z0, z1, z2, z3, z4, z5⟩ := cells6 hx)) | (refine wpList_store_row rfl _ _ _ rfl w.heap.size #[.int .i64 op, .bool r, .int .i64 ((c1.toNat : Int) % 16), .int .i64 S', .int .i64 O', .int .i64 V'] rfl rfl 23 _ S.hg (by kernel_rfl) rfl (ins_one _ _ _ _ _ _) ?_; replace S := S.set #[.int .i64 op, .bool r, .int .i64 ((c1.toNat : Int) % 16), .int .i64 S', .int .i64 O', .int .i64 V']; obtain ⟨x0, x1, x2, x3, x4, x5⟩ := cells6 S.hg))
  exact bodyPost_ret (v := .tuple #[.agg #[.int .i64 op, .bool r, .int .i64 ((c1.toNat : Int) % 16), .int .i64 S', .int .i64 O', .int .i64 V'], .int .i64 1, .int .i64 0]) (by simp [results, Tryd.results15, go_sem, x0, x1, x2, x3, x4, x5]) rfl ⟨rfl, S.hb⟩

set_option maxHeartbeats 4000000 in
set_option maxRecDepth 100000 in
theorem rdec_one_bad (k o n cap : Nat) (c0 c1 c2 c3 c4 c5 c6 c7 : UInt8) (off imm : Int) (w : World) (h : Eight w k o c0 c1 c2 c3 c4 c5 c6 c7) (hn : 8 ≤ n)
    (ho : sx 16 ((c2.toNat : Int) * 1 + (c3.toNat : Int) * 256) = off) (hi : sx 32 ((c4.toNat : Int) * 1 + (c5.toNat : Int) * 256 + (c6.toNat : Int) * 65536 + (c7.toNat : Int) * 16777216) = imm)
    (op : Int) (r ok : Bool) (hid : idF (c0.toNat : Int) ((c1.toNat : Int) / 16) off imm 86 0 = (op, r, ok)) (hok : ok = true) (f : Int) (hf : frm (ix op) = f) (hs : slo f = 1) (g1 : (c1.toNat : Int) % 16 ≤ 10) (g2 : (c1.toNat : Int) / 16 ≤ 10) (sr' of' im' : Int) (e1 : sr (ix op) = sr') (e2 : of (ix op) = of') (e3 : im (ix op) = im') (bs : 0 ≤ sr' ∧ sr' ≤ 10) (bo : -32768 ≤ of' ∧ of' ≤ 32767) (bi : -2147483648 ≤ im' ∧ im' ≤ 2147483647) (bo' : -32768 ≤ off ∧ off ≤ 32767) (bi' : -2147483648 ≤ imm ∧ imm ≤ 2147483647) (S' O' V' : Int) (q1 : (c1.toNat : Int) / 16 - sr' = S') (q2 : off - of' = O') (q3 : imm - im' = V') (R : Int) (hR : (Ix.mk op r ((c1.toNat : Int) % 16) S' O' V').err = R) (hfit : (Ix.mk op r ((c1.toNat : Int) % 16) S' O' V').fits) (h0 : (R != 0) = true) :
    Calls Tryd.prog 15 #[.slice (some ⟨k, o, none⟩) n cap] w fun e w' => e = .returned (.tuple #[.agg #[.int .i64 0, .bool false, .int .i64 0, .int .i64 0, .int .i64 0, .int .i64 0], .int .i64 0, .int .i64 12]) ∧ Below w.heap.size w w' := by
  have HT := Lib.hid (fun (W : World) => rslots_at op f 1 W hf hs)
  have HFX := Lib.hid (fun (W : World) => rfixed_at op sr' of' im' W e1 e2 e3)
  clear e1 e2 e3
  have HC := Lib.hid (fun W => rchk_is (Ix.mk op r ((c1.toNat : Int) % 16) S' O' V') R W hfit hR)
  clear hR hfit
  clear hf hs
  have S := TwoS.start w
  have h8 := h.below S.hb
  have d0 := h8.a0
  have d1 := h8.a1
  obtain ⟨s2, hs2⟩ : ∃ s2, (c2.toNat : Int) * 1 + (c3.toNat : Int) * 256 = s2 := ⟨_, rfl⟩
  obtain ⟨s4, hs4⟩ : ∃ s4, (c4.toNat : Int) * 1 + (c5.toNat : Int) * 256 + (c6.toNat : Int) * 65536 + (c7.toNat : Int) * 16777216 = s4 := ⟨_, rfl⟩
  have HG2 := Lib.hid (fun (W : World) (hb : Below w.heap.size w W) => rget_2 k o n cap c2 c3 s2 W (by omega) (h.below hb).a2 (h.below hb).a3 hs2)
  have HG4 := Lib.hid (fun (W : World) (hb : Below w.heap.size w W) => rget_4 k o n cap c4 c5 c6 c7 s4 W (by omega) (h.below hb).a4 (h.below hb).a5 (h.below hb).a6 (h.below hb).a7 hs4)
  have HX2 := Lib.hid (fun (W : World) => rext_is s2 16 off W (hs2 ▸ (sum2 c2 c3).1) (hs2 ▸ (sum2 c2 c3).2) (by decide) (hs2 ▸ ho))
  have HX4 := Lib.hid (fun (W : World) => rext_is s4 32 imm W (hs4 ▸ (sum4 c4 c5 c6 c7).1) (hs4 ▸ (sum4 c4 c5 c6 c7).2) (by decide) (hs4 ▸ hi))
  have HD := Lib.hid (fun (W : World) => rident_at (c0.toNat : Int) ((c1.toNat : Int) / 16) off imm op r ok W hid)
  have n8 : ¬ (n : Int) < 8 := by omega
  have n0 : 0 < n := by omega
  have n1 : 1 < n := by omega
  have n0' : (0 : Int) < (n : Int) := by omega
  have n1' : (1 : Int) < (n : Int) := by omega
  have b1 := c1.toNat_lt
  clear h ho hi hid hn h8 hs2 hs4
  go_enter Tryd.func15, Tryd.ntmps15
  obtain ⟨y0, y1, y2, y3, y4, y5⟩ := cells6 S.hz
  go_wp2_with (first | (go_at_call 44; ((with_reducible refine (HG2.out _ S.hb).mono ?_); rintro e w1 ⟨rfl, rfl⟩)) | (go_at_call 44; ((with_reducible refine (HG4.out _ S.hb).mono ?_); rintro e w1 ⟨rfl, rfl⟩)) | (go_at_call 34; ((with_reducible refine (HX2.out _).mono ?_); rintro e w1 ⟨rfl, rfl⟩)) | (go_at_call 34; ((with_reducible refine (HX4.out _).mono ?_); rintro e w1 ⟨rfl, rfl⟩)) | (go_at_call 45; ((with_reducible refine (HD.out _).mono ?_); rintro e w2 ⟨rfl, b2⟩; replace S := S.below b2; clear y0 y1 y2 y3 y4 y5; obtain ⟨y0, y1, y2, y3, y4, y5⟩ := cells6 S.hz)) | (go_at_call 38; ((with_reducible refine (HT.out _).mono ?_); rintro e w3 ⟨rfl, rfl⟩)) | (go_at_call 36; ((with_reducible refine (HFX.out _).mono ?_); rintro e w4 ⟨rfl, b4⟩; replace S := S.below b4; clear y0 y1 y2 y3 y4 y5; obtain ⟨y0, y1, y2, y3, y4, y5⟩ := cells6 S.hz)) | (go_at_call 10; ((with_reducible refine (HC.out _).mono ?_); rintro e w5 ⟨rfl, b5⟩; have hx := row_up (heap_alloc_last w4 (.cells #[.int .i64 op, .bool r, .int .i64 ((c1.toNat : Int) % 16), .int .i64 S', .int .i64 O', .int .i64 V'] 23)) b5; replace S := S.below (bch (bnew w4 (.cells #[.int .i64 op, .bool r, .int .i64 ((c1.toNat : Int) % 16), .int .i64 S', .int .i64 O', .int .i64 V'] 23)) b5); clear y0 y1 y2 y3 y4 y5; obtain ⟨y0, y1, y2, y3, y4, y5⟩ := cells6 S.hz; obtain ⟨z0, z1, z2, z3, z4, z5⟩ := cells6 hx)) | (refine wpList_store_row rfl _ _ _ rfl w.heap.size #[.int .i64 0, .bool false, .int .i64 0, .int .i64 0, .int .i64 0, .int .i64 0] rfl rfl 23 _ S.hg (by kernel_rfl) rfl (ins_one _ _ _ _ _ _) ?_; replace S := S.set #[.int .i64 0, .bool false, .int .i64 0, .int .i64 0, .int .i64 0, .int .i64 0]; obtain ⟨x0, x1, x2, x3, x4, x5⟩ := cells6 S.hg))
  exact bodyPost_ret (v := .tuple #[.agg #[.int .i64 0, .bool false, .int .i64 0, .int .i64 0, .int .i64 0, .int .i64 0], .int .i64 0, .int .i64 12]) (by simp [results, Tryd.results15, go_sem, x0, x1, x2, x3, x4, x5]) rfl ⟨rfl, S.hb⟩

set_option maxHeartbeats 4000000 in
set_option maxRecDepth 100000 in
theorem rdec_two_nz (k o n cap : Nat) (c0 c1 c2 c3 c4 c5 c6 c7 : UInt8) (off imm : Int) (w : World) (h : Eight w k o c0 c1 c2 c3 c4 c5 c6 c7) (hn : 8 ≤ n)
    (ho : sx 16 ((c2.toNat : Int) * 1 + (c3.toNat : Int) * 256) = off) (hi : sx 32 ((c4.toNat : Int) * 1 + (c5.toNat : Int) * 256 + (c6.toNat : Int) * 65536 + (c7.toNat : Int) * 16777216) = imm)
    (op : Int) (r ok : Bool) (hid : idF (c0.toNat : Int) ((c1.toNat : Int) / 16) off imm 86 0 = (op, r, ok)) (hok : ok = true) (f : Int) (hf : frm (ix op) = f) (hs : slo f = 2) (g1 : (c1.toNat : Int) % 16 ≤ 10) (g2 : (c1.toNat : Int) / 16 ≤ 10) (sr' of' im' : Int) (e1 : sr (ix op) = sr') (e2 : of (ix op) = of') (e3 : im (ix op) = im') (bs : 0 ≤ sr' ∧ sr' ≤ 10) (bo : -32768 ≤ of' ∧ of' ≤ 32767) (bi : -2147483648 ≤ im' ∧ im' ≤ 2147483647) (bo' : -32768 ≤ off ∧ off ≤ 32767) (bi' : -2147483648 ≤ imm ∧ imm ≤ 2147483647) (S' O' V' : Int) (q1 : (c1.toNat : Int) / 16 - sr' = S') (q2 : off - of' = O') (q3 : imm - im' = V') (h16 : 16 ≤ n) (c8 c9 c10 c11 c12 c13 c14 c15 : UInt8) (h8' : ∀ W : World, Below w.heap.size w W → W.cell? ⟨k, o + 8, none⟩ = some (.int .u8 (c8.toNat : Int)) ∧ W.cell? ⟨k, o + 9, none⟩ = some (.int .u8 (c9.toNat : Int)) ∧ W.cell? ⟨k, o + 10, none⟩ = some (.int .u8 (c10.toNat : Int)) ∧ W.cell? ⟨k, o + 11, none⟩ = some (.int .u8 (c11.toNat : Int)) ∧ W.cell? ⟨k, o + 12, none⟩ = some (.int .u8 (c12.toNat : Int)) ∧ W.cell? ⟨k, o + 13, none⟩ = some (.int .u8 (c13.toNat : Int)) ∧ W.cell? ⟨k, o + 14, none⟩ = some (.int .u8 (c14.toNat : Int)) ∧ W.cell? ⟨k, o + 15, none⟩ = some (.int .u8 (c15.toNat : Int))) (s8 s12 : Int) (hs8 : (c8.toNat : Int) * 1 + (c9.toNat : Int) * 256 + (c10.toNat : Int) * 65536 + (c11.toNat : Int) * 16777216 = s8) (hs12 : (c12.toNat : Int) * 1 + (c13.toNat : Int) * 256 + (c14.toNat : Int) * 65536 + (c15.toNat : Int) * 16777216 = s12) (h0 : (s8 != 0) = true) :
    Calls Tryd.prog 15 #[.slice (some ⟨k, o, none⟩) n cap] w fun e w' => e = .returned (.tuple #[.agg #[.int .i64 0, .bool false, .int .i64 0, .int .i64 0, .int .i64 0, .int .i64 0], .int .i64 0, .int .i64 12]) ∧ Below w.heap.size w w' := by
  have HT := Lib.hid (fun (W : World) => rslots_at op f 2 W hf hs)
  have HFX := Lib.hid (fun (W : World) => rfixed_at op sr' of' im' W e1 e2 e3)
  clear e1 e2 e3
  have HG8 := Lib.hid (fun (W : World) (hb : Below w.heap.size w W) => rget_8 k o n cap c8 c9 c10 c11 s8 W (by omega) (h8' W hb).1 (h8' W hb).2.1 (h8' W hb).2.2.1 (h8' W hb).2.2.2.1 hs8)
  have HG12 := Lib.hid (fun (W : World) (hb : Below w.heap.size w W) => rget_12 k o n cap c12 c13 c14 c15 s12 W (by omega) (h8' W hb).2.2.2.2.1 (h8' W hb).2.2.2.2.2.1 (h8' W hb).2.2.2.2.2.2.1 (h8' W hb).2.2.2.2.2.2.2 hs12)
  have n16 : ¬ (n : Int) < 16 := by omega
  clear h8' hs8 hs12
  clear hf hs
  have S := TwoS.start w
  have h8 := h.below S.hb
  have d0 := h8.a0
  have d1 := h8.a1
  obtain ⟨s2, hs2⟩ : ∃ s2, (c2.toNat : Int) * 1 + (c3.toNat : Int) * 256 = s2 := ⟨_, rfl⟩
  obtain ⟨s4, hs4⟩ : ∃ s4, (c4.toNat : Int) * 1 + (c5.toNat : Int) * 256 + (c6.toNat : Int) * 65536 + (c7.toNat : Int) * 16777216 = s4 := ⟨_, rfl⟩
  have HG2 := Lib.hid (fun (W : World) (hb : Below w.heap.size w W) => rget_2 k o n cap c2 c3 s2 W (by omega) (h.below hb).a2 (h.below hb).a3 hs2)
  have HG4 := Lib.hid (fun (W : World) (hb : Below w.heap.size w W) => rget_4 k o n cap c4 c5 c6 c7 s4 W (by omega) (h.below hb).a4 (h.below hb).a5 (h.below hb).a6 (h.below hb).a7 hs4)
  have HX2 := Lib.hid (fun (W : World) => rext_is s2 16 off W (hs2 ▸ (sum2 c2 c3).1) (hs2 ▸ (sum2 c2 c3).2) (by decide) (hs2 ▸ ho))
  have HX4 := Lib.hid (fun (W : World) => rext_is s4 32 imm W (hs4 ▸ (sum4 c4 c5 c6 c7).1) (hs4 ▸ (sum4 c4 c5 c6 c7).2) (by decide) (hs4 ▸ hi))
  have HD := Lib.hid (fun (W : World) => rident_at (c0.toNat : Int) ((c1.toNat : Int) / 16) off imm op r ok W hid)
  have n8 : ¬ (n : Int) < 8 := by omega
  have n0 : 0 < n := by omega
  have n1 : 1 < n := by omega
  have n0' : (0 : Int) < (n : Int) := by omega
  have n1' : (1 : Int) < (n : Int) := by omega
  have b1 := c1.toNat_lt
  clear h16 h ho hi hid hn h8 hs2 hs4
  go_enter Tryd.func15, Tryd.ntmps15
  obtain ⟨y0, y1, y2, y3, y4, y5⟩ := cells6 S.hz
  go_wp2_with (first | (go_at_call 44; ((with_reducible refine (HG2.out _ S.hb).mono ?_); rintro e w1 ⟨rfl, rfl⟩)) | (go_at_call 44; ((with_reducible refine (HG4.out _ S.hb).mono ?_); rintro e w1 ⟨rfl, rfl⟩)) | (go_at_call 34; ((with_reducible refine (HX2.out _).mono ?_); rintro e w1 ⟨rfl, rfl⟩)) | (go_at_call 34; ((with_reducible refine (HX4.out _).mono ?_); rintro e w1 ⟨rfl, rfl⟩)) | (go_at_call 45; ((with_reducible refine (HD.out _).mono ?_); rintro e w2 ⟨rfl, b2⟩; replace S := S.below b2; clear y0 y1 y2 y3 y4 y5; obtain ⟨y0, y1, y2, y3, y4, y5⟩ := cells6 S.hz)) | (go_at_call 38; ((with_reducible refine (HT.out _).mono ?_); rintro e w3 ⟨rfl, rfl⟩)) | (go_at_call 36; ((with_reducible refine (HFX.out _).mono ?_); rintro e w4 ⟨rfl, b4⟩; replace S := S.below b4; clear y0 y1 y2 y3 y4 y5; obtain ⟨y0, y1, y2, y3, y4, y5⟩ := cells6 S.hz)) | (go_at_call 44; ((with_reducible refine (HG8.out _ (S.below (bnew w4 (.cells #[.int .i64 op, .bool r, .int .i64 ((c1.toNat : Int) % 16), .int .i64 S', .int .i64 O', .int .i64 V'] 23))).hb).mono ?_); rintro e w6 ⟨rfl, hw6⟩; have hgx := S.size; replace S := S.below (bnew w4 (.cells #[.int .i64 op, .bool r, .int .i64 ((c1.toNat : Int) % 16), .int .i64 S', .int .i64 O', .int .i64 V'] 23)); have hx := heap_alloc_last w4 (.cells #[.int .i64 op, .bool r, .int .i64 ((c1.toNat : Int) % 16), .int .i64 S', .int .i64 O', .int .i64 V'] 23); rw [hw6] at S hx; clear hw6; obtain ⟨gx, hg'⟩ : ∃ gx, gx = w4.heap.size := ⟨_, rfl⟩; rw [← hg'] at hx hgx ⊢; clear hg' y0 y1 y2 y3 y4 y5; obtain ⟨y0, y1, y2, y3, y4, y5⟩ := cells6 S.hz; obtain ⟨z0, z1, z2, z3, z4, z5⟩ := cells6 hx)) | (refine wpList_store_row rfl _ _ _ rfl w.heap.size #[.int .i64 0, .bool false, .int .i64 0, .int .i64 0, .int .i64 0, .int .i64 0] rfl rfl 23 _ S.hg (by kernel_rfl) rfl (ins_one _ _ _ _ _ _) ?_; replace S := S.set #[.int .i64 0, .bool false, .int .i64 0, .int .i64 0, .int .i64 0, .int .i64 0]; obtain ⟨x0, x1, x2, x3, x4, x5⟩ := cells6 S.hg))
  exact bodyPost_ret (v := .tuple #[.agg #[.int .i64 0, .bool false, .int .i64 0, .int .i64 0, .int .i64 0, .int .i64 0], .int .i64 0, .int .i64 12]) (by simp [results, Tryd.results15, go_sem, x0, x1, x2, x3, x4, x5]) rfl ⟨rfl, S.hb⟩

set_option maxHeartbeats 4000000 in
set_option maxRecDepth 100000 in
theorem rdec_two (k o n cap : Nat) (c0 c1 c2 c3 c4 c5 c6 c7 : UInt8) (off imm : Int) (w : World) (h : Eight w k o c0 c1 c2 c3 c4 c5 c6 c7) (hn : 8 ≤ n)
    (ho : sx 16 ((c2.toNat : Int) * 1 + (c3.toNat : Int) * 256) = off) (hi : sx 32 ((c4.toNat : Int) * 1 + (c5.toNat : Int) * 256 + (c6.toNat : Int) * 65536 + (c7.toNat : Int) * 16777216) = imm)
    (op : Int) (r ok : Bool) (hid : idF (c0.toNat : Int) ((c1.toNat : Int) / 16) off imm 86 0 = (op, r, ok)) (hok : ok = true) (f : Int) (hf : frm (ix op) = f) (hs : slo f = 2) (g1 : (c1.toNat : Int) % 16 ≤ 10) (g2 : (c1.toNat : Int) / 16 ≤ 10) (sr' of' im' : Int) (e1 : sr (ix op) = sr') (e2 : of (ix op) = of') (e3 : im (ix op) = im') (bs : 0 ≤ sr' ∧ sr' ≤ 10) (bo : -32768 ≤ of' ∧ of' ≤ 32767) (bi : -2147483648 ≤ im' ∧ im' ≤ 2147483647) (bo' : -32768 ≤ off ∧ off ≤ 32767) (bi' : -2147483648 ≤ imm ∧ imm ≤ 2147483647) (S' O' V' : Int) (q1 : (c1.toNat : Int) / 16 - sr' = S') (q2 : off - of' = O') (q3 : imm - im' = V') (h16 : 16 ≤ n) (c8 c9 c10 c11 c12 c13 c14 c15 : UInt8) (h8' : ∀ W : World, Below w.heap.size w W → W.cell? ⟨k, o + 8, none⟩ = some (.int .u8 (c8.toNat : Int)) ∧ W.cell? ⟨k, o + 9, none⟩ = some (.int .u8 (c9.toNat : Int)) ∧ W.cell? ⟨k, o + 10, none⟩ = some (.int .u8 (c10.toNat : Int)) ∧ W.cell? ⟨k, o + 11, none⟩ = some (.int .u8 (c11.toNat : Int)) ∧ W.cell? ⟨k, o + 12, none⟩ = some (.int .u8 (c12.toNat : Int)) ∧ W.cell? ⟨k, o + 13, none⟩ = some (.int .u8 (c13.toNat : Int)) ∧ W.cell? ⟨k, o + 14, none⟩ = some (.int .u8 (c14.toNat : Int)) ∧ W.cell? ⟨k, o + 15, none⟩ = some (.int .u8 (c15.toNat : Int))) (s12 : Int) (hs8 : (c8.toNat : Int) * 1 + (c9.toNat : Int) * 256 + (c10.toNat : Int) * 65536 + (c11.toNat : Int) * 16777216 = 0) (hs12 : (c12.toNat : Int) * 1 + (c13.toNat : Int) * 256 + (c14.toNat : Int) * 65536 + (c15.toNat : Int) * 16777216 = s12) (V2 : Int) (hV : wrap64 (IntKind.u64.wrap (IntKind.u64.wrap (s12 * 4294967296) + ((c4.toNat : Int) * 1 + (c5.toNat : Int) * 256 + (c6.toNat : Int) * 65536 + (c7.toNat : Int) * 16777216))) = V2) (hR : (Ix.mk op r ((c1.toNat : Int) % 16) S' O' V2).err = 0) (hfit : (Ix.mk op r ((c1.toNat : Int) % 16) S' O' V2).fits) :
    Calls Tryd.prog 15 #[.slice (some ⟨k, o, none⟩) n cap] w fun e w' => e = .returned (.tuple #[.agg #[.int .i64 op, .bool r, .int .i64 ((c1.toNat : Int) % 16), .int .i64 S', .int .i64 O', .int .i64 V2], .int .i64 2, .int .i64 0]) ∧ Below w.heap.size w w' := by
  have HT := Lib.hid (fun (W : World) => rslots_at op f 2 W hf hs)
  have HFX := Lib.hid (fun (W : World) => rfixed_at op sr' of' im' W e1 e2 e3)
  clear e1 e2 e3
  have HG8 := Lib.hid (fun (W : World) (hb : Below w.heap.size w W) => rget_8 k o n cap c8 c9 c10 c11 0 W (by omega) (h8' W hb).1 (h8' W hb).2.1 (h8' W hb).2.2.1 (h8' W hb).2.2.2.1 hs8)
  have HG12 := Lib.hid (fun (W : World) (hb : Below w.heap.size w W) => rget_12 k o n cap c12 c13 c14 c15 s12 W (by omega) (h8' W hb).2.2.2.2.1 (h8' W hb).2.2.2.2.2.1 (h8' W hb).2.2.2.2.2.2.1 (h8' W hb).2.2.2.2.2.2.2 hs12)
  have n16 : ¬ (n : Int) < 16 := by omega
  clear h8' hs8 hs12
  have HC := Lib.hid (fun W => rchk_is (Ix.mk op r ((c1.toNat : Int) % 16) S' O' V2) 0 W hfit hR)
  clear hR hfit
  clear hf hs
  have S := TwoS.start w
  have h8 := h.below S.hb
  have d0 := h8.a0
  have d1 := h8.a1
  obtain ⟨s2, hs2⟩ : ∃ s2, (c2.toNat : Int) * 1 + (c3.toNat : Int) * 256 = s2 := ⟨_, rfl⟩
  obtain ⟨s4, hs4⟩ : ∃ s4, (c4.toNat : Int) * 1 + (c5.toNat : Int) * 256 + (c6.toNat : Int) * 65536 + (c7.toNat : Int) * 16777216 = s4 := ⟨_, rfl⟩
  have HG2 := Lib.hid (fun (W : World) (hb : Below w.heap.size w W) => rget_2 k o n cap c2 c3 s2 W (by omega) (h.below hb).a2 (h.below hb).a3 hs2)
  have HG4 := Lib.hid (fun (W : World) (hb : Below w.heap.size w W) => rget_4 k o n cap c4 c5 c6 c7 s4 W (by omega) (h.below hb).a4 (h.below hb).a5 (h.below hb).a6 (h.below hb).a7 hs4)
  have HX2 := Lib.hid (fun (W : World) => rext_is s2 16 off W (hs2 ▸ (sum2 c2 c3).1) (hs2 ▸ (sum2 c2 c3).2) (by decide) (hs2 ▸ ho))
  have HX4 := Lib.hid (fun (W : World) => rext_is s4 32 imm W (hs4 ▸ (sum4 c4 c5 c6 c7).1) (hs4 ▸ (sum4 c4 c5 c6 c7).2) (by decide) (hs4 ▸ hi))
  have HD := Lib.hid (fun (W : World) => rident_at (c0.toNat : Int) ((c1.toNat : Int) / 16) off imm op r ok W hid)
  have n8 : ¬ (n : Int) < 8 := by omega
  have n0 : 0 < n := by omega
  have n1 : 1 < n := by omega
  have n0' : (0 : Int) < (n : Int) := by omega
  have n1' : (1 : Int) < (n : Int) := by omega
  have b1 := c1.toNat_lt
  rw [hs4] at hV
  clear h16 h ho hi hid hn h8 hs2 hs4
  go_enter Tryd.func15, Tryd.ntmps15
  obtain ⟨y0, y1, y2, y3, y4, y5⟩ := cells6 S.hz
  go_upto_region 22 with (first | (go_at_call 44; ((with_reducible refine (HG2.out _ S.hb).mono ?_); rintro e w1 ⟨rfl, rfl⟩)) | (go_at_call 44; ((with_reducible refine (HG4.out _ S.hb).mono ?_); rintro e w1 ⟨rfl, rfl⟩)) | (go_at_call 34; ((with_reducible refine (HX2.out _).mono ?_); rintro e w1 ⟨rfl, rfl⟩)) | (go_at_call 34; ((with_reducible refine (HX4.out _).mono ?_); rintro e w1 ⟨rfl, rfl⟩)) | (go_at_call 45; ((with_reducible refine (HD.out _).mono ?_); rintro e w2 ⟨rfl, b2⟩; replace S := S.below b2; clear y0 y1 y2 y3 y4 y5; obtain ⟨y0, y1, y2, y3, y4, y5⟩ := cells6 S.hz)) | (go_at_call 38; ((with_reducible refine (HT.out _).mono ?_); rintro e w3 ⟨rfl, rfl⟩)) | (go_at_call 36; ((with_reducible refine (HFX.out _).mono ?_); rintro e w4 ⟨rfl, b4⟩; replace S := S.below b4; clear y0 y1 y2 y3 y4 y5; obtain ⟨y0, y1, y2, y3, y4, y5⟩ := cells6 S.hz)) | (go_at_call 44; ((with_reducible refine (HG8.out _ (S.below (bnew w4 (.cells #[.int .i64 op, .bool r, .int .i64 ((c1.toNat : Int) % 16), .int .i64 S', .int .i64 O', .int .i64 V'] 23))).hb).mono ?_); rintro e w6 ⟨rfl, hw6⟩; have hgx := S.size; replace S := S.below (bnew w4 (.cells #[.int .i64 op, .bool r, .int .i64 ((c1.toNat : Int) % 16), .int .i64 S', .int .i64 O', .int .i64 V'] 23)); have hx := heap_alloc_last w4 (.cells #[.int .i64 op, .bool r, .int .i64 ((c1.toNat : Int) % 16), .int .i64 S', .int .i64 O', .int .i64 V'] 23); rw [hw6] at S hx; clear hw6; obtain ⟨gx, hg'⟩ : ∃ gx, gx = w4.heap.size := ⟨_, rfl⟩; rw [← hg'] at hx hgx ⊢; clear hg' y0 y1 y2 y3 y4 y5; obtain ⟨y0, y1, y2, y3, y4, y5⟩ := cells6 S.hz; obtain ⟨z0, z1, z2, z3, z4, z5⟩ := cells6 hx; have f5 := frozen_all hx 5)) | (go_at_call 44; ((with_reducible refine (HG12.out _ S.hb).mono ?_); rintro e w1 ⟨rfl, rfl⟩)))
  rw [hV]
  replace S := S.setc gx 5 (.int .i64 V2) hgx
  replace hx := cells_set (k := 5) (v := .int .i64 V2) hx
  clear z0 z1 z2 z3 z4 z5 f5 y0 y1 y2 y3 y4 y5 d0 d1
  generalize w6.setCell _ _ = W4 at S hx ⊢
  replace hx : W4.heap[gx]? = some (.cells #[.int .i64 op, .bool r, .int .i64 ((c1.toNat : Int) % 16), .int .i64 S', .int .i64 O', .int .i64 V2] 23) := hx
  obtain ⟨z0, z1, z2, z3, z4, z5⟩ := cells6 hx
  obtain ⟨y0, y1, y2, y3, y4, y5⟩ := cells6 S.hz
  go_wp2_with (first | (go_at_call 10; ((with_reducible refine (HC.out _).mono ?_); rintro e w5 ⟨rfl, b5⟩; replace hx := row_up hx b5; replace S := S.below b5; clear y0 y1 y2 y3 y4 y5 z0 z1 z2 z3 z4 z5; obtain ⟨y0, y1, y2, y3, y4, y5⟩ := cells6 S.hz; obtain ⟨z0, z1, z2, z3, z4, z5⟩ := cells6 hx)) | (refine wpList_store_row rfl _ _ _ rfl w.heap.size #[.int .i64 op, .bool r, .int .i64 ((c1.toNat : Int) % 16), .int .i64 S', .int .i64 O', .int .i64 V2] rfl rfl 23 _ S.hg (by kernel_rfl) rfl (ins_one _ _ _ _ _ _) ?_; replace S := S.set #[.int .i64 op, .bool r, .int .i64 ((c1.toNat : Int) % 16), .int .i64 S', .int .i64 O', .int .i64 V2]; obtain ⟨x0, x1, x2, x3, x4, x5⟩ := cells6 S.hg))
  exact bodyPost_ret (v := .tuple #[.agg #[.int .i64 op, .bool r, .int .i64 ((c1.toNat : Int) % 16), .int .i64 S', .int .i64 O', .int .i64 V2], .int .i64 2, .int .i64 0]) (by simp [results, Tryd.results15, go_sem, x0, x1, x2, x3, x4, x5]) rfl ⟨rfl, S.hb⟩

set_option maxHeartbeats 4000000 in
set_option maxRecDepth 100000 in
theorem rdec_two_bad (k o n cap : Nat) (c0 c1 c2 c3 c4 c5 c6 c7 : UInt8) (off imm : Int) (w : World) (h : Eight w k o c0 c1 c2 c3 c4 c5 c6 c7) (hn : 8 ≤ n)
    (ho : sx 16 ((c2.toNat : Int) * 1 + (c3.toNat : Int) * 256) = off) (hi : sx 32 ((c4.toNat : Int) * 1 + (c5.toNat : Int) * 256 + (c6.toNat : Int) * 65536 + (c7.toNat : Int) * 16777216) = imm)
    (op : Int) (r ok : Bool) (hid : idF (c0.toNat : Int) ((c1.toNat : Int) / 16) off imm 86 0 = (op, r, ok)) (hok : ok = true) (f : Int) (hf : frm (ix op) = f) (hs : slo f = 2) (g1 : (c1.toNat : Int) % 16 ≤ 10) (g2 : (c1.toNat : Int) / 16 ≤ 10) (sr' of' im' : Int) (e1 : sr (ix op) = sr') (e2 : of (ix op) = of') (e3 : im (ix op) = im') (bs : 0 ≤ sr' ∧ sr' ≤ 10) (bo : -32768 ≤ of' ∧ of' ≤ 32767) (bi : -2147483648 ≤ im' ∧ im' ≤ 2147483647) (bo' : -32768 ≤ off ∧ off ≤ 32767) (bi' : -2147483648 ≤ imm ∧ imm ≤ 2147483647) (S' O' V' : Int) (q1 : (c1.toNat : Int) / 16 - sr' = S') (q2 : off - of' = O') (q3 : imm - im' = V') (h16 : 16 ≤ n) (c8 c9 c10 c11 c12 c13 c14 c15 : UInt8) (h8' : ∀ W : World, Below w.heap.size w W → W.cell? ⟨k, o + 8, none⟩ = some (.int .u8 (c8.toNat : Int)) ∧ W.cell? ⟨k, o + 9, none⟩ = some (.int .u8 (c9.toNat : Int)) ∧ W.cell? ⟨k, o + 10, none⟩ = some (.int .u8 (c10.toNat : Int)) ∧ W.cell? ⟨k, o + 11, none⟩ = some (.int .u8 (c11.toNat : Int)) ∧ W.cell? ⟨k, o + 12, none⟩ = some (.int .u8 (c12.toNat : Int)) ∧ W.cell? ⟨k, o + 13, none⟩ = some (.int .u8 (c13.toNat : Int)) ∧ W.cell? ⟨k, o + 14, none⟩ = some (.int .u8 (c14.toNat : Int)) ∧ W.cell? ⟨k, o + 15, none⟩ = some (.int .u8 (c15.toNat : Int))) (s12 : Int) (hs8 : (c8.toNat : Int) * 1 + (c9.toNat : Int) * 256 + (c10.toNat : Int) * 65536 + (c11.toNat : Int) * 16777216 = 0) (hs12 : (c12.toNat : Int) * 1 + (c13.toNat : Int) * 256 + (c14.toNat : Int) * 65536 + (c15.toNat : Int) * 16777216 = s12) (V2 : Int) (hV : wrap64 (IntKind.u64.wrap (IntKind.u64.wrap (s12 * 4294967296) + ((c4.toNat : Int) * 1 + (c5.toNat : Int) * 256 + (c6.toNat : Int) * 65536 + (c7.toNat : Int) * 16777216))) = V2) (R : Int) (hR : (Ix.mk op r ((c1.toNat : Int) % 16) S' O' V2).err = R) (hfit : (Ix.mk op r ((c1.toNat : Int) % 16) S' O' V2).fits) (h0 : (R != 0) = true) :
    Calls Tryd.prog 15 #[.slice (some ⟨k, o, none⟩) n cap] w fun e w' => e = .returned (.tuple #[.agg #[.int .i64 0, .bool false, .int .i64 0, .int .i64 0, .int .i64 0, .int .i64 0], .int .i64 0, .int .i64 12]) ∧ Below w.heap.size w w' := by
  have HT := Lib.hid (fun (W : World) => rslots_at op f 2 W hf hs)
  have HFX := Lib.hid (fun (W : World) => rfixed_at op sr' of' im' W e1 e2 e3)
  clear e1 e2 e3
  have HG8 := Lib.hid (fun (W : World) (hb : Below w.heap.size w W) => rget_8 k o n cap c8 c9 c10 c11 0 W (by omega) (h8' W hb).1 (h8' W hb).2.1 (h8' W hb).2.2.1 (h8' W hb).2.2.2.1 hs8)
  have HG12 := Lib.hid (fun (W : World) (hb : Below w.heap.size w W) => rget_12 k o n cap c12 c13 c14 c15 s12 W (by omega) (h8' W hb).2.2.2.2.1 (h8' W hb).2.2.2.2.2.1 (h8' W hb).2.2.2.2.2.2.1 (h8' W hb).2.2.2.2.2.2.2 hs12)
  have n16 : ¬ (n : Int) < 16 := by omega
  clear h8' hs8 hs12
  have HC := Lib.hid (fun W => rchk_is (Ix.mk op r ((c1.toNat : Int) % 16) S' O' V2) R W hfit hR)
  clear hR hfit
  clear hf hs
  have S := TwoS.start w
  have h8 := h.below S.hb
  have d0 := h8.a0
  have d1 := h8.a1
  obtain ⟨s2, hs2⟩ : ∃ s2, (c2.toNat : Int) * 1 + (c3.toNat : Int) * 256 = s2 := ⟨_, rfl⟩
  obtain ⟨s4, hs4⟩ : ∃ s4, (c4.toNat : Int) * 1 + (c5.toNat : Int) * 256 + (c6.toNat : Int) * 65536 + (c7.toNat : Int) * 16777216 = s4 := ⟨_, rfl⟩
  have HG2 := Lib.hid (fun (W : World) (hb : Below w.heap.size w W) => rget_2 k o n cap c2 c3 s2 W (by omega) (h.below hb).a2 (h.below hb).a3 hs2)
  have HG4 := Lib.hid (fun (W : World) (hb : Below w.heap.size w W) => rget_4 k o n cap c4 c5 c6 c7 s4 W (by omega) (h.below hb).a4 (h.below hb).a5 (h.below hb).a6 (h.below hb).a7 hs4)
  have HX2 := Lib.hid (fun (W : World) => rext_is s2 16 off W (hs2 ▸ (sum2 c2 c3).1) (hs2 ▸ (sum2 c2 c3).2) (by decide) (hs2 ▸ ho))
  have HX4 := Lib.hid (fun (W : World) => rext_is s4 32 imm W (hs4 ▸ (sum4 c4 c5 c6 c7).1) (hs4 ▸ (sum4 c4 c5 c6 c7).2) (by decide) (hs4 ▸ hi))
  have HD := Lib.hid (fun (W : World) => rident_at (c0.toNat : Int) ((c1.toNat : Int) / 16) off imm op r ok W hid)
  have n8 : ¬ (n : Int) < 8 := by omega
  have n0 : 0 < n := by omega
  have n1 : 1 < n := by omega
  have n0' : (0 : Int) < (n : Int) := by omega
  have n1' : (1 : Int) < (n : Int) := by omega
  have b1 := c1.toNat_lt
  rw [hs4] at hV
  clear h16 h ho hi hid hn h8 hs2 hs4
  go_enter Tryd.func15, Tryd.ntmps15
  obtain ⟨y0, y1, y2, y3, y4, y5⟩ := cells6 S.hz
  go_upto_region 22 with (first | (go_at_call 44; ((with_reducible refine (HG2.out _ S.hb).mono ?_); rintro e w1 ⟨rfl, rfl⟩)) | (go_at_call 44; ((with_reducible refine (HG4.out _ S.hb).mono ?_); rintro e w1 ⟨rfl, rfl⟩)) | (go_at_call 34; ((with_reducible refine (HX2.out _).mono ?_); rintro e w1 ⟨rfl, rfl⟩)) | (go_at_call 34; ((with_reducible refine (HX4.out _).mono ?_); rintro e w1 ⟨rfl, rfl⟩)) | (go_at_call 45; ((with_reducible refine (HD.out _).mono ?_); rintro e w2 ⟨rfl, b2⟩; replace S := S.below b2; clear y0 y1 y2 y3 y4 y5; obtain ⟨y0, y1, y2, y3, y4, y5⟩ := cells6 S.hz)) | (go_at_call 38; ((with_reducible refine (HT.out _).mono ?_); rintro e w3 ⟨rfl, rfl⟩)) | (go_at_call 36; ((with_reducible refine (HFX.out _).mono ?_); rintro e w4 ⟨rfl, b4⟩; replace S := S.below b4; clear y0 y1 y2 y3 y4 y5; obtain ⟨y0, y1, y2, y3, y4, y5⟩ := cells6 S.hz)) | (go_at_call 44; ((with_reducible refine (HG8.out _ (S.below (bnew w4 (.cells #[.int .i64 op, .bool r, .int .i64 ((c1.toNat : Int) % 16), .int .i64 S', .int .i64 O', .int .i64 V'] 23))).hb).mono ?_); rintro e w6 ⟨rfl, hw6⟩; have hgx := S.size; replace S := S.below (bnew w4 (.cells #[.int .i64 op, .bool r, .int .i64 ((c1.toNat : Int) % 16), .int .i64 S', .int .i64 O', .int .i64 V'] 23)); have hx := heap_alloc_last w4 (.cells #[.int .i64 op, .bool r, .int .i64 ((c1.toNat : Int) % 16), .int .i64 S', .int .i64 O', .int .i64 V'] 23); rw [hw6] at S hx; clear hw6; obtain ⟨gx, hg'⟩ : ∃ gx, gx = w4.heap.size := ⟨_, rfl⟩; rw [← hg'] at hx hgx ⊢; clear hg' y0 y1 y2 y3 y4 y5; obtain ⟨y0, y1, y2, y3, y4, y5⟩ := cells6 S.hz; obtain ⟨z0, z1, z2, z3, z4, z5⟩ := cells6 hx; have f5 := frozen_all hx 5)) | (go_at_call 44; ((with_reducible refine (HG12.out _ S.hb).mono ?_); rintro e w1 ⟨rfl, rfl⟩)))
  rw [hV]
  replace S := S.setc gx 5 (.int .i64 V2) hgx
  replace hx := cells_set (k := 5) (v := .int .i64 V2) hx
  clear z0 z1 z2 z3 z4 z5 f5 y0 y1 y2 y3 y4 y5 d0 d1
  generalize w6.setCell _ _ = W4 at S hx ⊢
  replace hx : W4.heap[gx]? = some (.cells #[.int .i64 op, .bool r, .int .i64 ((c1.toNat : Int) % 16), .int .i64 S', .int .i64 O', .int .i64 V2] 23) := hx
  obtain ⟨z0, z1, z2, z3, z4, z5⟩ := cells6 hx
  obtain ⟨y0, y1, y2, y3, y4, y5⟩ := cells6 S.hz
  go_wp2_with (first | (go_at_call 10; ((with_reducible refine (HC.out _).mono ?_); rintro e w5 ⟨rfl, b5⟩; replace hx := row_up hx b5; replace S := S.below b5; clear y0 y1 y2 y3 y4 y5 z0 z1 z2 z3 z4 z5; obtain ⟨y0, y1, y2, y3, y4, y5⟩ := cells6 S.hz; obtain ⟨z0, z1, z2, z3, z4, z5⟩ := cells6 hx)) | (refine wpList_store_row rfl _ _ _ rfl w.heap.size #[.int .i64 0, .bool false, .int .i64 0, .int .i64 0, .int .i64 0, .int .i64 0] rfl rfl 23 _ S.hg (by kernel_rfl) rfl (ins_one _ _ _ _ _ _) ?_; replace S := S.set #[.int .i64 0, .bool false, .int .i64 0, .int .i64 0, .int .i64 0, .int .i64 0]; obtain ⟨x0, x1, x2, x3, x4, x5⟩ := cells6 S.hg))
  exact bodyPost_ret (v := .tuple #[.agg #[.int .i64 0, .bool false, .int .i64 0, .int .i64 0, .int .i64 0, .int .i64 0], .int .i64 0, .int .i64 12]) (by simp [results, Tryd.results15, go_sem, x0, x1, x2, x3, x4, x5]) rfl ⟨rfl, S.hb⟩
end Go.Proofs.YthebdblncafijaaDoor
