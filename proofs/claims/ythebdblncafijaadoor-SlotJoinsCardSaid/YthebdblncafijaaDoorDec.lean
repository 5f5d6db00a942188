/- What Decode returns, way by way. Condition: the table of widths reads as laid, and the bytes are known. -/
import Derived.Test.YthebdblncafijaaDoorPre
import Derived.Deep.RegionHeld3
namespace Go.Proofs.YthebdblncafijaaDoor
open Go.RowKit L3 L1 L4

theorem ident_is (code src off imm n : Int) (r ok : Bool) (w : World) (h : idF code src off imm 86 0 = (n, r, ok)) : Calls Tryd.prog 40 #[.int .u8 code, .int .i64 src, .int .i64 off, .int .i64 imm] w fun e w' =>
    e = .returned (.tuple #[.int .i64 n, .bool r, .bool ok]) ∧ Below w.heap.size w w' := by
  have := ident_any code src off imm w
  rw [h] at this
  exact this

/-- A stage of Decode: the result's block, and what the eight bytes are. -/
structure DecS (w W : World) (g : Nat) (X : Array Value) : Prop where
  hb : Below w.heap.size w W
  hg : W.heap[g]? = some (.cells X 23)
  le : w.heap.size ≤ g
theorem DecS.below {w W W' : World} {g : Nat} {X : Array Value} (h : DecS w W g X) (hb : Below W.heap.size W W') : DecS w W' g X :=
  ⟨bch h.hb hb, (hb.block _ (lt_of_block h.hg)).trans h.hg, h.le⟩
theorem DecS.set {w W : World} {g : Nat} {X : Array Value} (h : DecS w W g X) (cs : Array Value) : DecS w (W.setRow g cs) g cs :=
  ⟨below_setRow h.hb h.le cs, setRow_heap W g _ cs _ _ h.hg, h.le⟩
theorem DecS.setc {w W : World} {g : Nat} {X : Array Value} (h : DecS w W g X) (i : Nat) (v : Value) : DecS w (W.setCell ⟨g, i, none⟩ v) g (X.setIfInBounds i v) :=
  ⟨h.hb.setCell h.le v, cells_set h.hg, h.le⟩
theorem DecS.start (w : World) (X : Array Value) : DecS w (w.alloc (.cells X 23)) w.heap.size X := ⟨bnew w _, heap_alloc_last w _, Nat.le_refl _⟩

/-- What a region of Decode keeps. -/
def DecK (w : World) (g g5 : Nat) (X X5 : Array Value) (W : World) : Prop := DecS w W g X ∧ W.heap[g5]? = some (.cells X5 23)
theorem DecK.below {w W W' : World} {g g5 : Nat} {X X5 : Array Value} (h : DecK w g g5 X X5 W) (hb : Below W.heap.size W W') : DecK w g g5 X X5 W' :=
  ⟨h.1.below hb, (hb.block _ (lt_of_block h.2)).trans h.2⟩
theorem keepI {w W W' : World} {g g5 k o : Nat} {X : Array Value} {op dst src off imm : Int} {reg : Bool} {c0 : Value} (hb : Below W.heap.size W W') (h : DecK w g g5 X (insA op reg dst src off imm) W) (hc : W.cell? ⟨k, o, none⟩ = some c0) :
    DecK w g g5 X (insA op reg dst src off imm) W' ∧ W'.cell? ⟨k, o, none⟩ = some c0 ∧ W'.cell? ⟨g5, 3, none⟩ = some (.int .i64 src) ∧ W'.cell? ⟨g5, 4, none⟩ = some (.int .i64 off) ∧ W'.cell? ⟨g5, 5, none⟩ = some (.int .i64 imm) := by
  have h2 := h.below hb
  obtain ⟨-, -, -, a3, a4, a5⟩ := cells6 h2.2
  exact ⟨h2, (hb.cell (p := ⟨k, o, none⟩) (World.block_lt_of_cell? W _ hc)).trans hc, a3, a4, a5⟩
theorem keepJ {w W W' : World} {g g5 k o : Nat} {X : Array Value} {op dst src off imm : Int} {reg : Bool} {c0 : Value} (hb : Below W.heap.size W W')
    (h : DecK w g g5 X (insA op reg dst src off imm) W ∧ W.cell? ⟨k, o, none⟩ = some c0 ∧ W.cell? ⟨g5, 3, none⟩ = some (.int .i64 src) ∧ W.cell? ⟨g5, 4, none⟩ = some (.int .i64 off) ∧ W.cell? ⟨g5, 5, none⟩ = some (.int .i64 imm)) :
    DecK w g g5 X (insA op reg dst src off imm) W' ∧ W'.cell? ⟨k, o, none⟩ = some c0 ∧ W'.cell? ⟨g5, 3, none⟩ = some (.int .i64 src) ∧ W'.cell? ⟨g5, 4, none⟩ = some (.int .i64 off) ∧ W'.cell? ⟨g5, 5, none⟩ = some (.int .i64 imm) := keepI hb h.1 h.2.1

set_option maxHeartbeats 4000000 in
set_option maxRecDepth 100000 in
theorem dec_op (k o n cap : Nat) (c0 c1 c2 c3 c4 c5 c6 c7 : UInt8) (off imm : Int) (w : World) (hw : Wid w) (h : Eight w k o c0 c1 c2 c3 c4 c5 c6 c7) (hn : 8 ≤ n) (hc : n ≤ cap) (hm : cap ≤ 9223372036854775807)
    (ho : sx 16 ((c2.toNat : Int) * 1 + (c3.toNat : Int) * 256) = off) (hi : sx 32 ((c4.toNat : Int) * 1 + (c5.toNat : Int) * 256 + (c6.toNat : Int) * 65536 + (c7.toNat : Int) * 16777216) = imm)
    (op : Int) (r ok : Bool) (hid : idF (c0.toNat : Int) ((c1.toNat : Int) / 16) off imm 86 0 = (op, r, ok)) (hok : ok = false) :
    Calls Tryd.prog 14 #[.slice (some ⟨k, o, none⟩) n cap] w fun e w' => e = .returned (.tuple #[.agg #[.int .i64 0, .bool false, .int .i64 0, .int .i64 0, .int .i64 0, .int .i64 0], .int .i64 0, .int .i64 6]) ∧ Below w.heap.size w w' := by
  have HH := Lib.hid h
  have HW := Lib.hid hw
  have HF := Lib.hid (fun (W : World) (hb : Below w.heap.size w W) => fields_at k o n cap c0 c1 c2 c3 c4 c5 c6 c7 off imm W (wid_below hw hb) (h.below hb) hn hc hm ho hi)
  have HD := Lib.hid (fun (W : World) => ident_is (c0.toNat : Int) ((c1.toNat : Int) / 16) off imm op r ok W hid)
  have n8 : ¬ (n : Int) < 8 := by omega
  have n0 : 0 < n := by omega
  have b1 := c1.toNat_lt
  clear hw h ho hi hid hn hc hm
  go_enter Tryd.func14, Tryd.ntmps14
  go_upto_region 4 with (go_at_call 39; ((with_reducible refine (HF.out _ (bnew _ _)).mono ?_); rintro e w1 ⟨rfl, hb1⟩))
  have S := (DecS.start w #[.int .i64 0, .bool false, .int .i64 0, .int .i64 0, .int .i64 0, .int .i64 0]).below (bch hb1 (bnew w1 (.cells (insA 0 false ((c1.toNat : Int) % 16) ((c1.toNat : Int) / 16) off imm) 23)))
  have h5 := heap_alloc_last w1 (.cells (insA 0 false ((c1.toNat : Int) % 16) ((c1.toNat : Int) / 16) off imm) 23)
  obtain ⟨g, hg⟩ : ∃ g, g = w.heap.size := ⟨_, rfl⟩
  obtain ⟨g5, hg5⟩ : ∃ g5, g5 = w1.heap.size := ⟨_, rfl⟩
  have hs1 := hb1.size
  simp only [World.size_alloc] at hs1
  have hne : g ≠ g5 := by omega
  have hle5 : w.heap.size ≤ g5 := by omega
  rw [← hg] at S ⊢
  rw [← hg5] at h5 ⊢
  generalize w1.alloc (.cells _ 23) = W at S h5 ⊢
  clear hb1 hg hg5 hs1
  have n8' := n8
  have K : DecK w g g5 #[.int .i64 0, .bool false, .int .i64 0, .int .i64 0, .int .i64 0, .int .i64 0] (insA 0 false ((c1.toNat : Int) % 16) ((c1.toNat : Int) / 16) off imm) W := ⟨S, h5⟩
  have d0 := (HH.out.below S.hb).a0
  have HL := Lib.hid hle5
  have HN := Lib.hid hne
  clear S h5 hle5 hne
  go_region_held3 (fun w' => DecK w g g5 #[.int .i64 0, .bool false, .int .i64 0, .int .i64 0, .int .i64 0, .int .i64 0] (insA 0 false ((c1.toNat : Int) % 16) ((c1.toNat : Int) / 16) off imm) w' ∧ w'.cell? ⟨k, o, none⟩ = some (.int .u8 (c0.toNat : Int)) ∧ w'.cell? ⟨g5, 3, none⟩ = some (.int .i64 ((c1.toNat : Int) / 16)) ∧ w'.cell? ⟨g5, 4, none⟩ = some (.int .i64 off) ∧ w'.cell? ⟨g5, 5, none⟩ = some (.int .i64 imm))
    (first | exact keepI (Below.refl _ _).drew K d0 | exact keepJ hb9 (by assumption) | assumption)
    (first | (go_at_call 40; ((with_reducible refine (HD.out _).mono ?_); rintro e w9 ⟨rfl, hb9⟩)))
  all_goals
    rename_i hh
    replace K := hh.1
    clear hh d0
    have S := K.1
    go_wp2_with (first | (refine wpList_store_row rfl _ _ _ rfl g #[.int .i64 0, .bool false, .int .i64 0, .int .i64 0, .int .i64 0, .int .i64 0] rfl rfl 23 _ S.hg (by kernel_rfl) rfl (ins_one _ _ _ _ _ _) ?_; replace S := S.set #[.int .i64 0, .bool false, .int .i64 0, .int .i64 0, .int .i64 0, .int .i64 0]; obtain ⟨x0, x1, x2, x3, x4, x5⟩ := cells6 S.hg))
    exact bodyPost_ret (v := .tuple #[.agg #[.int .i64 0, .bool false, .int .i64 0, .int .i64 0, .int .i64 0, .int .i64 0], .int .i64 0, .int .i64 6]) (by simp [results, Tryd.results14, go_sem, x0, x1, x2, x3, x4, x5]) rfl ⟨rfl, S.hb⟩

set_option maxHeartbeats 4000000 in
set_option maxRecDepth 100000 in
theorem dec_short2 (k o n cap : Nat) (c0 c1 c2 c3 c4 c5 c6 c7 : UInt8) (off imm : Int) (w : World) (hw : Wid w) (h : Eight w k o c0 c1 c2 c3 c4 c5 c6 c7) (hn : 8 ≤ n) (hc : n ≤ cap) (hm : cap ≤ 9223372036854775807)
    (ho : sx 16 ((c2.toNat : Int) * 1 + (c3.toNat : Int) * 256) = off) (hi : sx 32 ((c4.toNat : Int) * 1 + (c5.toNat : Int) * 256 + (c6.toNat : Int) * 65536 + (c7.toNat : Int) * 16777216) = imm)
    (op : Int) (r ok : Bool) (hid : idF (c0.toNat : Int) ((c1.toNat : Int) / 16) off imm 86 0 = (op, r, ok)) (hok : ok = true) (f : Int) (hf : frm (ix op) = f) (hs : slo f = 2) (h16 : n < 16) :
    Calls Tryd.prog 14 #[.slice (some ⟨k, o, none⟩) n cap] w fun e w' => e = .returned (.tuple #[.agg #[.int .i64 0, .bool false, .int .i64 0, .int .i64 0, .int .i64 0, .int .i64 0], .int .i64 0, .int .i64 17]) ∧ Below w.heap.size w w' := by
  have HT := Lib.hid (fun (W : World) => slots_at op f 2 W hf hs)
  have n16 : (n : Int) < 16 := by omega
  clear hf hs h16
  have HH := Lib.hid h
  have HW := Lib.hid hw
  have HF := Lib.hid (fun (W : World) (hb : Below w.heap.size w W) => fields_at k o n cap c0 c1 c2 c3 c4 c5 c6 c7 off imm W (wid_below hw hb) (h.below hb) hn hc hm ho hi)
  have HD := Lib.hid (fun (W : World) => ident_is (c0.toNat : Int) ((c1.toNat : Int) / 16) off imm op r ok W hid)
  have n8 : ¬ (n : Int) < 8 := by omega
  have n0 : 0 < n := by omega
  have b1 := c1.toNat_lt
  clear hw h ho hi hid hn hc hm
  go_enter Tryd.func14, Tryd.ntmps14
  go_upto_region 4 with (go_at_call 39; ((with_reducible refine (HF.out _ (bnew _ _)).mono ?_); rintro e w1 ⟨rfl, hb1⟩))
  have S := (DecS.start w #[.int .i64 0, .bool false, .int .i64 0, .int .i64 0, .int .i64 0, .int .i64 0]).below (bch hb1 (bnew w1 (.cells (insA 0 false ((c1.toNat : Int) % 16) ((c1.toNat : Int) / 16) off imm) 23)))
  have h5 := heap_alloc_last w1 (.cells (insA 0 false ((c1.toNat : Int) % 16) ((c1.toNat : Int) / 16) off imm) 23)
  obtain ⟨g, hg⟩ : ∃ g, g = w.heap.size := ⟨_, rfl⟩
  obtain ⟨g5, hg5⟩ : ∃ g5, g5 = w1.heap.size := ⟨_, rfl⟩
  have hs1 := hb1.size
  simp only [World.size_alloc] at hs1
  have hne : g ≠ g5 := by omega
  have hle5 : w.heap.size ≤ g5 := by omega
  rw [← hg] at S ⊢
  rw [← hg5] at h5 ⊢
  generalize w1.alloc (.cells _ 23) = W at S h5 ⊢
  clear hb1 hg hg5 hs1
  have n8' := n8
  have K : DecK w g g5 #[.int .i64 0, .bool false, .int .i64 0, .int .i64 0, .int .i64 0, .int .i64 0] (insA 0 false ((c1.toNat : Int) % 16) ((c1.toNat : Int) / 16) off imm) W := ⟨S, h5⟩
  have d0 := (HH.out.below S.hb).a0
  have HL := Lib.hid hle5
  have HN := Lib.hid hne
  clear S h5 hle5 hne
  go_region_held3 (fun w' => DecK w g g5 #[.int .i64 0, .bool false, .int .i64 0, .int .i64 0, .int .i64 0, .int .i64 0] (insA 0 false ((c1.toNat : Int) % 16) ((c1.toNat : Int) / 16) off imm) w' ∧ w'.cell? ⟨k, o, none⟩ = some (.int .u8 (c0.toNat : Int)) ∧ w'.cell? ⟨g5, 3, none⟩ = some (.int .i64 ((c1.toNat : Int) / 16)) ∧ w'.cell? ⟨g5, 4, none⟩ = some (.int .i64 off) ∧ w'.cell? ⟨g5, 5, none⟩ = some (.int .i64 imm))
    (first | exact keepI (Below.refl _ _).drew K d0 | exact keepJ hb9 (by assumption) | assumption)
    (first | (go_at_call 40; ((with_reducible refine (HD.out _).mono ?_); rintro e w9 ⟨rfl, hb9⟩)))
  all_goals
    rename_i hh
    replace K := hh.1
    clear hh d0
    go_wp2_with (first | (go_at_call 23; ((with_reducible refine (HT.out _).mono ?_); rintro e w2 ⟨rfl, hb2⟩; replace K := K.below hb2; obtain ⟨a0, a1, a2, a3, a4, a5⟩ := cells6 K.2)) | (have S := K.1; refine wpList_store_row rfl _ _ _ rfl g #[.int .i64 0, .bool false, .int .i64 0, .int .i64 0, .int .i64 0, .int .i64 0] rfl rfl 23 _ S.hg (by kernel_rfl) rfl (ins_one _ _ _ _ _ _) ?_; replace S := S.set #[.int .i64 0, .bool false, .int .i64 0, .int .i64 0, .int .i64 0, .int .i64 0]; obtain ⟨x0, x1, x2, x3, x4, x5⟩ := cells6 S.hg))
    exact bodyPost_ret (v := .tuple #[.agg #[.int .i64 0, .bool false, .int .i64 0, .int .i64 0, .int .i64 0, .int .i64 0], .int .i64 0, .int .i64 17]) (by simp [results, Tryd.results14, go_sem, x0, x1, x2, x3, x4, x5]) rfl ⟨rfl, S.hb⟩

set_option maxHeartbeats 4000000 in
set_option maxRecDepth 100000 in
theorem dec_reg1 (k o n cap : Nat) (c0 c1 c2 c3 c4 c5 c6 c7 : UInt8) (off imm : Int) (w : World) (hw : Wid w) (h : Eight w k o c0 c1 c2 c3 c4 c5 c6 c7) (hn : 8 ≤ n) (hc : n ≤ cap) (hm : cap ≤ 9223372036854775807)
    (ho : sx 16 ((c2.toNat : Int) * 1 + (c3.toNat : Int) * 256) = off) (hi : sx 32 ((c4.toNat : Int) * 1 + (c5.toNat : Int) * 256 + (c6.toNat : Int) * 65536 + (c7.toNat : Int) * 16777216) = imm)
    (op : Int) (r ok : Bool) (hid : idF (c0.toNat : Int) ((c1.toNat : Int) / 16) off imm 86 0 = (op, r, ok)) (hok : ok = true) (f : Int) (hf : frm (ix op) = f) (hs : slo f = 1) (hr : 11 ≤ (c1.toNat : Int) % 16 ∨ 11 ≤ (c1.toNat : Int) / 16) :
    Calls Tryd.prog 14 #[.slice (some ⟨k, o, none⟩) n cap] w fun e w' => e = .returned (.tuple #[.agg #[.int .i64 0, .bool false, .int .i64 0, .int .i64 0, .int .i64 0, .int .i64 0], .int .i64 0, .int .i64 5]) ∧ Below w.heap.size w w' := by
  have HT := Lib.hid (fun (W : World) => slots_at op f 1 W hf hs)
  clear hf hs
  have HH := Lib.hid h
  have HW := Lib.hid hw
  have HF := Lib.hid (fun (W : World) (hb : Below w.heap.size w W) => fields_at k o n cap c0 c1 c2 c3 c4 c5 c6 c7 off imm W (wid_below hw hb) (h.below hb) hn hc hm ho hi)
  have HD := Lib.hid (fun (W : World) => ident_is (c0.toNat : Int) ((c1.toNat : Int) / 16) off imm op r ok W hid)
  have n8 : ¬ (n : Int) < 8 := by omega
  have n0 : 0 < n := by omega
  have b1 := c1.toNat_lt
  clear hw h ho hi hid hn hc hm
  go_enter Tryd.func14, Tryd.ntmps14
  go_upto_region 4 with (go_at_call 39; ((with_reducible refine (HF.out _ (bnew _ _)).mono ?_); rintro e w1 ⟨rfl, hb1⟩))
  have S := (DecS.start w #[.int .i64 0, .bool false, .int .i64 0, .int .i64 0, .int .i64 0, .int .i64 0]).below (bch hb1 (bnew w1 (.cells (insA 0 false ((c1.toNat : Int) % 16) ((c1.toNat : Int) / 16) off imm) 23)))
  have h5 := heap_alloc_last w1 (.cells (insA 0 false ((c1.toNat : Int) % 16) ((c1.toNat : Int) / 16) off imm) 23)
  obtain ⟨g, hg⟩ : ∃ g, g = w.heap.size := ⟨_, rfl⟩
  obtain ⟨g5, hg5⟩ : ∃ g5, g5 = w1.heap.size := ⟨_, rfl⟩
  have hs1 := hb1.size
  simp only [World.size_alloc] at hs1
  have hne : g ≠ g5 := by omega
  have hle5 : w.heap.size ≤ g5 := by omega
  rw [← hg] at S ⊢
  rw [← hg5] at h5 ⊢
  generalize w1.alloc (.cells _ 23) = W at S h5 ⊢
  clear hb1 hg hg5 hs1
  have n8' := n8
  have K : DecK w g g5 #[.int .i64 0, .bool false, .int .i64 0, .int .i64 0, .int .i64 0, .int .i64 0] (insA 0 false ((c1.toNat : Int) % 16) ((c1.toNat : Int) / 16) off imm) W := ⟨S, h5⟩
  have d0 := (HH.out.below S.hb).a0
  have HL := Lib.hid hle5
  have HN := Lib.hid hne
  clear S h5 hle5 hne
  go_region_held3 (fun w' => DecK w g g5 #[.int .i64 0, .bool false, .int .i64 0, .int .i64 0, .int .i64 0, .int .i64 0] (insA 0 false ((c1.toNat : Int) % 16) ((c1.toNat : Int) / 16) off imm) w' ∧ w'.cell? ⟨k, o, none⟩ = some (.int .u8 (c0.toNat : Int)) ∧ w'.cell? ⟨g5, 3, none⟩ = some (.int .i64 ((c1.toNat : Int) / 16)) ∧ w'.cell? ⟨g5, 4, none⟩ = some (.int .i64 off) ∧ w'.cell? ⟨g5, 5, none⟩ = some (.int .i64 imm))
    (first | exact keepI (Below.refl _ _).drew K d0 | exact keepJ hb9 (by assumption) | assumption)
    (first | (go_at_call 40; ((with_reducible refine (HD.out _).mono ?_); rintro e w9 ⟨rfl, hb9⟩)))
  all_goals
    rename_i hh
    replace K := hh.1
    clear hh d0
    by_cases hd : 11 ≤ (c1.toNat : Int) % 16
    · clear hr
      go_wp2_with (first | (go_at_call 23; ((with_reducible refine (HT.out _).mono ?_); rintro e w2 ⟨rfl, hb2⟩; replace K := K.below hb2; obtain ⟨a0, a1, a2, a3, a4, a5⟩ := cells6 K.2)) | (have S := K.1; refine wpList_store_row rfl _ _ _ rfl g #[.int .i64 0, .bool false, .int .i64 0, .int .i64 0, .int .i64 0, .int .i64 0] rfl rfl 23 _ S.hg (by kernel_rfl) rfl (ins_one _ _ _ _ _ _) ?_; replace S := S.set #[.int .i64 0, .bool false, .int .i64 0, .int .i64 0, .int .i64 0, .int .i64 0]; obtain ⟨x0, x1, x2, x3, x4, x5⟩ := cells6 S.hg))
      exact bodyPost_ret (v := .tuple #[.agg #[.int .i64 0, .bool false, .int .i64 0, .int .i64 0, .int .i64 0, .int .i64 0], .int .i64 0, .int .i64 5]) (by simp [results, Tryd.results14, go_sem, x0, x1, x2, x3, x4, x5]) rfl ⟨rfl, S.hb⟩
    · replace hr : 11 ≤ (c1.toNat : Int) / 16 := by omega
      go_wp2_with (first | (go_at_call 23; ((with_reducible refine (HT.out _).mono ?_); rintro e w2 ⟨rfl, hb2⟩; replace K := K.below hb2; obtain ⟨a0, a1, a2, a3, a4, a5⟩ := cells6 K.2)) | (have S := K.1; refine wpList_store_row rfl _ _ _ rfl g #[.int .i64 0, .bool false, .int .i64 0, .int .i64 0, .int .i64 0, .int .i64 0] rfl rfl 23 _ S.hg (by kernel_rfl) rfl (ins_one _ _ _ _ _ _) ?_; replace S := S.set #[.int .i64 0, .bool false, .int .i64 0, .int .i64 0, .int .i64 0, .int .i64 0]; obtain ⟨x0, x1, x2, x3, x4, x5⟩ := cells6 S.hg))
      exact bodyPost_ret (v := .tuple #[.agg #[.int .i64 0, .bool false, .int .i64 0, .int .i64 0, .int .i64 0, .int .i64 0], .int .i64 0, .int .i64 5]) (by simp [results, Tryd.results14, go_sem, x0, x1, x2, x3, x4, x5]) rfl ⟨rfl, S.hb⟩

set_option maxHeartbeats 4000000 in
set_option maxRecDepth 100000 in
theorem dec_reg2 (k o n cap : Nat) (c0 c1 c2 c3 c4 c5 c6 c7 : UInt8) (off imm : Int) (w : World) (hw : Wid w) (h : Eight w k o c0 c1 c2 c3 c4 c5 c6 c7) (hn : 8 ≤ n) (hc : n ≤ cap) (hm : cap ≤ 9223372036854775807)
    (ho : sx 16 ((c2.toNat : Int) * 1 + (c3.toNat : Int) * 256) = off) (hi : sx 32 ((c4.toNat : Int) * 1 + (c5.toNat : Int) * 256 + (c6.toNat : Int) * 65536 + (c7.toNat : Int) * 16777216) = imm)
    (op : Int) (r ok : Bool) (hid : idF (c0.toNat : Int) ((c1.toNat : Int) / 16) off imm 86 0 = (op, r, ok)) (hok : ok = true) (f : Int) (hf : frm (ix op) = f) (hs : slo f = 2) (h16 : 16 ≤ n) (hr : 11 ≤ (c1.toNat : Int) % 16 ∨ 11 ≤ (c1.toNat : Int) / 16) :
    Calls Tryd.prog 14 #[.slice (some ⟨k, o, none⟩) n cap] w fun e w' => e = .returned (.tuple #[.agg #[.int .i64 0, .bool false, .int .i64 0, .int .i64 0, .int .i64 0, .int .i64 0], .int .i64 0, .int .i64 5]) ∧ Below w.heap.size w w' := by
  have HT := Lib.hid (fun (W : World) => slots_at op f 2 W hf hs)
  have n16 : ¬ (n : Int) < 16 := by omega
  clear hf hs h16
  have HH := Lib.hid h
  have HW := Lib.hid hw
  have HF := Lib.hid (fun (W : World) (hb : Below w.heap.size w W) => fields_at k o n cap c0 c1 c2 c3 c4 c5 c6 c7 off imm W (wid_below hw hb) (h.below hb) hn hc hm ho hi)
  have HD := Lib.hid (fun (W : World) => ident_is (c0.toNat : Int) ((c1.toNat : Int) / 16) off imm op r ok W hid)
  have n8 : ¬ (n : Int) < 8 := by omega
  have n0 : 0 < n := by omega
  have b1 := c1.toNat_lt
  clear hw h ho hi hid hn hc hm
  go_enter Tryd.func14, Tryd.ntmps14
  go_upto_region 4 with (go_at_call 39; ((with_reducible refine (HF.out _ (bnew _ _)).mono ?_); rintro e w1 ⟨rfl, hb1⟩))
  have S := (DecS.start w #[.int .i64 0, .bool false, .int .i64 0, .int .i64 0, .int .i64 0, .int .i64 0]).below (bch hb1 (bnew w1 (.cells (insA 0 false ((c1.toNat : Int) % 16) ((c1.toNat : Int) / 16) off imm) 23)))
  have h5 := heap_alloc_last w1 (.cells (insA 0 false ((c1.toNat : Int) % 16) ((c1.toNat : Int) / 16) off imm) 23)
  obtain ⟨g, hg⟩ : ∃ g, g = w.heap.size := ⟨_, rfl⟩
  obtain ⟨g5, hg5⟩ : ∃ g5, g5 = w1.heap.size := ⟨_, rfl⟩
  have hs1 := hb1.size
  simp only [World.size_alloc] at hs1
  have hne : g ≠ g5 := by omega
  have hle5 : w.heap.size ≤ g5 := by omega
  rw [← hg] at S ⊢
  rw [← hg5] at h5 ⊢
  generalize w1.alloc (.cells _ 23) = W at S h5 ⊢
  clear hb1 hg hg5 hs1
  have n8' := n8
  have K : DecK w g g5 #[.int .i64 0, .bool false, .int .i64 0, .int .i64 0, .int .i64 0, .int .i64 0] (insA 0 false ((c1.toNat : Int) % 16) ((c1.toNat : Int) / 16) off imm) W := ⟨S, h5⟩
  have d0 := (HH.out.below S.hb).a0
  have HL := Lib.hid hle5
  have HN := Lib.hid hne
  clear S h5 hle5 hne
  go_region_held3 (fun w' => DecK w g g5 #[.int .i64 0, .bool false, .int .i64 0, .int .i64 0, .int .i64 0, .int .i64 0] (insA 0 false ((c1.toNat : Int) % 16) ((c1.toNat : Int) / 16) off imm) w' ∧ w'.cell? ⟨k, o, none⟩ = some (.int .u8 (c0.toNat : Int)) ∧ w'.cell? ⟨g5, 3, none⟩ = some (.int .i64 ((c1.toNat : Int) / 16)) ∧ w'.cell? ⟨g5, 4, none⟩ = some (.int .i64 off) ∧ w'.cell? ⟨g5, 5, none⟩ = some (.int .i64 imm))
    (first | exact keepI (Below.refl _ _).drew K d0 | exact keepJ hb9 (by assumption) | assumption)
    (first | (go_at_call 40; ((with_reducible refine (HD.out _).mono ?_); rintro e w9 ⟨rfl, hb9⟩)))
  all_goals
    rename_i hh
    replace K := hh.1
    clear hh d0
    by_cases hd : 11 ≤ (c1.toNat : Int) % 16
    · clear hr
      go_wp2_with (first | (go_at_call 23; ((with_reducible refine (HT.out _).mono ?_); rintro e w2 ⟨rfl, hb2⟩; replace K := K.below hb2; obtain ⟨a0, a1, a2, a3, a4, a5⟩ := cells6 K.2)) | (have S := K.1; refine wpList_store_row rfl _ _ _ rfl g #[.int .i64 0, .bool false, .int .i64 0, .int .i64 0, .int .i64 0, .int .i64 0] rfl rfl 23 _ S.hg (by kernel_rfl) rfl (ins_one _ _ _ _ _ _) ?_; replace S := S.set #[.int .i64 0, .bool false, .int .i64 0, .int .i64 0, .int .i64 0, .int .i64 0]; obtain ⟨x0, x1, x2, x3, x4, x5⟩ := cells6 S.hg))
      exact bodyPost_ret (v := .tuple #[.agg #[.int .i64 0, .bool false, .int .i64 0, .int .i64 0, .int .i64 0, .int .i64 0], .int .i64 0, .int .i64 5]) (by simp [results, Tryd.results14, go_sem, x0, x1, x2, x3, x4, x5]) rfl ⟨rfl, S.hb⟩
    · replace hr : 11 ≤ (c1.toNat : Int) / 16 := by omega
      go_wp2_with (first | (go_at_call 23; ((with_reducible refine (HT.out _).mono ?_); rintro e w2 ⟨rfl, hb2⟩; replace K := K.below hb2; obtain ⟨a0, a1, a2, a3, a4, a5⟩ := cells6 K.2)) | (have S := K.1; refine wpList_store_row rfl _ _ _ rfl g #[.int .i64 0, .bool false, .int .i64 0, .int .i64 0, .int .i64 0, .int .i64 0] rfl rfl 23 _ S.hg (by kernel_rfl) rfl (ins_one _ _ _ _ _ _) ?_; replace S := S.set #[.int .i64 0, .bool false, .int .i64 0, .int .i64 0, .int .i64 0, .int .i64 0]; obtain ⟨x0, x1, x2, x3, x4, x5⟩ := cells6 S.hg))
      exact bodyPost_ret (v := .tuple #[.agg #[.int .i64 0, .bool false, .int .i64 0, .int .i64 0, .int .i64 0, .int .i64 0], .int .i64 0, .int .i64 5]) (by simp [results, Tryd.results14, go_sem, x0, x1, x2, x3, x4, x5]) rfl ⟨rfl, S.hb⟩

end Go.Proofs.YthebdblncafijaaDoor
