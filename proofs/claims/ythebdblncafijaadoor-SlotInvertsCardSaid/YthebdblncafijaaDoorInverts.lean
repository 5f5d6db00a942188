/- SlotInverts: for every instruction and all bytes, the law 'Decode inverts Encode for correct instructions, whatever follows' returns true, and its arguments read as before; the row's listed variable is tied to the program's text. No other condition. -/
import Derived.Test.YthebdblncafijaaDoorRenca
import Derived.Test.YthebdblncafijaaDoorInv
import Derived.Laws.AppendOwnNone
import Derived.Test.YthebdblncafijaaDoorLaw
import Derived.Test.YthebdblncafijaaDoorCards
import Derived.Test.YthebdblncafijaaDoorTie
import Derived.SevenTiedAt
namespace Go.Proofs.YthebdblncafijaaDoor
open Go.ChangeShapes Go.WideShapes Go.ChangeAt Go.RowKit

open L3 L1 L4

set_option maxHeartbeats 1000000 in
theorem dec_inv (v : Value) (x : Ix) (r : List UInt8) (n : Int) (w : World) (hw : Wid w) (h0 : x.err = 0) (hf : x.fits) (hv : BsAt w v (x.bytes ++ r)) (hn : slo x.f = n) :
    Calls Tryd.prog 14 #[v] w fun e w' => e = .returned (.tuple #[.agg #[.int .i64 x.op, .bool x.reg, .int .i64 x.dst, .int .i64 x.src, .int .i64 x.off, .int .i64 x.imm], .int .i64 n, .int .i64 0]) ∧ Below w.heap.size w w' :=
  dec_is v _ x n 0 w hw hv (by rw [dec_enc x r h0 hf, hn])
theorem slo_len (x : Ix) (h0 : x.err = 0) : ∃ n : Nat, slo x.f = (n : Int) ∧ x.bytes.length = 8 * n ∧ n ≤ 2 := by
  have hc := (chk_ok _ _ _ _ _ _).1 h0
  have hj : ix x.op < 86 := frm_lt hc.hop
  have hfm : fm (ix x.op) = x.f := (frm_fm hj).symm
  have t4 := tab4 _ hj
  rw [hfm] at t4
  have hn : x.bytes.length = if slo x.f = 2 then 16 else 8 := encL_length _ _ _ _ _ _ _
  rcases t4.1 with h | h
  · exact ⟨1, h, by rw [hn, if_neg (by omega)], by omega⟩
  · exact ⟨2, h, by rw [hn, if_pos h], by omega⟩

theorem open_shape {H : Type} {enc : TypeId × Value → H} {W : World} {r : Reach} {b0 base : Nat} {v : Value} {d : DataW H} {ps : List MemPlace} {sp : Nat → Bool}
    (hval : Value.okWide Tryd.prog W r b0 24 v) (hd : DataW.Trod enc Tryd.prog W base sp true 24 v d ps) : ∃ l, BsAt W v l ∧ (v = .slice none 0 0 ∨ ∃ a n c, v = .slice (some a) n c) := by
  obtain ⟨l, hl⟩ := open_bytes hval hd
  refine ⟨l, hl, ?_⟩
  obtain ⟨a0, len, cap, rfl⟩ := okWide_slice Tryd.underlying24 hval
  obtain ⟨fuel, hf⟩ := hd
  rcases open_ints Tryd.underlying24 Tryd.underlying5 cells5 hf with ⟨hcs, hx⟩ | ⟨a, len', cap', zs, hcs, -⟩
  · simp [Value.cells] at hcs
    obtain ⟨rfl, rfl, rfl⟩ := hcs
    exact .inl rfl
  · simp [Value.cells] at hcs
    obtain ⟨rfl, rfl, rfl⟩ := hcs
    exact .inr ⟨_, _, _, rfl⟩
theorem src_of {w : World} {ad : Addr} {cap : Nat} {l : List UInt8} (h : BsAt w (.slice (some ad) l.length cap) l) : ∀ j u, (byL l)[j]? = some u → w.cell? (ad.add j) = some u := by
  obtain ⟨a, c, h1, -, -, h4⟩ := h
  rcases h4 with rfl | ⟨k, o, rfl, hB⟩
  · intro j u hu
    simp [byL] at hu
  · obtain ⟨rfl, -⟩ : ad = ⟨k, o, none⟩ ∧ cap = c := by simpa using h1
    exact byL_src hB

set_option maxHeartbeats 4000000 in
set_option maxRecDepth 100000 in
theorem inverts_none (x : Ix) (w : World) (hf : x.fits) (hw : Wid w) (he : x.err = 0) : Calls Tryd.prog 5 #[.agg #[.int .i64 x.op, .bool x.reg, .int .i64 x.dst, .int .i64 x.src, .int .i64 x.off, .int .i64 x.imm], .slice none 0 0] w fun e w' => e = .returned (.bool true) ∧ Below w.heap.size w w' := by
  obtain ⟨i0, hi0, hz0, hz1, hz2⟩ := info_parts Tryd.info5
  have HW := Lib.hid hw
  have b0 := bnew w (.cells x.cs 23)
  have hx := heap_alloc_last w (.cells x.cs 23)
  obtain ⟨x0, x1, x2, x3, x4, x5⟩ := cells6 hx
  clear hw
  have HC := Lib.hid (fun w => rchk_is x 0 w hf he)
  obtain ⟨n, hn1, hn2, hn3⟩ := slo_len x he
  have HE := Lib.hid (fun w hw => enc_is x x.bytes (8 * n) w hw hf he rfl hn2)
  have HD := Lib.hid (fun v w hw hv => dec_inv v x [] n w hw he hf hv hn1)
  have HCL := Lib.hid (fun (k : Nat) (w : World) (hB : Bytes w k 0 x.bytes) => clone_some k 0 (8 * n) (8 * n) x.bytes w hn2 (by omega) hB)
  have e1 : ((8 * n : Nat) : Int) = 8 * (n : Int) := by omega
  have n0 : 0 ≤ (n : Int) := by omega
  have n2 : (n : Int) ≤ 2 := by omega
  have hlen : ([] : List UInt8).length ≤ 4000 := by decide
  have hlen' : ¬ (4000 : Int) < 0 := by decide
  clear he hf hn1 hn2
  go_enter Tryd.func5, Tryd.ntmps5
  go_upto_region 4 with (first | (go_at_call 10; ((with_reducible refine (HC.out _).mono ?_); rintro e w1 ⟨rfl, b1⟩; have B1 := bch b0 b1; have hx1 := row_up hx b1; clear x0 x1 x2 x3 x4 x5; obtain ⟨x0, x1, x2, x3, x4, x5⟩ := cells6 hx1)) | (go_at_call 9; ((with_reducible refine (HE.out _ (wid_below HW.out B1)).mono ?_); rintro e w2 ⟨k2, hk2, rfl, h2, b2⟩)))
  have B2 := bch B1 b2
  have hx2 := row_up hx1 b2
  have hB2 := Lib.hid (Bytes.row h2)
  clear x0 x1 x2 x3 x4 x5
  go_upto_region 5 with (first | (go_at_call 16; ((with_reducible refine (HCL.out k2 _ hB2.out).mono ?_); rintro e w4 ⟨v4, rfl, hown4, b4⟩)) | (at_builtin; refine wpList_append_own_none rfl _ _ 24 rfl w2.heap.size 5 i0 1 Tryd.underlying24 hi0 _ (8 * n) _ rfl hown4 rfl ?_; have hown5 := hown4; have b5 := b4) | (go_at_call 14; ((with_reducible refine (HD.out _ _ (wid_below HW.out (bch B2 b5)) (by rw [List.append_nil]; exact own_bytes hown5)).mono ?_); rintro e w6 ⟨rfl, b6⟩)))
  have B6 := bch (bch B2 b5) (bch b6 (bnew w6 (.cells x.cs 23)))
  have hy := heap_alloc_last w6 (.cells x.cs 23)
  have U6 : Below w2.heap.size w2 (w6.alloc (.cells x.cs 23)) := b5.trans ((bch b6 (bnew w6 (.cells x.cs 23))).mono b5.size)
  have hx6 := row_up hx2 U6
  obtain ⟨gy, hgy⟩ : ∃ gy, gy = w6.heap.size := ⟨_, rfl⟩
  rw [← hgy] at hy ⊢
  generalize w6.alloc _ = W6 at B6 hy hx6 ⊢
  clear hgy b6 b5 U6 hB2 hx2 h2 hi0 hz0 hz1 hz2
  go_wp2_with (go_at_call 11; ((with_reducible refine (alive_any _ (wid_below HW.out B6)).mono ?_); rintro e w7 ⟨rfl, b7⟩; obtain ⟨x0, x1, x2, x3, x4, x5⟩ := cells6 (row_up hx6 b7); obtain ⟨y0, y1, y2, y3, y4, y5⟩ := cells6 (row_up hy b7)))
  go_ret
  exact ⟨rfl, bch B6 b7⟩

set_option maxHeartbeats 4000000 in
set_option maxRecDepth 100000 in
theorem inverts_some (x : Ix) (ad : Addr) (cap : Nat) (l : List UInt8) (w : World) (hf : x.fits) (hv : BsAt w (.slice (some ad) l.length cap) l) (hlen : l.length ≤ 4000) (hw : Wid w) (he : x.err = 0) : Calls Tryd.prog 5 #[.agg #[.int .i64 x.op, .bool x.reg, .int .i64 x.dst, .int .i64 x.src, .int .i64 x.off, .int .i64 x.imm], .slice (some ad) l.length cap] w fun e w' => e = .returned (.bool true) ∧ Below w.heap.size w w' := by
  obtain ⟨i0, hi0, hz0, hz1, hz2⟩ := info_parts Tryd.info5
  have HW := Lib.hid hw
  have b0 := bnew w (.cells x.cs 23)
  have hx := heap_alloc_last w (.cells x.cs 23)
  obtain ⟨x0, x1, x2, x3, x4, x5⟩ := cells6 hx
  clear hw
  have HC := Lib.hid (fun w => rchk_is x 0 w hf he)
  obtain ⟨n, hn1, hn2, hn3⟩ := slo_len x he
  have HE := Lib.hid (fun w hw => enc_is x x.bytes (8 * n) w hw hf he rfl hn2)
  have HD := Lib.hid (fun v w hw hv => dec_inv v x l n w hw he hf hv hn1)
  have HCL := Lib.hid (fun (k : Nat) (w : World) (hB : Bytes w k 0 x.bytes) => clone_some k 0 (8 * n) (8 * n) x.bytes w hn2 (by omega) hB)
  have e1 : ((8 * n : Nat) : Int) = 8 * (n : Int) := by omega
  have n0 : 0 ≤ (n : Int) := by omega
  have n2 : (n : Int) ≤ 2 := by omega
  have hlen' : ¬ (4000 : Int) < (l.length : Int) := by omega
  have HV := Lib.hid (fun (W : World) (hb : Below w.heap.size w W) => src_of (hv.below hb))
  clear he hf hn1 hn2
  go_enter Tryd.func5, Tryd.ntmps5
  go_upto_region 4 with (first | (go_at_call 10; ((with_reducible refine (HC.out _).mono ?_); rintro e w1 ⟨rfl, b1⟩; have B1 := bch b0 b1; have hx1 := row_up hx b1; clear x0 x1 x2 x3 x4 x5; obtain ⟨x0, x1, x2, x3, x4, x5⟩ := cells6 hx1)) | (go_at_call 9; ((with_reducible refine (HE.out _ (wid_below HW.out B1)).mono ?_); rintro e w2 ⟨k2, hk2, rfl, h2, b2⟩)))
  have B2 := bch B1 b2
  have hx2 := row_up hx1 b2
  have hB2 := Lib.hid (Bytes.row h2)
  clear x0 x1 x2 x3 x4 x5
  go_upto_region 5 with (first | (go_at_call 16; ((with_reducible refine (HCL.out k2 _ hB2.out).mono ?_); rintro e w4 ⟨v4, rfl, hown4, b4⟩)) | (at_builtin; refine wpList_append_own _ rfl _ _ 24 rfl w2.heap.size 5 i0 (.int .u8 0) 1 1 Tryd.underlying24 hi0 hz0 hz1 hz2 rfl (by decide) _ (8 * n) _ rfl hown4 ad l.length cap (byL l) rfl (by rw [byL_len]; omega) (HV.out _ (bch B2 b4)) (byL_one _) (by unfold maxLen; omega) (by omega) b4.size ?_; intro v5 w5 hown5 hgrow5 _; have b5 := b4.grown hgrow5 b4.size (own_base hown4); rw [← byL_append] at hown5) | (go_at_call 14; ((with_reducible refine (HD.out _ _ (wid_below HW.out (bch B2 b5)) (own_bytes hown5)).mono ?_); rintro e w6 ⟨rfl, b6⟩)))
  have B6 := bch (bch B2 b5) (bch b6 (bnew w6 (.cells x.cs 23)))
  have hy := heap_alloc_last w6 (.cells x.cs 23)
  have U6 : Below w2.heap.size w2 (w6.alloc (.cells x.cs 23)) := b5.trans ((bch b6 (bnew w6 (.cells x.cs 23))).mono b5.size)
  have hx6 := row_up hx2 U6
  obtain ⟨gy, hgy⟩ : ∃ gy, gy = w6.heap.size := ⟨_, rfl⟩
  rw [← hgy] at hy ⊢
  generalize w6.alloc _ = W6 at B6 hy hx6 ⊢
  clear hgy b6 b5 U6 hB2 hx2 h2 hi0 hz0 hz1 hz2
  go_wp2_with (go_at_call 11; ((with_reducible refine (alive_any _ (wid_below HW.out B6)).mono ?_); rintro e w7 ⟨rfl, b7⟩; obtain ⟨x0, x1, x2, x3, x4, x5⟩ := cells6 (row_up hx6 b7); obtain ⟨y0, y1, y2, y3, y4, y5⟩ := cells6 (row_up hy b7)))
  go_ret
  exact ⟨rfl, bch B6 b7⟩

set_option maxHeartbeats 4000000 in
set_option maxRecDepth 100000 in
theorem inverts_long (x : Ix) (a : Option Addr) (n cap : Nat) (w : World) (hf : x.fits) (he : x.err = 0) (hn : 4000 < n) (hw : Wid w) : Calls Tryd.prog 5 #[.agg #[.int .i64 x.op, .bool x.reg, .int .i64 x.dst, .int .i64 x.src, .int .i64 x.off, .int .i64 x.imm], .slice a n cap] w fun e w' => e = .returned (.bool true) ∧ Below w.heap.size w w' := by
  have HW := Lib.hid hw
  have b0 := bnew w (.cells x.cs 23)
  have hx := heap_alloc_last w (.cells x.cs 23)
  obtain ⟨x0, x1, x2, x3, x4, x5⟩ := cells6 hx
  have HC := Lib.hid (fun w => rchk_is x 0 w hf he)
  have hn' : (4000 : Int) < (n : Int) := by omega
  clear hw he hf
  go_enter Tryd.func5, Tryd.ntmps5
  go_wp2_with (first | (go_at_call 10; ((with_reducible refine (HC.out _).mono ?_); rintro e w1 ⟨rfl, b1⟩; have B1 := bch b0 b1)) | (go_at_call 11; ((with_reducible refine (alive_any _ (wid_below HW.out B1)).mono ?_); rintro e w3 ⟨rfl, b3⟩)))
  go_ret
  exact ⟨rfl, bch B1 b3⟩
set_option maxHeartbeats 4000000 in
set_option maxRecDepth 100000 in
theorem inverts_bad (x : Ix) (a : Option Addr) (n cap : Nat) (w : World) (hf : x.fits) (he : x.err ≠ 0) (hw : Wid w) : Calls Tryd.prog 5 #[.agg #[.int .i64 x.op, .bool x.reg, .int .i64 x.dst, .int .i64 x.src, .int .i64 x.off, .int .i64 x.imm], .slice a n cap] w fun e w' => e = .returned (.bool true) ∧ Below w.heap.size w w' := by
  have HW := Lib.hid hw
  have b0 := bnew w (.cells x.cs 23)
  have hx := heap_alloc_last w (.cells x.cs 23)
  obtain ⟨x0, x1, x2, x3, x4, x5⟩ := cells6 hx
  obtain ⟨R, hR⟩ : ∃ R, x.err = R := ⟨_, rfl⟩
  have hne : (R != 0) = true := by rw [← hR]; simpa using he
  have HC := Lib.hid (fun w => rchk_is x R w hf hR)
  clear hw he hf hR
  go_enter Tryd.func5, Tryd.ntmps5
  go_wp2_with (first | (go_at_call 10; ((with_reducible refine (HC.out _).mono ?_); rintro e w1 ⟨rfl, b1⟩; have B1 := bch b0 b1)) | (go_at_call 11; ((with_reducible refine (alive_any _ (wid_below HW.out B1)).mono ?_); rintro e w3 ⟨rfl, b3⟩)))
  go_ret
  exact ⟨rfl, bch B1 b3⟩
theorem inv_walk (x : Ix) (v : Value) (l : List UInt8) (w : World) (hf : x.fits) (hv : BsAt w v l ∧ (v = .slice none 0 0 ∨ ∃ a n c, v = .slice (some a) n c)) (hw : Wid w) : Calls Tryd.prog 5 #[.agg #[.int .i64 x.op, .bool x.reg, .int .i64 x.dst, .int .i64 x.src, .int .i64 x.off, .int .i64 x.imm], v] w fun e w' => e = .returned (.bool true) ∧ Below w.heap.size w w' := by
  obtain ⟨hv, hs⟩ := hv
  by_cases he : x.err = 0
  · rcases hs with rfl | ⟨a, n, c, rfl⟩
    · exact inverts_none x w hf hw he
    · obtain rfl : n = l.length := by
        obtain ⟨a', c', h1, -⟩ := hv
        cases h1
        rfl
      by_cases hlen : l.length ≤ 4000
      · exact inverts_some x a c l w hf hv hlen hw he
      · exact inverts_long x _ _ _ w hf he (by omega) hw
  · obtain ⟨a, c, rfl, -⟩ := hv
    exact inverts_bad x a _ c w hf he hw

set_option maxRecDepth 100000 in
theorem inv_lifted (os : Os) (started : os.Started) (H : Type) (enc : TypeId × Value → H) :
    ReturnsInHanded {} Tryd.checked os 5 .any (fun w args => (Rows.slotInvertsSpec.pre enc Tryd.prog Tryd.f5 [] false w args ∧ laidMetH Tryd.prog laid4 w) ∧ sizedMet enc Tryd.prog Tryd.f5 (OpenSpec.ofChange Rows.slotInvertsSpec) false w args)
      (Rows.slotInvertsSpec.post enc Tryd.prog Tryd.f5 false true false false) := by
  refine returnsInHanded_of_change_and (C := Tryd.checked) (X := fun w _ => laidMetH Tryd.prog laid4 w) (fun _ _ _ hh h => h.of_heap hh) own started (by kernel_rfl) Tryd.func5
    (ChangeSpec.witness_shaped (enc := enc) (C := Tryd.checked) (os := os) (X := fun w _ => laidMetH Tryd.prog laid4 w) false (World.doorLaid Tryd.prog 4000 os) #[.agg #[.int .i64 0, .bool false, .int .i64 0, .int .i64 0, .int .i64 0, .int .i64 0], .slice none 0 0] 8 rfl (World.shaped_of_RefB (by kernel_rfl) (by kernel_rfl)) (by kernel_rfl) (by kernel_rfl) (by kernel_rfl) (door_met os _)) ?_
  intro W base args ds gs before hval0 hW _ _ hL _
  have hval : ∀ (j : Nat) t v, Tryd.f5.params[j]? = some t → args[j]? = some v → Value.okWide Tryd.prog W .any base t v := hval0
  have hW' := hW
  obtain ⟨p, q, hA0, hV, rfl, hfz, hnd⟩ := hW
  have hA : DataW.TrodAll enc Tryd.prog W 0 (fun _ => true) true Tryd.f5.params.toList args.toList ds p := hA0
  rw [Tryd.params5] at hA hval
  obtain ⟨v0, vs0, d0, ds0, p0, q0, hargs, rfl, rfl, h0, r0⟩ := trodAll_cons hA
  obtain ⟨v1, vs1, d1, ds1, p1, q1, rfl, rfl, rfl, h1, r1⟩ := trodAll_cons r0
  obtain ⟨rfl, rfl, rfl⟩ := trodAll_nil r1
  obtain rfl : args = #[v0, v1] := by cases args; simp_all
  obtain ⟨rfl, rfl⟩ := trodVars_none hV
  clear hA0 hval0
  simp only [List.append_nil] at hW'
  obtain ⟨op0, reg0, dst0, src0, off0, imm0, rfl, rfl, rfl, k00, k20, k30, k40, k50⟩ := open_ins (hval 0 23 v0 rfl rfl) h0
  obtain ⟨l1, hl1⟩ := open_shape (hval 1 24 v1 rfl rfl) h1
  have hlt1 : ∀ x ∈ p1, x.block < W.heap.size := fun x hx => by simpa using hW'.lt x (by simp [hx])
  refine (inv_walk ⟨op0, reg0, dst0, src0, off0, imm0⟩ v1 l1 W (bounds_i64 k50) hl1 (tabs_of hL)).mono fun e W' ⟨he, hg⟩ => ?_
  subst he
  exact ⟨_, rfl, law_post_at hW' rfl rfl Tryd.underlying4 rfl (by have hT := (trodAll_cons_mk (shut_ins (reg := reg0) k00 k20 k30 k40 k50) (trodAll_cons_mk (Below.trod laidOut (by kernel_rfl) (of_decide_eq_true (by kernel_rfl)) h1 hg hlt1) trodAll_mk0)); simp only [List.append_nil, List.nil_append] at hT; exact hT) hg⟩

theorem inv_said : Rows.SlotInvertsSaid :=
  OpenClaim.holds_of_wide 5 Tryd.f5 rfl rfl rfl rfl rfl rfl rfl ⟨rfl, rfl, rfl, rfl, rfl⟩ rfl rfl rfl rfl rfl (by kernel_rfl) Tryd.func5 (by kernel_rfl)
    (of_decide_eq_true (by kernel_rfl)) (by unfold Func.isWrapper; first | (rw [if_pos (by decide +kernel)]; kernel_rfl) | (rw [if_neg (by decide +kernel)]; exact ⟨rfl, rfl⟩))
    (fun os started H enc _ => inv_lifted os started H enc)

/-- The card: the row's listed variables are tied to the program's text. -/
theorem inv_card : Rows.SlotInvertsCardSaid :=
  Claim7.holds_tied_plain_at .later [] [.data] true (true, "7370c7ef35dfd77f2708cd0bf30d598406eb0cdf23cc79e1c137fbfec0eccda5") false
    inv_said (fun _ h => by cases h) (by kernel_rfl) (fun _ h => by cases h) slotInverts_row_tie rfl ⟨rfl, rfl⟩ (by kernel_rfl) rfl
    (fun f fn hf hfn => by
      obtain rfl : f = 5 := Option.some.inj ((show Tryd.prog.funcNamed "slotcode/slotcodelaw05.SlotInverts" = some 5 by kernel_rfl).symm.trans hf) |>.symm
      obtain rfl : fn = Tryd.f5 := (Option.some.inj (Tryd.func5.symm.trans hfn)).symm
      exact ⟨by kernel_rfl, fun j t ht => by
        rw [Tryd.params5] at ht
        have hm : t ∈ [23, 24] := by simpa using Array.mem_of_getElem? ht
        have hall : ([23, 24].all fun u => !Tryd.prog.wantsStandIn u) = true := by kernel_rfl
        exact (show Tryd.prog.wantsStandIn t = false by simpa using List.all_eq_true.1 hall t hm)⟩)
    (by kernel_rfl)
#print axioms inv_card
end Go.Proofs.YthebdblncafijaaDoor
