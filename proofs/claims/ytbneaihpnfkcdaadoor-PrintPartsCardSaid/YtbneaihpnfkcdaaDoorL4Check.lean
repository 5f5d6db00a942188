/- What the program's Check returns: the error of the first condition that fails. No condition but that the table of widths reads as laid. -/
import Derived.Test.YtbneaihpnfkcdaaDoorL4Cond26
namespace Go.Proofs.YtbneaihpnfkcdaaDoor.L4
open Go.RowKit L3 L1

/-- The error of the first condition that fails. -/
def firstBad : List (Bool × Int) → Int
  | [] => 0
  | (b, e) :: r => if b then firstBad r else e

theorem cells14 {w : World} {k : Nat} {a0 a1 a2 a3 a4 a5 a6 a7 a8 a9 a10 a11 a12 a13 : Value} {t : TypeId} (h : w.heap[k]? = some (.cells #[a0, a1, a2, a3, a4, a5, a6, a7, a8, a9, a10, a11, a12, a13] t)) :
    w.cell? ⟨k, 0, none⟩ = some a0 ∧ w.cell? ⟨k, 1, none⟩ = some a1 ∧ w.cell? ⟨k, 2, none⟩ = some a2 ∧ w.cell? ⟨k, 3, none⟩ = some a3 ∧ w.cell? ⟨k, 4, none⟩ = some a4 ∧ w.cell? ⟨k, 5, none⟩ = some a5 ∧ w.cell? ⟨k, 6, none⟩ = some a6 ∧
    w.cell? ⟨k, 7, none⟩ = some a7 ∧ w.cell? ⟨k, 8, none⟩ = some a8 ∧ w.cell? ⟨k, 9, none⟩ = some a9 ∧ w.cell? ⟨k, 10, none⟩ = some a10 ∧ w.cell? ⟨k, 11, none⟩ = some a11 ∧ w.cell? ⟨k, 12, none⟩ = some a12 ∧ w.cell? ⟨k, 13, none⟩ = some a13 := by
  simp [World.cell?, h]

set_option maxHeartbeats 4000000 in
set_option maxRecDepth 100000 in
theorem check_at (op : Int) (reg : Bool) (dst src off imm f R : Int) (vD vS vO vI b1 b2 b3 b4 b5 b6 b7 : Bool) (w : World) (hw : Wid w) (hf : frm (ix op) = f) (hD : uD f = vD) (hS : uS f reg = vS) (hO : uO f = vO) (hI : uI f reg = vI)
    (h1 : (f != -1) = b1) (h2 : (!reg || f == 0 || f == 4) = b2) (h3 : ((vD || dst == 0) && (vS || src == 0)) = b3) (h4 : ((vO || off == 0) && (vI || imm == 0)) = b4) (h5 : (isG dst && isG src) = b5) (h6 : (sx 16 off == off) = b6) (h7 : rng f imm = b7)
    (hR : firstBad [(b1, 6), (b2, 12), (b3, 12), (b4, 12), (b5, 5), (b6, 4), (b7, 4)] = R) :
    Calls Tryd.prog 78 #[.agg #[.int .i64 op, .bool reg, .int .i64 dst, .int .i64 src, .int .i64 off, .int .i64 imm]] w fun e w' => e = .returned (.int .i64 R) ∧ Below w.heap.size w w' := by
  have HC := Lib.hid (fun w hw => conds_at op reg dst src off imm f vD vS vO vI w hf hD hS hO hI hw)
  have H1 := Lib.hid h1
  have H2 := Lib.hid h2
  have H3 := Lib.hid h3
  have H4 := Lib.hid h4
  have H5 := Lib.hid h5
  have H6 := Lib.hid h6
  have H7 := Lib.hid h7
  have HR := Lib.hid hR
  have HW := Lib.hid hw
  clear hf hD hS hO hI h1 h2 h3 h4 h5 h6 h7 hR hw
  have wid_new : ∀ o, Wid (w.alloc o) := fun o => by
    obtain ⟨t, fr, hw⟩ := HW.out
    exact ⟨t, fr, ((bnew w o).block _ (lt_of_block hw)).trans hw⟩
  have HN := Lib.hid wid_new
  clear wid_new HW
  go_enter Tryd.func78, Tryd.ntmps78
  go_wp2_with (first | (go_at_call 86; ((with_reducible refine (HC.out _ (HN.out _)).mono ?_); rintro e w1 ⟨g, kx, kf, ku, rfl, hb1, hH, hg⟩)))
  have hb := bch (bnew w _) hb1
  clear hb1 HN HC
  go_loopw [8] (fun i wr => ∃ k : Nat, k ≤ 7 ∧ i = .int .i64 k ∧ Below w.heap.size w wr ∧ Hid (Held wr kx kf ku op reg dst src off imm f vD vS vO vI ∧ wr.heap[g]? = some (.cells (condC kx kf ku) 121)) ∧ Hid (firstBad (List.drop k [(b1, 6), (b2, 12), (b3, 12), (b4, 12), (b5, 5), (b6, 4), (b7, 4)]) = R)) (fun i _ => 7 - (intOf i).toNat)
  case atStart => exact ⟨0, by decide, rfl, hb, Lib.hid ⟨hH, hg⟩, HR⟩
  case round =>
    clear hH hg hb HR
    obtain ⟨k, hk, rfl, hb, HG, HR⟩ := hrel
    rename_i wr
    have HN := Lib.hid (fun o => HG.out.1.below (bnew wr o))
    have hgl := lt_of_block HG.out.2
    obtain ⟨p0, p1, p2, p3, p4, p5, p6, p7, p8, p9, p10, p11, p12, p13⟩ := cells14 HG.out.2
    rcases (show k = 0 ∨ k = 1 ∨ k = 2 ∨ k = 3 ∨ k = 4 ∨ k = 5 ∨ k = 6 ∨ k = 7 by omega) with rfl | rfl | rfl | rfl | rfl | rfl | rfl | rfl
    · clear p2 p3 p4 p5 p6 p7 p8 p9 p10 p11 p12 p13
      cases b1
      · go_wp2_with (first | (go_at_call 89; ((with_reducible refine (c1_at (HN.out _) _ H1.out).mono ?_); rintro e w2 ⟨rfl, rfl⟩)))
        go_ret
        exact ⟨by rw [← HR.out] <;> rfl, bch hb (bnew _ _)⟩
      · go_wp2_with (first | (go_at_call 89; ((with_reducible refine (c1_at (HN.out _) _ H1.out).mono ?_); rintro e w2 ⟨rfl, rfl⟩)))
        go_roundw
        case rel => exact ⟨1, by decide, by go_num, bch hb (bnew _ _), Lib.hid ⟨HN.out _, ((bnew wr _).block _ hgl).trans HG.out.2⟩, HR⟩
        case measure => simp [intOf]
    · clear p0 p1 p4 p5 p6 p7 p8 p9 p10 p11 p12 p13
      cases b2
      · go_wp2_with (first | (go_at_call 90; ((with_reducible refine (c2_at (HN.out _) _ H2.out).mono ?_); rintro e w2 ⟨rfl, rfl⟩)))
        go_ret
        exact ⟨by rw [← HR.out] <;> rfl, bch hb (bnew _ _)⟩
      · go_wp2_with (first | (go_at_call 90; ((with_reducible refine (c2_at (HN.out _) _ H2.out).mono ?_); rintro e w2 ⟨rfl, rfl⟩)))
        go_roundw
        case rel => exact ⟨2, by decide, by go_num, bch hb (bnew _ _), Lib.hid ⟨HN.out _, ((bnew wr _).block _ hgl).trans HG.out.2⟩, HR⟩
        case measure => simp [intOf]
    · clear p0 p1 p2 p3 p6 p7 p8 p9 p10 p11 p12 p13
      cases b3
      · go_wp2_with (first | (go_at_call 91; ((with_reducible refine (c3_at (HN.out _) _ H3.out).mono ?_); rintro e w2 ⟨rfl, rfl⟩)))
        go_ret
        exact ⟨by rw [← HR.out] <;> rfl, bch hb (bnew _ _)⟩
      · go_wp2_with (first | (go_at_call 91; ((with_reducible refine (c3_at (HN.out _) _ H3.out).mono ?_); rintro e w2 ⟨rfl, rfl⟩)))
        go_roundw
        case rel => exact ⟨3, by decide, by go_num, bch hb (bnew _ _), Lib.hid ⟨HN.out _, ((bnew wr _).block _ hgl).trans HG.out.2⟩, HR⟩
        case measure => simp [intOf]
    · clear p0 p1 p2 p3 p4 p5 p8 p9 p10 p11 p12 p13
      cases b4
      · go_wp2_with (first | (go_at_call 93; ((with_reducible refine (c4_at (HN.out _) _ H4.out).mono ?_); rintro e w2 ⟨rfl, rfl⟩)))
        go_ret
        exact ⟨by rw [← HR.out] <;> rfl, bch hb (bnew _ _)⟩
      · go_wp2_with (first | (go_at_call 93; ((with_reducible refine (c4_at (HN.out _) _ H4.out).mono ?_); rintro e w2 ⟨rfl, rfl⟩)))
        go_roundw
        case rel => exact ⟨4, by decide, by go_num, bch hb (bnew _ _), Lib.hid ⟨HN.out _, ((bnew wr _).block _ hgl).trans HG.out.2⟩, HR⟩
        case measure => simp [intOf]
    · clear p0 p1 p2 p3 p4 p5 p6 p7 p10 p11 p12 p13
      cases b5
      · go_wp2_with (first | (go_at_call 94; ((with_reducible refine (c5_at (HN.out _) _ H5.out).mono ?_); rintro e w2 ⟨rfl, rfl⟩)))
        go_ret
        exact ⟨by rw [← HR.out] <;> rfl, bch hb (bnew _ _)⟩
      · go_wp2_with (first | (go_at_call 94; ((with_reducible refine (c5_at (HN.out _) _ H5.out).mono ?_); rintro e w2 ⟨rfl, rfl⟩)))
        go_roundw
        case rel => exact ⟨5, by decide, by go_num, bch hb (bnew _ _), Lib.hid ⟨HN.out _, ((bnew wr _).block _ hgl).trans HG.out.2⟩, HR⟩
        case measure => simp [intOf]
    · clear p0 p1 p2 p3 p4 p5 p6 p7 p8 p9 p12 p13
      cases b6
      · go_wp2_with (first | (go_at_call 96; ((with_reducible refine (c6_at (HN.out _) _ H6.out).mono ?_); rintro e w2 ⟨rfl, rfl⟩)))
        go_ret
        exact ⟨by rw [← HR.out] <;> rfl, bch hb (bnew _ _)⟩
      · go_wp2_with (first | (go_at_call 96; ((with_reducible refine (c6_at (HN.out _) _ H6.out).mono ?_); rintro e w2 ⟨rfl, rfl⟩)))
        go_roundw
        case rel => exact ⟨6, by decide, by go_num, bch hb (bnew _ _), Lib.hid ⟨HN.out _, ((bnew wr _).block _ hgl).trans HG.out.2⟩, HR⟩
        case measure => simp [intOf]
    · clear p0 p1 p2 p3 p4 p5 p6 p7 p8 p9 p10 p11
      cases b7
      · go_wp2_with (first | (go_at_call 97; ((with_reducible refine (c7_at (HN.out _) _ H7.out).mono ?_); rintro e w2 ⟨rfl, rfl⟩)))
        go_ret
        exact ⟨by rw [← HR.out] <;> rfl, bch hb (bnew _ _)⟩
      · go_wp2_with (first | (go_at_call 97; ((with_reducible refine (c7_at (HN.out _) _ H7.out).mono ?_); rintro e w2 ⟨rfl, rfl⟩)))
        go_roundw
        case rel => exact ⟨7, by decide, by go_num, bch hb (bnew _ _), Lib.hid ⟨HN.out _, ((bnew wr _).block _ hgl).trans HG.out.2⟩, HR⟩
        case measure => simp [intOf]
    · clear p0 p1 p2 p3 p4 p5 p6 p7 p8 p9 p10 p11 p12 p13
      go_wp2
      go_ret
      exact ⟨by rw [← HR.out] <;> rfl, hb⟩
end Go.Proofs.YtbneaihpnfkcdaaDoor.L4
