/- What the program's Identify returns: the first operation that the opcode and the fields encode. No condition. -/
import Derived.Test.YthebdblncafijaaDoorL3Get
import Derived.Deep.RegionHeld3
namespace Go.Proofs.YthebdblncafijaaDoor.L3
open Go.RowKit

/-- Does the opcode name a register as the second operand? -/
def regK (code : Int) (k : Nat) : Bool := isR (fm k) && code == cd8 k
/-- Do the fields agree? -/
def sameK (src off imm : Int) (k : Nat) : Bool := (wiR (fm k) src (sr k) == sr k) && (wiO (fm k) off (of k) == of k) && (wiI (fm k) imm (im k) == im k)
def hitK (code src off imm : Int) (k : Nat) : Bool := (regK code k || code == cd k) && sameK src off imm k
/-- The first of n rows from k on that the opcode and the fields encode. -/
def idF (code src off imm : Int) : Nat → Nat → Int × Bool × Bool
  | 0, _ => (0, false, false)
  | n + 1, k => if hitK code src off imm k then ((k : Int), regK code k, true) else idF code src off imm n (k + 1)

/-- What a region keeps: what was there, and a row's seven cells. -/
theorem keepD {B w : World} {g : Nat} {v0 v1 v2 v3 v4 v5 v6 : Value} (hB : Below B.heap.size B w) (h0 : w.cell? ⟨g, 0, none⟩ = some v0) (h1 : w.cell? ⟨g, 1, none⟩ = some v1) (h2 : w.cell? ⟨g, 2, none⟩ = some v2) (h3 : w.cell? ⟨g, 3, none⟩ = some v3)
    (h4 : w.cell? ⟨g, 4, none⟩ = some v4) (h5 : w.cell? ⟨g, 5, none⟩ = some v5) (h6 : w.cell? ⟨g, 6, none⟩ = some v6) :
    Below B.heap.size B w.drew ∧ w.drew.cell? ⟨g, 0, none⟩ = some v0 ∧ w.drew.cell? ⟨g, 1, none⟩ = some v1 ∧ w.drew.cell? ⟨g, 2, none⟩ = some v2 ∧ w.drew.cell? ⟨g, 3, none⟩ = some v3 ∧ w.drew.cell? ⟨g, 4, none⟩ = some v4 ∧ w.drew.cell? ⟨g, 5, none⟩ = some v5 ∧ w.drew.cell? ⟨g, 6, none⟩ = some v6 :=
  ⟨below_drewN hB 1, h0, h1, h2, h3, h4, h5, h6⟩
theorem keepB {B w w' : World} {g : Nat} {v0 v1 v2 v3 v4 v5 v6 : Value} (hb : Below w.heap.size w w') (hB : Below B.heap.size B w) (h0 : w.cell? ⟨g, 0, none⟩ = some v0) (h1 : w.cell? ⟨g, 1, none⟩ = some v1) (h2 : w.cell? ⟨g, 2, none⟩ = some v2) (h3 : w.cell? ⟨g, 3, none⟩ = some v3)
    (h4 : w.cell? ⟨g, 4, none⟩ = some v4) (h5 : w.cell? ⟨g, 5, none⟩ = some v5) (h6 : w.cell? ⟨g, 6, none⟩ = some v6) :
    Below B.heap.size B w' ∧ w'.cell? ⟨g, 0, none⟩ = some v0 ∧ w'.cell? ⟨g, 1, none⟩ = some v1 ∧ w'.cell? ⟨g, 2, none⟩ = some v2 ∧ w'.cell? ⟨g, 3, none⟩ = some v3 ∧ w'.cell? ⟨g, 4, none⟩ = some v4 ∧ w'.cell? ⟨g, 5, none⟩ = some v5 ∧ w'.cell? ⟨g, 6, none⟩ = some v6 := by
  have hlt : g < w.heap.size := World.block_lt_of_cell? w _ h0
  exact ⟨bch hB hb, (hb.cell hlt).trans h0, (hb.cell hlt).trans h1, (hb.cell hlt).trans h2, (hb.cell hlt).trans h3, (hb.cell hlt).trans h4, (hb.cell hlt).trans h5, (hb.cell hlt).trans h6⟩

theorem keepC {B w w' : World} {g : Nat} {v0 v1 v2 v3 v4 v5 v6 : Value} (hb : Below w.drew.heap.size w.drew w') (hB : Below B.heap.size B w) (h0 : w.cell? ⟨g, 0, none⟩ = some v0) (h1 : w.cell? ⟨g, 1, none⟩ = some v1) (h2 : w.cell? ⟨g, 2, none⟩ = some v2) (h3 : w.cell? ⟨g, 3, none⟩ = some v3)
    (h4 : w.cell? ⟨g, 4, none⟩ = some v4) (h5 : w.cell? ⟨g, 5, none⟩ = some v5) (h6 : w.cell? ⟨g, 6, none⟩ = some v6) :
    Below B.heap.size B w' ∧ w'.cell? ⟨g, 0, none⟩ = some v0 ∧ w'.cell? ⟨g, 1, none⟩ = some v1 ∧ w'.cell? ⟨g, 2, none⟩ = some v2 ∧ w'.cell? ⟨g, 3, none⟩ = some v3 ∧ w'.cell? ⟨g, 4, none⟩ = some v4 ∧ w'.cell? ⟨g, 5, none⟩ = some v5 ∧ w'.cell? ⟨g, 6, none⟩ = some v6 :=
  keepB hb (below_drewN hB 1) h0 h1 h2 h3 h4 h5 h6

/-- Two rows that differ in three fields at most, compared. -/
theorem eql_row (s : ByteArray) (f b c r o i r' o' i' : Int) (w : World) : (binOp .eql 82 (.agg #[.string s, .int .i64 f, .int .i64 b, .int .u8 c, .int .i64 r', .int .i64 o', .int .i64 i']) (.agg #[.string s, .int .i64 f, .int .i64 b, .int .u8 c, .int .i64 r, .int .i64 o, .int .i64 i])).run Tryd.prog w =
    .ok (.bool ((r' == r) && (o' == o) && (i' == i))) w := by
  have hp : Tryd.prog.stoodInHeld 82 = false := by kernel_rfl
  have a9 : ∀ w, (isAgg 9).run Tryd.prog w = .ok false w := fun w => by kernel_rfl
  have a3 : ∀ w, (isAgg 3).run Tryd.prog w = .ok false w := fun w => by kernel_rfl
  have a5 : ∀ w, (isAgg 5).run Tryd.prog w = .ok false w := fun w => by kernel_rfl
  simp [go_sem, hp, Tryd.underlying82, Tryd.underlying9, Tryd.underlying3, Tryd.underlying5, part, a9, a3, a5]
  cases e1 : (r' == r) <;> cases e2 : (o' == o) <;> cases e3 : (i' == i) <;> simp_all

theorem hit_is {code src off imm : Int} {k : Nat} {s : ByteArray} {f b c r o i : Int} {t b8 bc sm : Bool} (h : Is k s f b c r o i) (ht : isR f = t) (h8 : (code == (c + 8) % 256) = b8) (hc : (code == c) = bc)
    (hs : ((wiR f src r == r) && (wiO f off o == o) && (wiI f imm i == i)) = sm) {n : Nat} {R : Int × Bool × Bool} (hR : idF code src off imm (n + 1) k = R) :
    R = if ((t && b8) || bc) && sm then ((k : Int), (t && b8), true) else idF code src off imm n (k + 1) := by
  obtain ⟨rfl, rfl, rfl, rfl, rfl, rfl, rfl⟩ := h
  subst ht h8 hc hs
  exact hR.symm

set_option maxHeartbeats 1000000 in
set_option maxRecDepth 100000 in
theorem ident_any (code src off imm : Int) (w : World) : Calls Tryd.prog 40 #[.int .u8 code, .int .i64 src, .int .i64 off, .int .i64 imm] w fun e w' =>
    e = .returned (.tuple #[.int .i64 (idF code src off imm 86 0).1, .bool (idF code src off imm 86 0).2.1, .bool (idF code src off imm 86 0).2.2]) ∧ Below w.heap.size w w' := by
  obtain ⟨R, hR⟩ : ∃ R, idF code src off imm 86 0 = R := ⟨_, rfl⟩
  have HR := Lib.hid hR
  rw [hR]
  clear hR
  go_enter Tryd.func40, Tryd.ntmps40
  go_wp2
  go_loopw [14] (fun i wr => ∃ k : Nat, k ≤ 86 ∧ i = .int .i64 k ∧ Below w.heap.size w wr ∧ Hid (idF code src off imm (86 - k) k = R)) (fun i _ => 86 - (intOf i).toNat)
  case atStart => exact ⟨0, by omega, rfl, Below.refl _ _, HR⟩
  case round =>
    obtain ⟨k, hk, rfl, hnx, hQ⟩ := hrel
    by_cases hlt : k < 86
    · obtain ⟨s, f, b, c, r, o, i, hI⟩ := Is.some k
      obtain ⟨t, ht⟩ : ∃ t, isR f = t := ⟨_, rfl⟩
      obtain ⟨b8, h8⟩ : ∃ b8, (code == (c + 8) % 256) = b8 := ⟨_, rfl⟩
      obtain ⟨bc, hbc⟩ : ∃ bc, (code == c) = bc := ⟨_, rfl⟩
      obtain ⟨sm, hsm⟩ : ∃ sm, ((wiR f src r == r) && (wiO f off o == o) && (wiI f imm i == i)) = sm := ⟨_, rfl⟩
      have HI : Hid (Is (ix (k : Int)) s f b c r o i) := Lib.hid (by rw [ix_nat hlt]; exact hI)
      have HK : Hid (decide (ix (k : Int) < 86) = true) := Lib.hid (by rw [ix_nat hlt]; exact decide_eq_true hlt)
      have HT := Lib.hid ht
      have HL := Lib.hid hlt
      have HG := Lib.hid (hit_is hI ht h8 hbc hsm (n := 86 - (k + 1)) (R := R) (by rw [← hQ.out, show 86 - k = 86 - (k + 1) + 1 by omega]))
      clear hI ht
      obtain ⟨r', hr'⟩ : ∃ r', wiR f src r = r' := ⟨_, rfl⟩
      obtain ⟨o', ho'⟩ : ∃ o', wiO f off o = o' := ⟨_, rfl⟩
      obtain ⟨i', hi'⟩ : ∃ i', wiI f imm i = i' := ⟨_, rfl⟩
      rw [hr', ho', hi'] at hsm
      have hq : ∀ w : World, (binOp .eql 82 (.agg #[.string s, .int .i64 f, .int .i64 b, .int .u8 c, .int .i64 r', .int .i64 o', .int .i64 i']) (.agg #[.string s, .int .i64 f, .int .i64 b, .int .u8 c, .int .i64 r, .int .i64 o, .int .i64 i])).run Tryd.prog w = .ok (.bool sm) w := fun w => by rw [eql_row, hsm]
      have HR' := Lib.hid hr'
      have HO' := Lib.hid ho'
      have HI' := Lib.hid hi'
      clear hr' ho' hi' hsm
      cases t
      · clear h8
        cases bc
        · have HN : Hid (idF code src off imm (86 - (k + 1)) (k + 1) = R) := Lib.hid (by rw [HG.out]; rfl)
          go_wp2_with (first | (go_at_call 49; ((with_reducible refine (at_is (k : Int) _ HI.out HK.out).mono ?_); rintro e w1 ⟨rfl, hb1⟩)) | (go_at_call 50; ((with_reducible refine (takes_at _ _ _ _ _ _ _ _ _ HT.out).mono ?_); rintro e w2 ⟨rfl, rfl⟩)))
          go_quiet (fail)
          go_wp2
          go_roundw
          case rel => exact ⟨k + 1, HL.out, by go_num, below_drewN (bch (bch hnx hb1) (bch (bnew _ _) (bnew _ _))) _, HN⟩
          case measure => simp [intOf]; omega
        · go_wp2_with (first | (go_at_call 49; ((with_reducible refine (at_is (k : Int) _ HI.out HK.out).mono ?_); rintro e w1 ⟨rfl, hb1⟩)) | (go_at_call 50; ((with_reducible refine (takes_at _ _ _ _ _ _ _ _ _ HT.out).mono ?_); rintro e w2 ⟨rfl, rfl⟩)))
          generalize hW : World.alloc _ _ = W
          have hb2 : Below w.heap.size w W := by rw [← hW]; exact bch (bch hnx hb1) (bch (bnew _ _) (bnew _ _))
          have hc : ∀ j v, #[Value.string s, Value.int .i64 f, Value.int .i64 b, Value.int .u8 c, Value.int .i64 r, Value.int .i64 o, Value.int .i64 i][j]? = some v → W.cell? ⟨w1.heap.size, j, none⟩ = some v := by
            intro j v hj
            rw [← hW]
            refine (World.cell?_alloc_past _ _ _ (by simp)).trans ((World.cell?_alloc_at _ _ _ _ rfl).trans ?_)
            exact hj
          have h0 : W.cell? ⟨w1.heap.size, 0, none⟩ = some (.string s) := hc 0 _ rfl
          have h1 : W.cell? ⟨w1.heap.size, 1, none⟩ = some (.int .i64 f) := hc 1 _ rfl
          have h2 : W.cell? ⟨w1.heap.size, 2, none⟩ = some (.int .i64 b) := hc 2 _ rfl
          have h3 : W.cell? ⟨w1.heap.size, 3, none⟩ = some (.int .u8 c) := hc 3 _ rfl
          have h4 : W.cell? ⟨w1.heap.size, 4, none⟩ = some (.int .i64 r) := hc 4 _ rfl
          have h5 : W.cell? ⟨w1.heap.size, 5, none⟩ = some (.int .i64 o) := hc 5 _ rfl
          have h6 : W.cell? ⟨w1.heap.size, 6, none⟩ = some (.int .i64 i) := hc 6 _ rfl
          obtain ⟨g, hg⟩ : ∃ g, g = w1.heap.size := ⟨_, rfl⟩
          rw [← hg] at h0 h1 h2 h3 h4 h5 h6 ⊢
          have hbW : Below W.heap.size W W := Below.refl _ _
          clear hc hW hb1 hg
          go_region_held3 (fun w' => Below W.heap.size W w' ∧ w'.cell? ⟨g, 0, none⟩ = some (.string s) ∧ w'.cell? ⟨g, 1, none⟩ = some (.int .i64 f) ∧ w'.cell? ⟨g, 2, none⟩ = some (.int .i64 b) ∧ w'.cell? ⟨g, 3, none⟩ = some (.int .u8 c) ∧ w'.cell? ⟨g, 4, none⟩ = some (.int .i64 r) ∧ w'.cell? ⟨g, 5, none⟩ = some (.int .i64 o) ∧ w'.cell? ⟨g, 6, none⟩ = some (.int .i64 i)) (first | exact keepD (by assumption) (by assumption) (by assumption) (by assumption) (by assumption) (by assumption) (by assumption) (by assumption) | exact keepC hb3 (by assumption) (by assumption) (by assumption) (by assumption) (by assumption) (by assumption) (by assumption) (by assumption) | exact keepB hb3 (by assumption) (by assumption) (by assumption) (by assumption) (by assumption) (by assumption) (by assumption) (by assumption))
            (first | (go_at_call 57; ((with_reducible refine (with_at _ _ _ _ _ _ _ _ _ _ _ _ _ _ HR'.out HO'.out HI'.out).mono ?_); rintro e w3 ⟨rfl, hb3⟩)))
          rename_i hh
          have hb4 := bch hb2 hh.1
          clear hh hb3 h0 h1 h2 h3 h4 h5 h6 hbW
          cases sm
          · have HN : Hid (idF code src off imm (86 - (k + 1)) (k + 1) = R) := Lib.hid (by rw [HG.out]; rfl)
            go_wp2
            go_roundw
            case rel => exact ⟨k + 1, HL.out, by go_num, hb4, HN⟩
            case measure => simp [intOf]; omega
          · go_wp2
            go_ret3
            exact ⟨by rw [HG.out] <;> rfl, hb4⟩
      · cases b8
        · cases bc
          · have HN : Hid (idF code src off imm (86 - (k + 1)) (k + 1) = R) := Lib.hid (by rw [HG.out]; rfl)
            go_wp2_with (first | (go_at_call 49; ((with_reducible refine (at_is (k : Int) _ HI.out HK.out).mono ?_); rintro e w1 ⟨rfl, hb1⟩)) | (go_at_call 50; ((with_reducible refine (takes_at _ _ _ _ _ _ _ _ _ HT.out).mono ?_); rintro e w2 ⟨rfl, rfl⟩)))
            go_quiet (fail)
            go_wp2
            go_roundw
            case rel => exact ⟨k + 1, HL.out, by go_num, below_drewN (bch (bch hnx hb1) (bch (bnew _ _) (bnew _ _))) _, HN⟩
            case measure => simp [intOf]; omega
          · go_wp2_with (first | (go_at_call 49; ((with_reducible refine (at_is (k : Int) _ HI.out HK.out).mono ?_); rintro e w1 ⟨rfl, hb1⟩)) | (go_at_call 50; ((with_reducible refine (takes_at _ _ _ _ _ _ _ _ _ HT.out).mono ?_); rintro e w2 ⟨rfl, rfl⟩)))
            generalize hW : World.alloc _ _ = W
            have hb2 : Below w.heap.size w W := by rw [← hW]; exact bch (bch hnx hb1) (bch (bnew _ _) (bnew _ _))
            have hc : ∀ j v, #[Value.string s, Value.int .i64 f, Value.int .i64 b, Value.int .u8 c, Value.int .i64 r, Value.int .i64 o, Value.int .i64 i][j]? = some v → W.cell? ⟨w1.heap.size, j, none⟩ = some v := by
              intro j v hj
              rw [← hW]
              refine (World.cell?_alloc_past _ _ _ (by simp)).trans ((World.cell?_alloc_at _ _ _ _ rfl).trans ?_)
              exact hj
            have h0 : W.cell? ⟨w1.heap.size, 0, none⟩ = some (.string s) := hc 0 _ rfl
            have h1 : W.cell? ⟨w1.heap.size, 1, none⟩ = some (.int .i64 f) := hc 1 _ rfl
            have h2 : W.cell? ⟨w1.heap.size, 2, none⟩ = some (.int .i64 b) := hc 2 _ rfl
            have h3 : W.cell? ⟨w1.heap.size, 3, none⟩ = some (.int .u8 c) := hc 3 _ rfl
            have h4 : W.cell? ⟨w1.heap.size, 4, none⟩ = some (.int .i64 r) := hc 4 _ rfl
            have h5 : W.cell? ⟨w1.heap.size, 5, none⟩ = some (.int .i64 o) := hc 5 _ rfl
            have h6 : W.cell? ⟨w1.heap.size, 6, none⟩ = some (.int .i64 i) := hc 6 _ rfl
            obtain ⟨g, hg⟩ : ∃ g, g = w1.heap.size := ⟨_, rfl⟩
            rw [← hg] at h0 h1 h2 h3 h4 h5 h6 ⊢
            have hbW : Below W.heap.size W W := Below.refl _ _
            clear hc hW hb1 hg
            go_region_held3 (fun w' => Below W.heap.size W w' ∧ w'.cell? ⟨g, 0, none⟩ = some (.string s) ∧ w'.cell? ⟨g, 1, none⟩ = some (.int .i64 f) ∧ w'.cell? ⟨g, 2, none⟩ = some (.int .i64 b) ∧ w'.cell? ⟨g, 3, none⟩ = some (.int .u8 c) ∧ w'.cell? ⟨g, 4, none⟩ = some (.int .i64 r) ∧ w'.cell? ⟨g, 5, none⟩ = some (.int .i64 o) ∧ w'.cell? ⟨g, 6, none⟩ = some (.int .i64 i)) (first | exact keepD (by assumption) (by assumption) (by assumption) (by assumption) (by assumption) (by assumption) (by assumption) (by assumption) | exact keepC hb3 (by assumption) (by assumption) (by assumption) (by assumption) (by assumption) (by assumption) (by assumption) (by assumption) | exact keepB hb3 (by assumption) (by assumption) (by assumption) (by assumption) (by assumption) (by assumption) (by assumption) (by assumption))
              (first | (go_at_call 57; ((with_reducible refine (with_at _ _ _ _ _ _ _ _ _ _ _ _ _ _ HR'.out HO'.out HI'.out).mono ?_); rintro e w3 ⟨rfl, hb3⟩)))
            rename_i hh
            have hb4 := bch hb2 hh.1
            clear hh hb3 h0 h1 h2 h3 h4 h5 h6 hbW
            cases sm
            · have HN : Hid (idF code src off imm (86 - (k + 1)) (k + 1) = R) := Lib.hid (by rw [HG.out]; rfl)
              go_wp2
              go_roundw
              case rel => exact ⟨k + 1, HL.out, by go_num, hb4, HN⟩
              case measure => simp [intOf]; omega
            · go_wp2
              go_ret3
              exact ⟨by rw [HG.out] <;> rfl, hb4⟩
        · go_wp2_with (first | (go_at_call 49; ((with_reducible refine (at_is (k : Int) _ HI.out HK.out).mono ?_); rintro e w1 ⟨rfl, hb1⟩)) | (go_at_call 50; ((with_reducible refine (takes_at _ _ _ _ _ _ _ _ _ HT.out).mono ?_); rintro e w2 ⟨rfl, rfl⟩)))
          generalize hW : World.alloc _ _ = W
          have hb2 : Below w.heap.size w W := by rw [← hW]; exact bch (bch hnx hb1) (bch (bnew _ _) (bnew _ _))
          have hc : ∀ j v, #[Value.string s, Value.int .i64 f, Value.int .i64 b, Value.int .u8 c, Value.int .i64 r, Value.int .i64 o, Value.int .i64 i][j]? = some v → W.cell? ⟨w1.heap.size, j, none⟩ = some v := by
            intro j v hj
            rw [← hW]
            refine (World.cell?_alloc_past _ _ _ (by simp)).trans ((World.cell?_alloc_at _ _ _ _ rfl).trans ?_)
            exact hj
          have h0 : W.cell? ⟨w1.heap.size, 0, none⟩ = some (.string s) := hc 0 _ rfl
          have h1 : W.cell? ⟨w1.heap.size, 1, none⟩ = some (.int .i64 f) := hc 1 _ rfl
          have h2 : W.cell? ⟨w1.heap.size, 2, none⟩ = some (.int .i64 b) := hc 2 _ rfl
          have h3 : W.cell? ⟨w1.heap.size, 3, none⟩ = some (.int .u8 c) := hc 3 _ rfl
          have h4 : W.cell? ⟨w1.heap.size, 4, none⟩ = some (.int .i64 r) := hc 4 _ rfl
          have h5 : W.cell? ⟨w1.heap.size, 5, none⟩ = some (.int .i64 o) := hc 5 _ rfl
          have h6 : W.cell? ⟨w1.heap.size, 6, none⟩ = some (.int .i64 i) := hc 6 _ rfl
          obtain ⟨g, hg⟩ : ∃ g, g = w1.heap.size := ⟨_, rfl⟩
          rw [← hg] at h0 h1 h2 h3 h4 h5 h6 ⊢
          have hbW : Below W.heap.size W W := Below.refl _ _
          clear hc hW hb1 hg
          refine wp_region_held_drew (S := (fun w' => Below W.heap.size W w' ∧ w'.cell? ⟨g, 0, none⟩ = some (.string s) ∧ w'.cell? ⟨g, 1, none⟩ = some (.int .i64 f) ∧ w'.cell? ⟨g, 2, none⟩ = some (.int .i64 b) ∧ w'.cell? ⟨g, 3, none⟩ = some (.int .u8 c) ∧ w'.cell? ⟨g, 4, none⟩ = some (.int .i64 r) ∧ w'.cell? ⟨g, 5, none⟩ = some (.int .i64 o) ∧ w'.cell? ⟨g, 6, none⟩ = some (.int .i64 i))) (by kernel_rfl) (keepD hbW h0 h1 h2 h3 h4 h5 h6) (fun hH => ?_)
          refine wpAnyH_take (i := 0) (oi := ⟨some 31, .move (.tmp 9), _, _, _, none⟩) (v := .bool true) rfl (by kernel_rfl) (by kernel_rfl) (by kernel_rfl) (fun _ _ _ h => h) (Or.inl ⟨by rfl, fun wS hS => by rfl⟩) hH ?_
          simp only [Act.put, List.setIfInBounds_toArray, List.set_cons_zero, List.set_cons_succ]
          refine wpAnyH_take (i := 1) (oi := ⟨some 32, .move (.tmp 31), _, _, _, none⟩) (v := .bool true) rfl (by kernel_rfl) (by kernel_rfl) (by kernel_rfl) (fun _ _ _ h => h) (Or.inl ⟨by rfl, fun wS hS => by rfl⟩) hH ?_
          simp only [Act.put, List.setIfInBounds_toArray, List.set_cons_zero, List.set_cons_succ]
          refine wpAnyH_take (i := 2) (oi := ⟨some 33, .move (.tmp 0), _, _, _, some (1, false)⟩) (v := undef) rfl (by kernel_rfl) (by kernel_rfl) (by kernel_rfl) (fun _ _ _ h => h) (Or.inr ⟨by rfl, rfl⟩) hH ?_
          simp only [Act.put, List.setIfInBounds_toArray, List.set_cons_zero, List.set_cons_succ]
          refine wpAnyH_take (i := 3) (oi := ⟨some 34, .fieldAddr 82 (.tmp 12) 3, _, _, _, some (1, false)⟩) (v := undef) rfl (by kernel_rfl) (by kernel_rfl) (by kernel_rfl) (fun _ _ _ h => h) (Or.inr ⟨by rfl, rfl⟩) hH ?_
          simp only [Act.put, List.setIfInBounds_toArray, List.set_cons_zero, List.set_cons_succ]
          refine wpAnyH_take (i := 4) (oi := ⟨some 35, .load 5 (.tmp 34), _, _, _, some (1, false)⟩) (v := undef) rfl (by kernel_rfl) (by kernel_rfl) (by kernel_rfl) (fun _ _ _ h => h) (Or.inr ⟨by rfl, rfl⟩) hH ?_
          simp only [Act.put, List.setIfInBounds_toArray, List.set_cons_zero, List.set_cons_succ]
          refine wpAnyH_take (i := 5) (oi := ⟨some 36, .binOp .eql 5 (.tmp 33) (.tmp 35) 5, _, _, _, some (1, false)⟩) (v := undef) rfl (by kernel_rfl) (by kernel_rfl) (by kernel_rfl) (fun _ _ _ h => h) (Or.inr ⟨by rfl, rfl⟩) hH ?_
          simp only [Act.put, List.setIfInBounds_toArray, List.set_cons_zero, List.set_cons_succ]
          refine wpAnyH_take (i := 6) (oi := ⟨some 37, .pick (.tmp 32) (.const (.bool true)) (.tmp 36), _, _, _, none⟩) (v := .bool true) rfl (by kernel_rfl) (by kernel_rfl) (by kernel_rfl) (fun _ _ _ h => h) (Or.inl ⟨by rfl, fun wS hS => by rfl⟩) hH ?_
          simp only [Act.put, List.setIfInBounds_toArray, List.set_cons_zero, List.set_cons_succ]
          refine wpAnyH_take (i := 7) (oi := ⟨some 38, .move (.tmp 37), _, _, _, none⟩) (v := .bool true) rfl (by kernel_rfl) (by kernel_rfl) (by kernel_rfl) (fun _ _ _ h => h) (Or.inl ⟨by rfl, fun wS hS => by rfl⟩) hH ?_
          simp only [Act.put, List.setIfInBounds_toArray, List.set_cons_zero, List.set_cons_succ]
          refine wpAnyH_take (i := 8) (oi := ⟨some 39, .load 82 (.tmp 12), _, _, _, some (7, true)⟩) (v := (.agg #[.string s, .int .i64 f, .int .i64 b, .int .u8 c, .int .i64 r, .int .i64 o, .int .i64 i])) rfl (by kernel_rfl) (by kernel_rfl) (by kernel_rfl) (fun _ _ _ h => h) (Or.inl ⟨by rfl, fun wS hS => (by obtain ⟨_, k0, k1, k2, k3, k4, k5, k6⟩ := hS; go_simp)⟩) hH ?_
          simp only [Act.put, List.setIfInBounds_toArray, List.set_cons_zero, List.set_cons_succ]
          refine wpAnyH_take (i := 9) (oi := ⟨some 40, .move (.tmp 1), _, _, _, some (7, true)⟩) (v := .int .i64 src) rfl (by kernel_rfl) (by kernel_rfl) (by kernel_rfl) (fun _ _ _ h => h) (Or.inl ⟨by rfl, fun wS hS => by rfl⟩) hH ?_
          simp only [Act.put, List.setIfInBounds_toArray, List.set_cons_zero, List.set_cons_succ]
          refine wpAnyH_take (i := 10) (oi := ⟨some 41, .move (.tmp 2), _, _, _, some (7, true)⟩) (v := .int .i64 off) rfl (by kernel_rfl) (by kernel_rfl) (by kernel_rfl) (fun _ _ _ h => h) (Or.inl ⟨by rfl, fun wS hS => by rfl⟩) hH ?_
          simp only [Act.put, List.setIfInBounds_toArray, List.set_cons_zero, List.set_cons_succ]
          refine wpAnyH_take (i := 11) (oi := ⟨some 42, .move (.tmp 3), _, _, _, some (7, true)⟩) (v := .int .i64 imm) rfl (by kernel_rfl) (by kernel_rfl) (by kernel_rfl) (fun _ _ _ h => h) (Or.inl ⟨by rfl, fun wS hS => by rfl⟩) hH ?_
          simp only [Act.put, List.setIfInBounds_toArray, List.set_cons_zero, List.set_cons_succ]
          refine wpAnyH_take (i := 13) (oi := ⟨some 44, .load 82 (.tmp 12), _, _, _, some (7, true)⟩) (v := (.agg #[.string s, .int .i64 f, .int .i64 b, .int .u8 c, .int .i64 r, .int .i64 o, .int .i64 i])) rfl (by kernel_rfl) (by kernel_rfl) (by kernel_rfl) (fun _ _ _ h => h) (Or.inl ⟨by rfl, fun wS hS => (by obtain ⟨_, k0, k1, k2, k3, k4, k5, k6⟩ := hS; go_simp)⟩) hH ?_
          simp only [Act.put, List.setIfInBounds_toArray, List.set_cons_zero, List.set_cons_succ]
          refine wpAnyH_ready (rs := [12]) (by kernel_rfl) (by simp) ?_
          refine AllReadyH.cons (o := ⟨some 43, .call ⟨.value (.func 57), #[.tmp 39, .tmp 40, .tmp 41, .tmp 42], #[82, 3, 3, 3]⟩, _, _, _, some (7, true)⟩) rfl (fun K hK => ?_) AllReadyH.nil
          go_simp
          refine (with_at _ _ _ _ _ _ _ _ _ _ _ _ _ _ HR'.out HO'.out HI'.out).mono ?_
          rintro e w3 ⟨rfl, hb3⟩
          refine hK.out _ _ (keepC hb3 hbW h0 h1 h2 h3 h4 h5 h6) (fun hH2 => ?_)
          clear hK K hH
          refine wpAnyH_take (i := 14) (oi := ⟨some 45, .binOp .eql 82 (.tmp 43) (.tmp 44) 82, _, _, _, some (7, true)⟩) (v := .bool sm) rfl (by kernel_rfl) (by kernel_rfl) (by kernel_rfl) (fun _ _ _ h => h) (Or.inl ⟨by rfl, fun wS hS => (by go_simp)⟩) hH2 ?_
          simp only [Act.put, List.setIfInBounds_toArray, List.set_cons_zero, List.set_cons_succ]
          refine wpAnyH_take (i := 15) (oi := ⟨some 46, .pick (.tmp 38) (.tmp 45) (.const (.bool false)), _, _, _, none⟩) (v := .bool sm) rfl (by kernel_rfl) (by kernel_rfl) (by kernel_rfl) (fun _ _ _ h => h) (Or.inl ⟨by rfl, fun wS hS => by rfl⟩) hH2 ?_
          simp only [Act.put, List.setIfInBounds_toArray, List.set_cons_zero, List.set_cons_succ]
          refine wpAnyH_done (by kernel_rfl) ?_ _
          have hb4 := bch hb2 hH2.1
          clear hH2 hb3 h0 h1 h2 h3 h4 h5 h6 hbW
          cases sm
          · have HN : Hid (idF code src off imm (86 - (k + 1)) (k + 1) = R) := Lib.hid (by rw [HG.out]; rfl)
            go_wp2
            go_roundw
            case rel => exact ⟨k + 1, HL.out, by go_num, hb4, HN⟩
            case measure => simp [intOf]; omega
          · go_wp2
            go_ret3
            exact ⟨by rw [HG.out] <;> rfl, hb4⟩
    · go_wp2
      go_ret3
      have hR : idF code src off imm 0 k = R := by have := hQ.out; rwa [show 86 - k = 0 by omega] at this
      exact ⟨by rw [← hR] <;> rfl, hnx⟩
end Go.Proofs.YthebdblncafijaaDoor.L3
