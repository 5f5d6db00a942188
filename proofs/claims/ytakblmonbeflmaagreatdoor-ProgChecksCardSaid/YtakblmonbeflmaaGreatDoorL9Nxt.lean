/- What the program's reader returns: the next operand, with its sign, and what is left. Condition: memory holds the reader and its tokens, and a word is left. -/
import Derived.Test.YtakblmonbeflmaaGreatDoorL9Val
import Derived.Test.YtakblmonbeflmaaGreatDoorM10
namespace Go.Proofs.YtakblmonbeflmaaGreatDoor.L9
open Go.RowKit
attribute [local go_sem] Oper.semAt_some

theorem cells9 {w : World} {k : Nat} {a b c d e f g h i : Value} {t : TypeId} (hh : w.heap[k]? = some (.cells #[a, b, c, d, e, f, g, h, i] t)) :
    w.cell? ⟨k, 0, none⟩ = some a ∧ w.cell? ⟨k, 1, none⟩ = some b ∧ w.cell? ⟨k, 2, none⟩ = some c ∧ w.cell? ⟨k, 3, none⟩ = some d ∧ w.cell? ⟨k, 4, none⟩ = some e ∧ w.cell? ⟨k, 5, none⟩ = some f ∧ w.cell? ⟨k, 6, none⟩ = some g ∧ w.cell? ⟨k, 7, none⟩ = some h ∧ w.cell? ⟨k, 8, none⟩ = some i := by
  simp [World.cell?, hh]
/-- The cells of a reader. -/
abbrev rdC (v : Value) (x : Ins) (tg mp : ByteArray) : Array Value := #[v, .int .i64 x.op, .bool x.reg, .int .i64 x.dst, .int .i64 x.src, .int .i64 x.off, .int .i64 x.imm, .string tg, .string mp]
/-- Memory holds a reader: its block, and the tokens that are left. -/
def RdAt (B g : Nat) (w : World) (s : St) : Prop := ∃ (b o n cap : Nat) (xs : L8.Tks), b < B ∧ B ≤ g ∧ n ≤ cap ∧ xs.length = n ∧ n ≤ 100000 ∧ txs xs = s.rest ∧ (∀ t ∈ s.rest, t.size ≤ 100000) ∧ L8.Tksat w b o xs ∧ w.heap[g]? = some (.cells (rdC (.slice (some ⟨b, o, none⟩) n cap) s.x s.tg s.mp) 166)
theorem gr_refl (w : World) (r : Option Nat) : w.grownBy w r := ⟨rfl, rfl, rfl, Nat.le_refl _, fun _ _ _ => rfl⟩
theorem gr_trans {a b c : World} {g : Nat} (h : a.grownBy b (some g)) (k : b.grownBy c (some g)) : a.grownBy c (some g) :=
  ⟨k.os.trans h.os, k.tape.trans h.tape, k.output.trans h.output, Nat.le_trans h.size k.size, fun i hi hn => (k.block i (Nat.lt_of_lt_of_le hi h.size) hn).trans (h.block i hi hn)⟩
theorem gr_below {a b : World} {g : Nat} (h : Below a.heap.size a b) : a.grownBy b (some g) := ⟨h.os, h.tape, h.output, h.size, fun i hi _ => h.block i hi⟩
theorem gr_set {a b : World} {g : Nat} (h : a.grownBy b (some g)) (i : Nat) (v : Value) : a.grownBy (b.setCell ⟨g, i, none⟩ v) (some g) :=
  gr_trans h ⟨rfl, rfl, rfl, by simp [World.setCell], fun k _ hn => Below.heap_setCell _ _ _ _ (by simpa using hn)⟩
theorem tks_gr {a b : World} {g k o : Nat} {xs : L8.Tks} (h : L8.Tksat a k o xs) (hk : k ≠ g) (hl : k < a.heap.size) (hg : a.grownBy b (some g)) : L8.Tksat b k o xs :=
  fun j hj => ⟨(World.cell?_of_block (hg.block k hl (by simpa using hk))).trans (h j hj).1, (World.cell?_of_block (hg.block k hl (by simpa using hk))).trans (h j hj).2⟩
/-- A slice's rest. -/
theorem sub_from (k o n cap a : Nat) (h : a ≤ n) (hc : n ≤ cap) (w : World) :
    (Instr.slice 126 (.slice (some ⟨k, o, none⟩) n cap) (some (.int .i64 (a : Int))) none none).run Tryz.prog w = .ok (.slice (some ⟨k, if cap = a then o else o + a * 2, none⟩) (n - a) (cap - a)) w := by
  have h2 : a ≤ cap := by omega
  by_cases hq : cap = a <;> simp [go_sem, Tryz.underlying126, h, hq]
theorem tks_from {w : World} {b o n cap a : Nat} {xs : L8.Tks} (hx : L8.Tksat w b o xs) (hn : xs.length = n) (hc : n ≤ cap) (ha : a ≤ n) : L8.Tksat w b (if cap = a then o else o + a * 2) (xs.drop a) := by
  intro j hj
  rw [List.length_drop, hn] at hj
  rw [if_neg (by omega)]
  have := hx (a + j) (by omega)
  rw [show o + a * 2 + j * 2 = o + (a + j) * 2 by omega]
  simpa using this
/-- The sign and the places of marks. -/
theorem nx_step (sg : ByteArray) (l : List ByteArray) (j : Nat) (h : j < l.length) : nx sg (l.drop j) = if brk l[j] then nx (if l[j] = tMin then tMin else sg) (l.drop (j + 1)) else (sg ++ l[j], l.drop (j + 1)) := by
  rw [List.drop_eq_getElem_cons h, nx]
theorem hasW_drop (l : List ByteArray) (j : Nat) (h : j < l.length) : hasW (l.drop j) = (!brk l[j] || hasW (l.drop (j + 1))) := by
  rw [List.drop_eq_getElem_cons h]; rfl
set_option maxHeartbeats 4000000 in
set_option maxRecDepth 100000 in
theorem next_at (B g : Nat) (s : St) (w : World) (h : RdAt B g w s) (hw : hasW s.rest = true) (p : ByteArray) (q : List ByteArray) (hp : nx eB s.rest = (p, q)) :
    Calls Tryz.prog 157 #[.pointer (some ⟨g, 0, none⟩)] w fun e w' => e = .returned (.string p) ∧ RdAt B g w' ⟨q, s.x, s.tg, s.mp⟩ ∧ w.grownBy w' (some g) := by
  obtain ⟨b, o, n, cap, xs, hbB, hBg, hcp, hn, hm, htx, hsz, hc, hr⟩ := h
  have hgl := lt_of_block hr
  have hbg : b ≠ g := by omega
  have hbl : b < w.heap.size := by omega
  rw [← htx] at hw hp
  have HC := Lib.hid hc
  have HN := Lib.hid hn
  have HTX := Lib.hid htx
  have HSZ := Lib.hid hsz
  have HP := Lib.hid hp
  have HR := Lib.hid hr
  obtain ⟨r0, r1, r2, r3, r4, r5, r6, r7, r8⟩ := cells9 hr
  clear r1 r2 r3 r4 r5 r6 r7 r8
  clear hc hn htx hsz hp hr
  go_enter Tryz.func157, Tryz.ntmps157
  go_wp2
  clear r0
  go_loopw [3, 11] (fun sv a wr => ∃ (j : Nat) (t : ByteArray), a = .int .i64 (j : Int) ∧ j ≤ n ∧ sv = .string t ∧ t.size ≤ 1 ∧ Hid (nx t ((txs xs).drop j) = (p, q)) ∧ Hid (hasW ((txs xs).drop j) = true) ∧ Below w.heap.size w wr) (fun _ a _ => n - (intOf a).toNat)
  case atStart => exact ⟨0, ⟨#[]⟩, rfl, Nat.zero_le _, rfl, by decide, HP, Lib.hid hw, Below.refl _ _⟩
  case round =>
    obtain ⟨j, t, rfl, hj, rfl, hts, hX, hW, hB⟩ := hrel
    have hlt : j < n := by
      by_cases hlt : j < n
      · exact hlt
      · have := hW.out
        rw [List.drop_eq_nil_of_le (by rw [txs, List.length_map, HN.out]; omega)] at this
        cases this
    have hjx : j < xs.length := by rw [HN.out]; exact hlt
    have hjt : j < (txs xs).length := by rw [txs, List.length_map]; exact hjx
    have hcw := HC.out.below hbl hB
    obtain ⟨c0, c1⟩ := hcw j hjx
    obtain ⟨T, hT⟩ : ∃ T, xs[j].1 = T := ⟨_, rfl⟩
    obtain ⟨P, hP⟩ : ∃ P, xs[j].2 = P := ⟨_, rfl⟩
    have hjT : (txs xs)[j] = T := by rw [← hT]; simp [txs]
    rw [hT] at c0
    rw [hP] at c1
    have hx1 := hX.out
    rw [nx_step t (txs xs) j hjt, hjT] at hx1
    have hw1 := hW.out
    rw [hasW_drop (txs xs) j hjt, hjT] at hw1
    have hTs : T.size ≤ 100000 := HSZ.out T (by rw [← HTX.out, ← hjT]; exact List.getElem_mem _)
    have hgw : wr.heap[g]? = some (.cells (rdC (.slice (some ⟨b, o, none⟩) n cap) s.x s.tg s.mp) 166) := (hB.block g hgl).trans HR.out
    obtain ⟨r0, r1, r2, r3, r4, r5, r6, r7, r8⟩ := cells9 hgw
    have fz := frozen_all hgw 0
    have hbs := hB.size
    have hg2 : g < wr.heap.size := by omega
    clear r1 r2 r3 r4 r5 r6 r7 r8 hT hP hjT hcw hX hW
    rcases brk_bits T with ⟨hk, ⟨hne, hbits⟩ | ⟨hmn, hbits⟩⟩ | ⟨hk, hbits⟩
    · have HX := Lib.hid (show nx t ((txs xs).drop (j + 1)) = (p, q) by rw [if_pos hk, if_neg hne] at hx1; exact hx1)
      have HW := Lib.hid (show hasW ((txs xs).drop (j + 1)) = true by rw [hk] at hw1; simpa using hw1)
      clear hx1 hw1 hk hne
      rcases hbits with ⟨t1, t2, t3, t4, t5⟩ | ⟨t1, t2, t3, t4, t5⟩ | ⟨t1, t2, t3, t4, t5⟩ | ⟨t1, t2, t3, t4, t5⟩
      all_goals
        go_wp2
        go_roundw
        case rel => exact ⟨j + 1, t, by go_num, by omega, rfl, hts, HX, HW, L2.bch hB (L8.bnew _ _)⟩
        case measure => simp [intOf]; omega
    · have HX := Lib.hid (show nx ⟨#[45]⟩ ((txs xs).drop (j + 1)) = (p, q) by rw [if_pos hk, if_pos hmn] at hx1; exact hx1)
      have HW := Lib.hid (show hasW ((txs xs).drop (j + 1)) = true by rw [hk] at hw1; simpa using hw1)
      clear hx1 hw1 hk hmn
      obtain ⟨t1, t2, t3, t4, t5⟩ := hbits
      go_wp2
      go_roundw
      case rel => exact ⟨j + 1, ⟨#[45]⟩, by go_num, by omega, rfl, by decide, HX, HW, L2.bch hB (L8.bnew _ _)⟩
      case measure => simp [intOf]; omega
    · have HX := Lib.hid (show (t ++ T, (txs xs).drop (j + 1)) = (p, q) by rw [if_neg (by rw [hk]; exact Bool.false_ne_true)] at hx1; exact hx1)
      clear hx1 hw1 hk
      obtain ⟨t1, t2, t3, t4, t5⟩ := hbits
      have hsl := sub_from b o n cap (j + 1) (by omega) hcp
      obtain ⟨o2, ho2⟩ : ∃ o2, (if cap = j + 1 then o else o + (j + 1) * 2) = o2 := ⟨_, rfl⟩
      rw [ho2] at hsl
      have HO := Lib.hid ho2
      clear ho2
      have q1 : t.size + T.size ≤ 9223372036854775807 := by omega
      have q2 : t.size + T.size ≤ maxLen := by unfold maxLen; omega
      rw [show ((j + 1 : Nat) : Int) = (j : Int) + 1 by omega] at hsl
      go_wp2
      go_ret
      have hX2 := HX.out
      obtain ⟨rfl, rfl⟩ : t ++ T = p ∧ (txs xs).drop (j + 1) = q := by cases hX2; exact ⟨rfl, rfl⟩
      have HG : ∀ u ob, w.grownBy ((wr.setCell ⟨g, 0, none⟩ u).alloc ob) (some g) := fun u ob => gr_trans (gr_set (gr_below hB) 0 u) (gr_below (L8.bnew _ ob))
      refine ⟨rfl, ⟨b, o2, n - (j + 1), cap - (j + 1), xs.drop (j + 1), hbB, hBg, by omega, by rw [List.length_drop, HN.out], by omega, by simp [txs], fun t ht => HSZ.out t (by rw [← HTX.out]; exact List.mem_of_mem_drop ht), ?_, ?_⟩, HG _ _⟩
      · rw [← HO.out]
        exact tks_gr (tks_from HC.out HN.out hcp (by omega)) hbg hbl (HG _ _)
      · exact row_up (row_set hgw 0 _) (L8.bnew _ _)
end Go.Proofs.YtakblmonbeflmaaGreatDoor.L9
