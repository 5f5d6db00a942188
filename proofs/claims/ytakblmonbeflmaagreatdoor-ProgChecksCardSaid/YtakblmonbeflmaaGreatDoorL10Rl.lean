/- What the reader's read does, a line at a time. Condition: memory holds the reader, the tables read as the program's text lays them, the line has at most 100000 bytes. -/
import Derived.Test.YtakblmonbeflmaaGreatDoorL10It
namespace Go.Proofs.YtakblmonbeflmaaGreatDoor.L10
open Go.RowKit Go.Maps
attribute [local go_sem] Oper.semAt_some

theorem ta1 (v : Value) (w : World) : (Instr.typeAssert (.iface 100 v) 98 100 true).run Tryz.prog w = .ok (.tuple #[v, .bool true]) w := by
  simp [Instr.typeAssert, go_sem]
theorem ta1m (v : Value) (w : World) : (Instr.typeAssert (.iface 103 v) 98 100 true).run Tryz.prog w = .ok (.tuple #[.agg #[.string ⟨#[]⟩], .bool false]) w := by
  simp [Instr.typeAssert, go_sem, Tryz.zeroValue100]
theorem ta1c (v : Value) (w : World) : (Instr.typeAssert (.iface 106 v) 98 100 true).run Tryz.prog w = .ok (.tuple #[.agg #[.string ⟨#[]⟩], .bool false]) w := by
  simp [Instr.typeAssert, go_sem, Tryz.zeroValue100]
theorem ta2 (v : Value) (w : World) : (Instr.typeAssert (.iface 103 v) 98 103 true).run Tryz.prog w = .ok (.tuple #[v, .bool true]) w := by
  simp [Instr.typeAssert, go_sem]
theorem ta2c (v : Value) (w : World) : (Instr.typeAssert (.iface 106 v) 98 103 true).run Tryz.prog w = .ok (.tuple #[.agg L9.dfZ, .bool false]) w := by
  simp [Instr.typeAssert, go_sem, Tryz.zeroValue103]
theorem ta3 (v : Value) (w : World) : (Instr.typeAssert (.iface 106 v) 98 106 true).run Tryz.prog w = .ok (.tuple #[v, .bool true]) w := by
  simp [Instr.typeAssert, go_sem]
theorem it_form {w : World} {v : Value} {l : List Value} {n : Nat} (hn : l.length = n) (h : L9.ItAt w v l) (ht : ∀ b, v.ownBlock = some b → ∃ cs, w.heap[b]? = some (.cells cs 98)) : ∃ a c, v = .slice a n c ∧ (0 < n → ∃ b o cs, a = some ⟨b, o, none⟩ ∧ w.heap[b]? = some (.cells cs 98) ∧ ∀ j, (h : j < l.length) → cs[o + j]? = some l[j]) := by
  subst hn
  rcases h with ⟨b, o, cap, rfl, hb, hc⟩ | ⟨rfl, a, cap, rfl⟩
  · obtain ⟨cs, hh⟩ := ht b rfl
    refine ⟨_, _, rfl, fun _ => ⟨b, o, cs, rfl, hh, fun j hj => ?_⟩⟩
    have := hc j hj
    unfold World.cell? at this
    rw [hh] at this
    exact this
  · exact ⟨a, cap, rfl, fun h => absurd h (by simp)⟩
/-- Some rows and the reader's. -/
def RdE (B kr : Nat) (W : World) (s : Rd) : Prop := ∃ l, RdM B kr W l s
theorem RdE.below {B kr : Nat} {W W' : World} {s : Rd} (h : RdE B kr W s) (hb : Below W.heap.size W W') : RdE B kr W' s := by
  obtain ⟨l, vm, vs, mv, sv, lv, hr, hR⟩ := h
  exact ⟨l, vm, vs, mv, sv, lv, L8.row_up hr hb, hR.below hb⟩
theorem addLabel_e (B kr : Nat) (t : ByteArray) (s : Rd) (w : World) (h : RdE B kr w s) (hB : B ≤ w.heap.size) (m : Nat) (ho : s.Ok m) (hm : m ≤ 100000) :
    Calls Tryz.prog 55 #[.pointer (some ⟨kr, 0, none⟩), .string t] w fun e w' => e = .returned (.tuple #[]) ∧ RdE B kr w' (s.lab t) ∧ Fk kr B w w' ∧ KT w w' := by
  obtain ⟨l, hl⟩ := h
  exact (addLabel_at B kr t l s w hl hB (by have := ho.labs; omega)).mono fun e w' ⟨h1, h2, h3⟩ => ⟨h1, ⟨l, h2⟩, h3⟩
theorem addMap_e (B kr : Nat) (d : L9.Df) (s : Rd) (w : World) (h : RdE B kr w s) (hB : B ≤ w.heap.size) (m : Nat) (ho : s.Ok m) (hm : m ≤ 100000) :
    Calls Tryz.prog 56 #[.pointer (some ⟨kr, 0, none⟩), .agg #[.string d.nm, .int .i64 d.key, .int .i64 d.val, .int .i64 d.ent]] w fun e w' => e = .returned (.tuple #[]) ∧ RdE B kr w' (s.map d) ∧ Fk kr B w w' ∧ KT w w' := by
  obtain ⟨l, hl⟩ := h
  exact (addMap_at B kr d l s w hl hB (by have := ho.maps; omega) (by have := ho.maps; rw [ho.ml]; omega)).mono fun e w' ⟨h1, h2, h3⟩ => ⟨h1, ⟨l, h2⟩, h3⟩
theorem addCode_e (B kr : Nat) (x : L9.Ins) (tg mp : ByteArray) (s : Rd) (w : World) (h : RdE B kr w s) (hB : B ≤ w.heap.size) (m : Nat) (ho : s.Ok m) (hm : m ≤ 100000) :
    Calls Tryz.prog 57 #[.pointer (some ⟨kr, 0, none⟩), .agg #[.int .i64 x.op, .bool x.reg, .int .i64 x.dst, .int .i64 x.src, .int .i64 x.off, .int .i64 x.imm, .string tg, .string mp]] w fun e w' => e = .returned (.tuple #[]) ∧ RdE B kr w' (s.cod x tg mp) ∧ Fk kr B w w' ∧ KT w w' := by
  obtain ⟨l, hl⟩ := h
  have hln : l.length = s.stmts.length := by
    obtain ⟨vm, vs, mv, sv, lv, _, hR⟩ := hl
    rw [← hR.st, List.length_map]
  exact (addCode_at B kr x tg mp l s w hl hB (by have := ho.stmts; omega) (by have := ho.stmts; rw [ho.sl]; omega)).mono fun e w' ⟨h1, ⟨lv, h2⟩, h3⟩ => ⟨h1, ⟨_, h2⟩, h3⟩
/-- The lists of labels and statements that stand in the reader, by their lengths. -/
theorem RdE.parts {B kr : Nat} {W : World} {s : Rd} (h : RdE B kr W s) : ∃ (va : Option Addr) (vc : Nat) (la : Option Addr) (lc : Nat), W.cell? ⟨kr, 1, none⟩ = some (.slice va s.stmts.length vc) ∧ W.cell? ⟨kr, 4, none⟩ = some (.slice la s.labs.length lc) ∧ W.cell? ⟨kr, 6, none⟩ = some (.int .i64 s.line) ∧ W.frozen? ⟨kr, 6, none⟩ = false ∧ kr < W.heap.size := by
  obtain ⟨l, vm, vs, mv, sv, lv, hr, hR⟩ := h
  obtain ⟨sa, sc, rfl⟩ := L8.owns_slice hR.os
  obtain ⟨la, lc, rfl⟩ := L8.owns_slice hR.ol
  obtain ⟨x0, x1, x2, x3, x4, x5, x6⟩ := cells7 hr
  have hln : l.length = s.stmts.length := by rw [← hR.st, List.length_map]
  exact ⟨sa, sc, la, lc, by rw [← hln]; exact x1, x4, x6, frozen_all hr 6, lt_of_block hr⟩
theorem RdE.setLine {B kr : Nat} {W : World} {s : Rd} (h : RdE B kr W s) (i : Int) : RdE B kr (W.setCell ⟨kr, 6, none⟩ (.int .i64 i)) { s with line := i } := by
  obtain ⟨l, vm, vs, mv, sv, lv, hr, hR⟩ := h
  exact ⟨l, vm, vs, mv, sv, lv, row_set hr 6 _, (hR.rd (gr_setCell W kr 6 (.int .i64 i)) hr).lbl s.lbl i⟩
def RdP (B kr : Nat) (r : Rd × Int) (w : World) (e : Ending) (w' : World) : Prop := e = .returned (.int .i64 r.2) ∧ RdE B kr w' r.1 ∧ Fk kr B w w'
theorem tab_fk {kr B : Nat} {w W : World} (h : L1.Wid w ∧ L2.Regs w) (hb : Fk kr B w W) (hB : 3 ≤ B) (hk : 3 ≤ kr) : L1.Wid W ∧ L2.Regs W := by
  obtain ⟨⟨t, fr, h0⟩, ⟨t', fr', h1⟩⟩ := h
  exact ⟨⟨t, fr, (hb.block _ (by omega) (by omega)).trans h0⟩, ⟨t', fr', (hb.block _ (by omega) (by omega)).trans h1⟩⟩
set_option maxHeartbeats 4000000 in
set_option maxRecDepth 100000 in
theorem read_err (B kr : Nat) (t : ByteArray) (s : Rd) (w : World) (h : RdE B kr w s) (hB : B ≤ w.heap.size) (hB3 : 3 ≤ B) (hk : 3 ≤ kr) (hT : L1.Wid w ∧ L2.Regs w) (ht : t.size ≤ 100000) (hl : 0 ≤ s.line ∧ s.line ≤ 1000000) (hne : (itL t).2 ≠ 0) :
    Calls Tryz.prog 40 #[.pointer (some ⟨kr, 0, none⟩), .string t] w fun e w' => RdP B kr (rdL s t) w e w' := by
  unfold rdL
  rw [if_pos hne]
  obtain ⟨items, er, hit⟩ : ∃ a b, itL t = (a, b) := ⟨_, _, rfl⟩
  rw [hit] at hne ⊢
  simp only at hne ⊢
  have hE := h.setLine (s.line + 1)
  obtain ⟨va, vc, la, lc, x1, x4, x6, fz, hkl⟩ := h.parts
  have hw6 : IntKind.i64.wrap (s.line + 1) = s.line + 1 := IntWalk.i64_in _ (by omega)
  have hb1 := Fk.set (Fk.refl kr B w) 6 (.int .i64 (s.line + 1))
  have HL := Lib.hid (line_it t ht (w.setCell ⟨kr, 6, none⟩ (.int .i64 (s.line + 1))) (tab_fk hT hb1 hB3 hk) items er hit)
  have HE := Lib.hid hE
  have HB := Lib.hid hb1
  clear h hT hit hE hb1
  go_enter Tryz.func40, Tryz.ntmps40
  go_wp2_with (go_at_call 54; ((with_reducible refine (HL.out).mono ?_); rintro e w1 ⟨v, rfl, hv, b1, hty⟩))
  go_ret
  exact ⟨rfl, HE.out.below b1, HB.out.trans (Fk.of b1 (by simpa [World.setCell] using hB))⟩
set_option maxHeartbeats 8000000 in
set_option maxRecDepth 100000 in
theorem read_ok (B kr : Nat) (t : ByteArray) (s : Rd) (w : World) (h : RdE B kr w s) (hB : B ≤ w.heap.size) (hB3 : 3 ≤ B) (hk : 3 ≤ kr) (hT : L1.Wid w ∧ L2.Regs w) (ht : t.size ≤ 100000) (hl : 0 ≤ s.line ∧ s.line ≤ 1000000) (m : Nat) (ho : s.Ok m) (hm : m + (t.size + 1) ≤ 100000) (hz : (itL t).2 = 0) :
    Calls Tryz.prog 40 #[.pointer (some ⟨kr, 0, none⟩), .string t] w fun e w' => RdP B kr (rdL s t) w e w' := by
  unfold rdL
  rw [if_neg (by rw [hz]; simp)]
  have hsz := itL_sz t
  obtain ⟨items, er, hit⟩ : ∃ a b, itL t = (a, b) := ⟨_, _, rfl⟩
  rw [hit] at hz hsz ⊢
  simp only at hz hsz ⊢
  subst hz
  have hE := h.setLine (s.line + 1)
  obtain ⟨va, vc, la, lc, x1, x4, x6, fz, hkl⟩ := h.parts
  have hw6 : IntKind.i64.wrap (s.line + 1) = s.line + 1 := IntWalk.i64_in _ (by omega)
  have hb1 := Fk.set (Fk.refl kr B w) 6 (.int .i64 (s.line + 1))
  have hB1 : B ≤ (w.setCell ⟨kr, 6, none⟩ (.int .i64 (s.line + 1))).heap.size := by simpa [World.setCell] using hB
  have HL := Lib.hid (line_it t ht (w.setCell ⟨kr, 6, none⟩ (.int .i64 (s.line + 1))) (tab_fk hT hb1 hB3 hk) items 0 hit)
  have HE := Lib.hid hE
  have HB := Lib.hid hb1
  have HO := Lib.hid ho.lineUp
  have HZ := Lib.hid hsz
  obtain ⟨n, hn⟩ : ∃ n, items.length = n := ⟨_, rfl⟩
  have HN := Lib.hid hn
  have hnm : m + n ≤ 100000 := by have := hsz.2; omega
  obtain ⟨rr, hrr⟩ : ∃ rr, foldI { s with line := s.line + 1 } items = rr := ⟨_, rfl⟩
  rw [hrr]
  have HRR := Lib.hid hrr
  clear h hT hit hE hb1 ho hsz hrr
  go_enter Tryz.func40, Tryz.ntmps40
  go_wp2_with (go_at_call 54; ((with_reducible refine (HL.out).mono ?_); rintro e w1 ⟨v, rfl, hv, b1, hty⟩; obtain ⟨ia, ic, rfl, hform⟩ := it_form (n := n) (by rw [List.length_map]; exact HN.out) hv hty))
  have HF := Lib.hid hform
  have HS1 : Hid (∃ sj, RdE B kr w1 sj ∧ Fk kr B w w1 ∧ KT w1 w1 ∧ sj.Ok (m + 0) ∧ foldI sj (items.drop 0) = rr ∧ B ≤ w1.heap.size) := Lib.hid ⟨_, HE.out.below b1, HB.out.trans (Fk.of b1 hB1), fun _ _ _ hx => hx, HO.out, HRR.out, Nat.le_trans hB1 b1.size⟩
  clear hv hty hform HE HB HO HRR HL x1 x4 x6 fz hw6 b1 hB1
  go_loopw [29] (fun i wr => ∃ j : Nat, j ≤ n ∧ i = .int .i64 (j : Int) ∧ Hid (∃ sj, RdE B kr wr sj ∧ Fk kr B w wr ∧ KT w1 wr ∧ sj.Ok (m + j) ∧ foldI sj (items.drop j) = rr ∧ B ≤ wr.heap.size)) (fun i _ => n - (intOf i).toNat)
  case atStart => exact ⟨0, Nat.zero_le _, rfl, HS1⟩
  case round =>
    obtain ⟨j, hj, rfl, hS⟩ := hrel
    clear HS1
    obtain ⟨sj, hE, hBj, hKT, hO, hR, hBs⟩ := hS.out
    clear hS
    by_cases hlt : j < n
    · have hjl : j < items.length := by rw [HN.out]; exact hlt
      obtain ⟨b, o, cs, rfl, hh, hcs⟩ := HF.out (by omega)
      have hrow := hKT b cs _ hh
      have hc := hcs j (by rw [List.length_map]; exact hjl)
      rw [List.getElem_map] at hc
      have hce := cell_row hrow hc
      have hbl := lt_of_block hrow
      have hszj := HZ.out.1 items[j] (List.getElem_mem hjl)
      rw [List.drop_eq_getElem_cons hjl] at hR
      obtain ⟨it, hitj⟩ : ∃ it, items[j] = it := ⟨_, rfl⟩
      rw [hitj] at hce hszj hR
      clear hrow hc hcs hh hitj
      have HKT := Lib.hid hKT
      have HBJ := Lib.hid hBj
      have HOJ := Lib.hid hO
      have HBS := Lib.hid hBs
      cases it with
      | lb t' =>
        have hce' : wr.cell? ⟨b, o + j, none⟩ = some (.iface 100 (.agg #[.string t'])) := hce
        have t1 := ta1 (.agg #[.string t'])
        have HA := Lib.hid (addLabel_e B kr t' sj (wr.alloc (.cells #[.string t'] 100)) (hE.below (L8.bnew _ _)) (by simp; omega) (m + j) hO (by omega))
        have HSZ := Lib.hid (show t'.size ≤ 32 from hszj)
        have HR := Lib.hid (show foldI (sj.lab t') (items.drop (j + 1)) = rr from hR)
        have HB2 : Hid (Fk kr B w (wr.alloc (.cells #[.string t'] 100))) := Lib.hid (hBj.alloc hBs _)
        clear hce hKT hBj hO hBs hszj hR hE
        go_wp2_with (go_at_call 55; ((with_reducible refine (HA.out).mono ?_); rintro e w2 ⟨rfl, e2, b2, k2⟩))
        go_roundw
        case rel => exact ⟨j + 1, by omega, by go_num, Lib.hid ⟨_, e2, HB2.out.trans b2, HKT.out.trans ((KT.below (L8.bnew wr _)).trans k2), HOJ.out.addLab HSZ.out, HR.out, Nat.le_trans HBS.out (Nat.le_trans (by simp) b2.size)⟩⟩
        case measure => simp [intOf]; omega
      | mp d =>
        have hce' : wr.cell? ⟨b, o + j, none⟩ = some (.iface 103 (.agg #[.string d.nm, .int .i64 d.key, .int .i64 d.val, .int .i64 d.ent])) := hce
        have t1 := ta1m (.agg #[.string d.nm, .int .i64 d.key, .int .i64 d.val, .int .i64 d.ent])
        have t2 := ta2 (.agg #[.string d.nm, .int .i64 d.key, .int .i64 d.val, .int .i64 d.ent])
        obtain ⟨va, vc, la, lc, y1, y4, y6, yz, ykl⟩ := hE.parts
        obtain ⟨ln, hln⟩ : ∃ ln, sj.labs.length = ln := ⟨_, rfl⟩
        obtain ⟨sn, hsn⟩ : ∃ sn, sj.stmts.length = sn := ⟨_, rfl⟩
        rw [hln] at y4
        rw [hsn] at y1
        by_cases hbad : sj.labs ≠ [] ∨ sj.stmts ≠ []
        · have hr2 : (sj, (8 : Int)) = rr := by rw [← hR, foldI, if_pos hbad]
          subst hr2
          have HE2 := Lib.hid (And.intro (hE.below (L8.bnew wr (.cells #[.string d.nm, .int .i64 d.key, .int .i64 d.val, .int .i64 d.ent] 103))) (hBj.alloc hBs (.cells #[.string d.nm, .int .i64 d.key, .int .i64 d.val, .int .i64 d.ent] 103)))
          by_cases hlb : sj.labs = []
          · have hst : 0 < sj.stmts.length := by
              rcases hbad with h | h
              · exact absurd hlb h
              · exact List.length_pos_iff.2 h
            obtain rfl : ln = 0 := by rw [← hln, hlb]; rfl
            have hs1 : 0 < sn := by omega
            have hs0 : (0 : Int) < (sn : Int) := by omega
            clear hst hln hsn
            clear hce hKT hBj hO hBs hszj hR hE hbad hlb
            go_wp2
            go_ret
            exact ⟨rfl, HE2.out.1, HE2.out.2⟩
          · have hl1 : 0 < ln := by have := List.length_pos_iff.2 hlb; omega
            have hl0 : (0 : Int) < (ln : Int) := by omega
            clear hln hsn
            clear hce hKT hBj hO hBs hszj hR hE hbad hlb
            go_wp2
            go_ret
            exact ⟨rfl, HE2.out.1, HE2.out.2⟩
        · have hlb : sj.labs = [] := Classical.byContradiction fun h => hbad (.inl h)
          have hst : sj.stmts = [] := Classical.byContradiction fun h => hbad (.inr h)
          obtain rfl : ln = 0 := by rw [← hln, hlb]; rfl
          obtain rfl : sn = 0 := by rw [← hsn, hst]; rfl
          clear hln hsn
          have HA := Lib.hid (addMap_e B kr d sj (wr.alloc (.cells #[.string d.nm, .int .i64 d.key, .int .i64 d.val, .int .i64 d.ent] 103)) (hE.below (L8.bnew _ _)) (by simp; omega) (m + j) hO (by omega))
          have HSZ := Lib.hid (show d.nm.size ≤ 32 from hszj)
          have HR := Lib.hid (show foldI (sj.map d) (items.drop (j + 1)) = rr by rw [← hR, foldI, if_neg hbad])
          have HB2 : Hid (Fk kr B w (wr.alloc (.cells #[.string d.nm, .int .i64 d.key, .int .i64 d.val, .int .i64 d.ent] 103))) := Lib.hid (hBj.alloc hBs _)
          clear hce hKT hBj hO hBs hszj hR hE hbad hlb hst
          go_wp2_with (go_at_call 56; ((with_reducible refine (HA.out).mono ?_); rintro e w2 ⟨rfl, e2, b2, k2⟩))
          go_roundw
          case rel => exact ⟨j + 1, by omega, by go_num, Lib.hid ⟨_, e2, HB2.out.trans b2, HKT.out.trans ((KT.below (L8.bnew wr _)).trans k2), HOJ.out.addMap HSZ.out, HR.out, Nat.le_trans HBS.out (Nat.le_trans (by simp) b2.size)⟩⟩
          case measure => simp [intOf]; omega
      | cd x tg m' =>
        have hce' : wr.cell? ⟨b, o + j, none⟩ = some (.iface 106 (.agg #[.int .i64 x.op, .bool x.reg, .int .i64 x.dst, .int .i64 x.src, .int .i64 x.off, .int .i64 x.imm, .string tg, .string m'])) := hce
        have t1 := ta1c (.agg #[.int .i64 x.op, .bool x.reg, .int .i64 x.dst, .int .i64 x.src, .int .i64 x.off, .int .i64 x.imm, .string tg, .string m'])
        have t2 := ta2c (.agg #[.int .i64 x.op, .bool x.reg, .int .i64 x.dst, .int .i64 x.src, .int .i64 x.off, .int .i64 x.imm, .string tg, .string m'])
        have t3 := ta3 (.agg #[.int .i64 x.op, .bool x.reg, .int .i64 x.dst, .int .i64 x.src, .int .i64 x.off, .int .i64 x.imm, .string tg, .string m'])
        have HA := Lib.hid (addCode_e B kr x tg m' sj (wr.alloc (.cells #[.int .i64 x.op, .bool x.reg, .int .i64 x.dst, .int .i64 x.src, .int .i64 x.off, .int .i64 x.imm, .string tg, .string m'] 106)) (hE.below (L8.bnew _ _)) (by simp; omega) (m + j) hO (by omega))
        have HSZ := Lib.hid (show tg.size ≤ 32 ∧ m'.size ≤ 32 from hszj)
        have HR := Lib.hid (show foldI (sj.cod x tg m') (items.drop (j + 1)) = rr from hR)
        have HB2 : Hid (Fk kr B w (wr.alloc (.cells #[.int .i64 x.op, .bool x.reg, .int .i64 x.dst, .int .i64 x.src, .int .i64 x.off, .int .i64 x.imm, .string tg, .string m'] 106))) := Lib.hid (hBj.alloc hBs _)
        clear hce hKT hBj hO hBs hszj hR hE
        go_wp2_with (go_at_call 57; ((with_reducible refine (HA.out).mono ?_); rintro e w2 ⟨rfl, e2, b2, k2⟩))
        go_roundw
        case rel => exact ⟨j + 1, by omega, by go_num, Lib.hid ⟨_, e2, HB2.out.trans b2, HKT.out.trans ((KT.below (L8.bnew wr _)).trans k2), HOJ.out.addCod HSZ.out, HR.out, Nat.le_trans HBS.out (Nat.le_trans (by simp) b2.size)⟩⟩
        case measure => simp [intOf]; omega
    · obtain rfl : j = n := by omega
      have hr2 : (sj, (0 : Int)) = rr := by rw [← hR, List.drop_eq_nil_of_le (by rw [HN.out]; exact Nat.le_refl _)]; rfl
      subst hr2
      have HE2 := Lib.hid (And.intro hE hBj)
      clear hE hBj hKT hO hR hBs
      go_wp2
      go_ret
      exact ⟨rfl, HE2.out.1, HE2.out.2⟩
theorem read_at (B kr : Nat) (t : ByteArray) (s : Rd) (w : World) (h : RdE B kr w s) (hB : B ≤ w.heap.size) (hB3 : 3 ≤ B) (hk : 3 ≤ kr) (hT : L1.Wid w ∧ L2.Regs w) (ht : t.size ≤ 100000) (hl : 0 ≤ s.line ∧ s.line ≤ 1000000) (m : Nat) (ho : s.Ok m) (hm : m + (t.size + 1) ≤ 100000) :
    Calls Tryz.prog 40 #[.pointer (some ⟨kr, 0, none⟩), .string t] w fun e w' => RdP B kr (rdL s t) w e w' := by
  by_cases hz : (itL t).2 = 0
  · exact read_ok B kr t s w h hB hB3 hk hT ht hl m ho hm hz
  · exact read_err B kr t s w h hB hB3 hk hT ht hl hz
end Go.Proofs.YtakblmonbeflmaaGreatDoor.L10
