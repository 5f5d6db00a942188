/- What the reference's Same returns: whether two programs are the same. Condition: memory holds them, and they are not too long. -/
import Derived.Test.YtakblmonbeflmaaGreatDoorL10Sam
import Derived.Deep.QuietTactic
import Derived.BigQuiet
namespace Go.Proofs.YtakblmonbeflmaaGreatDoor.L10
open Go.RowKit
attribute [local go_sem] Oper.semAt_some

theorem rb_false {b : Bool} {P : Prop} (h : b = true ↔ P) (hn : ¬ P) : b = false := by
  cases b
  · rfl
  · exact absurd (h.1 rfl) hn
set_option maxHeartbeats 16000000 in
set_option maxRecDepth 100000 in
theorem rsame_at (vm vs vm' vs' : Value) (p q : Pg) (b : Bool) (w : World) (hp : PgAt w vm vs p) (hq : PgAt w vm' vs' q) (hs : Sml p) (hs' : Sml q) (hb : b = true ↔ p = q) :
    Calls Tryz.prog 13 #[.agg #[vm, vs], .agg #[vm', vs']] w fun e w' => e = .returned (.bool b) ∧ Below w.heap.size w w' := by
  obtain ⟨n1, hn1⟩ : ∃ n, p.maps.length = n := ⟨_, rfl⟩
  obtain ⟨n2, hn2⟩ : ∃ n, p.stmts.length = n := ⟨_, rfl⟩
  obtain ⟨n3, hn3⟩ : ∃ n, q.maps.length = n := ⟨_, rfl⟩
  obtain ⟨n4, hn4⟩ : ∃ n, q.stmts.length = n := ⟨_, rfl⟩
  obtain ⟨a1, c1, rfl, d1⟩ := df_form4 hn1 hp.1
  obtain ⟨a2, c2, rfl, d2⟩ := sm_form hn2 hp.2
  obtain ⟨a3, c3, rfl, d3⟩ := df_form4 hn3 hq.1
  obtain ⟨a4, c4, rfl, d4⟩ := sm_form hn4 hq.2
  have m1 := hs.maps
  have m2 := hs.stmts
  rw [hn1] at m1
  rw [hn2] at m2
  have hb0 : Below w.heap.size w ((w.alloc (.cells #[.slice a1 n1 c1, .slice a2 n2 c2] 25)).alloc (.cells #[.slice a3 n3 c3, .slice a4 n4 c4] 25)) := L2.bch (L8.bnew w _) (L8.bnew _ _)
  have k0 := L8.row_up (heap_alloc_last w (.cells #[.slice a1 n1 c1, .slice a2 n2 c2] 25)) (L8.bnew _ (.cells #[.slice a3 n3 c3, .slice a4 n4 c4] 25))
  have k1 : ((w.alloc (.cells #[.slice a1 n1 c1, .slice a2 n2 c2] 25)).alloc (.cells #[.slice a3 n3 c3, .slice a4 n4 c4] 25)).heap[w.heap.size + 1]? = some (.cells #[.slice a3 n3 c3, .slice a4 n4 c4] 25) := by have := heap_alloc_last (w.alloc (.cells #[.slice a1 n1 c1, .slice a2 n2 c2] 25)) (.cells #[.slice a3 n3 c3, .slice a4 n4 c4] 25); simpa using this
  have HB := Lib.hid hb0
  by_cases e1 : n1 = n3
  · by_cases e2 : n2 = n4
    · subst e1 e2
      have HBB := Lib.hid hb
      have HD1 := Lib.hid d1
      have HD2 := Lib.hid d2
      have HD3 := Lib.hid d3
      have HD4 := Lib.hid d4
      have HN1 := Lib.hid hn1
      have HN2 := Lib.hid hn2
      have HN3 := Lib.hid hn3
      have HN4 := Lib.hid hn4
      have HL := Lib.hid hs.labs
      have HL' := Lib.hid hs'.labs
      have K0 := Lib.hid k0
      have K1 := Lib.hid k1
      clear hb d1 d2 d3 d4 hn1 hn2 hn3 hn4 hs hs' hp hq k0 k1 hb0
      go_enter Tryz.func13, Tryz.ntmps13
      go_upto_region 4 with (fail)
      generalize ((w.alloc (.cells #[.slice a1 n1 c1, .slice a2 n2 c2] 25)).alloc (.cells #[.slice a3 n1 c3, .slice a4 n2 c4] 25)) = W0 at K0 K1 HB ⊢
      have HI := Lib.hid (Below.refl W0.heap.size W0)
      go_loopw [5] (fun i wr => ∃ k : Nat, k ≤ n1 ∧ i = .int .i64 (k : Int) ∧ Hid (Below W0.heap.size W0 wr) ∧ Hid (p.maps.take k = q.maps.take k)) (fun i _ => n1 - (intOf i).toNat)
      case atStart => exact ⟨0, Nat.zero_le _, rfl, HI, Lib.hid rfl⟩
      case round =>
        obtain ⟨k, hk, rfl, hB, hT⟩ := hrel
        obtain ⟨z0, z1⟩ := cells2p (L8.row_up K0.out hB.out)
        obtain ⟨u0, u1⟩ := cells2p (L8.row_up K1.out hB.out)
        by_cases hlt : k < n1
        · have hk1 : k < p.maps.length := by rw [HN1.out]; exact hlt
          have hk2 : k < q.maps.length := by rw [HN3.out]; exact hlt
          obtain ⟨b1, o1, rfl, hb1, hc1⟩ := HD1.out (by omega)
          obtain ⟨b2, o2, rfl, hb2, hc2⟩ := HD3.out (by omega)
          obtain ⟨x0, x1, x2, x3⟩ := hc1 k hk1
          obtain ⟨y0, y1, y2, y3⟩ := hc2 k hk2
          have hBw := L2.bch HB.out hB.out
          have hc := fun (b o : Nat) (v : Value) (hb : b < w.heap.size) (h : w.cell? ⟨b, o, none⟩ = some v) => (hBw.cell (p := ⟨b, o, none⟩) hb).trans h
          replace x0 := hc _ _ _ hb1 x0
          replace x1 := hc _ _ _ hb1 x1
          replace x2 := hc _ _ _ hb1 x2
          replace x3 := hc _ _ _ hb1 x3
          replace y0 := hc _ _ _ hb2 y0
          replace y1 := hc _ _ _ hb2 y1
          replace y2 := hc _ _ _ hb2 y2
          replace y3 := hc _ _ _ hb2 y3
          clear hc1 hc2 hc
          have hlt' : (k : Int) < (n1 : Int) := by omega
          obtain ⟨d, hd⟩ : ∃ d, p.maps[k] = d := ⟨_, rfl⟩
          obtain ⟨d', hd'⟩ : ∃ d, q.maps[k] = d := ⟨_, rfl⟩
          by_cases he : d = d'
          · have HT := Lib.hid (take_eq hk1 hk2 hT.out (by rw [hd, hd', he]))
            subst he
            rw [hd] at x0 x1 x2 x3
            rw [hd'] at y0 y1 y2 y3
            have hq := nq_df d d true (by simp)
            simp only [Bool.not_true] at hq
            have HBw := Lib.hid hBw
            clear hd hd' hT hBw
            go_wp2
            go_quiet (fail)
            go_wp2
            go_roundw
            case rel => exact ⟨k + 1, by omega, by go_num, Lib.hid (L8.bdN hB.out _), HT⟩
            case measure => simp [intOf]; omega
          · have HF : Hid (b = false) := Lib.hid (rb_false HBB.out (by
              rintro rfl
              exact he (hd.symm.trans hd')))
            rw [hd] at x0 x1 x2 x3
            rw [hd'] at y0 y1 y2 y3
            have hq := nq_df d d' false (by simp [he])
            simp only [Bool.not_false] at hq
            have HBw := Lib.hid hBw
            clear hd hd' hT hBw he
            go_wp2
            go_quiet (fail)
            go_wp2
            go_ret
            rw [HF.out]
            exact ⟨rfl, L8.bdN HBw.out _⟩
        · obtain rfl : k = n1 := by omega
          have HM : Hid (p.maps = q.maps) := Lib.hid (take_all HN1.out HN3.out hT.out)
          have HW1 := Lib.hid (L2.bch HB.out hB.out)
          have KW0 := Lib.hid (L8.row_up K0.out hB.out)
          have KW1 := Lib.hid (L8.row_up K1.out hB.out)
          obtain ⟨wo, rfl⟩ : ∃ wo, wo = wr := ⟨_, rfl⟩
          have HI2 := Lib.hid (Below.refl wo.heap.size wo)
          clear hT hB hlt HI
          go_upto_region 9 with (fail)
          go_loopw [6, 7, 8, 9] (fun i _ _ _ wx => ∃ k2 : Nat, k2 ≤ n2 ∧ i = .int .i64 (k2 : Int) ∧ Hid (Below wo.heap.size wo wx) ∧ Hid (p.stmts.take k2 = q.stmts.take k2)) (fun i _ _ _ _ => n2 - (intOf i).toNat)
          case atStart => exact ⟨0, Nat.zero_le _, rfl, HI2, Lib.hid rfl⟩
          case round =>
            obtain ⟨k2, hk2, rfl, hB, hT⟩ := hrel
            clear z0 z1 u0 u1
            obtain ⟨z0, z1⟩ := cells2p (L8.row_up KW0.out hB.out)
            obtain ⟨u0, u1⟩ := cells2p (L8.row_up KW1.out hB.out)
            by_cases hlt : k2 < n2
            · have hk1 : k2 < p.stmts.length := by rw [HN2.out]; exact hlt
              have hk2' : k2 < q.stmts.length := by rw [HN4.out]; exact hlt
              obtain ⟨b1, o1, rfl, hb1, hc1⟩ := HD2.out (by omega)
              obtain ⟨b2, o2, rfl, hb2, hc2⟩ := HD4.out (by omega)
              obtain ⟨lv, hst, hx⟩ := hc1 k2 hk1
              obtain ⟨lv', hst', hy⟩ := hc2 k2 hk2'
              have hz := HL.out _ (List.getElem_mem hk1)
              have hz' := HL'.out _ (List.getElem_mem hk2')
              have hBw := L2.bch HW1.out hB.out
              have hX := fun i u hu => (hBw.cell (by exact hb1)).trans (hx i u hu)
              have hY := fun i u hu => (hBw.cell (by exact hb2)).trans (hy i u hu)
              have x0 := hX 0 _ rfl
              have x1 := hX 1 _ rfl
              have x2 := hX 2 _ rfl
              have x3 := hX 3 _ rfl
              have x4 := hX 4 _ rfl
              have x5 := hX 5 _ rfl
              have x6 := hX 6 _ rfl
              have x7 := hX 7 _ rfl
              have x8 := hX 8 _ rfl
              have y0 := hY 0 _ rfl
              have y1 := hY 1 _ rfl
              have y2 := hY 2 _ rfl
              have y3 := hY 3 _ rfl
              have y4 := hY 4 _ rfl
              have y5 := hY 5 _ rfl
              have y6 := hY 6 _ rfl
              have y7 := hY 7 _ rfl
              have y8 := hY 8 _ rfl
              rw [Nat.add_zero] at x0 y0
              have hw1 := World.block_lt_of_cell? wr _ x0
              have hw2 := World.block_lt_of_cell? wr _ y0
              have hw3 := World.block_lt_of_cell? wr _ z1
              have hw4 := World.block_lt_of_cell? wr _ u1
              simp only at hw1 hw2 hw3 hw4
              have HT := Lib.hid (fun he => take_eq hk1 hk2' hT.out he)
              have HNE := Lib.hid (fun (he : ¬ p.stmts[k2] = q.stmts[k2]) => rb_false HBB.out (by rintro rfl; exact he rfl))
              obtain ⟨s, hs⟩ : ∃ s, p.stmts[k2] = s := ⟨_, rfl⟩
              obtain ⟨t, ht⟩ : ∃ t, q.stmts[k2] = t := ⟨_, rfl⟩
              rw [hs] at x1 x2 x3 x4 x5 x6 x7 x8 hst hz
              rw [ht] at y1 y2 y3 y4 y5 y6 y7 y8 hst' hz'
              rw [hs, ht] at HT HNE
              obtain ⟨ln, hln⟩ : ∃ ln, s.labs.length = ln := ⟨_, rfl⟩
              obtain ⟨ln', hln'⟩ : ∃ ln, t.labs.length = ln := ⟨_, rfl⟩
              obtain ⟨la, lc, rfl, hla⟩ := st_form hln hst
              obtain ⟨la', lc', rfl, hla'⟩ := st_form hln' hst'
              rw [hln] at hz
              rw [hln'] at hz'
              obtain ⟨e1, he1⟩ := bx (s.x = t.x)
              obtain ⟨e2, he2⟩ := bx (s.tg = t.tg)
              obtain ⟨e3, he3⟩ := bx (s.mp = t.mp)
              obtain ⟨e4, he4⟩ := bx (ln = ln')
              have hq := nq_ins s.x t.x e1 he1
              have t2 := tl_beq he2
              have t3 := tl_beq he3
              have t4 : ((ln : Int) == (ln' : Int)) = e4 := by
                rw [Bool.eq_iff_iff, he4]; simp; omega
              have t5 : ((ln : Int) != (ln' : Int)) = !e4 := by rw [bne, t4]
              have HE := Lib.hid (And.intro he1 (And.intro he2 (And.intro he3 (And.intro he4 (And.intro hln hln')))))
              have hw2b : Below w.heap.size w ((wr.alloc (.cells #[(.slice la ln lc), .int .i64 s.x.op, .bool s.x.reg, .int .i64 s.x.dst, .int .i64 s.x.src, .int .i64 s.x.off, .int .i64 s.x.imm, .string s.tg, .string s.mp] 41)).alloc (.cells #[(.slice la' ln' lc'), .int .i64 t.x.op, .bool t.x.reg, .int .i64 t.x.dst, .int .i64 t.x.src, .int .i64 t.x.off, .int .i64 t.x.imm, .string t.tg, .string t.mp] 41)) := (hBw.trans ((L8.bnew wr _).mono hBw.size)).trans ((L8.bnew _ _).mono (by have := hBw.size; simp; omega))
              have HW2 := Lib.hid hw2b
              have HWO : Hid (Below wo.heap.size wo ((wr.alloc (.cells #[(.slice la ln lc), .int .i64 s.x.op, .bool s.x.reg, .int .i64 s.x.dst, .int .i64 s.x.src, .int .i64 s.x.off, .int .i64 s.x.imm, .string s.tg, .string s.mp] 41)).alloc (.cells #[(.slice la' ln' lc'), .int .i64 t.x.op, .bool t.x.reg, .int .i64 t.x.dst, .int .i64 t.x.src, .int .i64 t.x.off, .int .i64 t.x.imm, .string t.tg, .string t.mp] 41))) := Lib.hid ((hB.out.trans ((L8.bnew wr _).mono hB.out.size)).trans ((L8.bnew _ _).mono (by have := hB.out.size; simp; omega)))
              have R7 : Hid (((wr.alloc (.cells #[(.slice la ln lc), .int .i64 s.x.op, .bool s.x.reg, .int .i64 s.x.dst, .int .i64 s.x.src, .int .i64 s.x.off, .int .i64 s.x.imm, .string s.tg, .string s.mp] 41)).alloc (.cells #[(.slice la' ln' lc'), .int .i64 t.x.op, .bool t.x.reg, .int .i64 t.x.dst, .int .i64 t.x.src, .int .i64 t.x.off, .int .i64 t.x.imm, .string t.tg, .string t.mp] 41)).heap[wr.heap.size]? = some (.cells #[(.slice la ln lc), .int .i64 s.x.op, .bool s.x.reg, .int .i64 s.x.dst, .int .i64 s.x.src, .int .i64 s.x.off, .int .i64 s.x.imm, .string s.tg, .string s.mp] 41)) := Lib.hid (L8.row_up (heap_alloc_last wr _) (L8.bnew _ _))
              have R8 : Hid (((wr.alloc (.cells #[(.slice la ln lc), .int .i64 s.x.op, .bool s.x.reg, .int .i64 s.x.dst, .int .i64 s.x.src, .int .i64 s.x.off, .int .i64 s.x.imm, .string s.tg, .string s.mp] 41)).alloc (.cells #[(.slice la' ln' lc'), .int .i64 t.x.op, .bool t.x.reg, .int .i64 t.x.dst, .int .i64 t.x.src, .int .i64 t.x.off, .int .i64 t.x.imm, .string t.tg, .string t.mp] 41)).heap[wr.heap.size + 1]? = some (.cells #[(.slice la' ln' lc'), .int .i64 t.x.op, .bool t.x.reg, .int .i64 t.x.dst, .int .i64 t.x.src, .int .i64 t.x.off, .int .i64 t.x.imm, .string t.tg, .string t.mp] 41)) := Lib.hid (by have := heap_alloc_last (wr.alloc (.cells #[(.slice la ln lc), .int .i64 s.x.op, .bool s.x.reg, .int .i64 s.x.dst, .int .i64 s.x.src, .int .i64 s.x.off, .int .i64 s.x.imm, .string s.tg, .string s.mp] 41)) (.cells #[(.slice la' ln' lc'), .int .i64 t.x.op, .bool t.x.reg, .int .i64 t.x.dst, .int .i64 t.x.src, .int .i64 t.x.off, .int .i64 t.x.imm, .string t.tg, .string t.mp] 41); simpa using this)
              have HLA := Lib.hid hla
              have HLA' := Lib.hid hla'
              clear hla hla' hln hln' hs ht hst hst' hx hy hX hY hc1 hc2 he1 he2 he3 he4 hw2b hT hBw
              by_cases hall : e1 = true ∧ e2 = true ∧ e3 = true ∧ e4 = true
              · obtain ⟨rfl, rfl, rfl, rfl⟩ := hall
                simp only [Bool.not_true] at hq t5
                obtain rfl : ln = ln' := HE.out.2.2.2.1.1 rfl
                have HE2 : Hid ((s.x = t.x ∧ s.tg = t.tg ∧ s.mp = t.mp) ∧ s.labs.length = ln ∧ t.labs.length = ln) := Lib.hid (by
                  obtain ⟨h1, h2, h3, h4, h5, h6⟩ := HE.out
                  exact ⟨⟨h1.1 rfl, h2.1 rfl, h3.1 rfl⟩, h5, h6⟩)
                go_upto_region 16 with (fail)
                clear HE hq t2 t3 t4 t5 x0 x1 x2 x3 x4 x5 x6 x7 x8 y0 y1 y2 y3 y4 y5 y6 y7 y8 z0 z1 u0 u1 hw1 hw2 hw3 hw4
                generalize ((wr.alloc (.cells #[(.slice la ln lc), .int .i64 s.x.op, .bool s.x.reg, .int .i64 s.x.dst, .int .i64 s.x.src, .int .i64 s.x.off, .int .i64 s.x.imm, .string s.tg, .string s.mp] 41)).alloc (.cells #[(.slice la' ln lc'), .int .i64 t.x.op, .bool t.x.reg, .int .i64 t.x.dst, .int .i64 t.x.src, .int .i64 t.x.off, .int .i64 t.x.imm, .string t.tg, .string t.mp] 41)) = w2 at R7 R8 HW2 HWO ⊢
                generalize wr.heap.size = k7 at R7 R8 ⊢
                have HI3 := Lib.hid (Below.refl w2.heap.size w2)
                clear hB
                go_loopw [9] (fun i wx => ∃ j : Nat, j ≤ ln ∧ i = .int .i64 (j : Int) ∧ Hid (Below w2.heap.size w2 wx) ∧ Hid (s.labs.take j = t.labs.take j)) (fun i _ => ln - (intOf i).toNat)
                case atStart => exact ⟨0, Nat.zero_le _, rfl, HI3, Lib.hid rfl⟩
                case round =>
                  obtain ⟨j, hj, rfl, hB3, hT3⟩ := hrel
                  clear HI3
                  obtain ⟨v0, -⟩ := cells9 (L8.row_up R7.out hB3.out)
                  obtain ⟨q0, -⟩ := cells9 (L8.row_up R8.out hB3.out)
                  by_cases hjl : j < ln
                  · have hj1 : j < s.labs.length := by rw [HE2.out.2.1]; exact hjl
                    have hj2 : j < t.labs.length := by rw [HE2.out.2.2]; exact hjl
                    obtain ⟨p1, r1, rfl, hp1, hr1⟩ := HLA.out (by omega)
                    obtain ⟨p2, r2, rfl, hp2, hr2⟩ := HLA'.out (by omega)
                    have hBx := L2.bch HW2.out hB3.out
                    have g1 := (hBx.cell (p := ⟨p1, r1 + j, none⟩) hp1).trans (hr1 j hj1)
                    have g2 := (hBx.cell (p := ⟨p2, r2 + j, none⟩) hp2).trans (hr2 j hj2)
                    have hjI : (j : Int) < (ln : Int) := by omega
                    have HBx := Lib.hid hBx
                    obtain ⟨d, hd⟩ : ∃ d, s.labs[j] = d := ⟨_, rfl⟩
                    obtain ⟨d', hd'⟩ : ∃ d, t.labs[j] = d := ⟨_, rfl⟩
                    rw [hd] at g1
                    rw [hd'] at g2
                    clear hr1 hr2 hBx
                    by_cases he : d = d'
                    · have HT4 := Lib.hid (take_eq hj1 hj2 hT3.out (by rw [hd, hd', he]))
                      subst he
                      have ht : (d.toList == d.toList) = true := by simp
                      clear hd hd' hT3
                      go_wp2
                      go_quiet (fail)
                      go_wp2
                      go_roundw
                      case rel => exact ⟨j + 1, by omega, by go_num, Lib.hid (L8.bdN hB3.out _), HT4⟩
                      case measure => simp [intOf]; omega
                    · have HF : Hid (b = false) := Lib.hid (HNE.out (by
                        rintro rfl
                        exact he (hd.symm.trans hd')))
                      have ht : (d.toList == d'.toList) = false := L2.txt_ne he
                      clear hd hd' hT3 he
                      go_wp2
                      go_quiet (fail)
                      go_wp2
                      go_ret
                      rw [HF.out]
                      exact ⟨rfl, L8.bdN HBx.out _⟩
                  · obtain rfl : j = ln := by omega
                    have HT4 : Hid (p.stmts.take (k2 + 1) = q.stmts.take (k2 + 1)) := Lib.hid (HT.out (by
                      obtain ⟨sl, sx, sg, sm⟩ := s
                      obtain ⟨tl, tx, tg, tm⟩ := t
                      obtain ⟨⟨h1, h2, h3⟩, h4, h5⟩ := HE2.out
                      have h6 : sl = tl := take_all h4 h5 hT3.out
                      simp only at h1 h2 h3
                      rw [h1, h2, h3, h6]))
                    clear hT3
                    go_wp2
                    go_roundw
                    case rel => exact ⟨k2 + 1, by omega, by go_num, Lib.hid (L2.bch HWO.out hB3.out), HT4⟩
                    case measure => simp [intOf]; omega
              · have HF : Hid (b = false) := Lib.hid (HNE.out (by
                  rintro rfl
                  obtain ⟨h1, h2, h3, h4, h5, h6⟩ := HE.out
                  exact hall ⟨h1.2 rfl, h2.2 rfl, h3.2 rfl, h4.2 (h5.symm.trans h6)⟩))
                cases e1 <;> cases e2 <;> cases e3 <;> cases e4
                all_goals first | exact absurd ⟨rfl, rfl, rfl, rfl⟩ hall | skip
                all_goals
                  clear hall
                  simp only [Bool.not_true, Bool.not_false] at hq t5
                  go_wp2
                  go_ret
                  rw [HF.out]
                  exact ⟨rfl, HW2.out⟩
            · obtain rfl : k2 = n2 := by omega
              have HF : Hid (b = true) := Lib.hid (HBB.out.2 (by
                obtain ⟨pm, ps⟩ := p
                obtain ⟨qm, qs⟩ := q
                have h1 : pm = qm := HM.out
                have h2 : ps = qs := take_all HN2.out HN4.out hT.out
                rw [h1, h2]))
              have HW2 := Lib.hid (L2.bch HW1.out hB.out)
              clear hT
              go_wp2
              go_ret
              rw [HF.out]
              exact ⟨rfl, HW2.out⟩
    · subst e1
      have hbf : b = false := rb_false hb (by rintro rfl; exact e2 (hn2.symm.trans hn4))
      subst hbf
      have t1 : ((n2 : Int) == (n4 : Int)) = false := by simpa using (show ¬ (n2 : Int) = (n4 : Int) by omega)
      have t2 : ((n2 : Int) != (n4 : Int)) = true := by simpa using (show ¬ (n2 : Int) = (n4 : Int) by omega)
      clear hb d1 d2 d3 d4 hn1 hn2 hn3 hn4 hs hs' hp hq k0 k1 hb0
      go_enter Tryz.func13, Tryz.ntmps13
      go_wp2
      go_ret
      exact ⟨rfl, HB.out⟩
  · have hbf : b = false := rb_false hb (by rintro rfl; exact e1 (hn1.symm.trans hn3))
    subst hbf
    have t1 : ((n1 : Int) == (n3 : Int)) = false := by simpa using (show ¬ (n1 : Int) = (n3 : Int) by omega)
    have t2 : ((n1 : Int) != (n3 : Int)) = true := by simpa using (show ¬ (n1 : Int) = (n3 : Int) by omega)
    clear hb d1 d2 d3 d4 hn1 hn2 hn3 hn4 hs hs' hp hq k0 k1 hb0
    go_enter Tryz.func13, Tryz.ntmps13
    go_wp2
    go_ret
    exact ⟨rfl, HB.out⟩
end Go.Proofs.YtakblmonbeflmaaGreatDoor.L10
