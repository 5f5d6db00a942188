/- What the program's Clone returns: a program of the same parts, in memory of the call's own. Condition: memory holds the program, whose lists are not too long. -/
import Derived.Test.YtakblmonbeflmaaGreatDoorL10Clr
namespace Go.Proofs.YtakblmonbeflmaaGreatDoor.L10
open Go.RowKit
attribute [local go_sem] Oper.semAt_some

theorem smC_set : ∀ (l : List (Value × Stm)) (j : Nat) (hj : j < l.length) (v : Value), smC (l.set j (v, l[j].2)) = (smC l).set (j * 9) v
  | (lv, s) :: r, 0, _, v => by simp [smC, smL]
  | x :: r, j + 1, hj, v => by
    have h := smC_set r j (by simpa using hj) v
    unfold smC at h ⊢
    rw [List.set_cons_succ, List.flatMap_cons, List.flatMap_cons, List.set_append_right (h := by simp only [smL, List.length_cons, List.length_nil]; omega)]
    simp only [smL, List.length_cons, List.length_nil, Nat.zero_add, List.getElem_cons_succ] at h ⊢
    rw [h, show (j + 1) * 9 - 9 = j * 9 by omega]
theorem Fk.cell {kr B : Nat} {a b : World} {p : Addr} {v : Value} (h : Fk kr B a b) (hp : p.block < B) (hn : p.block ≠ kr) (hc : a.cell? p = some v) : b.cell? p = some v := by
  rw [← hc]
  unfold World.cell?
  rw [h.block _ hp hn]
theorem Fk.bnew {kr : Nat} {a b c : World} (h : Fk kr a.heap.size a b) (hb : Below b.heap.size b c) : Fk kr a.heap.size a c := h.trans (Fk.of hb h.size)
/-- A copy whose first so many statements have labels of their own. -/
structure CloJ (w W : World) (g : Nat) (va vb : Value) (l : List L9.Df) (ll ll' : List (Value × Stm)) (j : Nat) : Prop where
  i : CloI w W g va vb l ll'
  len : ll'.length = ll.length
  same : ll'.map (·.2) = ll.map (·.2)
  own : ∀ k, (h : k < ll'.length) → k < j → W.ownsRow w.heap.size 9 1 ll'[k].1 ll'[k].2.labs.length (L8.stC ll'[k].2.labs)
  rest : ∀ k, j ≤ k → ll'[k]? = ll[k]?
/-- A program in memory that is the call's own. -/
def CloR (H : Nat) (W : World) (vm vs : Value) (p : Pg) : Prop :=
  ∃ ll : List (Value × Stm), ll.map (·.2) = p.stmts ∧ W.ownsRow H 36 4 vm p.maps.length (p.maps.flatMap dfL) ∧ W.ownsRow H 41 9 vs ll.length (smC ll) ∧ ∀ x ∈ ll, W.ownsRow H 9 1 x.1 x.2.labs.length (L8.stC x.2.labs)
def CloP (p : Pg) (w : World) (e : Ending) (w' : World) : Prop := ∃ a1 n1 c1 a2 n2 c2, e = .returned (.agg #[.slice a1 n1 c1, .slice a2 n2 c2]) ∧ CloR w.heap.size w' (.slice a1 n1 c1) (.slice a2 n2 c2) p ∧ Below w.heap.size w w'
theorem CloJ.store {w W : World} {g gB c j : Nat} {va v : Value} {l : List L9.Df} {ll ll' : List (Value × Stm)} {n : Nat} (h : CloJ w W g va (.slice (some ⟨gB, 0, none⟩) n c) l ll ll' j) (hj : j < ll'.length) (hn : ll'.length = n)
    (ho : W.ownsRow w.heap.size 9 1 v ll'[j].2.labs.length (L8.stC ll'[j].2.labs)) : CloJ w (W.setCell ⟨gB, j * 9, none⟩ v) g va (.slice (some ⟨gB, 0, none⟩) n c) l ll (ll'.set j (v, ll'[j].2)) (j + 1) := by
  subst hn
  obtain ⟨cur, hB⟩ := own_ty h.i.os (g := gB) rfl
  have hlo := (h.i.os.lt gB rfl).1
  have hg := gr_setCell W gB (j * 9) v
  have k1 : ∀ k, va.ownBlock = some k → (some gB : Option Nat) ≠ some k := fun k hk => by
    obtain ⟨cur, hc⟩ := own_ty h.i.om hk
    exact ty_ne hB hc (by decide)
  have kT : ∀ (u : Value) (m : Nat) (xs : List Value), W.ownsRow w.heap.size 9 1 u m xs → ∀ k, u.ownBlock = some k → (some gB : Option Nat) ≠ some k := fun u m xs ho k hk => by
    obtain ⟨cur, hc⟩ := own_ty ho hk
    exact ty_ne hB hc (by decide)
  have r1 : g ≠ gB := by
    rintro rfl
    have := h.i.row
    rw [hB] at this
    cases this
  have r2 : w.heap.size + 1 ≠ gB := by
    rintro rfl
    have := h.i.res
    rw [hB] at this
    cases this
  refine ⟨⟨bel_set h.i.bel hlo _ _, L9.row_other h.i.row _ _ r1, L9.row_other h.i.res _ _ r2, h.i.lo, own_kept h.i.om hg k1, ?_⟩, by rw [List.length_set]; exact h.len, ?_, fun k hk hkj => ?_, fun k hk => ?_⟩
  · rw [smC_set _ _ hj, List.length_set]
    exact (h.i.os.stored (j * 9) v).1
  · rw [← h.same, List.map_set]
    have e : ∀ (m : List Stm) (hh : j < m.length), m.set j m[j] = m := fun m hh => List.set_getElem_self hh
    have := e (ll'.map (·.2)) (by simpa using hj)
    simpa using this
  · rw [List.length_set] at hk
    rw [List.getElem_set]
    split
    · rename_i e; subst e
      exact own_kept ho hg (kT _ _ _ ho)
    · have := h.own k hk (by omega)
      exact own_kept this hg (kT _ _ _ this)
  · rw [List.getElem?_set_ne (by omega)]
    exact h.rest k (by omega)
set_option maxHeartbeats 8000000 in
set_option maxRecDepth 100000 in
theorem clone_at (vm vs : Value) (p : Pg) (w : World) (hp : PgAt w vm vs p) (hs : Sml p) :
    Calls Tryz.prog 14 #[.agg #[vm, vs]] w (CloP p w) := by
  obtain ⟨ll, hll, hst, hfl⟩ := hp.2.list
  have hln : ll.length = p.stmts.length := by rw [← hll, List.length_map]
  obtain ⟨n1, hn1⟩ : ∃ n, p.maps.length = n := ⟨_, rfl⟩
  obtain ⟨n2, hn2⟩ : ∃ n, ll.length = n := ⟨_, rfl⟩
  have hm1 := hs.maps
  have hm2 := hs.stmts
  rw [← hln] at hm2
  rw [hn1] at hm1
  rw [hn2] at hm2
  have hcl := flat_len dfL 4 (fun _ => rfl) p.maps
  have hcl2 := flat_len (fun x : Value × Stm => smL x.1 x.2) 9 (fun _ => rfl) ll
  have hfd := hp.1.flat
  rw [hn1] at hcl hfd
  rw [hn2] at hcl2 hfl
  have hd0 := fun W (hb : Below w.heap.size w W) => cloneD_at vm n1 (p.maps.flatMap dfL) W hm1 hcl (one_df p.maps) (hfd.below hb)
  have hm0 := fun W (hb : Below w.heap.size w W) => cloneM_at vs n2 (smC ll) W hm2 hcl2 (one_sm ll hst) (hfl.below hb)
  obtain ⟨a1, c1, rfl, -⟩ := df_form hn1 hp.1
  obtain ⟨a2, c2, rfl, -⟩ := sm_form (hln.symm.trans hn2) hp.2
  have hb0 : Below w.heap.size w ((w.alloc (.cells #[.slice a1 n1 c1, .slice a2 n2 c2] 25)).alloc (.cells #[.slice none 0 0, .slice none 0 0] 25)) := L2.bch (L8.bnew w _) (L8.bnew _ _)
  have hrow : ((w.alloc (.cells #[.slice a1 n1 c1, .slice a2 n2 c2] 25)).alloc (.cells #[.slice none 0 0, .slice none 0 0] 25)).heap[w.heap.size]? = some (.cells #[.slice a1 n1 c1, .slice a2 n2 c2] 25) := L8.row_up (heap_alloc_last w _) (L8.bnew _ _)
  have hres : ((w.alloc (.cells #[.slice a1 n1 c1, .slice a2 n2 c2] 25)).alloc (.cells #[.slice none 0 0, .slice none 0 0] 25)).heap[w.heap.size + 1]? = some (.cells #[.slice none 0 0, .slice none 0 0] 25) := by have := heap_alloc_last (w.alloc (.cells #[.slice a1 n1 c1, .slice a2 n2 c2] 25)) (.cells #[.slice none 0 0, .slice none 0 0] 25); simpa using this
  have hsz0 : ((w.alloc (.cells #[.slice a1 n1 c1, .slice a2 n2 c2] 25)).alloc (.cells #[.slice none 0 0, .slice none 0 0] 25)).heap.size = w.heap.size + 2 := by simp
  have HST := Lib.hid hst
  have HLL := Lib.hid hll
  have HN2 := Lib.hid hn2
  have HLB := Lib.hid hs.labs
  have HN1 := Lib.hid hn1
  clear hp hs hst hfl hfd hcl hcl2 hll hln hn1 hn2
  go_enter Tryz.func14, Tryz.ntmps14
  go_upto_region 1 with (fail)
  obtain ⟨x0, x1⟩ := cells2p hrow
  have hlt0 : (⟨w.heap.size, 0, none⟩ : Addr).block < (((w.alloc (.cells #[.slice a1 n1 c1, .slice a2 n2 c2] 25)).alloc (.cells #[.slice none 0 0, .slice none 0 0] 25))).heap.size := lt_of_block hrow
  have hlt1 : (⟨w.heap.size, 1, none⟩ : Addr).block < (((w.alloc (.cells #[.slice a1 n1 c1, .slice a2 n2 c2] 25)).alloc (.cells #[.slice none 0 0, .slice none 0 0] 25))).heap.size := lt_of_block hrow
  generalize ((w.alloc (.cells #[.slice a1 n1 c1, .slice a2 n2 c2] 25)).alloc (.cells #[.slice none 0 0, .slice none 0 0] 25)) = W at hrow hres x0 x1 hlt0 hlt1 hb0 hsz0 ⊢
  have HD := Lib.hid (fun W' (h : Below W.heap.size W W') => hd0 W' (L2.bch hb0 h))
  have HM := Lib.hid (fun W' (h : Below W.heap.size W W') => hm0 W' (L2.bch hb0 h))
  clear hd0 hm0
  refine wp_region_held_drew (S := SCl W) (by kernel_rfl) (L8.bdN (Below.refl _ _) 1) (fun hH => ?_)
  refine wpAnyH_take (i := 0) (oi := { dst := some 6, op := Op.fieldAddr 25 (Operand.tmp 1) 0, type := 0, pos := "prog.go:52", after := #[], guard := none }) (v := .pointer (some ⟨w.heap.size, 0, none⟩)) rfl (by kernel_rfl) (by kernel_rfl) (by kernel_rfl) (fun _ _ _ h => h) (Or.inl ⟨by rfl, fun wS hS => (by go_simp)⟩) hH ?_
  simp only [Act.put, List.setIfInBounds_toArray, List.set_cons_zero, List.set_cons_succ]
  refine wpAnyH_take (i := 3) (oi := { dst := some 9, op := Op.fieldAddr 25 (Operand.tmp 1) 1, type := 0, pos := "prog.go:52", after := #[], guard := none }) (v := .pointer (some ⟨w.heap.size, 1, none⟩)) rfl (by kernel_rfl) (by kernel_rfl) (by kernel_rfl) (fun _ _ _ h => h) (Or.inl ⟨by rfl, fun wS hS => (by go_simp)⟩) hH ?_
  simp only [Act.put, List.setIfInBounds_toArray, List.set_cons_zero, List.set_cons_succ]
  refine wpAnyH_take (i := 1) (oi := { dst := some 7, op := Op.load 22 (Operand.tmp 6), type := 22, pos := "prog.go:52", after := #[{ on := 0, ground := Ground.data }], guard := none }) (v := .slice a1 n1 c1) rfl (by kernel_rfl) (by kernel_rfl) (by kernel_rfl) (fun _ _ _ h => h) (Or.inl ⟨by rfl, fun wS hS => (by have d0 := (Below.cell hS hlt0).trans x0; have d1 := (Below.cell hS hlt1).trans x1; go_simp)⟩) hH ?_
  simp only [Act.put, List.setIfInBounds_toArray, List.set_cons_zero, List.set_cons_succ]
  refine wpAnyH_take (i := 4) (oi := { dst := some 10, op := Op.load 23 (Operand.tmp 9), type := 23, pos := "prog.go:52", after := #[{ on := 3, ground := Ground.data }], guard := none }) (v := .slice a2 n2 c2) rfl (by kernel_rfl) (by kernel_rfl) (by kernel_rfl) (fun _ _ _ h => h) (Or.inl ⟨by rfl, fun wS hS => (by have d0 := (Below.cell hS hlt0).trans x0; have d1 := (Below.cell hS hlt1).trans x1; go_simp)⟩) hH ?_
  simp only [Act.put, List.setIfInBounds_toArray, List.set_cons_zero, List.set_cons_succ]
  refine cl_o (B := w.heap.size) HD HM (by omega) ?_ _ hH
  intro ga ca gb cb g w2 hb2 o1 o2 hg hlo
  have hJ : CloJ w w2 g (.slice ga n1 ca) (.slice gb n2 cb) p.maps ll ll 0 := ⟨⟨L2.bch hb0 hb2, hg, L8.row_up hres hb2, by omega, by rw [HN1.out]; exact o1, by rw [HN2.out]; exact o2⟩, rfl, rfl, fun k _ h => absurd h (by omega), fun k _ => rfl⟩
  obtain ⟨z0, z1⟩ := cells2p hg
  have HJ : Hid (∃ ll', CloJ w w2 g (.slice ga n1 ca) (.slice gb n2 cb) p.maps ll ll' 0) := Lib.hid ⟨_, hJ⟩
  clear hJ hb2 o1 o2 hg hlo hH hrow hres x0 x1 hlt0 hlt1 hb0 hsz0 HD HM
  go_wp2
  go_loopw [4, 5, 16] (fun _ _ i wr => ∃ j : Nat, j ≤ n2 ∧ i = .int .i64 (j : Int) ∧ Hid (∃ ll', CloJ w wr g (.slice ga n1 ca) (.slice gb n2 cb) p.maps ll ll' j)) (fun _ _ i _ => n2 - (intOf i).toNat)
  case atStart => exact ⟨0, Nat.zero_le _, rfl, HJ⟩
  case round =>
    obtain ⟨j, hj, rfl, hS⟩ := hrel
    clear HJ
    obtain ⟨ll', hJ⟩ := hS.out
    clear hS z0 z1
    obtain ⟨z0, z1⟩ := cells2p hJ.i.row
    by_cases hlt : j < n2
    · have hll' : ll'.length = n2 := hJ.len.trans HN2.out
      have hj1 : j < ll'.length := by omega
      have hj2 : j < ll.length := by rw [HN2.out]; exact hlt
      have hgb : ∃ gB, gb = some ⟨gB, 0, none⟩ := by
        rcases hJ.i.os.2 with ⟨_, h0⟩ | ⟨gB, cap, cur, hv, _⟩
        · omega
        · simp only [Value.slice.injEq] at hv
          exact ⟨gB, hv.1⟩
      obtain ⟨gB, rfl⟩ := hgb
      obtain ⟨cur, hB⟩ := own_ty hJ.i.os (g := gB) rfl
      have hgl := lt_of_block hB
      have hgk := lt_of_block hJ.i.row
      have hcs : ∀ i u, (smL ll'[j].1 ll'[j].2)[i]? = some u → wr.cell? ⟨gB, j * 9 + i, none⟩ = some u := fun i u hu => by
        have := hJ.i.os.cells (g := gB) rfl (j * 9 + i) u (flat_get (fun x : Value × Stm => smL x.1 x.2) 9 (fun _ => rfl) ll' j hj1 i u hu)
        rwa [L8.add0] at this
      have hej : ll'[j] = ll[j] := by
        have := hJ.rest j (Nat.le_refl _)
        rw [List.getElem?_eq_getElem hj1, List.getElem?_eq_getElem hj2] at this
        exact Option.some.inj this
      have hst1 := HST.out ll[j] (List.getElem_mem hj2)
      have hlb := HLB.out ll[j].2 (by rw [← HLL.out]; exact List.mem_map.2 ⟨ll[j], List.getElem_mem hj2, rfl⟩)
      have hnx := fun v ho => hJ.store (v := v) hj1 hll' ho
      have HNX := Lib.hid (fun (W' : World) (v : Value) (hb : Below wr.heap.size wr W') (ho : W'.ownsRow w.heap.size 9 1 v ll'[j].2.labs.length (L8.stC ll'[j].2.labs)) => (⟨hJ.i.below hb, hJ.len, hJ.same, fun k h1 h2 => own_up (hJ.own k h1 h2) hb, hJ.rest⟩ : CloJ w W' g (.slice ga n1 ca) (.slice (some ⟨gB, 0, none⟩) n2 cb) p.maps ll ll' j).store hj1 hll' ho)
      rw [hej] at hcs HNX
      obtain ⟨y, hy⟩ : ∃ y, ll[j] = y := ⟨_, rfl⟩
      rw [hy] at hcs hst1 hlb HNX
      obtain ⟨lv, s⟩ := y
      simp only at hcs hst1 hlb
      obtain ⟨ln, hln⟩ : ∃ ln, s.labs.length = ln := ⟨_, rfl⟩
      have hcl := fun W (hb : Below w.heap.size w W) => cloneT_at lv ln (L8.stC s.labs) W (by omega) (by rw [L8.stC, List.length_map, hln, Nat.mul_one]) (one_st s.labs) (by have := (st_flat hst1).below hb; rwa [hln] at this)
      obtain ⟨la, lc, rfl, -⟩ := st_form hln hst1
      have x0 := hcs 0 _ rfl
      have x1 := hcs 1 _ rfl
      have x2 := hcs 2 _ rfl
      have x3 := hcs 3 _ rfl
      have x4 := hcs 4 _ rfl
      have x5 := hcs 5 _ rfl
      have x6 := hcs 6 _ rfl
      have x7 := hcs 7 _ rfl
      have x8 := hcs 8 _ rfl
      rw [Nat.add_zero] at x0
      have hbel := hJ.i.bel
      have HLN := Lib.hid hln
      have hb5 := L8.bnew wr (.cells #[.slice la ln lc, .int .i64 s.x.op, .bool s.x.reg, .int .i64 s.x.dst, .int .i64 s.x.src, .int .i64 s.x.off, .int .i64 s.x.imm, .string s.tg, .string s.mp] 41)
      have hx5 := heap_alloc_last wr (.cells #[.slice la ln lc, .int .i64 s.x.op, .bool s.x.reg, .int .i64 s.x.dst, .int .i64 s.x.src, .int .i64 s.x.off, .int .i64 s.x.imm, .string s.tg, .string s.mp] 41)
      have hg5 := L8.row_up hJ.i.row hb5
      have hB5 := L8.row_up hB hb5
      have hne5 : wr.heap.size ≠ gB := by omega
      have hneg : g ≠ gB := by
        rintro rfl
        have := hJ.i.row
        rw [hB] at this
        cases this
      have hW5 := hbel.trans (hb5.mono hbel.size)
      have hsz5 : wr.heap.size < (wr.alloc (.cells #[.slice la ln lc, .int .i64 s.x.op, .bool s.x.reg, .int .i64 s.x.dst, .int .i64 s.x.src, .int .i64 s.x.off, .int .i64 s.x.imm, .string s.tg, .string s.mp] 41)).heap.size := by simp
      have hx0W := (hb5.cell (p := ⟨gB, j * 9, none⟩) hgl).trans x0
      have hgl5 : gB < (wr.alloc (.cells #[.slice la ln lc, .int .i64 s.x.op, .bool s.x.reg, .int .i64 s.x.dst, .int .i64 s.x.src, .int .i64 s.x.off, .int .i64 s.x.imm, .string s.tg, .string s.mp] 41)).heap.size := by omega
      clear hcs hst1 hlb hnx hej hy hln hJ hB hbel
      go_upto_region 5 with (fail)
      obtain ⟨q0, q1⟩ := cells2p hg5
      obtain ⟨y0, -⟩ := cells9 hx5
      have hlg : (⟨g, 1, none⟩ : Addr).block < (wr.alloc (.cells #[.slice la ln lc, .int .i64 s.x.op, .bool s.x.reg, .int .i64 s.x.dst, .int .i64 s.x.src, .int .i64 s.x.off, .int .i64 s.x.imm, .string s.tg, .string s.mp] 41)).heap.size := lt_of_block hg5
      have hl5 : (⟨wr.heap.size, 0, none⟩ : Addr).block < (wr.alloc (.cells #[.slice la ln lc, .int .i64 s.x.op, .bool s.x.reg, .int .i64 s.x.dst, .int .i64 s.x.src, .int .i64 s.x.off, .int .i64 s.x.imm, .string s.tg, .string s.mp] 41)).heap.size := hsz5
      have hng : (⟨g, 1, none⟩ : Addr).block ≠ gB := hneg
      have hn5 : (⟨wr.heap.size, 0, none⟩ : Addr).block ≠ gB := hne5
      have hj0 : (0 : Int) ≤ (j : Int) := by omega
      have hjn : (j : Int) < (n2 : Int) := by omega
      have HNY := Lib.hid (fun W' v (hb : Below (wr.alloc (.cells #[.slice la ln lc, .int .i64 s.x.op, .bool s.x.reg, .int .i64 s.x.dst, .int .i64 s.x.src, .int .i64 s.x.off, .int .i64 s.x.imm, .string s.tg, .string s.mp] 41)).heap.size (wr.alloc (.cells #[.slice la ln lc, .int .i64 s.x.op, .bool s.x.reg, .int .i64 s.x.dst, .int .i64 s.x.src, .int .i64 s.x.off, .int .i64 s.x.imm, .string s.tg, .string s.mp] 41)) W') ho => HNX.out W' v (L2.bch hb5 hb) ho)
      clear HNX x0 x1 x2 x3 x4 x5 x6 x7 x8 z0 z1
      generalize wr.alloc (.cells #[.slice la ln lc, .int .i64 s.x.op, .bool s.x.reg, .int .i64 s.x.dst, .int .i64 s.x.src, .int .i64 s.x.off, .int .i64 s.x.imm, .string s.tg, .string s.mp] 41) = W at hg5 hB5 hx5 hW5 hsz5 hx0W hgl5 q0 q1 y0 hlg hl5 HNY ⊢
      clear hb5
      have HCL := Lib.hid (fun W' (h : Below W.heap.size W W') => hcl W' (hW5.trans (h.mono hW5.size)))
      clear hcl
      refine wp_region_held_drew (S := Fk gB W.heap.size W) (by kernel_rfl) (Fk.refl gB W.heap.size W).drew (fun hH => ?_)
      refine wpAnyH_take (i := 0) (oi := { dst := some 21, op := Op.fieldAddr 25 (Operand.tmp 3) 1, type := 0, pos := "prog.go:54", after := #[], guard := none }) (v := .pointer (some ⟨g, 1, none⟩)) rfl (by kernel_rfl) (by kernel_rfl) (by kernel_rfl) (fun _ _ _ h => h) (Or.inl ⟨by rfl, fun wS hS => (by go_simp)⟩) hH ?_
      simp only [Act.put, List.setIfInBounds_toArray, List.set_cons_zero, List.set_cons_succ]
      refine wpAnyH_take (i := 1) (oi := { dst := some 22, op := Op.load 23 (Operand.tmp 21), type := 23, pos := "prog.go:54", after := #[{ on := 0, ground := Ground.data }], guard := none }) (v := .slice (some ⟨gB, 0, none⟩) n2 cb) rfl (by kernel_rfl) (by kernel_rfl) (by kernel_rfl) (fun _ _ _ h => h) (Or.inl ⟨by rfl, fun wS hS => (by have d0 := Fk.cell hS hlg hng q1; have d1 := Fk.cell hS hl5 hn5 y0; go_simp)⟩) hH ?_
      simp only [Act.put, List.setIfInBounds_toArray, List.set_cons_zero, List.set_cons_succ]
      refine wpAnyH_take (i := 2) (oi := { dst := some 23, op := Op.move (Operand.tmp 4), type := 3, pos := "prog.go:54", after := #[], guard := none }) (v := .int .i64 (j : Int)) rfl (by kernel_rfl) (by kernel_rfl) (by kernel_rfl) (fun _ _ _ h => h) (Or.inl ⟨by rfl, fun wS hS => (by go_simp)⟩) hH ?_
      simp only [Act.put, List.setIfInBounds_toArray, List.set_cons_zero, List.set_cons_succ]
      refine wpAnyH_take (i := 3) (oi := { dst := some 24, op := Op.fieldAddr 41 (Operand.tmp 5) 0, type := 0, pos := "prog.go:54", after := #[], guard := none }) (v := .pointer (some ⟨wr.heap.size, 0, none⟩)) rfl (by kernel_rfl) (by kernel_rfl) (by kernel_rfl) (fun _ _ _ h => h) (Or.inl ⟨by rfl, fun wS hS => (by go_simp)⟩) hH ?_
      simp only [Act.put, List.setIfInBounds_toArray, List.set_cons_zero, List.set_cons_succ]
      refine wpAnyH_take (i := 4) (oi := { dst := some 25, op := Op.load 39 (Operand.tmp 24), type := 39, pos := "prog.go:54", after := #[{ on := 3, ground := Ground.data }], guard := none }) (v := .slice la ln lc) rfl (by kernel_rfl) (by kernel_rfl) (by kernel_rfl) (fun _ _ _ h => h) (Or.inl ⟨by rfl, fun wS hS => (by have d0 := Fk.cell hS hlg hng q1; have d1 := Fk.cell hS hl5 hn5 y0; go_simp)⟩) hH ?_
      simp only [Act.put, List.setIfInBounds_toArray, List.set_cons_zero, List.set_cons_succ]
      refine wpAnyH_ready (rs := [5]) (by kernel_rfl) (by simp) ?_
      refine AllReadyH.cons (o := { dst := some 26, op := Op.call { callee := Callee.value (Operand.func 36), args := #[Operand.tmp 25], argTypes := #[39] }, type := 39, pos := "prog.go:54", after := #[{ on := 4, ground := Ground.data }], guard := none }) rfl (fun K hK => ?_) AllReadyH.nil
      go_simp
      refine (HCL.out W.drew ((Below.refl _ _).drew)).mono ?_
      rintro e w5 ⟨v, rfl, o5, b5⟩
      obtain ⟨gv, cv, rfl⟩ := L8.owns_slice o5
      refine hK.out _ _ (hH.bnew b5) (fun hH2 => ?_)
      clear hK K
      (try simp only [List.setIfInBounds_toArray, List.set_cons_zero, List.set_cons_succ])
      refine wpAnyH_take (i := 6) (oi := { dst := some 27, op := Op.indexAddr 23 (Operand.tmp 22) (Operand.tmp 23), type := 0, pos := "prog.go:54", after := #[{ on := 1, ground := Ground.data }, { on := 2, ground := Ground.data }, { on := 0, ground := Ground.phase }, { on := 1, ground := Ground.phase }, { on := 2, ground := Ground.phase }, { on := 3, ground := Ground.phase }, { on := 4, ground := Ground.phase }, { on := 5, ground := Ground.phase }], guard := none }) (v := .pointer (some ⟨gB, j * 9, none⟩)) rfl (by kernel_rfl) (by kernel_rfl) (by kernel_rfl) (fun _ _ _ h => h) (Or.inl ⟨by rfl, fun wS hS => (by go_simp)⟩) hH2 ?_
      simp only [Act.put, List.setIfInBounds_toArray, List.set_cons_zero, List.set_cons_succ]
      refine wpAnyH_take (i := 7) (oi := { dst := some 28, op := Op.fieldAddr 41 (Operand.tmp 27) 0, type := 0, pos := "prog.go:54", after := #[{ on := 6, ground := Ground.data }, { on := 0, ground := Ground.phase }, { on := 1, ground := Ground.phase }, { on := 2, ground := Ground.phase }, { on := 3, ground := Ground.phase }, { on := 4, ground := Ground.phase }, { on := 5, ground := Ground.phase }], guard := none }) (v := .pointer (some ⟨gB, j * 9, none⟩)) rfl (by kernel_rfl) (by kernel_rfl) (by kernel_rfl) (fun _ _ _ h => h) (Or.inl ⟨by rfl, fun wS hS => (by go_simp)⟩) hH2 ?_
      simp only [Act.put, List.setIfInBounds_toArray, List.set_cons_zero, List.set_cons_succ]
      have hBw : w5.heap[gB]? = some (.cells cur 41) := row_d hB5 b5
      have fz := frozen_all hBw (j * 9)
      have hu9 : w5.cell? ⟨gB, j * 9, none⟩ = some (.slice la ln lc) := (b5.cell (p := ⟨gB, j * 9, none⟩) (show gB < W.drew.heap.size from hgl5)).trans hx0W
      refine wpAnyH_ready (rs := [8]) (by kernel_rfl) (by simp) ?_
      refine AllReadyH.cons (o := { dst := none, op := Op.store 39 (Operand.tmp 28) (Operand.tmp 26), type := 0, pos := "prog.go:54", after := #[{ on := 7, ground := Ground.data }, { on := 5, ground := Ground.data }, { on := 5, ground := Ground.chain }, { on := 0, ground := Ground.phase }, { on := 1, ground := Ground.phase }, { on := 2, ground := Ground.phase }, { on := 3, ground := Ground.phase }, { on := 4, ground := Ground.phase }, { on := 5, ground := Ground.phase }], guard := none }) rfl (fun K hK => ?_) AllReadyH.nil
      go_simp
      refine hK.out _ _ (hH2.set (j * 9) _) (fun hS3 => ?_)
      clear hK K
      refine wpAnyH_done (by kernel_rfl) ?_ _
      have HNZ := Lib.hid (HNY.out w5 (.slice gv ln cv) ((show Below W.heap.size W W.drew from (Below.refl _ _).drew).trans b5) (by rw [HLN.out]; exact own_lo o5 hW5.size))
      clear HNY HCL hS3 hH2 hH o5 b5 hu9 hBw fz hx0W hgl5 hjn hj0 hn5 hng hl5 hlg y0 q0 q1 hsz5 hW5 hx5 hB5 hg5
      go_wp2
      go_roundw
      case rel => exact ⟨j + 1, by omega, by go_num, Lib.hid ⟨_, HNZ.out⟩⟩
      case measure => simp [intOf]; omega
    · obtain rfl : j = n2 := by omega
      have hll' : ll'.length = j := hJ.len.trans HN2.out
      obtain ⟨r0, r1⟩ := cells2p hJ.i.res
      have fr := frozen_all hJ.i.res
      have hgk := lt_of_block hJ.i.row
      have hrk := lt_of_block hJ.i.res
      have hnr : w.heap.size + 1 ≠ g := by have := hJ.i.lo; omega
      have kP : ∀ (W : World) (cs : Array Value) (i : Nat) (u : Value), W.heap[w.heap.size + 1]? = some (.cells cs 25) → ∀ (e : TypeId) (sz : Nat) (v : Value) (m : Nat) (xs : List Value), e ≠ 25 → W.ownsRow w.heap.size e sz v m xs → (W.setCell ⟨w.heap.size + 1, i, none⟩ u).ownsRow w.heap.size e sz v m xs := fun W cs i u hr e sz v m xs he ho =>
        own_kept ho (gr_setCell W (w.heap.size + 1) i u) (fun k hk => by
          obtain ⟨cur, hc⟩ := own_ty ho hk
          exact ty_ne hr hc (Ne.symm he))
      have R1 := row_set hJ.i.res 0 (.slice ga n1 ca)
      have HR2 := Lib.hid (row_set R1 1 (.slice gb j cb))
      have HP := Lib.hid (show CloR w.heap.size ((wr.setCell ⟨w.heap.size + 1, 0, none⟩ (.slice ga n1 ca)).setCell ⟨w.heap.size + 1, 1, none⟩ (.slice gb j cb)) (.slice ga n1 ca) (.slice gb j cb) p from
        ⟨ll', by rw [hJ.same, HLL.out], kP _ _ _ _ R1 _ _ _ _ _ (by decide) (kP _ _ _ _ hJ.i.res _ _ _ _ _ (by decide) hJ.i.om), kP _ _ _ _ R1 _ _ _ _ _ (by decide) (kP _ _ _ _ hJ.i.res _ _ _ _ _ (by decide) hJ.i.os), fun x hx => by
          obtain ⟨i, hi, rfl⟩ := List.mem_iff_getElem.1 hx
          exact kP _ _ _ _ R1 _ _ _ _ _ (by decide) (kP _ _ _ _ hJ.i.res _ _ _ _ _ (by decide) (hJ.own i hi (by omega)))⟩)
      have HB := Lib.hid (bel_set (bel_set hJ.i.bel (k := w.heap.size + 1) (by omega) 0 (.slice ga n1 ca)) (k := w.heap.size + 1) (by omega) 1 (.slice gb j cb))
      clear hJ R1 kP hll'
      go_wp2
      obtain ⟨q0, q1⟩ := cells2p HR2.out
      exact bodyPost_ret (v := .agg #[.slice ga n1 ca, .slice gb j cb]) (by simp [results, Tryz.results14, go_sem, q0, q1]) rfl ⟨_, _, _, _, _, _, rfl, HP.out, HB.out⟩
end Go.Proofs.YtakblmonbeflmaaGreatDoor.L10
