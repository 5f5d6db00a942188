/- What the reader's addMap does. Condition: memory holds the reader, whose rows are the call's own. -/
import Derived.Test.YtakblmonbeflmaaGreatDoorL10Ad
import Derived.Deep.RegionHeld3
namespace Go.Proofs.YtakblmonbeflmaaGreatDoor.L10
open Go.RowKit Go.Maps
attribute [local go_sem] Oper.semAt_some

theorem drew_below (w : World) : Below w.heap.size w w.drew := (Below.refl _ _).drew
theorem drew_bel {B : Nat} {w W : World} (h : Below B w W) : Below B w W.drew := h.drew
theorem own_far {w w' : World} {B e : TypeId} {size : Nat} {v : Value} {n : Nat} {xs : List Value} {k : Nat} {cs : Array Value} {t : TypeId} {H : Nat} (_ : w.ownsRow B e size v n xs) (hl : ∀ g, v.ownBlock = some g → g < H) (hk : w.heap[k]? = some (.cells cs t)) (hH : H ≤ k) (hg : w.grownBy w' v.ownBlock) : w'.heap[k]? = some (.cells cs t) := by
  refine (hg.block k (lt_of_block hk) fun h => ?_).trans hk
  have := hl k h.symm
  omega
set_option maxHeartbeats 4000000 in
set_option maxRecDepth 100000 in
theorem addMap_at (B kr : Nat) (d : L9.Df) (l : List (Value × Stm)) (s : Rd) (w : World) (h : RdM B kr w l s) (hB : B ≤ w.heap.size) (hm : s.maps.length ≤ 100000) (hml : s.ml.length ≤ 100000) :
    Calls Tryz.prog 56 #[.pointer (some ⟨kr, 0, none⟩), .agg #[.string d.nm, .int .i64 d.key, .int .i64 d.val, .int .i64 d.ent]] w fun e w' => e = .returned (.tuple #[]) ∧ RdM B kr w' l (s.map d) ∧ Fk kr B w w' ∧ KT w w' := by
  obtain ⟨i0, hi, hz0, hz1, hz2⟩ := info_parts infoD
  obtain ⟨j0, hj, hy0, hy1, hy2⟩ := info_parts infoI
  obtain ⟨vm, vs, mv, sv, lv, hrow, hR⟩ := h
  obtain ⟨n, hn⟩ : ∃ n, s.maps.length = n := ⟨_, rfl⟩
  obtain ⟨m, hmm⟩ : ∃ m, s.ml.length = m := ⟨_, rfl⟩
  rw [hn] at hm
  rw [hmm] at hml
  have hlt : ∀ g, vm.ownBlock = some g → g < w.heap.size := fun g hg => (hR.om.lt g hg).2
  obtain ⟨ma, mc, rfl⟩ := L8.owns_slice hR.om
  obtain ⟨la, lc, rfl⟩ := L8.owns_slice hR.oml
  rw [hn, hmm] at hrow hR
  rw [hn] at hlt
  have hb0 := heap_alloc_last w (.cells #[.string d.nm, .int .i64 d.key, .int .i64 d.val, .int .i64 d.ent] 36)
  have hrow0 := L8.row_up hrow (L8.bnew w (.cells #[.string d.nm, .int .i64 d.key, .int .i64 d.val, .int .i64 d.ent] 36))
  have hR0 := hR.below (L8.bnew w (.cells #[.string d.nm, .int .i64 d.key, .int .i64 d.val, .int .i64 d.ent] 36))
  have hB0 : Fk kr B w (w.alloc (.cells #[.string d.nm, .int .i64 d.key, .int .i64 d.val, .int .i64 d.ent] 36)) := (Fk.refl kr B w).alloc hB _
  have hT0 := KT.below (L8.bnew w (.cells #[.string d.nm, .int .i64 d.key, .int .i64 d.val, .int .i64 d.ent] 36))
  obtain ⟨kb, hkb⟩ : ∃ kb, kb = w.heap.size := ⟨_, rfl⟩
  have hkrb : kr < kb := by rw [hkb]; exact lt_of_block hrow
  go_enter Tryz.func56, Tryz.ntmps56
  go_upto_region 1 with (fail)
  rw [← hkb] at hb0 hlt ⊢
  clear hkb hrow hR
  generalize w.alloc (.cells #[.string d.nm, .int .i64 d.key, .int .i64 d.val, .int .i64 d.ent] 36) = W at hb0 hrow0 hR0 hB0 hT0 ⊢
  have hb1 := L8.row_up hb0 (drew_below W)
  have hrow1 := L8.row_up hrow0 (drew_below W)
  have hR1 := hR0.below (drew_below W)
  have hB1 := hB0.drew
  have hT1 := hT0.trans (KT.below (drew_below W))
  clear hb0 hrow0 hR0 hB0 hT0
  refine wp_region_noPanic ?_
  refine wp_region_held_drew (S := fun W => W.cell? ⟨kb, 0, none⟩ = some (.string d.nm) ∧ W.cell? ⟨kb, 1, none⟩ = some (.int .i64 d.key) ∧ W.cell? ⟨kb, 2, none⟩ = some (.int .i64 d.val) ∧ W.cell? ⟨kb, 3, none⟩ = some (.int .i64 d.ent)) (by kernel_rfl) (cells4 hb1) (fun hH => ?_)
  generalize W.drew = Wd at hb1 hrow1 hR1 hB1 hT1 hH ⊢
  refine wpAnyH_take (i := 0) (oi := { dst := some 4, op := Op.move (Operand.tmp 0), type := 93, pos := "reader.go:49", after := #[], guard := none }) (v := .pointer (some ⟨kr, 0, none⟩)) rfl (by kernel_rfl) (by kernel_rfl) (by kernel_rfl) (fun _ _ _ h => h) (Or.inl ⟨by rfl, fun wS hS => (by go_simp)⟩) hH ?_
  simp only [Act.put, List.setIfInBounds_toArray, List.set_cons_zero, List.set_cons_succ]
  refine wpAnyH_take (i := 1) (oi := { dst := some 5, op := Op.move (Operand.tmp 0), type := 93, pos := "reader.go:49", after := #[], guard := none }) (v := .pointer (some ⟨kr, 0, none⟩)) rfl (by kernel_rfl) (by kernel_rfl) (by kernel_rfl) (fun _ _ _ h => h) (Or.inl ⟨by rfl, fun wS hS => (by go_simp)⟩) hH ?_
  simp only [Act.put, List.setIfInBounds_toArray, List.set_cons_zero, List.set_cons_succ]
  refine wpAnyH_take (i := 2) (oi := { dst := some 6, op := Op.nilCheck (Operand.tmp 5), type := 0, pos := "reader.go:49", after := #[{ on := 1, ground := Ground.data }], guard := none }) (v := .pointer (some ⟨kr, 0, none⟩)) rfl (by kernel_rfl) (by kernel_rfl) (by kernel_rfl) (fun _ _ _ h => h) (Or.inl ⟨by rfl, fun wS hS => (by go_simp)⟩) hH ?_
  simp only [Act.put, List.setIfInBounds_toArray, List.set_cons_zero, List.set_cons_succ]
  refine wpAnyH_take (i := 3) (oi := { dst := some 7, op := Op.fieldAddr 75 (Operand.tmp 6) 0, type := 0, pos := "reader.go:49", after := #[{ on := 2, ground := Ground.data }], guard := none }) (v := .pointer (some ⟨kr, 0, none⟩)) rfl (by kernel_rfl) (by kernel_rfl) (by kernel_rfl) (fun _ _ _ h => h) (Or.inl ⟨by rfl, fun wS hS => (by go_simp)⟩) hH ?_
  simp only [Act.put, List.setIfInBounds_toArray, List.set_cons_zero, List.set_cons_succ]
  refine wpAnyH_take (i := 4) (oi := { dst := some 8, op := Op.fieldAddr 25 (Operand.tmp 7) 0, type := 0, pos := "reader.go:49", after := #[{ on := 3, ground := Ground.data }], guard := none }) (v := .pointer (some ⟨kr, 0, none⟩)) rfl (by kernel_rfl) (by kernel_rfl) (by kernel_rfl) (fun _ _ _ h => h) (Or.inl ⟨by rfl, fun wS hS => (by go_simp)⟩) hH ?_
  simp only [Act.put, List.setIfInBounds_toArray, List.set_cons_zero, List.set_cons_succ]
  refine wpAnyH_take (i := 6) (oi := { dst := some 10, op := Op.load 36 (Operand.tmp 3), type := 36, pos := "reader.go:49", after := #[], guard := none }) (v := .agg #[.string d.nm, .int .i64 d.key, .int .i64 d.val, .int .i64 d.ent]) rfl (by kernel_rfl) (by kernel_rfl) (by kernel_rfl) (fun _ _ _ h => h) (Or.inl ⟨by rfl, fun wS hS => (by obtain ⟨d0, d1, d2, d3⟩ := hS; go_simp)⟩) hH ?_
  simp only [Act.put, List.setIfInBounds_toArray, List.set_cons_zero, List.set_cons_succ]
  refine wpAnyH_ready (rs := [5, 7]) (by kernel_rfl) (by simp) ?_
  refine AllReadyH.cons (o := { dst := some 9, op := Op.load 22 (Operand.tmp 8), type := 22, pos := "reader.go:49", after := #[{ on := 4, ground := Ground.data }], guard := none }) rfl (fun K hK => ?_) (AllReadyH.cons (o := { dst := some 11, op := Op.buildSlice 22 1 #[(0, Operand.tmp 10)], type := 22, pos := "reader.go:49", after := #[{ on := 6, ground := Ground.data }], guard := none }) rfl (fun K hK => ?_) AllReadyH.nil)
  focus
    obtain ⟨x0, x1, x2, x3, x4, x5, x6⟩ := cells7 hrow1
    go_simp
    refine hK.out _ _ hH (fun _ => ?_)
    clear hK K x0 x1 x2 x3 x4 x5 x6
    (try simp only [Act.put, List.setIfInBounds_toArray, List.set_cons_zero, List.set_cons_succ])
    refine wpAnyH_ready (rs := [7]) (by kernel_rfl) (by simp) ?_
    refine AllReadyH.cons (o := { dst := some 11, op := Op.buildSlice 22 1 #[(0, Operand.tmp 10)], type := 22, pos := "reader.go:49", after := #[{ on := 6, ground := Ground.data }], guard := none }) rfl (fun K hK => ?_) AllReadyH.nil
    go_simp
    have hb2 := L8.row_up hb1 (L8.bnew Wd (.cells #[.string d.nm, .int .i64 d.key, .int .i64 d.val, .int .i64 d.ent] 36))
    have hrow2 := L8.row_up hrow1 (L8.bnew Wd (.cells #[.string d.nm, .int .i64 d.key, .int .i64 d.val, .int .i64 d.ent] 36))
    have hR2 := hR1.below (L8.bnew Wd (.cells #[.string d.nm, .int .i64 d.key, .int .i64 d.val, .int .i64 d.ent] 36))
    have hn2 := heap_alloc_last Wd (.cells #[.string d.nm, .int .i64 d.key, .int .i64 d.val, .int .i64 d.ent] 36)
    have hBd := (hB1.alloc (Nat.le_trans hB hB1.size) (.cells #[.string d.nm, .int .i64 d.key, .int .i64 d.val, .int .i64 d.ent] 36))
    have hTd := hT1.trans (KT.below (L8.bnew Wd (.cells #[.string d.nm, .int .i64 d.key, .int .i64 d.val, .int .i64 d.ent] 36)))
    refine hK.out _ _ (cells4 hb2) (fun hH2 => ?_)
    clear hK K hb1 hrow1 hR1 hB1 hT1 hH
    obtain ⟨gn, hgn⟩ : ∃ gn, Wd.heap.size = gn := ⟨_, rfl⟩
    rw [hgn] at hn2 ⊢
    generalize Wd.alloc (.cells #[.string d.nm, .int .i64 d.key, .int .i64 d.val, .int .i64 d.ent] 36) = W2 at hb2 hrow2 hR2 hn2 hBd hTd hH2 ⊢
    clear hgn
    (try simp only [Act.put, List.setIfInBounds_toArray, List.set_cons_zero, List.set_cons_succ])
  rotate_left
  focus
    go_simp
    have hb2 := L8.row_up hb1 (L8.bnew Wd (.cells #[.string d.nm, .int .i64 d.key, .int .i64 d.val, .int .i64 d.ent] 36))
    have hrow2 := L8.row_up hrow1 (L8.bnew Wd (.cells #[.string d.nm, .int .i64 d.key, .int .i64 d.val, .int .i64 d.ent] 36))
    have hR2 := hR1.below (L8.bnew Wd (.cells #[.string d.nm, .int .i64 d.key, .int .i64 d.val, .int .i64 d.ent] 36))
    have hn2 := heap_alloc_last Wd (.cells #[.string d.nm, .int .i64 d.key, .int .i64 d.val, .int .i64 d.ent] 36)
    have hBd := (hB1.alloc (Nat.le_trans hB hB1.size) (.cells #[.string d.nm, .int .i64 d.key, .int .i64 d.val, .int .i64 d.ent] 36))
    have hTd := hT1.trans (KT.below (L8.bnew Wd (.cells #[.string d.nm, .int .i64 d.key, .int .i64 d.val, .int .i64 d.ent] 36)))
    refine hK.out _ _ (cells4 hb2) (fun hH2 => ?_)
    clear hK K hb1 hrow1 hR1 hB1 hT1 hH
    obtain ⟨gn, hgn⟩ : ∃ gn, Wd.heap.size = gn := ⟨_, rfl⟩
    rw [hgn] at hn2 ⊢
    generalize Wd.alloc (.cells #[.string d.nm, .int .i64 d.key, .int .i64 d.val, .int .i64 d.ent] 36) = W2 at hb2 hrow2 hR2 hn2 hBd hTd hH2 ⊢
    clear hgn
    (try simp only [Act.put, List.setIfInBounds_toArray, List.set_cons_zero, List.set_cons_succ])
    obtain ⟨x0, x1, x2, x3, x4, x5, x6⟩ := cells7 hrow2
    refine wpAnyH_ready (rs := [5]) (by kernel_rfl) (by simp) ?_
    refine AllReadyH.cons (o := { dst := some 9, op := Op.load 22 (Operand.tmp 8), type := 22, pos := "reader.go:49", after := #[{ on := 4, ground := Ground.data }], guard := none }) rfl (fun K hK => ?_) AllReadyH.nil
    go_simp
    refine hK.out _ _ hH2 (fun _ => ?_)
    clear hK K x0 x1 x2 x3 x4 x5 x6
    (try simp only [Act.put, List.setIfInBounds_toArray, List.set_cons_zero, List.set_cons_succ])
  all_goals
    refine wpAnyH_ready (rs := [8]) (by kernel_rfl) (by simp) ?_
    refine AllReadyH.cons (o := { dst := some 12, op := Op.call { callee := Callee.builtin Builtin.append, args := #[Operand.tmp 9, Operand.tmp 11], argTypes := #[22, 22] }, type := 22, pos := "reader.go:49", after := #[{ on := 5, ground := Ground.data }, { on := 7, ground := Ground.data }], guard := none }) rfl (fun K hK => ?_) AllReadyH.nil
    have hom := hR2.om
    rw [hn] at hom
    refine step_append_lies _ (by rfl) _ _ _ (by rfl) B 36 i0 (.agg #[.string ⟨#[]⟩, .int .i64 0, .int .i64 0, .int .i64 0]) 4 40 Tryz.underlying22 hi hz0 hz1 hz2 rfl (by decide) _ n _ (by rfl) hom ⟨gn, 0, none⟩ 1 1 (dfL d) (by rfl) (by rfl) (World.news_of_block (cs := #[.string d.nm, .int .i64 d.key, .int .i64 d.val, .int .i64 d.ent]) (t := 36) (fr := (0, 0)) hn2) (by simp [Value.oneCell']) (by omega) (by unfold maxLen; omega) (by omega) (Nat.le_trans hB hBd.size) _ rfl ?_
    intro g cap w3 hown3 hgrow3 hat3 hlt3
    have hrow3 := row_own hrow2 hom hgrow3 (by decide)
    have hb3 := own_far hom hlt hb2 (Nat.le_refl _) hgrow3
    have hR3 := hR2.addDef d (by rw [hn]; exact hown3) hgrow3
    rw [hn] at hR3
    have hBd3 := hBd.grown hgrow3 (Nat.le_trans hB hBd.size) (own_base2 hom)
    have hTd3 := hTd.trans (KT.own hom hgrow3 (by decide))
    refine hK.out _ _ (cells4 hb3) (fun hH3 => ?_)
    clear hK K hb2 hrow2 hR2 hn2 hH2 hown3 hgrow3 hat3 hlt3 hom hBd hTd hlt
    (try simp only [Act.put, List.setIfInBounds_toArray, List.set_cons_zero, List.set_cons_succ])
    refine wpAnyH_take (i := 9) (oi := { dst := some 13, op := Op.nilCheck (Operand.tmp 4), type := 0, pos := "reader.go:49", after := #[{ on := 0, ground := Ground.data }, { on := 0, ground := Ground.phase }, { on := 1, ground := Ground.phase }, { on := 2, ground := Ground.phase }, { on := 3, ground := Ground.phase }, { on := 4, ground := Ground.phase }, { on := 5, ground := Ground.phase }, { on := 6, ground := Ground.phase }, { on := 7, ground := Ground.phase }, { on := 8, ground := Ground.phase }], guard := none }) (v := .pointer (some ⟨kr, 0, none⟩)) rfl (by kernel_rfl) (by kernel_rfl) (by kernel_rfl) (fun _ _ _ h => h) (Or.inl ⟨by rfl, fun wS hS => (by go_simp)⟩) hH3 ?_
    simp only [Act.put, List.setIfInBounds_toArray, List.set_cons_zero, List.set_cons_succ]
    refine wpAnyH_take (i := 10) (oi := { dst := some 14, op := Op.fieldAddr 75 (Operand.tmp 13) 0, type := 0, pos := "reader.go:49", after := #[{ on := 9, ground := Ground.data }, { on := 0, ground := Ground.phase }, { on := 1, ground := Ground.phase }, { on := 2, ground := Ground.phase }, { on := 3, ground := Ground.phase }, { on := 4, ground := Ground.phase }, { on := 5, ground := Ground.phase }, { on := 6, ground := Ground.phase }, { on := 7, ground := Ground.phase }, { on := 8, ground := Ground.phase }], guard := none }) (v := .pointer (some ⟨kr, 0, none⟩)) rfl (by kernel_rfl) (by kernel_rfl) (by kernel_rfl) (fun _ _ _ h => h) (Or.inl ⟨by rfl, fun wS hS => (by go_simp)⟩) hH3 ?_
    simp only [Act.put, List.setIfInBounds_toArray, List.set_cons_zero, List.set_cons_succ]
    refine wpAnyH_take (i := 11) (oi := { dst := some 15, op := Op.fieldAddr 25 (Operand.tmp 14) 0, type := 0, pos := "reader.go:49", after := #[{ on := 10, ground := Ground.data }, { on := 0, ground := Ground.phase }, { on := 1, ground := Ground.phase }, { on := 2, ground := Ground.phase }, { on := 3, ground := Ground.phase }, { on := 4, ground := Ground.phase }, { on := 5, ground := Ground.phase }, { on := 6, ground := Ground.phase }, { on := 7, ground := Ground.phase }, { on := 8, ground := Ground.phase }], guard := none }) (v := .pointer (some ⟨kr, 0, none⟩)) rfl (by kernel_rfl) (by kernel_rfl) (by kernel_rfl) (fun _ _ _ h => h) (Or.inl ⟨by rfl, fun wS hS => (by go_simp)⟩) hH3 ?_
    simp only [Act.put, List.setIfInBounds_toArray, List.set_cons_zero, List.set_cons_succ]
    obtain ⟨x0, x1, x2, x3, x4, x5, x6⟩ := cells7 hrow3
    have fz := frozen_all hrow3 0
    have hR4 := hR3.rd (gr_setCell w3 kr 0 (.slice (some ⟨g, 0, none⟩) (n + 1) cap)) hrow3
    have hrow4 := row_set hrow3 0 (.slice (some ⟨g, 0, none⟩) (n + 1) cap)
    have hB4 := Fk.set hBd3 0 (.slice (some ⟨g, 0, none⟩) (n + 1) cap)
    have hT4 := hTd3.trans (KT.gr (gr_setCell w3 kr 0 (.slice (some ⟨g, 0, none⟩) (n + 1) cap)) hrow3 (by decide))
    have hb4 : (w3.setCell ⟨kr, 0, none⟩ (.slice (some ⟨g, 0, none⟩) (n + 1) cap)).heap[kb]? = some (.cells #[.string d.nm, .int .i64 d.key, .int .i64 d.val, .int .i64 d.ent] 36) := (Below.heap_setCell _ _ _ _ (show kb ≠ kr by omega)).trans hb3
    refine wpAnyH_ready (rs := [12]) (by kernel_rfl) (by simp) ?_
    refine AllReadyH.cons (o := { dst := none, op := Op.store 22 (Operand.tmp 15) (Operand.tmp 12), type := 0, pos := "reader.go:49", after := #[{ on := 11, ground := Ground.data }, { on := 8, ground := Ground.data }, { on := 8, ground := Ground.chain }, { on := 0, ground := Ground.phase }, { on := 1, ground := Ground.phase }, { on := 2, ground := Ground.phase }, { on := 3, ground := Ground.phase }, { on := 4, ground := Ground.phase }, { on := 5, ground := Ground.phase }, { on := 6, ground := Ground.phase }, { on := 7, ground := Ground.phase }, { on := 8, ground := Ground.phase }], guard := none }) rfl (fun K hK => ?_) AllReadyH.nil
    go_simp
    refine hK.out _ _ (cells4 hb4) (fun hH4 => ?_)
    clear hK K hb3 hrow3 hR3 hBd3 hTd3 hH3 x0 x1 x2 x3 x4 x5 x6 fz hb4 hH4
    generalize w3.setCell ⟨kr, 0, none⟩ (.slice (some ⟨g, 0, none⟩) (n + 1) cap) = W5 at hrow4 hR4 hB4 hT4 ⊢
    (try simp only [Act.put, List.setIfInBounds_toArray, List.set_cons_zero, List.set_cons_succ])
    refine wpAnyH_done (by kernel_rfl) ?_ _
    refine NoPanic.normal ?_
    go_upto_region 2 with (fail)
    have hrow5 := L8.row_up hrow4 (drew_below W5)
    have hR5 := hR4.below (drew_below W5)
    have hB5 := hB4.drew
    have hT5 := hT4.trans (KT.below (drew_below W5))
    clear hrow4 hR4 hB4 hT4
    refine wp_region_noPanic ?_
    refine wp_region_held_drew (S := fun W => W.cell? ⟨kr, 6, none⟩ = some (.int .i64 s.line)) (by kernel_rfl) ((cells7 hrow5).2.2.2.2.2.2) (fun hH => ?_)
    generalize W5.drew = Wd at hrow5 hR5 hB5 hT5 hH ⊢
    refine wpAnyH_take (i := 0) (oi := { dst := some 16, op := Op.move (Operand.tmp 0), type := 93, pos := "reader.go:50", after := #[], guard := none }) (v := .pointer (some ⟨kr, 0, none⟩)) rfl (by kernel_rfl) (by kernel_rfl) (by kernel_rfl) (fun _ _ _ h => h) (Or.inl ⟨by rfl, fun wS hS => (by go_simp)⟩) hH ?_
    simp only [Act.put, List.setIfInBounds_toArray, List.set_cons_zero, List.set_cons_succ]
    refine wpAnyH_take (i := 1) (oi := { dst := some 17, op := Op.move (Operand.tmp 0), type := 93, pos := "reader.go:50", after := #[], guard := none }) (v := .pointer (some ⟨kr, 0, none⟩)) rfl (by kernel_rfl) (by kernel_rfl) (by kernel_rfl) (fun _ _ _ h => h) (Or.inl ⟨by rfl, fun wS hS => (by go_simp)⟩) hH ?_
    simp only [Act.put, List.setIfInBounds_toArray, List.set_cons_zero, List.set_cons_succ]
    refine wpAnyH_take (i := 2) (oi := { dst := some 18, op := Op.nilCheck (Operand.tmp 17), type := 0, pos := "reader.go:50", after := #[{ on := 1, ground := Ground.data }], guard := none }) (v := .pointer (some ⟨kr, 0, none⟩)) rfl (by kernel_rfl) (by kernel_rfl) (by kernel_rfl) (fun _ _ _ h => h) (Or.inl ⟨by rfl, fun wS hS => (by go_simp)⟩) hH ?_
    simp only [Act.put, List.setIfInBounds_toArray, List.set_cons_zero, List.set_cons_succ]
    refine wpAnyH_take (i := 3) (oi := { dst := some 19, op := Op.fieldAddr 75 (Operand.tmp 18) 1, type := 0, pos := "reader.go:50", after := #[{ on := 2, ground := Ground.data }], guard := none }) (v := .pointer (some ⟨kr, 2, none⟩)) rfl (by kernel_rfl) (by kernel_rfl) (by kernel_rfl) (fun _ _ _ h => h) (Or.inl ⟨by rfl, fun wS hS => (by go_simp)⟩) hH ?_
    simp only [Act.put, List.setIfInBounds_toArray, List.set_cons_zero, List.set_cons_succ]
    refine wpAnyH_take (i := 5) (oi := { dst := some 21, op := Op.move (Operand.tmp 0), type := 93, pos := "reader.go:50", after := #[], guard := none }) (v := .pointer (some ⟨kr, 0, none⟩)) rfl (by kernel_rfl) (by kernel_rfl) (by kernel_rfl) (fun _ _ _ h => h) (Or.inl ⟨by rfl, fun wS hS => (by go_simp)⟩) hH ?_
    simp only [Act.put, List.setIfInBounds_toArray, List.set_cons_zero, List.set_cons_succ]
    refine wpAnyH_take (i := 6) (oi := { dst := some 22, op := Op.nilCheck (Operand.tmp 21), type := 0, pos := "reader.go:50", after := #[{ on := 5, ground := Ground.data }], guard := none }) (v := .pointer (some ⟨kr, 0, none⟩)) rfl (by kernel_rfl) (by kernel_rfl) (by kernel_rfl) (fun _ _ _ h => h) (Or.inl ⟨by rfl, fun wS hS => (by go_simp)⟩) hH ?_
    simp only [Act.put, List.setIfInBounds_toArray, List.set_cons_zero, List.set_cons_succ]
    refine wpAnyH_take (i := 7) (oi := { dst := some 23, op := Op.fieldAddr 75 (Operand.tmp 22) 5, type := 0, pos := "reader.go:50", after := #[{ on := 6, ground := Ground.data }], guard := none }) (v := .pointer (some ⟨kr, 6, none⟩)) rfl (by kernel_rfl) (by kernel_rfl) (by kernel_rfl) (fun _ _ _ h => h) (Or.inl ⟨by rfl, fun wS hS => (by go_simp)⟩) hH ?_
    simp only [Act.put, List.setIfInBounds_toArray, List.set_cons_zero, List.set_cons_succ]
    refine wpAnyH_take (i := 8) (oi := { dst := some 24, op := Op.load 3 (Operand.tmp 23), type := 3, pos := "reader.go:50", after := #[{ on := 7, ground := Ground.data }], guard := none }) (v := .int .i64 s.line) rfl (by kernel_rfl) (by kernel_rfl) (by kernel_rfl) (fun _ _ _ h => h) (Or.inl ⟨by rfl, fun wS hS => (by have d0 : wS.cell? ⟨kr, 6, none⟩ = some (.int .i64 s.line) := hS; go_simp)⟩) hH ?_
    simp only [Act.put, List.setIfInBounds_toArray, List.set_cons_zero, List.set_cons_succ]
    refine wpAnyH_ready (rs := [4, 9]) (by kernel_rfl) (by simp) ?_
    refine AllReadyH.cons (o := { dst := some 20, op := Op.load 49 (Operand.tmp 19), type := 49, pos := "reader.go:50", after := #[{ on := 3, ground := Ground.data }], guard := none }) rfl (fun K hK => ?_) (AllReadyH.cons (o := { dst := some 25, op := Op.buildSlice 49 1 #[(0, Operand.tmp 24)], type := 49, pos := "reader.go:50", after := #[{ on := 8, ground := Ground.data }], guard := none }) rfl (fun K hK => ?_) AllReadyH.nil)
    focus
      obtain ⟨x0, x1, x2, x3, x4, x5, x6⟩ := cells7 hrow5
      go_simp
      refine hK.out _ _ hH (fun _ => ?_)
      clear hK K x0 x1 x2 x3 x4 x5 x6
      (try simp only [Act.put, List.setIfInBounds_toArray, List.set_cons_zero, List.set_cons_succ])
      refine wpAnyH_ready (rs := [9]) (by kernel_rfl) (by simp) ?_
      refine AllReadyH.cons (o := { dst := some 25, op := Op.buildSlice 49 1 #[(0, Operand.tmp 24)], type := 49, pos := "reader.go:50", after := #[{ on := 8, ground := Ground.data }], guard := none }) rfl (fun K hK => ?_) AllReadyH.nil
      go_simp
      have hrow6 := L8.row_up hrow5 (L8.bnew Wd (.cells #[.int .i64 s.line] 3))
      have hR6 := hR5.below (L8.bnew Wd (.cells #[.int .i64 s.line] 3))
      have hn6 := heap_alloc_last Wd (.cells #[.int .i64 s.line] 3)
      have hB6 := (hB5.alloc (Nat.le_trans hB hB5.size) (.cells #[.int .i64 s.line] 3))
      have hT6 := hT5.trans (KT.below (L8.bnew Wd (.cells #[.int .i64 s.line] 3)))
      refine hK.out _ _ (cells7 hrow6).2.2.2.2.2.2 (fun hH6 => ?_)
      clear hK K hrow5 hR5 hB5 hT5 hH
      obtain ⟨gn, hgn⟩ : ∃ gn, Wd.heap.size = gn := ⟨_, rfl⟩
      rw [hgn] at hn6 ⊢
      generalize Wd.alloc (.cells #[.int .i64 s.line] 3) = W6 at hrow6 hR6 hn6 hB6 hT6 hH6 ⊢
      clear hgn
      (try simp only [Act.put, List.setIfInBounds_toArray, List.set_cons_zero, List.set_cons_succ])
    rotate_left
    focus
      go_simp
      have hrow6 := L8.row_up hrow5 (L8.bnew Wd (.cells #[.int .i64 s.line] 3))
      have hR6 := hR5.below (L8.bnew Wd (.cells #[.int .i64 s.line] 3))
      have hn6 := heap_alloc_last Wd (.cells #[.int .i64 s.line] 3)
      have hB6 := (hB5.alloc (Nat.le_trans hB hB5.size) (.cells #[.int .i64 s.line] 3))
      have hT6 := hT5.trans (KT.below (L8.bnew Wd (.cells #[.int .i64 s.line] 3)))
      refine hK.out _ _ (cells7 hrow6).2.2.2.2.2.2 (fun hH6 => ?_)
      clear hK K hrow5 hR5 hB5 hT5 hH
      obtain ⟨gn, hgn⟩ : ∃ gn, Wd.heap.size = gn := ⟨_, rfl⟩
      rw [hgn] at hn6 ⊢
      generalize Wd.alloc (.cells #[.int .i64 s.line] 3) = W6 at hrow6 hR6 hn6 hB6 hT6 hH6 ⊢
      clear hgn
      (try simp only [Act.put, List.setIfInBounds_toArray, List.set_cons_zero, List.set_cons_succ])
      obtain ⟨x0, x1, x2, x3, x4, x5, x6⟩ := cells7 hrow6
      refine wpAnyH_ready (rs := [4]) (by kernel_rfl) (by simp) ?_
      refine AllReadyH.cons (o := { dst := some 20, op := Op.load 49 (Operand.tmp 19), type := 49, pos := "reader.go:50", after := #[{ on := 3, ground := Ground.data }], guard := none }) rfl (fun K hK => ?_) AllReadyH.nil
      go_simp
      refine hK.out _ _ hH6 (fun _ => ?_)
      clear hK K x0 x1 x2 x3 x4 x5 x6
      (try simp only [Act.put, List.setIfInBounds_toArray, List.set_cons_zero, List.set_cons_succ])
    all_goals
      refine wpAnyH_ready (rs := [10]) (by kernel_rfl) (by simp) ?_
      refine AllReadyH.cons (o := { dst := some 26, op := Op.call { callee := Callee.builtin Builtin.append, args := #[Operand.tmp 20, Operand.tmp 25], argTypes := #[49, 49] }, type := 49, pos := "reader.go:50", after := #[{ on := 4, ground := Ground.data }, { on := 9, ground := Ground.data }], guard := none }) rfl (fun K hK => ?_) AllReadyH.nil
      have hom := hR6.oml
      have hcn := hmm
      rw [hcn] at hom
      refine step_append_lies _ (by rfl) _ _ _ (by rfl) B 3 j0 (.int .i64 0) 1 8 Tryz.underlying49 hj hy0 hy1 hy2 rfl (by decide) _ m _ (by rfl) hom ⟨gn, 0, none⟩ 1 1 [.int .i64 s.line] (by rfl) (by rfl) (World.news_of_block (cs := #[.int .i64 s.line]) (t := 3) (fr := (0, 0)) hn6) (by simp [Value.oneCell']) (by omega) (by unfold maxLen; omega) (by omega) (Nat.le_trans hB hB6.size) _ rfl ?_
      intro g7 cap7 w7 hown7 hgrow7 hat7 hlt7
      have hrow7 := row_own hrow6 hom hgrow7 (by decide)
      have hR7 := hR6.addMl s.line (by rw [hcn]; exact hown7) hgrow7 hat7
      rw [hcn] at hR7
      have hB7 := hB6.grown hgrow7 (Nat.le_trans hB hB6.size) (own_base2 hom)
      have hT7 := hT6.trans (KT.own hom hgrow7 (by decide))
      refine hK.out _ _ (cells7 hrow7).2.2.2.2.2.2 (fun hH7 => ?_)
      clear hK K hrow6 hR6 hn6 hH6 hown7 hgrow7 hat7 hlt7 hom hB6 hT6
      (try simp only [Act.put, List.setIfInBounds_toArray, List.set_cons_zero, List.set_cons_succ])
      refine wpAnyH_take (i := 11) (oi := { dst := some 27, op := Op.nilCheck (Operand.tmp 16), type := 0, pos := "reader.go:50", after := #[{ on := 0, ground := Ground.data }, { on := 0, ground := Ground.phase }, { on := 1, ground := Ground.phase }, { on := 2, ground := Ground.phase }, { on := 3, ground := Ground.phase }, { on := 4, ground := Ground.phase }, { on := 5, ground := Ground.phase }, { on := 6, ground := Ground.phase }, { on := 7, ground := Ground.phase }, { on := 8, ground := Ground.phase }, { on := 9, ground := Ground.phase }, { on := 10, ground := Ground.phase }], guard := none }) (v := .pointer (some ⟨kr, 0, none⟩)) rfl (by kernel_rfl) (by kernel_rfl) (by kernel_rfl) (fun _ _ _ h => h) (Or.inl ⟨by rfl, fun wS hS => (by go_simp)⟩) hH7 ?_
      simp only [Act.put, List.setIfInBounds_toArray, List.set_cons_zero, List.set_cons_succ]
      refine wpAnyH_take (i := 12) (oi := { dst := some 28, op := Op.fieldAddr 75 (Operand.tmp 27) 1, type := 0, pos := "reader.go:50", after := #[{ on := 11, ground := Ground.data }, { on := 0, ground := Ground.phase }, { on := 1, ground := Ground.phase }, { on := 2, ground := Ground.phase }, { on := 3, ground := Ground.phase }, { on := 4, ground := Ground.phase }, { on := 5, ground := Ground.phase }, { on := 6, ground := Ground.phase }, { on := 7, ground := Ground.phase }, { on := 8, ground := Ground.phase }, { on := 9, ground := Ground.phase }, { on := 10, ground := Ground.phase }], guard := none }) (v := .pointer (some ⟨kr, 2, none⟩)) rfl (by kernel_rfl) (by kernel_rfl) (by kernel_rfl) (fun _ _ _ h => h) (Or.inl ⟨by rfl, fun wS hS => (by go_simp)⟩) hH7 ?_
      simp only [Act.put, List.setIfInBounds_toArray, List.set_cons_zero, List.set_cons_succ]
      obtain ⟨x0, x1, x2, x3, x4, x5, x6⟩ := cells7 hrow7
      have fz := frozen_all hrow7 2
      have hR8 := hR7.rd (gr_setCell w7 kr 2 (.slice (some ⟨g7, 0, none⟩) (m + 1) cap7)) hrow7
      have hrow8 := row_set hrow7 2 (.slice (some ⟨g7, 0, none⟩) (m + 1) cap7)
      have hB8 := Fk.set hB7 2 (.slice (some ⟨g7, 0, none⟩) (m + 1) cap7)
      have hT8 := hT7.trans (KT.gr (gr_setCell w7 kr 2 (.slice (some ⟨g7, 0, none⟩) (m + 1) cap7)) hrow7 (by decide))
      refine wpAnyH_ready (rs := [13]) (by kernel_rfl) (by simp) ?_
      refine AllReadyH.cons (o := { dst := none, op := Op.store 49 (Operand.tmp 28) (Operand.tmp 26), type := 0, pos := "reader.go:50", after := #[{ on := 12, ground := Ground.data }, { on := 10, ground := Ground.data }, { on := 10, ground := Ground.chain }, { on := 0, ground := Ground.phase }, { on := 1, ground := Ground.phase }, { on := 2, ground := Ground.phase }, { on := 3, ground := Ground.phase }, { on := 4, ground := Ground.phase }, { on := 5, ground := Ground.phase }, { on := 6, ground := Ground.phase }, { on := 7, ground := Ground.phase }, { on := 8, ground := Ground.phase }, { on := 9, ground := Ground.phase }, { on := 10, ground := Ground.phase }], guard := none }) rfl (fun K hK => ?_) AllReadyH.nil
      go_simp
      refine hK.out _ _ (cells7 hrow8).2.2.2.2.2.2 (fun hH8 => ?_)
      clear hK K hrow7 hR7 hB7 hT7 hH7 x0 x1 x2 x3 x4 x5 x6 fz hH8
      generalize w7.setCell ⟨kr, 2, none⟩ (.slice (some ⟨g7, 0, none⟩) (m + 1) cap7) = W9 at hrow8 hR8 hB8 hT8 ⊢
      (try simp only [Act.put, List.setIfInBounds_toArray, List.set_cons_zero, List.set_cons_succ])
      refine wpAnyH_done (by kernel_rfl) ?_ _
      refine NoPanic.normal ?_
      go_wp2
      go_end0
      exact ⟨rfl, ⟨_, _, _, _, _, hrow8, hR8⟩, hB8, hT8⟩
end Go.Proofs.YtakblmonbeflmaaGreatDoor.L10
