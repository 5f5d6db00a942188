/- ProgClones' walk: changing a clone does not change the program. Condition: the tables read as the program's text lays them, memory holds the program. -/
import Derived.Test.YtakblmonbeflmaaGreatDoorL10Clx
import Derived.Test.YtakblmonbeflmaaGreatDoorL10Rsa
import Derived.Test.YtakblmonbeflmaaGreatDoorL10Few
namespace Go.Proofs.YtakblmonbeflmaaGreatDoor.L10
open Go.RowKit
attribute [local go_sem] Oper.semAt_some

/-- Only a clone's rows have changed. -/
structure Fz (H H2 : Nat) (a b : World) : Prop where
  os : b.os = a.os
  tape : b.tape = a.tape
  output : b.output = a.output
  size : a.heap.size ≤ b.heap.size
  block : ∀ k, k < a.heap.size → (k < H ∨ H2 ≤ k ∨ ∃ cs fr, a.heap[k]? = some (.cells cs 25 fr)) → b.heap[k]? = a.heap[k]?
theorem Fz.refl (H H2 : Nat) (a : World) : Fz H H2 a a := ⟨rfl, rfl, rfl, Nat.le_refl _, fun _ _ _ => rfl⟩
theorem Fz.set {H H2 : Nat} {a b : World} (h : Fz H H2 a b) {g : Nat} {cs : Array Value} {t : TypeId} (hg : b.heap[g]? = some (.cells cs t)) (ht : t ≠ 25) (h1 : H ≤ g) (h2 : g < H2) (i : Nat) (u : Value) : Fz H H2 a (b.setCell ⟨g, i, none⟩ u) := by
  refine ⟨h.os, h.tape, h.output, by simpa [World.setCell] using h.size, fun k hk hc => ?_⟩
  by_cases e : k = g
  · subst e
    rcases hc with hc | hc | ⟨cs', fr, hc⟩
    · omega
    · omega
    · have := h.block k hk (.inr (.inr ⟨cs', fr, hc⟩))
      rw [hg, hc] at this
      cases this
      exact absurd rfl ht
  · rw [← h.block k hk hc]
    exact Below.heap_setCell _ _ _ _ e
theorem Fz.row {H H2 : Nat} {a b : World} (h : Fz H H2 a b) {k : Nat} {cs : Array Value} (hk : a.heap[k]? = some (.cells cs 25)) : b.heap[k]? = some (.cells cs 25) := by
  rw [h.block k (lt_of_block hk) (.inr (.inr ⟨_, _, hk⟩))]; exact hk
theorem Fz.bel {H H2 B : Nat} {w a b : World} (h : Fz H H2 a b) (hb : Below B w a) (hB : B ≤ H) (hB2 : B ≤ a.heap.size) : Below B w b :=
  hb.trans ⟨h.os, h.tape, h.output, h.size, fun k hk => h.block k (by omega) (.inl (by omega))⟩
theorem own_block {W W' : World} {B e : TypeId} {sz : Nat} {v : Value} {n : Nat} {xs : List Value} (h : W.ownsRow B e sz v n xs) (hb : ∀ k, v.ownBlock = some k → W'.heap[k]? = W.heap[k]?) : W'.ownsRow B e sz v n xs := by
  refine ⟨h.1, ?_⟩
  rcases h.2 with h' | ⟨g, cap, cur, rfl, h1, h2, r⟩
  · exact .inl h'
  · exact .inr ⟨g, cap, cur, rfl, h1, (hb g rfl).trans h2, r⟩
theorem Fz.clone {H H2 H3 : Nat} {a b : World} (h : Fz H H2 a b) {vm vs : Value} {p : Pg} (hc : CloR H3 a vm vs p) (hH : H2 ≤ H3) : CloR H3 b vm vs p := by
  obtain ⟨ll, h1, h2, h3, h4⟩ := hc
  have k : ∀ (e : TypeId) (sz : Nat) (u : Value) (m : Nat) (xs : List Value), a.ownsRow H3 e sz u m xs → b.ownsRow H3 e sz u m xs := fun e sz u m xs ho => own_block ho (fun g hg => h.block g (ho.lt g hg).2 (.inr (.inl (Nat.le_trans hH (ho.lt g hg).1))))
  exact ⟨ll, h1, k _ _ _ _ _ h2, k _ _ _ _ _ h3, fun x hx => k _ _ _ _ _ (h4 x hx)⟩
theorem flat_set {α : Type} (f : α → List Value) (c : Nat) (hf : ∀ x, (f x).length = c) : ∀ (l : List α) (k : Nat) (hk : k < l.length) (i : Nat) (u : Value) (x' : α), i < c → f x' = (f l[k]).set i u → (l.set k x').flatMap f = (l.flatMap f).set (k * c + i) u
  | a :: r, 0, _, i, u, x', hi, h => by
    rw [List.set_cons_zero, List.flatMap_cons, List.flatMap_cons, h, Nat.zero_mul, Nat.zero_add, List.set_append_left _ _ (by rw [hf]; exact hi)]
    rfl
  | a :: r, k + 1, hk, i, u, x', hi, h => by
    have ih := flat_set f c hf r k (by simpa using hk) i u x' hi (by simpa using h)
    rw [List.set_cons_succ, List.flatMap_cons, List.flatMap_cons, ih, List.set_append_right (h := by rw [hf, Nat.add_mul]; omega), hf, show (k + 1) * c + i - c = k * c + i by rw [Nat.add_mul]; omega]
/-- Labels of a clone's statement, whatever they are by now. -/
def TxOwn (H H2 : Nat) (W : World) (v : Value) (n R : Nat) : Prop := ∃ labs : List ByteArray, labs.length = n ∧ W.ownsRow H 9 1 v n (L8.stC labs) ∧ (∀ t ∈ labs, t.size ≤ R) ∧ ∀ k, v.ownBlock = some k → k < H2
/-- A clone that is being changed. -/
structure AI (H H2 : Nat) (W : World) (vm vs : Value) (n1 : Nat) (bl : List (Value × Nat)) (R : Nat) : Prop where
  maps : ∃ l' : List L9.Df, l'.length = n1 ∧ W.ownsRow H 36 4 vm n1 (l'.flatMap dfL)
  stms : ∃ ll' : List (Value × Stm), ll'.map (fun x => (x.1, x.2.labs.length)) = bl ∧ W.ownsRow H 41 9 vs bl.length (smC ll')
  labs : ∀ y ∈ bl, TxOwn H H2 W y.1 y.2 R
  lm : ∀ k, vm.ownBlock = some k → k < H2
  ls : ∀ k, vs.ownBlock = some k → k < H2
theorem CloA.ai {H H2 R : Nat} {W : World} {vm vs : Value} {p : Pg} (h : CloA H H2 W vm vs p) (hz : ∀ s ∈ p.stmts, ∀ t ∈ s.labs, t.size ≤ R) : ∃ bl : List (Value × Nat), bl.map (·.2) = p.stmts.map (fun s => s.labs.length) ∧ AI H H2 W vm vs p.maps.length bl R := by
  obtain ⟨ll, h1, h2, h3, h4, h5, h6, h7⟩ := h
  refine ⟨ll.map (fun x => (x.1, x.2.labs.length)), by rw [← h1, List.map_map, List.map_map]; rfl, ⟨⟨p.maps, rfl, h2⟩, ⟨ll, rfl, by rw [List.length_map]; exact h3⟩, fun y hy => ?_, h5, h6⟩⟩
  obtain ⟨x, hx, rfl⟩ := List.mem_map.1 hy
  exact ⟨x.2.labs, rfl, h4 x hx, fun t ht => hz x.2 (by rw [← h1]; exact List.mem_map.2 ⟨x, hx, rfl⟩) t ht, h7 x hx⟩
theorem own_type {W : World} {B e e' : TypeId} {sz n g : Nat} {v : Value} {xs : List Value} {cs : Array Value} (ho : W.ownsRow B e sz v n xs) (hg : W.heap[g]? = some (.cells cs e')) (he : e ≠ e') : ∀ k, v.ownBlock = some k → (some g : Option Nat) ≠ some k := fun k hk => by
  obtain ⟨cur, hc⟩ := own_ty ho hk
  exact ty_ne hg hc (Ne.symm he)
theorem AI.key {H H2 R n1 g c k : Nat} {W : World} {vs : Value} {bl : List (Value × Nat)} (h : AI H H2 W (.slice (some ⟨g, 0, none⟩) n1 c) vs n1 bl R) (hk : k < n1) (z : Int) : AI H H2 (W.setCell ⟨g, k * 4 + 1, none⟩ (.int .i64 z)) (.slice (some ⟨g, 0, none⟩) n1 c) vs n1 bl R := by
  obtain ⟨l', hl, hm⟩ := h.maps
  obtain ⟨ll', hs1, hs2⟩ := h.stms
  obtain ⟨cur, hg⟩ := own_ty hm (g := g) rfl
  have hgr := gr_setCell W g (k * 4 + 1) (.int .i64 z)
  refine ⟨⟨l'.set k { l'[k] with key := z }, by rw [List.length_set, hl], ?_⟩, ⟨ll', hs1, own_kept hs2 hgr (own_type hs2 hg (by decide))⟩, fun y hy => ?_, h.lm, h.ls⟩
  · rw [flat_set dfL 4 (fun _ => rfl) l' k (by omega) 1 (.int .i64 z) _ (by omega) rfl]
    exact (hm.stored _ _).1
  · obtain ⟨labs, e, ho, r⟩ := h.labs y hy
    exact ⟨labs, e, own_kept ho hgr (own_type ho hg (by decide)), r⟩
theorem AI.dst {H H2 R n1 g c k n2 : Nat} {W : World} {vm : Value} {bl : List (Value × Nat)} (h : AI H H2 W vm (.slice (some ⟨g, 0, none⟩) n2 c) n1 bl R) (hn : bl.length = n2) (hk : k < n2) (z : Int) : AI H H2 (W.setCell ⟨g, k * 9 + 3, none⟩ (.int .i64 z)) vm (.slice (some ⟨g, 0, none⟩) n2 c) n1 bl R := by
  obtain ⟨l', hl, hm⟩ := h.maps
  obtain ⟨ll', hs1, hs2⟩ := h.stms
  obtain ⟨cur, hg⟩ := own_ty hs2 (g := g) rfl
  have hgr := gr_setCell W g (k * 9 + 3) (.int .i64 z)
  have hll : ll'.length = n2 := by rw [← hn, ← hs1, List.length_map]
  have hk' : k < ll'.length := by omega
  refine ⟨⟨l', hl, own_kept hm hgr (own_type hm hg (by decide))⟩, ⟨ll'.set k (ll'[k].1, { ll'[k].2 with x := { ll'[k].2.x with dst := z } }), ?_, ?_⟩, fun y hy => ?_, h.lm, h.ls⟩
  · rw [← hs1, List.map_set]
    have e : ∀ (m : List (Value × Nat)) (hh : k < m.length), m.set k m[k] = m := fun m hh => List.set_getElem_self hh
    have := e (ll'.map fun x => (x.1, x.2.labs.length)) (by simpa using hk')
    simpa using this
  · have := flat_set (fun x : Value × Stm => smL x.1 x.2) 9 (fun _ => rfl) ll' k hk' 3 (.int .i64 z) (ll'[k].1, { ll'[k].2 with x := { ll'[k].2.x with dst := z } }) (by omega) rfl
    unfold smC
    rw [this]
    rw [hn] at hs2 ⊢
    exact (hs2.stored _ _).1
  · obtain ⟨labs, e, ho, r⟩ := h.labs y hy
    exact ⟨labs, e, own_kept ho hgr (own_type ho hg (by decide)), r⟩
theorem AI.lab {H H2 R n1 g j : Nat} {W : World} {vm vs : Value} {bl : List (Value × Nat)} (h : AI H H2 W vm vs n1 bl R) {cur : Array Value} (hg : W.heap[g]? = some (.cells cur 9)) (u : ByteArray) (hu : u.size ≤ R + 1) : AI H H2 (W.setCell ⟨g, j, none⟩ (.string u)) vm vs n1 bl (R + 1) := by
  obtain ⟨l', hl, hm⟩ := h.maps
  obtain ⟨ll', hs1, hs2⟩ := h.stms
  have hgr := gr_setCell W g j (.string u)
  refine ⟨⟨l', hl, own_kept hm hgr (own_type hm hg (by decide))⟩, ⟨ll', hs1, own_kept hs2 hgr (own_type hs2 hg (by decide))⟩, fun y hy => ?_, h.lm, h.ls⟩
  obtain ⟨labs, e, ho, hz, hb⟩ := h.labs y hy
  by_cases hgk : y.1.ownBlock = some g
  · refine ⟨labs.set j u, by rw [List.length_set, e], ?_, fun t ht => ?_, hb⟩
    · have e2 : L8.stC (labs.set j u) = (L8.stC labs).set j (.string u) := by simp [L8.stC, List.map_set]
      rw [e2]
      rcases ho.2 with ⟨hn, _⟩ | ⟨g', cap, cur', hv, _⟩
      · rw [hn] at hgk; cases hgk
      · rw [hv] at hgk ho ⊢
        obtain rfl : g' = g := by simpa [Value.ownBlock] using hgk
        exact (ho.stored j (.string u)).1
    · rcases List.mem_or_eq_of_mem_set ht with ht | rfl
      · have := hz t ht; omega
      · exact hu
  · exact ⟨labs, e, own_kept ho hgr (fun k hk => by rintro e; cases e; exact hgk hk), fun t ht => by have := hz t ht; omega, hb⟩
theorem own_n {W : World} {B e : TypeId} {sz : Nat} {a : Option Addr} {n c m : Nat} {xs : List Value} (h : W.ownsRow B e sz (.slice a n c) m xs) : n = m := by
  obtain ⟨_, _, he⟩ := L8.owns_slice h
  simp only [Value.slice.injEq] at he
  exact he.2.1
theorem own_some {W : World} {B e : TypeId} {sz : Nat} {a : Option Addr} {n c m : Nat} {xs : List Value} (h : W.ownsRow B e sz (.slice a n c) m xs) (hm : 0 < m) : ∃ g, a = some ⟨g, 0, none⟩ := by
  rcases h.2 with ⟨_, h0⟩ | ⟨g, cap, cur, hv, _⟩
  · omega
  · simp only [Value.slice.injEq] at hv
    exact ⟨g, hv.1⟩
theorem lsum_take : ∀ (l : List Stm) (k : Nat), lsum (l.take k) ≤ lsum l
  | [], k => by simp [lsum]
  | s :: r, 0 => by simp [lsum]
  | s :: r, k + 1 => by have := lsum_take r k; rw [List.take_succ_cons, lsum, lsum]; omega
set_option maxHeartbeats 16000000 in
set_option maxRecDepth 100000 in
theorem clones_walk (vm vs : Value) (p : Pg) (w : World) (hT : L1.Wid w ∧ L2.Regs w) (h3 : 3 ≤ w.heap.size) (hp : PgAt w vm vs p) (hr : ∀ s ∈ p.stmts, TxRoom s.labs) :
    Calls Tryz.prog 5 #[.agg #[vm, vs]] w fun e w' => e = .returned (.bool true) ∧ Below w.heap.size w w' := by
  obtain ⟨f1, hf1, F1⟩ := few_ex vm vs p w hp hr
  have tb : ∀ W, Below w.heap.size w W → L1.Wid W ∧ L2.Regs W := fun W hb => ⟨L4.wid_below hT.1 hb, hT.2.below hb⟩
  have HA := Lib.hid (fun W hb => alive10 W (tb W hb) (Nat.le_trans h3 hb.size))
  have HP := Lib.hid hp
  have HRM := Lib.hid hr
  obtain ⟨n1, hn1⟩ : ∃ n, p.maps.length = n := ⟨_, rfl⟩
  obtain ⟨n2, hn2⟩ : ∃ n, p.stmts.length = n := ⟨_, rfl⟩
  obtain ⟨a1, c1, rfl, -⟩ := df_form hn1 hp.1
  obtain ⟨a2, c2, rfl, -⟩ := sm_form hn2 hp.2
  have hb0 := L8.bnew w (.cells #[.slice a1 n1 c1, .slice a2 n2 c2] 25)
  have k0 := heap_alloc_last w (.cells #[.slice a1 n1 c1, .slice a2 n2 c2] 25)
  have HF1 := Lib.hid F1
  have HB := Lib.hid hb0
  have K0 := Lib.hid k0
  have HM := Lib.hid hf1
  have HN1 := Lib.hid hn1
  have HN2 := Lib.hid hn2
  clear tb hT F1 hp hr hn1 hn2 hb0 k0 hf1
  cases f1
  · go_enter Tryz.func5, Tryz.ntmps5
    go_wp2_with (first | (go_at_call 8; ((with_reducible refine (HF1.out _ HB.out).mono ?_); rintro e w1 ⟨rfl, b1⟩)) | (go_at_call 9; ((with_reducible refine (HA.out _ (L2.bch HB.out b1)).mono ?_); rintro e w2 ⟨rfl, b2⟩)))
    go_ret
    exact ⟨rfl, L2.bch (L2.bch HB.out b1) b2⟩
  have hs := sml_few (HM.out rfl)
  have HS := Lib.hid hs
  have HLS := Lib.hid (HM.out rfl)
  clear HM
  go_enter Tryz.func5, Tryz.ntmps5
  go_upto_region 3 with (go_at_call 8; ((with_reducible refine (HF1.out _ HB.out).mono ?_); rintro e w1 ⟨rfl, b1⟩))
  have k1 := L8.row_up K0.out b1
  have B1 := L2.bch HB.out b1
  obtain ⟨x0, x1⟩ := cells2p k1
  have hlt0 : (⟨w.heap.size, 0, none⟩ : Addr).block < w1.heap.size := lt_of_block k1
  have hlt1 : (⟨w.heap.size, 1, none⟩ : Addr).block < w1.heap.size := lt_of_block k1
  have HC := Lib.hid (fun W (h : Below w1.heap.size w1 W) => clone_at (.slice a1 n1 c1) (.slice a2 n2 c2) p W (HP.out.below (L2.bch B1 h)) hs)
  clear b1 hs
  refine wp_region_held_drew (S := SCl w1) (by kernel_rfl) (L8.bdN (Below.refl _ _) 1) (fun hH => ?_)
  refine wpAnyH_take (i := 0) (oi := { dst := some 12, op := Op.load 25 (Operand.tmp 1), type := 25, pos := "law.go:63", after := #[], guard := none }) (v := .agg #[.slice a1 n1 c1, .slice a2 n2 c2]) rfl (by kernel_rfl) (by kernel_rfl) (by kernel_rfl) (fun _ _ _ h => h) (Or.inl ⟨by rfl, fun wS hS => (by have d0 := (Below.cell hS hlt0).trans x0; have d1 := (Below.cell hS hlt1).trans x1; go_simp)⟩) hH ?_
  simp only [Act.put, List.setIfInBounds_toArray, List.set_cons_zero, List.set_cons_succ]
  refine wpAnyH_take (i := 2) (oi := { dst := some 14, op := Op.load 25 (Operand.tmp 1), type := 25, pos := "law.go:63", after := #[], guard := none }) (v := .agg #[.slice a1 n1 c1, .slice a2 n2 c2]) rfl (by kernel_rfl) (by kernel_rfl) (by kernel_rfl) (fun _ _ _ h => h) (Or.inl ⟨by rfl, fun wS hS => (by have d0 := (Below.cell hS hlt0).trans x0; have d1 := (Below.cell hS hlt1).trans x1; go_simp)⟩) hH ?_
  simp only [Act.put, List.setIfInBounds_toArray, List.set_cons_zero, List.set_cons_succ]
  refine cx_o HC ?_ _ hH
  intro d1 e1 i1 d2 e2 i2 d3 e3 i3 d4 e4 i4 g3 g4 H2 w2 hb2 oA oB hH2 hg3 hg4 k3 k4 hne
  clear HC hH
  have k2 := L8.row_up k1 hb2
  have B2 := L2.bch B1 hb2
  have hsp := HS.out
  have S1 := Lib.hid (fun W (h : Below w2.heap.size w2 W) => rsame_at (.slice d1 e1 i1) (.slice d2 e2 i2) (.slice a1 n1 c1) (.slice a2 n2 c2) p p true W (oA.toR.pg.below h) (HP.out.below (L2.bch B2 h)) hsp hsp (by simp))
  have S2 := Lib.hid (fun W (h : Below w2.heap.size w2 W) => rsame_at (.slice d3 e3 i3) (.slice d4 e4 i4) (.slice a1 n1 c1) (.slice a2 n2 c2) p p true W (oB.pg.below h) (HP.out.below (L2.bch B2 h)) hsp hsp (by simp))
  have OA := Lib.hid oA
  have OB := Lib.hid oB
  have K2 := Lib.hid k2
  have G3 := Lib.hid hg3
  have G4 := Lib.hid hg4
  have BB2 := Lib.hid B2
  have HB12 := Lib.hid B1.size
  have HB22 := Lib.hid hb2.size
  have HQ := Lib.hid (And.intro hH2 (And.intro k3 (And.intro k4 hne)))
  clear x0 x1 hlt0 hlt1 k1 oA oB hH2 k3 k4 hne hsp
  obtain ⟨x0, x1⟩ := cells2p k2
  obtain ⟨y0, y1⟩ := cells2p hg3
  clear k2 hg3 hg4 B1 B2 hb2
  go_upto_region 6 with (first
    | (go_at_call 13; ((with_reducible refine (S1.out _ (Below.refl _ _)).mono ?_); rintro e w3 ⟨rfl, b3⟩; clear x0 x1 y0 y1; obtain ⟨x0, x1⟩ := cells2p (L8.row_up K2.out b3); obtain ⟨y0, y1⟩ := cells2p (L8.row_up G4.out b3)))
    | (go_at_call 13; ((with_reducible refine (S2.out _ b3).mono ?_); rintro e w4 ⟨rfl, b4⟩; clear x0 x1 y0 y1)))
  have B34 := L2.bch b3 b4
  have G34 := L8.row_up G3.out B34
  have G44 := Lib.hid (L8.row_up G4.out B34)
  have K24 := Lib.hid (L8.row_up K2.out B34)
  have G34h := Lib.hid G34
  have OB4 := Lib.hid (OB.out.below B34)
  have BB4 := Lib.hid (L2.bch BB2.out B34)
  obtain ⟨bl, hbl, hA⟩ := (OA.out.below B34).ai (R := 140737488351232) (fun s hs t ht => (HRM.out s hs).2 t ht)
  have hsz4 : w1.heap.size ≤ w4.heap.size := Nat.le_trans HB22.out B34.size
  have he1 : e1 = n1 := by
    obtain ⟨l', _, hm⟩ := hA.maps
    exact (own_n hm).trans HN1.out
  have hbn : bl.length = n2 := by rw [← HN2.out, ← List.length_map (f := (·.2)), hbl, List.length_map]
  have he2 : e2 = n2 := by
    obtain ⟨l', _, hm⟩ := hA.stms
    exact (own_n hm).trans hbn
  rw [HN1.out] at hA
  subst he1 he2
  have HA4 := Lib.hid (And.intro hA (Fz.refl w1.heap.size H2 w4))
  have HBL := Lib.hid (And.intro hbl hbn)
  have hm1 : e1 ≤ 300 := by have := HLS.out.1; rw [HN1.out] at this; exact this
  have hm2 : e2 ≤ 60 := by have := HLS.out.2.1; rw [HN2.out] at this; exact this
  have HSZ := Lib.hid hsz4
  obtain ⟨y0, y1⟩ := cells2p G34
  clear b3 b4 B34 G34 hbl hA hbn hsz4 S1 S2 OA OB BB2 K2 G3 G4 HRM HF1 HB K0
  go_upto_region 7 with (fail)
  go_loopw [5, 29] (fun _ i wr => ∃ k : Nat, k ≤ e1 ∧ i = .int .i64 (k : Int) ∧ Hid (AI w1.heap.size H2 wr (.slice d1 e1 i1) (.slice d2 e2 i2) e1 bl 140737488351232 ∧ Fz w1.heap.size H2 w4 wr)) (fun _ i _ => e1 - (intOf i).toNat)
  case atStart => exact ⟨0, Nat.zero_le _, rfl, HA4⟩
  case round =>
    obtain ⟨k, hk, rfl, hS⟩ := hrel
    clear HA4 y0 y1
    obtain ⟨hA, hZ⟩ := hS.out
    clear hS
    have hg3 := hZ.row G34h.out
    obtain ⟨y0, y1⟩ := cells2p hg3
    by_cases hlt : k < e1
    · obtain ⟨l', hl, hm⟩ := hA.maps
      have hkl : k < l'.length := by omega
      obtain ⟨gm, rfl⟩ : ∃ gm, d1 = some ⟨gm, 0, none⟩ := own_some hm (by omega)
      obtain ⟨cur, hgm⟩ := own_ty hm (g := gm) rfl
      have fz := frozen_all hgm
      have hx := hm.cells (g := gm) rfl (k * 4 + 1) _ (flat_get dfL 4 (fun _ => rfl) l' k hkl 1 _ rfl)
      rw [L8.add0] at hx
      obtain ⟨z, hz⟩ : ∃ z, l'[k].key = z := ⟨_, rfl⟩
      rw [hz] at hx
      have HX := Lib.hid (fun z => And.intro (hA.key hlt z) (hZ.set hgm (by decide) (hm.lt gm rfl).1 (hA.lm gm rfl) (k * 4 + 1) (.int .i64 z)))
      have hlt' : (k : Int) < (e1 : Int) := by omega
      clear hz hl hm hgm hA hZ hg3
      go_wp2
      go_roundw
      case rel => exact ⟨k + 1, by omega, by go_num, Lib.hid (HX.out _)⟩
      case measure => simp [intOf]; omega
    · obtain rfl : k = e1 := by omega
      obtain ⟨wo, rfl⟩ : ∃ wo, wo = wr := ⟨_, rfl⟩
      have HA5 : Hid (∃ q, q ≤ lsum (p.stmts.take 0) ∧ AI w1.heap.size H2 wo (.slice d1 k i1) (.slice d2 e2 i2) k bl (140737488351232 + q) ∧ Fz w1.heap.size H2 w4 wo) := Lib.hid ⟨0, Nat.le_refl _, hA, hZ⟩
      clear hA hZ hlt
      go_upto_region 12 with (fail)
      clear y0 y1 hg3
      go_loopw [6, 7, 45, 66] (fun _ _ i _ wr => ∃ k2 : Nat, k2 ≤ e2 ∧ i = .int .i64 (k2 : Int) ∧ Hid (∃ q, q ≤ lsum (p.stmts.take k2) ∧ AI w1.heap.size H2 wr (.slice d1 k i1) (.slice d2 e2 i2) k bl (140737488351232 + q) ∧ Fz w1.heap.size H2 w4 wr)) (fun _ _ i _ _ => e2 - (intOf i).toNat)
      case atStart => exact ⟨0, Nat.zero_le _, rfl, HA5⟩
      case round =>
        obtain ⟨k2, hk2, rfl, hS⟩ := hrel
        clear HA5
        obtain ⟨q, hq, hA, hZ⟩ := hS.out
        clear hS
        have hg3 := hZ.row G34h.out
        obtain ⟨y0, y1⟩ := cells2p hg3
        by_cases hlt : k2 < e2
        · have hkb : k2 < bl.length := by rw [HBL.out.2]; exact hlt
          obtain ⟨y, hyk⟩ : ∃ y, bl[k2] = y := ⟨_, rfl⟩
          have hmem : y ∈ bl := hyk ▸ List.getElem_mem hkb
          obtain ⟨ll', hl1, hm⟩ := hA.stms
          have hll : ll'.length = bl.length := by rw [← hl1, List.length_map]
          have hkl : k2 < ll'.length := by omega
          rw [HBL.out.2] at hm
          obtain ⟨gs, rfl⟩ : ∃ gs, d2 = some ⟨gs, 0, none⟩ := own_some hm (by omega)
          obtain ⟨cur, hgs⟩ := own_ty hm (g := gs) rfl
          have fz := frozen_all hgs
          have hcs : ∀ i u, (smL ll'[k2].1 ll'[k2].2)[i]? = some u → wr.cell? ⟨gs, k2 * 9 + i, none⟩ = some u := fun i u hu => by
            have := hm.cells (g := gs) rfl (k2 * 9 + i) u (flat_get (fun x : Value × Stm => smL x.1 x.2) 9 (fun _ => rfl) ll' k2 hkl i u hu)
            rwa [L8.add0] at this
          have x0 := hcs 0 _ rfl
          have x3 := hcs 3 _ rfl
          rw [Nat.add_zero] at x0
          have hb1 : ll'[k2].1 = y.1 := by
            have := List.getElem_of_eq hl1 (by simpa using hkl)
            rw [List.getElem_map] at this
            rw [← hyk, ← this]
          rw [hb1] at x0
          obtain ⟨labs, hlb, ho, hz, hlt2⟩ := hA.labs y hmem
          obtain ⟨ln, hln⟩ : ∃ ln, y.2 = ln := ⟨_, rfl⟩
          rw [hln] at ho
          obtain ⟨la, lc, hlv⟩ := L8.owns_slice ho
          rw [hlv] at x0
          have hpl : (p.stmts[k2]?).map (fun s => s.labs.length) = some ln := by
            have := congrArg (fun l => l[k2]?) HBL.out.1
            simp only [List.getElem?_map, List.getElem?_eq_getElem hkb, Option.map_some] at this
            rw [← this, hyk, hln]
          have hkp : k2 < p.stmts.length := by rw [HN2.out]; exact hlt
          have hln2 : p.stmts[k2].labs.length = ln := by
            rw [List.getElem?_eq_getElem hkp] at hpl
            simpa using hpl
          have hsum := lsum_snoc p.stmts k2 hkp
          rw [hln2] at hsum
          have hle200 : lsum (p.stmts.take (k2 + 1)) ≤ 200 := Nat.le_trans (lsum_take p.stmts (k2 + 1)) HLS.out.2.2
          have hql : q + ln ≤ 200 := by omega
          have HQL : Hid (q + ln ≤ lsum (p.stmts.take (k2 + 1))) := Lib.hid (by omega)
          obtain ⟨z, hz3⟩ : ∃ z, ll'[k2].2.x.dst = z := ⟨_, rfl⟩
          rw [hz3] at x3
          have HX := Lib.hid (fun z => And.intro (hA.dst HBL.out.2 hlt z) (hZ.set hgs (by decide) (hm.lt gs rfl).1 (hA.ls gs rfl) (k2 * 9 + 3) (.int .i64 z)))
          have HLV := Lib.hid (And.intro hln hlv)
          have hlt' : (k2 : Int) < (e2 : Int) := by omega
          have hgl := lt_of_block hgs
          have HMEM := Lib.hid hmem
          have HYK : Hid (bl[k2]? = some y) := Lib.hid (by rw [List.getElem?_eq_getElem hkb, hyk])
          clear hz3 hl1 hll hcs hm hgs hA hZ hg3 hb1 hlb ho hz hlt2 hpl hln2 hsum hle200 hln hlv hq hkl hkp hkb hyk hmem
          go_upto_region 16 with (fail)
          have hA5 : AI w1.heap.size H2 (wr.setCell ⟨gs, k2 * 9 + 1 + 2, none⟩ (.int .i64 (wrap64 (z + 1)))) (.slice d1 k i1) (.slice (some ⟨gs, 0, none⟩) e2 i2) k bl (140737488351232 + q) := (HX.out _).1
          have hZ5 : Fz w1.heap.size H2 w4 (wr.setCell ⟨gs, k2 * 9 + 1 + 2, none⟩ (.int .i64 (wrap64 (z + 1)))) := (HX.out _).2
          clear HX x0 x3 fz hgl y0 y1
          generalize wr.setCell ⟨gs, k2 * 9 + 1 + 2, none⟩ (.int .i64 (wrap64 (z + 1))) = w5 at hA5 hZ5 ⊢
          have HA6 : Hid (AI w1.heap.size H2 w5 (.slice d1 k i1) (.slice (some ⟨gs, 0, none⟩) e2 i2) k bl (140737488351232 + q + 0) ∧ Fz w1.heap.size H2 w4 w5) := Lib.hid ⟨hA5, hZ5⟩
          clear hA5 hZ5
          go_loopw [7, 66] (fun _ i wi => ∃ j : Nat, j ≤ ln ∧ i = .int .i64 (j : Int) ∧ Hid (AI w1.heap.size H2 wi (.slice d1 k i1) (.slice (some ⟨gs, 0, none⟩) e2 i2) k bl (140737488351232 + q + j) ∧ Fz w1.heap.size H2 w4 wi)) (fun _ i _ => ln - (intOf i).toNat)
          case atStart => exact ⟨0, Nat.zero_le _, rfl, HA6⟩
          case round =>
            obtain ⟨j, hj, rfl, hS⟩ := hrel
            clear HA6
            obtain ⟨hA, hZ⟩ := hS.out
            clear hS
            have hg3 := hZ.row G34h.out
            obtain ⟨y0, y1⟩ := cells2p hg3
            by_cases hjl : j < ln
            · obtain ⟨ll', hl1, hm⟩ := hA.stms
              have hll : ll'.length = bl.length := by rw [← hl1, List.length_map]
              have hkl : k2 < ll'.length := by rw [hll, HBL.out.2]; exact hlt
              rw [HBL.out.2] at hm
              have x0 : wr.cell? ⟨gs, k2 * 9, none⟩ = some ll'[k2].1 := by
                have := hm.cells (g := gs) rfl (k2 * 9 + 0) _ (flat_get (fun x : Value × Stm => smL x.1 x.2) 9 (fun _ => rfl) ll' k2 hkl 0 _ rfl)
                rwa [L8.add0, Nat.add_zero] at this
              have hb1 : ll'[k2].1 = y.1 := by
                have := congrArg (fun l => l[k2]?) hl1
                simp only [List.getElem?_map, List.getElem?_eq_getElem hkl, Option.map_some] at this
                rw [HYK.out] at this
                rw [← Option.some.inj this]
              rw [hb1, HLV.out.2] at x0
              obtain ⟨labs, hlb, ho, hz, hlt2⟩ := hA.labs y HMEM.out
              rw [HLV.out.2] at ho hlt2
              rw [HLV.out.1] at hlb ho
              obtain ⟨gl, rfl⟩ : ∃ gl, la = some ⟨gl, 0, none⟩ := own_some ho (by omega)
              obtain ⟨cur, hgl⟩ := own_ty ho (g := gl) rfl
              have fz := frozen_all hgl
              have hjb : j < labs.length := by omega
              have hx := ho.cells (g := gl) rfl j (.string labs[j]) (by simp [L8.stC, List.getElem?_eq_getElem hjb])
              rw [L8.add0] at hx
              have hsz := hz _ (List.getElem_mem hjb)
              obtain ⟨t, ht⟩ : ∃ t, labs[j] = t := ⟨_, rfl⟩
              rw [ht] at hx hsz
              have HX := Lib.hid (fun u hu => And.intro (hA.lab (j := j) hgl u hu) (hZ.set hgl (by decide) (ho.lt gl rfl).1 (hlt2 gl rfl) j (.string u)))
              have hjI : (j : Int) < (ln : Int) := by omega
              have hk2I : (k2 : Int) < (e2 : Int) := by omega
              have hqj : q + j ≤ 200 := by omega
              have hs1 : t.size + 1 ≤ 9223372036854775807 := by omega
              have hs2 : t.size + 1 ≤ maxLen := by unfold maxLen; omega
              have hs3 : (t ++ (⟨#[120]⟩ : ByteArray)).size ≤ 140737488351232 + q + j + 1 := by rw [ByteArray.size_append]; show t.size + 1 ≤ _; omega
              have HS3 := Lib.hid hs3
              have hglt := lt_of_block hgl
              clear hl1 hll hkl hm hb1 hlb ho hz hlt2 hjb ht hgl hA hZ hg3 hsz hs3
              go_wp2
              go_roundw
              case rel => exact ⟨j + 1, by omega, by go_num, Lib.hid (HX.out _ HS3.out)⟩
              case measure => simp [intOf]; omega
            · obtain rfl : j = ln := by omega
              have HA7 : Hid (∃ q', q' ≤ lsum (p.stmts.take (k2 + 1)) ∧ AI w1.heap.size H2 wr (.slice d1 k i1) (.slice (some ⟨gs, 0, none⟩) e2 i2) k bl (140737488351232 + q') ∧ Fz w1.heap.size H2 w4 wr) := Lib.hid ⟨q + j, HQL.out, by rw [← Nat.add_assoc]; exact hA, hZ⟩
              clear hA hZ hg3
              go_wp2
              go_roundw
              case rel => exact ⟨k2 + 1, by omega, by go_num, HA7⟩
              case measure => simp [intOf]; omega
        · obtain rfl : k2 = e2 := by omega
          obtain ⟨wE, rfl⟩ : ∃ wE, wE = wr := ⟨_, rfl⟩
          have BE : Below w.heap.size w wE := hZ.bel BB4.out (by have := HB12.out; exact this) (Nat.le_trans HB12.out HSZ.out)
          have HBE := Lib.hid BE
          have GE := Lib.hid (hZ.row G44.out)
          have KE := Lib.hid (hZ.row K24.out)
          have HCE := Lib.hid (hZ.clone OB4.out (Nat.le_refl _)).pg
          have HS2 := Lib.hid (fun W (h : Below wE.heap.size wE W) => rsame_at (.slice d3 e3 i3) (.slice d4 e4 i4) (.slice a1 k c1) (.slice a2 k2 c2) p p true W (HCE.out.below h) (HP.out.below (L2.bch HBE.out h)) HS.out HS.out (by simp))
          clear hA hZ hg3 BE y0 y1 hq
          go_wp2_with (first
            | (go_at_call 9; ((with_reducible refine (HA.out _ HBE.out).mono ?_); rintro e w8 ⟨rfl, b8⟩; obtain ⟨y0, y1⟩ := cells2p (L8.row_up GE.out b8); obtain ⟨x0, x1⟩ := cells2p (L8.row_up KE.out b8)))
            | (go_at_call 13; ((with_reducible refine (HS2.out _ b8).mono ?_); rintro e w9 ⟨rfl, b9⟩)))
          go_ret
          exact ⟨rfl, L2.bch (L2.bch HBE.out b8) b9⟩
end Go.Proofs.YtakblmonbeflmaaGreatDoor.L10
