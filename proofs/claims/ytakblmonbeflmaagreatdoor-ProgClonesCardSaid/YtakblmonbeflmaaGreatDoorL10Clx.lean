/- ProgClones' region that draws its order: two clones. Condition: the clones are made as their contract says. -/
import Derived.Test.YtakblmonbeflmaaGreatDoorL10Alv
import Derived.Deep.RegionHeld3
namespace Go.Proofs.YtakblmonbeflmaaGreatDoor.L10
open Go.RowKit

theorem CloR.below {H : Nat} {W W' : World} {vm vs : Value} {p : Pg} (h : CloR H W vm vs p) (hb : Below W.heap.size W W') : CloR H W' vm vs p := by
  obtain ⟨ll, h1, h2, h3, h4⟩ := h
  exact ⟨ll, h1, own_up h2 hb, own_up h3 hb, fun x hx => own_up (h4 x hx) hb⟩
/-- The rows of a clone, which lie below a block. -/
def CloA (H H2 : Nat) (W : World) (vm vs : Value) (p : Pg) : Prop :=
  ∃ ll : List (Value × Stm), ll.map (·.2) = p.stmts ∧ W.ownsRow H 36 4 vm p.maps.length (p.maps.flatMap dfL) ∧ W.ownsRow H 41 9 vs ll.length (smC ll) ∧ (∀ x ∈ ll, W.ownsRow H 9 1 x.1 x.2.labs.length (L8.stC x.2.labs)) ∧
    (∀ k, vm.ownBlock = some k → k < H2) ∧ (∀ k, vs.ownBlock = some k → k < H2) ∧ ∀ x ∈ ll, ∀ k, x.1.ownBlock = some k → k < H2
theorem CloR.toA {H H2 : Nat} {W : World} {vm vs : Value} {p : Pg} (h : CloR H W vm vs p) (hH : W.heap.size ≤ H2) : CloA H H2 W vm vs p := by
  obtain ⟨ll, h1, h2, h3, h4⟩ := h
  exact ⟨ll, h1, h2, h3, h4, fun k hk => Nat.lt_of_lt_of_le (h2.lt k hk).2 hH, fun k hk => Nat.lt_of_lt_of_le (h3.lt k hk).2 hH, fun x hx k hk => Nat.lt_of_lt_of_le ((h4 x hx).lt k hk).2 hH⟩
theorem CloA.below {H H2 : Nat} {W W' : World} {vm vs : Value} {p : Pg} (h : CloA H H2 W vm vs p) (hb : Below W.heap.size W W') : CloA H H2 W' vm vs p := by
  obtain ⟨ll, h1, h2, h3, h4, h5⟩ := h
  exact ⟨ll, h1, own_up h2 hb, own_up h3 hb, fun x hx => own_up (h4 x hx) hb, h5⟩
theorem CloA.lo {H H' H2 : Nat} {W : World} {vm vs : Value} {p : Pg} (h : CloA H H2 W vm vs p) (hb : H' ≤ H) : CloA H' H2 W vm vs p := by
  obtain ⟨ll, h1, h2, h3, h4, h5⟩ := h
  exact ⟨ll, h1, own_lo h2 hb, own_lo h3 hb, fun x hx => own_lo (h4 x hx) hb, h5⟩
theorem CloA.other {H H2 : Nat} {W W' : World} {vm vs : Value} {p : Pg} {g : Nat} {cs : Array Value} (h : CloA H H2 W vm vs p) (hg : W.grownBy W' (some g)) (hk : W.heap[g]? = some (.cells cs 25)) : CloA H H2 W' vm vs p := by
  obtain ⟨ll, h1, h2, h3, h4, h5⟩ := h
  have kT : ∀ (e : TypeId) (sz : Nat) (u : Value) (m : Nat) (xs : List Value), e ≠ 25 → W.ownsRow H e sz u m xs → W'.ownsRow H e sz u m xs := fun e sz u m xs he ho => own_kept ho hg (fun k hk' => by
    obtain ⟨cur, hc⟩ := own_ty ho hk'
    exact ty_ne hk hc (Ne.symm he))
  exact ⟨ll, h1, kT _ _ _ _ _ (by decide) h2, kT _ _ _ _ _ (by decide) h3, fun x hx => kT _ _ _ _ _ (by decide) (h4 x hx), h5⟩
theorem CloA.toR {H H2 : Nat} {W : World} {vm vs : Value} {p : Pg} (h : CloA H H2 W vm vs p) : CloR H W vm vs p := by
  obtain ⟨ll, h1, h2, h3, h4, _⟩ := h
  exact ⟨ll, h1, h2, h3, h4⟩
theorem CloA.up {H H2 H3 : Nat} {W : World} {vm vs : Value} {p : Pg} (h : CloA H H2 W vm vs p) (hb : H2 ≤ H3) : CloA H H3 W vm vs p := by
  obtain ⟨ll, h1, h2, h3, h4, h5, h6, h7⟩ := h
  exact ⟨ll, h1, h2, h3, h4, fun k hk => Nat.lt_of_lt_of_le (h5 k hk) hb, fun k hk => Nat.lt_of_lt_of_le (h6 k hk) hb, fun x hx k hk => Nat.lt_of_lt_of_le (h7 x hx k hk) hb⟩
/-- The region's operations. -/
def RCx : Array Oper :=
  #[{ dst := some 12, op := Op.load 25 (Operand.tmp 1), type := 25, pos := "law.go:63", after := #[], guard := none },
    { dst := some 13, op := Op.call { callee := Callee.value (Operand.func 14), args := #[Operand.tmp 12], argTypes := #[25] }, type := 25, pos := "law.go:63", after := #[{ on := 0, ground := Ground.data }], guard := none },
    { dst := some 14, op := Op.load 25 (Operand.tmp 1), type := 25, pos := "law.go:63", after := #[], guard := none },
    { dst := some 15, op := Op.call { callee := Callee.value (Operand.func 14), args := #[Operand.tmp 14], argTypes := #[25] }, type := 25, pos := "law.go:63", after := #[{ on := 2, ground := Ground.data }, { on := 1, ground := Ground.chain }], guard := none },
    { dst := some 3, op := Op.alloc 25, type := 0, pos := "law.go:63", after := #[], guard := none },
    { dst := some 4, op := Op.alloc 25, type := 0, pos := "law.go:63", after := #[], guard := none },
    { dst := none, op := Op.store 25 (Operand.tmp 3) (Operand.tmp 13), type := 0, pos := "law.go:63", after := #[{ on := 4, ground := Ground.data }, { on := 1, ground := Ground.data }, { on := 3, ground := Ground.chain }, { on := 0, ground := Ground.phase }, { on := 1, ground := Ground.phase }, { on := 2, ground := Ground.textOnly Departure.lateStores }, { on := 3, ground := Ground.textOnly Departure.lateStoresUnsure }, { on := 4, ground := Ground.phase }, { on := 5, ground := Ground.phase }], guard := none },
    { dst := none, op := Op.store 25 (Operand.tmp 4) (Operand.tmp 15), type := 0, pos := "law.go:63", after := #[{ on := 5, ground := Ground.data }, { on := 3, ground := Ground.data }, { on := 6, ground := Ground.chain }, { on := 0, ground := Ground.phase }, { on := 1, ground := Ground.phase }, { on := 2, ground := Ground.phase }, { on := 3, ground := Ground.phase }, { on := 4, ground := Ground.phase }, { on := 5, ground := Ground.phase }, { on := 6, ground := Ground.phase }], guard := none }]
section
variable {Q : Exit → Act → World → Prop} {W : World} {kx n1 n2 c1 c2 : Nat} {a1 a2 : Option Addr} {p : Pg}

set_option maxHeartbeats 2000000 in
set_option maxRecDepth 100000 in
theorem cx_abcd (hQ : ∀ d1 e1 i1 d2 e2 i2 d3 e3 i3 d4 e4 i4 g3 g4 H2 w', Below W.heap.size W w' → CloA W.heap.size H2 w' (.slice d1 e1 i1) (.slice d2 e2 i2) p → CloR H2 w' (.slice d3 e3 i3) (.slice d4 e4 i4) p → W.heap.size ≤ H2 → w'.heap[g3]? = some (.cells #[.slice d1 e1 i1, .slice d2 e2 i2] 25) → w'.heap[g4]? = some (.cells #[.slice d3 e3 i3, .slice d4 e4 i4] 25) → W.heap.size ≤ g3 → W.heap.size ≤ g4 → g3 ≠ g4 → Q .normal ⟨#[.agg #[.slice a1 n1 c1, .slice a2 n2 c2], .pointer (some ⟨kx, 0, none⟩), .bool false, .pointer (some ⟨g3, 0, none⟩), .pointer (some ⟨g4, 0, none⟩), undef, undef, undef, .agg #[.slice a1 n1 c1, .slice a2 n2 c2], .bool true, .bool false, undef, .agg #[.slice a1 n1 c1, .slice a2 n2 c2], .agg #[.slice d1 e1 i1, .slice d2 e2 i2], .agg #[.slice a1 n1 c1, .slice a2 n2 c2], .agg #[.slice d3 e3 i3, .slice d4 e4 i4], undef, undef, undef, undef, undef, undef, undef, undef, undef, undef, undef, undef, undef, undef, undef, undef, undef, undef, undef, undef, undef, undef, undef, undef, undef, undef, undef, undef, undef, undef, undef, undef, undef, undef, undef, undef, undef, undef, undef, undef, undef, undef, undef, undef, undef, undef, undef, undef, undef, undef, undef, undef, undef, undef, undef, undef, undef, undef, undef, undef, undef, undef, undef, undef, undef, undef, undef, undef, undef, undef, undef, undef], []⟩ w') (w : World) (hS : Below W.heap.size W w) (d1 : Option Addr) (e1 i1 : Nat) (d2 : Option Addr) (e2 i2 : Nat) (d3 : Option Addr) (e3 i3 : Nat) (d4 : Option Addr) (e4 i4 : Nat) (H2 : Nat) (o1 : CloA W.heap.size H2 w (.slice d1 e1 i1) (.slice d2 e2 i2) p) (o2 : CloR H2 w (.slice d3 e3 i3) (.slice d4 e4 i4) p) (hH : W.heap.size ≤ H2) (g3 : Nat) (h3 : w.heap[g3]? = some (.cells #[.slice none 0 0, .slice none 0 0] 25)) (k3 : W.heap.size ≤ g3) (g4 : Nat) (h4 : w.heap[g4]? = some (.cells #[.slice none 0 0, .slice none 0 0] 25)) (k4 : W.heap.size ≤ g4) (hne : g3 ≠ g4) : wpAnyH Tryz.prog .any RCx Q (SCl W) 2 #[true, true, true, true, true, true, false, false] ⟨#[.agg #[.slice a1 n1 c1, .slice a2 n2 c2], .pointer (some ⟨kx, 0, none⟩), .bool false, .pointer (some ⟨g3, 0, none⟩), .pointer (some ⟨g4, 0, none⟩), undef, undef, undef, .agg #[.slice a1 n1 c1, .slice a2 n2 c2], .bool true, .bool false, undef, .agg #[.slice a1 n1 c1, .slice a2 n2 c2], .agg #[.slice d1 e1 i1, .slice d2 e2 i2], .agg #[.slice a1 n1 c1, .slice a2 n2 c2], .agg #[.slice d3 e3 i3, .slice d4 e4 i4], undef, undef, undef, undef, undef, undef, undef, undef, undef, undef, undef, undef, undef, undef, undef, undef, undef, undef, undef, undef, undef, undef, undef, undef, undef, undef, undef, undef, undef, undef, undef, undef, undef, undef, undef, undef, undef, undef, undef, undef, undef, undef, undef, undef, undef, undef, undef, undef, undef, undef, undef, undef, undef, undef, undef, undef, undef, undef, undef, undef, undef, undef, undef, undef, undef, undef, undef, undef, undef, undef, undef, undef], []⟩ w := by
  have hne' : g4 ≠ g3 := Ne.symm hne
  obtain ⟨z0, z1⟩ := cells2p h3
  have fz := frozen_all h3
  refine wpAnyH_ready (rs := [6]) (by kernel_rfl) (by simp) ?_
  refine AllReadyH.cons (o := { dst := none, op := Op.store 25 (Operand.tmp 3) (Operand.tmp 13), type := 0, pos := "law.go:63", after := #[{ on := 4, ground := Ground.data }, { on := 1, ground := Ground.data }, { on := 3, ground := Ground.chain }, { on := 0, ground := Ground.phase }, { on := 1, ground := Ground.phase }, { on := 2, ground := Ground.textOnly Departure.lateStores }, { on := 3, ground := Ground.textOnly Departure.lateStoresUnsure }, { on := 4, ground := Ground.phase }, { on := 5, ground := Ground.phase }], guard := none }) rfl (fun K hK => ?_) AllReadyH.nil
  go_simp
  refine hK.out _ _ (Below.setCell (Below.setCell hS k3 _) k3 _) (fun hS3 => ?_)
  clear hK K
  have A1 := o1.other (gr_setCell w g3 0 (.slice d1 e1 i1)) h3
  have B1 := (CloR.toA o2 (Nat.le_refl w.heap.size)).other (gr_setCell w g3 0 (.slice d1 e1 i1)) h3
  have R1 := row_set h3 0 (.slice d1 e1 i1)
  have S1 := L9.row_other h4 0 (.slice d1 e1 i1) hne'
  have A2 := A1.other (gr_setCell _ g3 1 (.slice d2 e2 i2)) R1
  have B2 := B1.other (gr_setCell _ g3 1 (.slice d2 e2 i2)) R1
  have R2 := row_set R1 1 (.slice d2 e2 i2)
  have S2 := L9.row_other S1 1 (.slice d2 e2 i2) hne'
  generalize (w.setCell ⟨g3, 0, none⟩ (.slice d1 e1 i1)).setCell ⟨g3, 1, none⟩ (.slice d2 e2 i2) = w2 at hS3 A2 B2 R2 S2 ⊢
  clear z0 z1 fz A1 B1 R1 S1
  obtain ⟨z0, z1⟩ := cells2p S2
  have fz := frozen_all S2
  refine wpAnyH_ready (rs := [7]) (by kernel_rfl) (by simp) ?_
  refine AllReadyH.cons (o := { dst := none, op := Op.store 25 (Operand.tmp 4) (Operand.tmp 15), type := 0, pos := "law.go:63", after := #[{ on := 5, ground := Ground.data }, { on := 3, ground := Ground.data }, { on := 6, ground := Ground.chain }, { on := 0, ground := Ground.phase }, { on := 1, ground := Ground.phase }, { on := 2, ground := Ground.phase }, { on := 3, ground := Ground.phase }, { on := 4, ground := Ground.phase }, { on := 5, ground := Ground.phase }, { on := 6, ground := Ground.phase }], guard := none }) rfl (fun K hK => ?_) AllReadyH.nil
  go_simp
  refine hK.out _ _ (Below.setCell (Below.setCell hS3 k4 _) k4 _) (fun hS4 => ?_)
  clear hK K
  refine wpAnyH_done (by kernel_rfl) ?_ _
  have A3 := A2.other (gr_setCell w2 g4 0 (.slice d3 e3 i3)) S2
  have B3 := B2.other (gr_setCell w2 g4 0 (.slice d3 e3 i3)) S2
  have S3 := row_set S2 0 (.slice d3 e3 i3)
  exact hQ d1 e1 i1 d2 e2 i2 d3 e3 i3 d4 e4 i4 g3 g4 H2 _ hS4 (A3.other (gr_setCell _ g4 1 (.slice d4 e4 i4)) S3) (B3.other (gr_setCell _ g4 1 (.slice d4 e4 i4)) S3).toR hH (L9.row_other (L9.row_other R2 0 _ hne) 1 _ hne) (row_set S3 1 _) k3 k4 hne

set_option maxHeartbeats 1000000 in
set_option maxRecDepth 100000 in
theorem cx_abc (HC : Hid (∀ w, Below W.heap.size W w → Calls Tryz.prog 14 #[.agg #[.slice a1 n1 c1, .slice a2 n2 c2]] w (CloP p w))) (hQ : ∀ d1 e1 i1 d2 e2 i2 d3 e3 i3 d4 e4 i4 g3 g4 H2 w', Below W.heap.size W w' → CloA W.heap.size H2 w' (.slice d1 e1 i1) (.slice d2 e2 i2) p → CloR H2 w' (.slice d3 e3 i3) (.slice d4 e4 i4) p → W.heap.size ≤ H2 → w'.heap[g3]? = some (.cells #[.slice d1 e1 i1, .slice d2 e2 i2] 25) → w'.heap[g4]? = some (.cells #[.slice d3 e3 i3, .slice d4 e4 i4] 25) → W.heap.size ≤ g3 → W.heap.size ≤ g4 → g3 ≠ g4 → Q .normal ⟨#[.agg #[.slice a1 n1 c1, .slice a2 n2 c2], .pointer (some ⟨kx, 0, none⟩), .bool false, .pointer (some ⟨g3, 0, none⟩), .pointer (some ⟨g4, 0, none⟩), undef, undef, undef, .agg #[.slice a1 n1 c1, .slice a2 n2 c2], .bool true, .bool false, undef, .agg #[.slice a1 n1 c1, .slice a2 n2 c2], .agg #[.slice d1 e1 i1, .slice d2 e2 i2], .agg #[.slice a1 n1 c1, .slice a2 n2 c2], .agg #[.slice d3 e3 i3, .slice d4 e4 i4], undef, undef, undef, undef, undef, undef, undef, undef, undef, undef, undef, undef, undef, undef, undef, undef, undef, undef, undef, undef, undef, undef, undef, undef, undef, undef, undef, undef, undef, undef, undef, undef, undef, undef, undef, undef, undef, undef, undef, undef, undef, undef, undef, undef, undef, undef, undef, undef, undef, undef, undef, undef, undef, undef, undef, undef, undef, undef, undef, undef, undef, undef, undef, undef, undef, undef, undef, undef, undef, undef, undef, undef], []⟩ w') (w : World) (hS : Below W.heap.size W w) (d1 : Option Addr) (e1 i1 : Nat) (d2 : Option Addr) (e2 i2 : Nat) (o1 : CloR W.heap.size w (.slice d1 e1 i1) (.slice d2 e2 i2) p) (g3 : Nat) (h3 : w.heap[g3]? = some (.cells #[.slice none 0 0, .slice none 0 0] 25)) (k3 : W.heap.size ≤ g3) (g4 : Nat) (h4 : w.heap[g4]? = some (.cells #[.slice none 0 0, .slice none 0 0] 25)) (k4 : W.heap.size ≤ g4) (hne : g3 ≠ g4) : wpAnyH Tryz.prog .any RCx Q (SCl W) 3 #[true, true, true, false, true, true, false, false] ⟨#[.agg #[.slice a1 n1 c1, .slice a2 n2 c2], .pointer (some ⟨kx, 0, none⟩), .bool false, .pointer (some ⟨g3, 0, none⟩), .pointer (some ⟨g4, 0, none⟩), undef, undef, undef, .agg #[.slice a1 n1 c1, .slice a2 n2 c2], .bool true, .bool false, undef, .agg #[.slice a1 n1 c1, .slice a2 n2 c2], .agg #[.slice d1 e1 i1, .slice d2 e2 i2], .agg #[.slice a1 n1 c1, .slice a2 n2 c2], undef, undef, undef, undef, undef, undef, undef, undef, undef, undef, undef, undef, undef, undef, undef, undef, undef, undef, undef, undef, undef, undef, undef, undef, undef, undef, undef, undef, undef, undef, undef, undef, undef, undef, undef, undef, undef, undef, undef, undef, undef, undef, undef, undef, undef, undef, undef, undef, undef, undef, undef, undef, undef, undef, undef, undef, undef, undef, undef, undef, undef, undef, undef, undef, undef, undef, undef, undef, undef, undef, undef, undef, undef], []⟩ w := by
  refine wpAnyH_ready (rs := [3]) (by kernel_rfl) (by simp) ?_
  refine AllReadyH.cons (o := { dst := some 15, op := Op.call { callee := Callee.value (Operand.func 14), args := #[Operand.tmp 14], argTypes := #[25] }, type := 25, pos := "law.go:63", after := #[{ on := 2, ground := Ground.data }, { on := 1, ground := Ground.chain }], guard := none }) rfl (fun K hK => ?_) ?_
  · go_simp
    refine (HC.out _ hS).mono ?_
    rintro e w1 ⟨d3, e3, i3, d4, e4, i4, rfl, o2, hb1⟩
    refine hK.out _ _ (hS.trans (hb1.mono hS.size)) (fun hS1 => ?_)
    clear hK K
    (try simp only [List.setIfInBounds_toArray, List.set_cons_zero, List.set_cons_succ])
    exact cx_abcd hQ w1 hS1 d1 e1 i1 d2 e2 i2 d3 e3 i3 d4 e4 i4 w.heap.size ((CloR.toA o1 (Nat.le_refl _)).below hb1) o2 hS.size g3 (L8.row_up h3 hb1) k3 g4 (L8.row_up h4 hb1) k4 hne
  exact AllReadyH.nil

set_option maxHeartbeats 1000000 in
set_option maxRecDepth 100000 in
theorem cx_acd (hQ : ∀ d1 e1 i1 d2 e2 i2 d3 e3 i3 d4 e4 i4 g3 g4 H2 w', Below W.heap.size W w' → CloA W.heap.size H2 w' (.slice d1 e1 i1) (.slice d2 e2 i2) p → CloR H2 w' (.slice d3 e3 i3) (.slice d4 e4 i4) p → W.heap.size ≤ H2 → w'.heap[g3]? = some (.cells #[.slice d1 e1 i1, .slice d2 e2 i2] 25) → w'.heap[g4]? = some (.cells #[.slice d3 e3 i3, .slice d4 e4 i4] 25) → W.heap.size ≤ g3 → W.heap.size ≤ g4 → g3 ≠ g4 → Q .normal ⟨#[.agg #[.slice a1 n1 c1, .slice a2 n2 c2], .pointer (some ⟨kx, 0, none⟩), .bool false, .pointer (some ⟨g3, 0, none⟩), .pointer (some ⟨g4, 0, none⟩), undef, undef, undef, .agg #[.slice a1 n1 c1, .slice a2 n2 c2], .bool true, .bool false, undef, .agg #[.slice a1 n1 c1, .slice a2 n2 c2], .agg #[.slice d1 e1 i1, .slice d2 e2 i2], .agg #[.slice a1 n1 c1, .slice a2 n2 c2], .agg #[.slice d3 e3 i3, .slice d4 e4 i4], undef, undef, undef, undef, undef, undef, undef, undef, undef, undef, undef, undef, undef, undef, undef, undef, undef, undef, undef, undef, undef, undef, undef, undef, undef, undef, undef, undef, undef, undef, undef, undef, undef, undef, undef, undef, undef, undef, undef, undef, undef, undef, undef, undef, undef, undef, undef, undef, undef, undef, undef, undef, undef, undef, undef, undef, undef, undef, undef, undef, undef, undef, undef, undef, undef, undef, undef, undef, undef, undef, undef, undef], []⟩ w') (w : World) (hS : Below W.heap.size W w) (d1 : Option Addr) (e1 i1 : Nat) (d2 : Option Addr) (e2 i2 : Nat) (d3 : Option Addr) (e3 i3 : Nat) (d4 : Option Addr) (e4 i4 : Nat) (H2 : Nat) (o1 : CloA W.heap.size H2 w (.slice d1 e1 i1) (.slice d2 e2 i2) p) (o2 : CloR H2 w (.slice d3 e3 i3) (.slice d4 e4 i4) p) (hH : W.heap.size ≤ H2) (g3 : Nat) (h3 : w.heap[g3]? = some (.cells #[.slice none 0 0, .slice none 0 0] 25)) (k3 : W.heap.size ≤ g3) : wpAnyH Tryz.prog .any RCx Q (SCl W) 3 #[true, true, true, true, true, false, false, false] ⟨#[.agg #[.slice a1 n1 c1, .slice a2 n2 c2], .pointer (some ⟨kx, 0, none⟩), .bool false, .pointer (some ⟨g3, 0, none⟩), undef, undef, undef, undef, .agg #[.slice a1 n1 c1, .slice a2 n2 c2], .bool true, .bool false, undef, .agg #[.slice a1 n1 c1, .slice a2 n2 c2], .agg #[.slice d1 e1 i1, .slice d2 e2 i2], .agg #[.slice a1 n1 c1, .slice a2 n2 c2], .agg #[.slice d3 e3 i3, .slice d4 e4 i4], undef, undef, undef, undef, undef, undef, undef, undef, undef, undef, undef, undef, undef, undef, undef, undef, undef, undef, undef, undef, undef, undef, undef, undef, undef, undef, undef, undef, undef, undef, undef, undef, undef, undef, undef, undef, undef, undef, undef, undef, undef, undef, undef, undef, undef, undef, undef, undef, undef, undef, undef, undef, undef, undef, undef, undef, undef, undef, undef, undef, undef, undef, undef, undef, undef, undef, undef, undef, undef, undef, undef, undef], []⟩ w := by
  refine wpAnyH_ready (rs := [5]) (by kernel_rfl) (by simp) ?_
  refine AllReadyH.cons (o := { dst := some 4, op := Op.alloc 25, type := 0, pos := "law.go:63", after := #[], guard := none }) rfl (fun K hK => ?_) ?_
  · go_simp
    refine hK.out _ _ (hS.alloc hS.size _) (fun hS1 => ?_)
    clear hK K
    (try simp only [List.setIfInBounds_toArray, List.set_cons_zero, List.set_cons_succ])
    exact cx_abcd hQ _ hS1 d1 e1 i1 d2 e2 i2 d3 e3 i3 d4 e4 i4 H2 (o1.below (L8.bnew w _)) (o2.below (L8.bnew w _)) hH g3 (L8.row_up h3 (L8.bnew w _)) k3 w.heap.size (heap_alloc_last w _) hS.size (by have := lt_of_block h3; omega)
  exact AllReadyH.nil

set_option maxHeartbeats 1000000 in
set_option maxRecDepth 100000 in
theorem cx_bcd (hQ : ∀ d1 e1 i1 d2 e2 i2 d3 e3 i3 d4 e4 i4 g3 g4 H2 w', Below W.heap.size W w' → CloA W.heap.size H2 w' (.slice d1 e1 i1) (.slice d2 e2 i2) p → CloR H2 w' (.slice d3 e3 i3) (.slice d4 e4 i4) p → W.heap.size ≤ H2 → w'.heap[g3]? = some (.cells #[.slice d1 e1 i1, .slice d2 e2 i2] 25) → w'.heap[g4]? = some (.cells #[.slice d3 e3 i3, .slice d4 e4 i4] 25) → W.heap.size ≤ g3 → W.heap.size ≤ g4 → g3 ≠ g4 → Q .normal ⟨#[.agg #[.slice a1 n1 c1, .slice a2 n2 c2], .pointer (some ⟨kx, 0, none⟩), .bool false, .pointer (some ⟨g3, 0, none⟩), .pointer (some ⟨g4, 0, none⟩), undef, undef, undef, .agg #[.slice a1 n1 c1, .slice a2 n2 c2], .bool true, .bool false, undef, .agg #[.slice a1 n1 c1, .slice a2 n2 c2], .agg #[.slice d1 e1 i1, .slice d2 e2 i2], .agg #[.slice a1 n1 c1, .slice a2 n2 c2], .agg #[.slice d3 e3 i3, .slice d4 e4 i4], undef, undef, undef, undef, undef, undef, undef, undef, undef, undef, undef, undef, undef, undef, undef, undef, undef, undef, undef, undef, undef, undef, undef, undef, undef, undef, undef, undef, undef, undef, undef, undef, undef, undef, undef, undef, undef, undef, undef, undef, undef, undef, undef, undef, undef, undef, undef, undef, undef, undef, undef, undef, undef, undef, undef, undef, undef, undef, undef, undef, undef, undef, undef, undef, undef, undef, undef, undef, undef, undef, undef, undef], []⟩ w') (w : World) (hS : Below W.heap.size W w) (d1 : Option Addr) (e1 i1 : Nat) (d2 : Option Addr) (e2 i2 : Nat) (d3 : Option Addr) (e3 i3 : Nat) (d4 : Option Addr) (e4 i4 : Nat) (H2 : Nat) (o1 : CloA W.heap.size H2 w (.slice d1 e1 i1) (.slice d2 e2 i2) p) (o2 : CloR H2 w (.slice d3 e3 i3) (.slice d4 e4 i4) p) (hH : W.heap.size ≤ H2) (g4 : Nat) (h4 : w.heap[g4]? = some (.cells #[.slice none 0 0, .slice none 0 0] 25)) (k4 : W.heap.size ≤ g4) : wpAnyH Tryz.prog .any RCx Q (SCl W) 3 #[true, true, true, true, false, true, false, false] ⟨#[.agg #[.slice a1 n1 c1, .slice a2 n2 c2], .pointer (some ⟨kx, 0, none⟩), .bool false, undef, .pointer (some ⟨g4, 0, none⟩), undef, undef, undef, .agg #[.slice a1 n1 c1, .slice a2 n2 c2], .bool true, .bool false, undef, .agg #[.slice a1 n1 c1, .slice a2 n2 c2], .agg #[.slice d1 e1 i1, .slice d2 e2 i2], .agg #[.slice a1 n1 c1, .slice a2 n2 c2], .agg #[.slice d3 e3 i3, .slice d4 e4 i4], undef, undef, undef, undef, undef, undef, undef, undef, undef, undef, undef, undef, undef, undef, undef, undef, undef, undef, undef, undef, undef, undef, undef, undef, undef, undef, undef, undef, undef, undef, undef, undef, undef, undef, undef, undef, undef, undef, undef, undef, undef, undef, undef, undef, undef, undef, undef, undef, undef, undef, undef, undef, undef, undef, undef, undef, undef, undef, undef, undef, undef, undef, undef, undef, undef, undef, undef, undef, undef, undef, undef, undef], []⟩ w := by
  refine wpAnyH_ready (rs := [4]) (by kernel_rfl) (by simp) ?_
  refine AllReadyH.cons (o := { dst := some 3, op := Op.alloc 25, type := 0, pos := "law.go:63", after := #[], guard := none }) rfl (fun K hK => ?_) ?_
  · go_simp
    refine hK.out _ _ (hS.alloc hS.size _) (fun hS1 => ?_)
    clear hK K
    (try simp only [List.setIfInBounds_toArray, List.set_cons_zero, List.set_cons_succ])
    exact cx_abcd hQ _ hS1 d1 e1 i1 d2 e2 i2 d3 e3 i3 d4 e4 i4 H2 (o1.below (L8.bnew w _)) (o2.below (L8.bnew w _)) hH w.heap.size (heap_alloc_last w _) hS.size g4 (L8.row_up h4 (L8.bnew w _)) k4 (by have := lt_of_block h4; omega)
  exact AllReadyH.nil

set_option maxHeartbeats 1000000 in
set_option maxRecDepth 100000 in
theorem cx_ab (HC : Hid (∀ w, Below W.heap.size W w → Calls Tryz.prog 14 #[.agg #[.slice a1 n1 c1, .slice a2 n2 c2]] w (CloP p w))) (hQ : ∀ d1 e1 i1 d2 e2 i2 d3 e3 i3 d4 e4 i4 g3 g4 H2 w', Below W.heap.size W w' → CloA W.heap.size H2 w' (.slice d1 e1 i1) (.slice d2 e2 i2) p → CloR H2 w' (.slice d3 e3 i3) (.slice d4 e4 i4) p → W.heap.size ≤ H2 → w'.heap[g3]? = some (.cells #[.slice d1 e1 i1, .slice d2 e2 i2] 25) → w'.heap[g4]? = some (.cells #[.slice d3 e3 i3, .slice d4 e4 i4] 25) → W.heap.size ≤ g3 → W.heap.size ≤ g4 → g3 ≠ g4 → Q .normal ⟨#[.agg #[.slice a1 n1 c1, .slice a2 n2 c2], .pointer (some ⟨kx, 0, none⟩), .bool false, .pointer (some ⟨g3, 0, none⟩), .pointer (some ⟨g4, 0, none⟩), undef, undef, undef, .agg #[.slice a1 n1 c1, .slice a2 n2 c2], .bool true, .bool false, undef, .agg #[.slice a1 n1 c1, .slice a2 n2 c2], .agg #[.slice d1 e1 i1, .slice d2 e2 i2], .agg #[.slice a1 n1 c1, .slice a2 n2 c2], .agg #[.slice d3 e3 i3, .slice d4 e4 i4], undef, undef, undef, undef, undef, undef, undef, undef, undef, undef, undef, undef, undef, undef, undef, undef, undef, undef, undef, undef, undef, undef, undef, undef, undef, undef, undef, undef, undef, undef, undef, undef, undef, undef, undef, undef, undef, undef, undef, undef, undef, undef, undef, undef, undef, undef, undef, undef, undef, undef, undef, undef, undef, undef, undef, undef, undef, undef, undef, undef, undef, undef, undef, undef, undef, undef, undef, undef, undef, undef, undef, undef], []⟩ w') (w : World) (hS : Below W.heap.size W w) (g3 : Nat) (h3 : w.heap[g3]? = some (.cells #[.slice none 0 0, .slice none 0 0] 25)) (k3 : W.heap.size ≤ g3) (g4 : Nat) (h4 : w.heap[g4]? = some (.cells #[.slice none 0 0, .slice none 0 0] 25)) (k4 : W.heap.size ≤ g4) (hne : g3 ≠ g4) : wpAnyH Tryz.prog .any RCx Q (SCl W) 4 #[true, false, true, false, true, true, false, false] ⟨#[.agg #[.slice a1 n1 c1, .slice a2 n2 c2], .pointer (some ⟨kx, 0, none⟩), .bool false, .pointer (some ⟨g3, 0, none⟩), .pointer (some ⟨g4, 0, none⟩), undef, undef, undef, .agg #[.slice a1 n1 c1, .slice a2 n2 c2], .bool true, .bool false, undef, .agg #[.slice a1 n1 c1, .slice a2 n2 c2], undef, .agg #[.slice a1 n1 c1, .slice a2 n2 c2], undef, undef, undef, undef, undef, undef, undef, undef, undef, undef, undef, undef, undef, undef, undef, undef, undef, undef, undef, undef, undef, undef, undef, undef, undef, undef, undef, undef, undef, undef, undef, undef, undef, undef, undef, undef, undef, undef, undef, undef, undef, undef, undef, undef, undef, undef, undef, undef, undef, undef, undef, undef, undef, undef, undef, undef, undef, undef, undef, undef, undef, undef, undef, undef, undef, undef, undef, undef, undef, undef, undef, undef, undef], []⟩ w := by
  refine wpAnyH_ready (rs := [1]) (by kernel_rfl) (by simp) ?_
  refine AllReadyH.cons (o := { dst := some 13, op := Op.call { callee := Callee.value (Operand.func 14), args := #[Operand.tmp 12], argTypes := #[25] }, type := 25, pos := "law.go:63", after := #[{ on := 0, ground := Ground.data }], guard := none }) rfl (fun K hK => ?_) ?_
  · go_simp
    refine (HC.out _ hS).mono ?_
    rintro e w1 ⟨d1, e1, i1, d2, e2, i2, rfl, o1, hb1⟩
    refine hK.out _ _ (hS.trans (hb1.mono hS.size)) (fun hS1 => ?_)
    clear hK K
    (try simp only [List.setIfInBounds_toArray, List.set_cons_zero, List.set_cons_succ])
    exact cx_abc HC hQ w1 hS1 d1 e1 i1 d2 e2 i2 (by obtain ⟨ll, h1, h2, h3, h4⟩ := o1; exact ⟨ll, h1, own_lo h2 hS.size, own_lo h3 hS.size, fun x hx => own_lo (h4 x hx) hS.size⟩) g3 (L8.row_up h3 hb1) k3 g4 (L8.row_up h4 hb1) k4 hne
  exact AllReadyH.nil

set_option maxHeartbeats 1000000 in
set_option maxRecDepth 100000 in
theorem cx_ac (HC : Hid (∀ w, Below W.heap.size W w → Calls Tryz.prog 14 #[.agg #[.slice a1 n1 c1, .slice a2 n2 c2]] w (CloP p w))) (hQ : ∀ d1 e1 i1 d2 e2 i2 d3 e3 i3 d4 e4 i4 g3 g4 H2 w', Below W.heap.size W w' → CloA W.heap.size H2 w' (.slice d1 e1 i1) (.slice d2 e2 i2) p → CloR H2 w' (.slice d3 e3 i3) (.slice d4 e4 i4) p → W.heap.size ≤ H2 → w'.heap[g3]? = some (.cells #[.slice d1 e1 i1, .slice d2 e2 i2] 25) → w'.heap[g4]? = some (.cells #[.slice d3 e3 i3, .slice d4 e4 i4] 25) → W.heap.size ≤ g3 → W.heap.size ≤ g4 → g3 ≠ g4 → Q .normal ⟨#[.agg #[.slice a1 n1 c1, .slice a2 n2 c2], .pointer (some ⟨kx, 0, none⟩), .bool false, .pointer (some ⟨g3, 0, none⟩), .pointer (some ⟨g4, 0, none⟩), undef, undef, undef, .agg #[.slice a1 n1 c1, .slice a2 n2 c2], .bool true, .bool false, undef, .agg #[.slice a1 n1 c1, .slice a2 n2 c2], .agg #[.slice d1 e1 i1, .slice d2 e2 i2], .agg #[.slice a1 n1 c1, .slice a2 n2 c2], .agg #[.slice d3 e3 i3, .slice d4 e4 i4], undef, undef, undef, undef, undef, undef, undef, undef, undef, undef, undef, undef, undef, undef, undef, undef, undef, undef, undef, undef, undef, undef, undef, undef, undef, undef, undef, undef, undef, undef, undef, undef, undef, undef, undef, undef, undef, undef, undef, undef, undef, undef, undef, undef, undef, undef, undef, undef, undef, undef, undef, undef, undef, undef, undef, undef, undef, undef, undef, undef, undef, undef, undef, undef, undef, undef, undef, undef, undef, undef, undef, undef], []⟩ w') (w : World) (hS : Below W.heap.size W w) (d1 : Option Addr) (e1 i1 : Nat) (d2 : Option Addr) (e2 i2 : Nat) (o1 : CloR W.heap.size w (.slice d1 e1 i1) (.slice d2 e2 i2) p) (g3 : Nat) (h3 : w.heap[g3]? = some (.cells #[.slice none 0 0, .slice none 0 0] 25)) (k3 : W.heap.size ≤ g3) : wpAnyH Tryz.prog .any RCx Q (SCl W) 4 #[true, true, true, false, true, false, false, false] ⟨#[.agg #[.slice a1 n1 c1, .slice a2 n2 c2], .pointer (some ⟨kx, 0, none⟩), .bool false, .pointer (some ⟨g3, 0, none⟩), undef, undef, undef, undef, .agg #[.slice a1 n1 c1, .slice a2 n2 c2], .bool true, .bool false, undef, .agg #[.slice a1 n1 c1, .slice a2 n2 c2], .agg #[.slice d1 e1 i1, .slice d2 e2 i2], .agg #[.slice a1 n1 c1, .slice a2 n2 c2], undef, undef, undef, undef, undef, undef, undef, undef, undef, undef, undef, undef, undef, undef, undef, undef, undef, undef, undef, undef, undef, undef, undef, undef, undef, undef, undef, undef, undef, undef, undef, undef, undef, undef, undef, undef, undef, undef, undef, undef, undef, undef, undef, undef, undef, undef, undef, undef, undef, undef, undef, undef, undef, undef, undef, undef, undef, undef, undef, undef, undef, undef, undef, undef, undef, undef, undef, undef, undef, undef, undef, undef, undef], []⟩ w := by
  refine wpAnyH_ready (rs := [3, 5]) (by kernel_rfl) (by simp) ?_
  refine AllReadyH.cons (o := { dst := some 15, op := Op.call { callee := Callee.value (Operand.func 14), args := #[Operand.tmp 14], argTypes := #[25] }, type := 25, pos := "law.go:63", after := #[{ on := 2, ground := Ground.data }, { on := 1, ground := Ground.chain }], guard := none }) rfl (fun K hK => ?_) ?_
  · go_simp
    refine (HC.out _ hS).mono ?_
    rintro e w1 ⟨d3, e3, i3, d4, e4, i4, rfl, o2, hb1⟩
    refine hK.out _ _ (hS.trans (hb1.mono hS.size)) (fun hS1 => ?_)
    clear hK K
    (try simp only [List.setIfInBounds_toArray, List.set_cons_zero, List.set_cons_succ])
    exact cx_acd hQ w1 hS1 d1 e1 i1 d2 e2 i2 d3 e3 i3 d4 e4 i4 w.heap.size ((CloR.toA o1 (Nat.le_refl _)).below hb1) o2 hS.size g3 (L8.row_up h3 hb1) k3
  refine AllReadyH.cons (o := { dst := some 4, op := Op.alloc 25, type := 0, pos := "law.go:63", after := #[], guard := none }) rfl (fun K hK => ?_) ?_
  · go_simp
    refine hK.out _ _ (hS.alloc hS.size _) (fun hS1 => ?_)
    clear hK K
    (try simp only [List.setIfInBounds_toArray, List.set_cons_zero, List.set_cons_succ])
    exact cx_abc HC hQ _ hS1 d1 e1 i1 d2 e2 i2 (o1.below (L8.bnew w _)) g3 (L8.row_up h3 (L8.bnew w _)) k3 w.heap.size (heap_alloc_last w _) hS.size (by have := lt_of_block h3; omega)
  exact AllReadyH.nil

set_option maxHeartbeats 1000000 in
set_option maxRecDepth 100000 in
theorem cx_bc (HC : Hid (∀ w, Below W.heap.size W w → Calls Tryz.prog 14 #[.agg #[.slice a1 n1 c1, .slice a2 n2 c2]] w (CloP p w))) (hQ : ∀ d1 e1 i1 d2 e2 i2 d3 e3 i3 d4 e4 i4 g3 g4 H2 w', Below W.heap.size W w' → CloA W.heap.size H2 w' (.slice d1 e1 i1) (.slice d2 e2 i2) p → CloR H2 w' (.slice d3 e3 i3) (.slice d4 e4 i4) p → W.heap.size ≤ H2 → w'.heap[g3]? = some (.cells #[.slice d1 e1 i1, .slice d2 e2 i2] 25) → w'.heap[g4]? = some (.cells #[.slice d3 e3 i3, .slice d4 e4 i4] 25) → W.heap.size ≤ g3 → W.heap.size ≤ g4 → g3 ≠ g4 → Q .normal ⟨#[.agg #[.slice a1 n1 c1, .slice a2 n2 c2], .pointer (some ⟨kx, 0, none⟩), .bool false, .pointer (some ⟨g3, 0, none⟩), .pointer (some ⟨g4, 0, none⟩), undef, undef, undef, .agg #[.slice a1 n1 c1, .slice a2 n2 c2], .bool true, .bool false, undef, .agg #[.slice a1 n1 c1, .slice a2 n2 c2], .agg #[.slice d1 e1 i1, .slice d2 e2 i2], .agg #[.slice a1 n1 c1, .slice a2 n2 c2], .agg #[.slice d3 e3 i3, .slice d4 e4 i4], undef, undef, undef, undef, undef, undef, undef, undef, undef, undef, undef, undef, undef, undef, undef, undef, undef, undef, undef, undef, undef, undef, undef, undef, undef, undef, undef, undef, undef, undef, undef, undef, undef, undef, undef, undef, undef, undef, undef, undef, undef, undef, undef, undef, undef, undef, undef, undef, undef, undef, undef, undef, undef, undef, undef, undef, undef, undef, undef, undef, undef, undef, undef, undef, undef, undef, undef, undef, undef, undef, undef, undef], []⟩ w') (w : World) (hS : Below W.heap.size W w) (d1 : Option Addr) (e1 i1 : Nat) (d2 : Option Addr) (e2 i2 : Nat) (o1 : CloR W.heap.size w (.slice d1 e1 i1) (.slice d2 e2 i2) p) (g4 : Nat) (h4 : w.heap[g4]? = some (.cells #[.slice none 0 0, .slice none 0 0] 25)) (k4 : W.heap.size ≤ g4) : wpAnyH Tryz.prog .any RCx Q (SCl W) 4 #[true, true, true, false, false, true, false, false] ⟨#[.agg #[.slice a1 n1 c1, .slice a2 n2 c2], .pointer (some ⟨kx, 0, none⟩), .bool false, undef, .pointer (some ⟨g4, 0, none⟩), undef, undef, undef, .agg #[.slice a1 n1 c1, .slice a2 n2 c2], .bool true, .bool false, undef, .agg #[.slice a1 n1 c1, .slice a2 n2 c2], .agg #[.slice d1 e1 i1, .slice d2 e2 i2], .agg #[.slice a1 n1 c1, .slice a2 n2 c2], undef, undef, undef, undef, undef, undef, undef, undef, undef, undef, undef, undef, undef, undef, undef, undef, undef, undef, undef, undef, undef, undef, undef, undef, undef, undef, undef, undef, undef, undef, undef, undef, undef, undef, undef, undef, undef, undef, undef, undef, undef, undef, undef, undef, undef, undef, undef, undef, undef, undef, undef, undef, undef, undef, undef, undef, undef, undef, undef, undef, undef, undef, undef, undef, undef, undef, undef, undef, undef, undef, undef, undef, undef], []⟩ w := by
  refine wpAnyH_ready (rs := [3, 4]) (by kernel_rfl) (by simp) ?_
  refine AllReadyH.cons (o := { dst := some 15, op := Op.call { callee := Callee.value (Operand.func 14), args := #[Operand.tmp 14], argTypes := #[25] }, type := 25, pos := "law.go:63", after := #[{ on := 2, ground := Ground.data }, { on := 1, ground := Ground.chain }], guard := none }) rfl (fun K hK => ?_) ?_
  · go_simp
    refine (HC.out _ hS).mono ?_
    rintro e w1 ⟨d3, e3, i3, d4, e4, i4, rfl, o2, hb1⟩
    refine hK.out _ _ (hS.trans (hb1.mono hS.size)) (fun hS1 => ?_)
    clear hK K
    (try simp only [List.setIfInBounds_toArray, List.set_cons_zero, List.set_cons_succ])
    exact cx_bcd hQ w1 hS1 d1 e1 i1 d2 e2 i2 d3 e3 i3 d4 e4 i4 w.heap.size ((CloR.toA o1 (Nat.le_refl _)).below hb1) o2 hS.size g4 (L8.row_up h4 hb1) k4
  refine AllReadyH.cons (o := { dst := some 3, op := Op.alloc 25, type := 0, pos := "law.go:63", after := #[], guard := none }) rfl (fun K hK => ?_) ?_
  · go_simp
    refine hK.out _ _ (hS.alloc hS.size _) (fun hS1 => ?_)
    clear hK K
    (try simp only [List.setIfInBounds_toArray, List.set_cons_zero, List.set_cons_succ])
    exact cx_abc HC hQ _ hS1 d1 e1 i1 d2 e2 i2 (o1.below (L8.bnew w _)) w.heap.size (heap_alloc_last w _) hS.size g4 (L8.row_up h4 (L8.bnew w _)) k4 (by have := lt_of_block h4; omega)
  exact AllReadyH.nil

set_option maxHeartbeats 1000000 in
set_option maxRecDepth 100000 in
theorem cx_cd (hQ : ∀ d1 e1 i1 d2 e2 i2 d3 e3 i3 d4 e4 i4 g3 g4 H2 w', Below W.heap.size W w' → CloA W.heap.size H2 w' (.slice d1 e1 i1) (.slice d2 e2 i2) p → CloR H2 w' (.slice d3 e3 i3) (.slice d4 e4 i4) p → W.heap.size ≤ H2 → w'.heap[g3]? = some (.cells #[.slice d1 e1 i1, .slice d2 e2 i2] 25) → w'.heap[g4]? = some (.cells #[.slice d3 e3 i3, .slice d4 e4 i4] 25) → W.heap.size ≤ g3 → W.heap.size ≤ g4 → g3 ≠ g4 → Q .normal ⟨#[.agg #[.slice a1 n1 c1, .slice a2 n2 c2], .pointer (some ⟨kx, 0, none⟩), .bool false, .pointer (some ⟨g3, 0, none⟩), .pointer (some ⟨g4, 0, none⟩), undef, undef, undef, .agg #[.slice a1 n1 c1, .slice a2 n2 c2], .bool true, .bool false, undef, .agg #[.slice a1 n1 c1, .slice a2 n2 c2], .agg #[.slice d1 e1 i1, .slice d2 e2 i2], .agg #[.slice a1 n1 c1, .slice a2 n2 c2], .agg #[.slice d3 e3 i3, .slice d4 e4 i4], undef, undef, undef, undef, undef, undef, undef, undef, undef, undef, undef, undef, undef, undef, undef, undef, undef, undef, undef, undef, undef, undef, undef, undef, undef, undef, undef, undef, undef, undef, undef, undef, undef, undef, undef, undef, undef, undef, undef, undef, undef, undef, undef, undef, undef, undef, undef, undef, undef, undef, undef, undef, undef, undef, undef, undef, undef, undef, undef, undef, undef, undef, undef, undef, undef, undef, undef, undef, undef, undef, undef, undef], []⟩ w') (w : World) (hS : Below W.heap.size W w) (d1 : Option Addr) (e1 i1 : Nat) (d2 : Option Addr) (e2 i2 : Nat) (d3 : Option Addr) (e3 i3 : Nat) (d4 : Option Addr) (e4 i4 : Nat) (H2 : Nat) (o1 : CloA W.heap.size H2 w (.slice d1 e1 i1) (.slice d2 e2 i2) p) (o2 : CloR H2 w (.slice d3 e3 i3) (.slice d4 e4 i4) p) (hH : W.heap.size ≤ H2) : wpAnyH Tryz.prog .any RCx Q (SCl W) 4 #[true, true, true, true, false, false, false, false] ⟨#[.agg #[.slice a1 n1 c1, .slice a2 n2 c2], .pointer (some ⟨kx, 0, none⟩), .bool false, undef, undef, undef, undef, undef, .agg #[.slice a1 n1 c1, .slice a2 n2 c2], .bool true, .bool false, undef, .agg #[.slice a1 n1 c1, .slice a2 n2 c2], .agg #[.slice d1 e1 i1, .slice d2 e2 i2], .agg #[.slice a1 n1 c1, .slice a2 n2 c2], .agg #[.slice d3 e3 i3, .slice d4 e4 i4], undef, undef, undef, undef, undef, undef, undef, undef, undef, undef, undef, undef, undef, undef, undef, undef, undef, undef, undef, undef, undef, undef, undef, undef, undef, undef, undef, undef, undef, undef, undef, undef, undef, undef, undef, undef, undef, undef, undef, undef, undef, undef, undef, undef, undef, undef, undef, undef, undef, undef, undef, undef, undef, undef, undef, undef, undef, undef, undef, undef, undef, undef, undef, undef, undef, undef, undef, undef, undef, undef, undef, undef], []⟩ w := by
  refine wpAnyH_ready (rs := [4, 5]) (by kernel_rfl) (by simp) ?_
  refine AllReadyH.cons (o := { dst := some 3, op := Op.alloc 25, type := 0, pos := "law.go:63", after := #[], guard := none }) rfl (fun K hK => ?_) ?_
  · go_simp
    refine hK.out _ _ (hS.alloc hS.size _) (fun hS1 => ?_)
    clear hK K
    (try simp only [List.setIfInBounds_toArray, List.set_cons_zero, List.set_cons_succ])
    exact cx_acd hQ _ hS1 d1 e1 i1 d2 e2 i2 d3 e3 i3 d4 e4 i4 H2 (o1.below (L8.bnew w _)) (o2.below (L8.bnew w _)) hH w.heap.size (heap_alloc_last w _) hS.size
  refine AllReadyH.cons (o := { dst := some 4, op := Op.alloc 25, type := 0, pos := "law.go:63", after := #[], guard := none }) rfl (fun K hK => ?_) ?_
  · go_simp
    refine hK.out _ _ (hS.alloc hS.size _) (fun hS1 => ?_)
    clear hK K
    (try simp only [List.setIfInBounds_toArray, List.set_cons_zero, List.set_cons_succ])
    exact cx_bcd hQ _ hS1 d1 e1 i1 d2 e2 i2 d3 e3 i3 d4 e4 i4 H2 (o1.below (L8.bnew w _)) (o2.below (L8.bnew w _)) hH w.heap.size (heap_alloc_last w _) hS.size
  exact AllReadyH.nil

set_option maxHeartbeats 1000000 in
set_option maxRecDepth 100000 in
theorem cx_a (HC : Hid (∀ w, Below W.heap.size W w → Calls Tryz.prog 14 #[.agg #[.slice a1 n1 c1, .slice a2 n2 c2]] w (CloP p w))) (hQ : ∀ d1 e1 i1 d2 e2 i2 d3 e3 i3 d4 e4 i4 g3 g4 H2 w', Below W.heap.size W w' → CloA W.heap.size H2 w' (.slice d1 e1 i1) (.slice d2 e2 i2) p → CloR H2 w' (.slice d3 e3 i3) (.slice d4 e4 i4) p → W.heap.size ≤ H2 → w'.heap[g3]? = some (.cells #[.slice d1 e1 i1, .slice d2 e2 i2] 25) → w'.heap[g4]? = some (.cells #[.slice d3 e3 i3, .slice d4 e4 i4] 25) → W.heap.size ≤ g3 → W.heap.size ≤ g4 → g3 ≠ g4 → Q .normal ⟨#[.agg #[.slice a1 n1 c1, .slice a2 n2 c2], .pointer (some ⟨kx, 0, none⟩), .bool false, .pointer (some ⟨g3, 0, none⟩), .pointer (some ⟨g4, 0, none⟩), undef, undef, undef, .agg #[.slice a1 n1 c1, .slice a2 n2 c2], .bool true, .bool false, undef, .agg #[.slice a1 n1 c1, .slice a2 n2 c2], .agg #[.slice d1 e1 i1, .slice d2 e2 i2], .agg #[.slice a1 n1 c1, .slice a2 n2 c2], .agg #[.slice d3 e3 i3, .slice d4 e4 i4], undef, undef, undef, undef, undef, undef, undef, undef, undef, undef, undef, undef, undef, undef, undef, undef, undef, undef, undef, undef, undef, undef, undef, undef, undef, undef, undef, undef, undef, undef, undef, undef, undef, undef, undef, undef, undef, undef, undef, undef, undef, undef, undef, undef, undef, undef, undef, undef, undef, undef, undef, undef, undef, undef, undef, undef, undef, undef, undef, undef, undef, undef, undef, undef, undef, undef, undef, undef, undef, undef, undef, undef], []⟩ w') (w : World) (hS : Below W.heap.size W w) (g3 : Nat) (h3 : w.heap[g3]? = some (.cells #[.slice none 0 0, .slice none 0 0] 25)) (k3 : W.heap.size ≤ g3) : wpAnyH Tryz.prog .any RCx Q (SCl W) 5 #[true, false, true, false, true, false, false, false] ⟨#[.agg #[.slice a1 n1 c1, .slice a2 n2 c2], .pointer (some ⟨kx, 0, none⟩), .bool false, .pointer (some ⟨g3, 0, none⟩), undef, undef, undef, undef, .agg #[.slice a1 n1 c1, .slice a2 n2 c2], .bool true, .bool false, undef, .agg #[.slice a1 n1 c1, .slice a2 n2 c2], undef, .agg #[.slice a1 n1 c1, .slice a2 n2 c2], undef, undef, undef, undef, undef, undef, undef, undef, undef, undef, undef, undef, undef, undef, undef, undef, undef, undef, undef, undef, undef, undef, undef, undef, undef, undef, undef, undef, undef, undef, undef, undef, undef, undef, undef, undef, undef, undef, undef, undef, undef, undef, undef, undef, undef, undef, undef, undef, undef, undef, undef, undef, undef, undef, undef, undef, undef, undef, undef, undef, undef, undef, undef, undef, undef, undef, undef, undef, undef, undef, undef, undef, undef], []⟩ w := by
  refine wpAnyH_ready (rs := [1, 5]) (by kernel_rfl) (by simp) ?_
  refine AllReadyH.cons (o := { dst := some 13, op := Op.call { callee := Callee.value (Operand.func 14), args := #[Operand.tmp 12], argTypes := #[25] }, type := 25, pos := "law.go:63", after := #[{ on := 0, ground := Ground.data }], guard := none }) rfl (fun K hK => ?_) ?_
  · go_simp
    refine (HC.out _ hS).mono ?_
    rintro e w1 ⟨d1, e1, i1, d2, e2, i2, rfl, o1, hb1⟩
    refine hK.out _ _ (hS.trans (hb1.mono hS.size)) (fun hS1 => ?_)
    clear hK K
    (try simp only [List.setIfInBounds_toArray, List.set_cons_zero, List.set_cons_succ])
    exact cx_ac HC hQ w1 hS1 d1 e1 i1 d2 e2 i2 (by obtain ⟨ll, h1, h2, h3, h4⟩ := o1; exact ⟨ll, h1, own_lo h2 hS.size, own_lo h3 hS.size, fun x hx => own_lo (h4 x hx) hS.size⟩) g3 (L8.row_up h3 hb1) k3
  refine AllReadyH.cons (o := { dst := some 4, op := Op.alloc 25, type := 0, pos := "law.go:63", after := #[], guard := none }) rfl (fun K hK => ?_) ?_
  · go_simp
    refine hK.out _ _ (hS.alloc hS.size _) (fun hS1 => ?_)
    clear hK K
    (try simp only [List.setIfInBounds_toArray, List.set_cons_zero, List.set_cons_succ])
    exact cx_ab HC hQ _ hS1 g3 (L8.row_up h3 (L8.bnew w _)) k3 w.heap.size (heap_alloc_last w _) hS.size (by have := lt_of_block h3; omega)
  exact AllReadyH.nil

set_option maxHeartbeats 1000000 in
set_option maxRecDepth 100000 in
theorem cx_b (HC : Hid (∀ w, Below W.heap.size W w → Calls Tryz.prog 14 #[.agg #[.slice a1 n1 c1, .slice a2 n2 c2]] w (CloP p w))) (hQ : ∀ d1 e1 i1 d2 e2 i2 d3 e3 i3 d4 e4 i4 g3 g4 H2 w', Below W.heap.size W w' → CloA W.heap.size H2 w' (.slice d1 e1 i1) (.slice d2 e2 i2) p → CloR H2 w' (.slice d3 e3 i3) (.slice d4 e4 i4) p → W.heap.size ≤ H2 → w'.heap[g3]? = some (.cells #[.slice d1 e1 i1, .slice d2 e2 i2] 25) → w'.heap[g4]? = some (.cells #[.slice d3 e3 i3, .slice d4 e4 i4] 25) → W.heap.size ≤ g3 → W.heap.size ≤ g4 → g3 ≠ g4 → Q .normal ⟨#[.agg #[.slice a1 n1 c1, .slice a2 n2 c2], .pointer (some ⟨kx, 0, none⟩), .bool false, .pointer (some ⟨g3, 0, none⟩), .pointer (some ⟨g4, 0, none⟩), undef, undef, undef, .agg #[.slice a1 n1 c1, .slice a2 n2 c2], .bool true, .bool false, undef, .agg #[.slice a1 n1 c1, .slice a2 n2 c2], .agg #[.slice d1 e1 i1, .slice d2 e2 i2], .agg #[.slice a1 n1 c1, .slice a2 n2 c2], .agg #[.slice d3 e3 i3, .slice d4 e4 i4], undef, undef, undef, undef, undef, undef, undef, undef, undef, undef, undef, undef, undef, undef, undef, undef, undef, undef, undef, undef, undef, undef, undef, undef, undef, undef, undef, undef, undef, undef, undef, undef, undef, undef, undef, undef, undef, undef, undef, undef, undef, undef, undef, undef, undef, undef, undef, undef, undef, undef, undef, undef, undef, undef, undef, undef, undef, undef, undef, undef, undef, undef, undef, undef, undef, undef, undef, undef, undef, undef, undef, undef], []⟩ w') (w : World) (hS : Below W.heap.size W w) (g4 : Nat) (h4 : w.heap[g4]? = some (.cells #[.slice none 0 0, .slice none 0 0] 25)) (k4 : W.heap.size ≤ g4) : wpAnyH Tryz.prog .any RCx Q (SCl W) 5 #[true, false, true, false, false, true, false, false] ⟨#[.agg #[.slice a1 n1 c1, .slice a2 n2 c2], .pointer (some ⟨kx, 0, none⟩), .bool false, undef, .pointer (some ⟨g4, 0, none⟩), undef, undef, undef, .agg #[.slice a1 n1 c1, .slice a2 n2 c2], .bool true, .bool false, undef, .agg #[.slice a1 n1 c1, .slice a2 n2 c2], undef, .agg #[.slice a1 n1 c1, .slice a2 n2 c2], undef, undef, undef, undef, undef, undef, undef, undef, undef, undef, undef, undef, undef, undef, undef, undef, undef, undef, undef, undef, undef, undef, undef, undef, undef, undef, undef, undef, undef, undef, undef, undef, undef, undef, undef, undef, undef, undef, undef, undef, undef, undef, undef, undef, undef, undef, undef, undef, undef, undef, undef, undef, undef, undef, undef, undef, undef, undef, undef, undef, undef, undef, undef, undef, undef, undef, undef, undef, undef, undef, undef, undef, undef], []⟩ w := by
  refine wpAnyH_ready (rs := [1, 4]) (by kernel_rfl) (by simp) ?_
  refine AllReadyH.cons (o := { dst := some 13, op := Op.call { callee := Callee.value (Operand.func 14), args := #[Operand.tmp 12], argTypes := #[25] }, type := 25, pos := "law.go:63", after := #[{ on := 0, ground := Ground.data }], guard := none }) rfl (fun K hK => ?_) ?_
  · go_simp
    refine (HC.out _ hS).mono ?_
    rintro e w1 ⟨d1, e1, i1, d2, e2, i2, rfl, o1, hb1⟩
    refine hK.out _ _ (hS.trans (hb1.mono hS.size)) (fun hS1 => ?_)
    clear hK K
    (try simp only [List.setIfInBounds_toArray, List.set_cons_zero, List.set_cons_succ])
    exact cx_bc HC hQ w1 hS1 d1 e1 i1 d2 e2 i2 (by obtain ⟨ll, h1, h2, h3, h4⟩ := o1; exact ⟨ll, h1, own_lo h2 hS.size, own_lo h3 hS.size, fun x hx => own_lo (h4 x hx) hS.size⟩) g4 (L8.row_up h4 hb1) k4
  refine AllReadyH.cons (o := { dst := some 3, op := Op.alloc 25, type := 0, pos := "law.go:63", after := #[], guard := none }) rfl (fun K hK => ?_) ?_
  · go_simp
    refine hK.out _ _ (hS.alloc hS.size _) (fun hS1 => ?_)
    clear hK K
    (try simp only [List.setIfInBounds_toArray, List.set_cons_zero, List.set_cons_succ])
    exact cx_ab HC hQ _ hS1 w.heap.size (heap_alloc_last w _) hS.size g4 (L8.row_up h4 (L8.bnew w _)) k4 (by have := lt_of_block h4; omega)
  exact AllReadyH.nil

set_option maxHeartbeats 1000000 in
set_option maxRecDepth 100000 in
theorem cx_c (HC : Hid (∀ w, Below W.heap.size W w → Calls Tryz.prog 14 #[.agg #[.slice a1 n1 c1, .slice a2 n2 c2]] w (CloP p w))) (hQ : ∀ d1 e1 i1 d2 e2 i2 d3 e3 i3 d4 e4 i4 g3 g4 H2 w', Below W.heap.size W w' → CloA W.heap.size H2 w' (.slice d1 e1 i1) (.slice d2 e2 i2) p → CloR H2 w' (.slice d3 e3 i3) (.slice d4 e4 i4) p → W.heap.size ≤ H2 → w'.heap[g3]? = some (.cells #[.slice d1 e1 i1, .slice d2 e2 i2] 25) → w'.heap[g4]? = some (.cells #[.slice d3 e3 i3, .slice d4 e4 i4] 25) → W.heap.size ≤ g3 → W.heap.size ≤ g4 → g3 ≠ g4 → Q .normal ⟨#[.agg #[.slice a1 n1 c1, .slice a2 n2 c2], .pointer (some ⟨kx, 0, none⟩), .bool false, .pointer (some ⟨g3, 0, none⟩), .pointer (some ⟨g4, 0, none⟩), undef, undef, undef, .agg #[.slice a1 n1 c1, .slice a2 n2 c2], .bool true, .bool false, undef, .agg #[.slice a1 n1 c1, .slice a2 n2 c2], .agg #[.slice d1 e1 i1, .slice d2 e2 i2], .agg #[.slice a1 n1 c1, .slice a2 n2 c2], .agg #[.slice d3 e3 i3, .slice d4 e4 i4], undef, undef, undef, undef, undef, undef, undef, undef, undef, undef, undef, undef, undef, undef, undef, undef, undef, undef, undef, undef, undef, undef, undef, undef, undef, undef, undef, undef, undef, undef, undef, undef, undef, undef, undef, undef, undef, undef, undef, undef, undef, undef, undef, undef, undef, undef, undef, undef, undef, undef, undef, undef, undef, undef, undef, undef, undef, undef, undef, undef, undef, undef, undef, undef, undef, undef, undef, undef, undef, undef, undef, undef], []⟩ w') (w : World) (hS : Below W.heap.size W w) (d1 : Option Addr) (e1 i1 : Nat) (d2 : Option Addr) (e2 i2 : Nat) (o1 : CloR W.heap.size w (.slice d1 e1 i1) (.slice d2 e2 i2) p) : wpAnyH Tryz.prog .any RCx Q (SCl W) 5 #[true, true, true, false, false, false, false, false] ⟨#[.agg #[.slice a1 n1 c1, .slice a2 n2 c2], .pointer (some ⟨kx, 0, none⟩), .bool false, undef, undef, undef, undef, undef, .agg #[.slice a1 n1 c1, .slice a2 n2 c2], .bool true, .bool false, undef, .agg #[.slice a1 n1 c1, .slice a2 n2 c2], .agg #[.slice d1 e1 i1, .slice d2 e2 i2], .agg #[.slice a1 n1 c1, .slice a2 n2 c2], undef, undef, undef, undef, undef, undef, undef, undef, undef, undef, undef, undef, undef, undef, undef, undef, undef, undef, undef, undef, undef, undef, undef, undef, undef, undef, undef, undef, undef, undef, undef, undef, undef, undef, undef, undef, undef, undef, undef, undef, undef, undef, undef, undef, undef, undef, undef, undef, undef, undef, undef, undef, undef, undef, undef, undef, undef, undef, undef, undef, undef, undef, undef, undef, undef, undef, undef, undef, undef, undef, undef, undef, undef], []⟩ w := by
  refine wpAnyH_ready (rs := [3, 4, 5]) (by kernel_rfl) (by simp) ?_
  refine AllReadyH.cons (o := { dst := some 15, op := Op.call { callee := Callee.value (Operand.func 14), args := #[Operand.tmp 14], argTypes := #[25] }, type := 25, pos := "law.go:63", after := #[{ on := 2, ground := Ground.data }, { on := 1, ground := Ground.chain }], guard := none }) rfl (fun K hK => ?_) ?_
  · go_simp
    refine (HC.out _ hS).mono ?_
    rintro e w1 ⟨d3, e3, i3, d4, e4, i4, rfl, o2, hb1⟩
    refine hK.out _ _ (hS.trans (hb1.mono hS.size)) (fun hS1 => ?_)
    clear hK K
    (try simp only [List.setIfInBounds_toArray, List.set_cons_zero, List.set_cons_succ])
    exact cx_cd hQ w1 hS1 d1 e1 i1 d2 e2 i2 d3 e3 i3 d4 e4 i4 w.heap.size ((CloR.toA o1 (Nat.le_refl _)).below hb1) o2 hS.size
  refine AllReadyH.cons (o := { dst := some 3, op := Op.alloc 25, type := 0, pos := "law.go:63", after := #[], guard := none }) rfl (fun K hK => ?_) ?_
  · go_simp
    refine hK.out _ _ (hS.alloc hS.size _) (fun hS1 => ?_)
    clear hK K
    (try simp only [List.setIfInBounds_toArray, List.set_cons_zero, List.set_cons_succ])
    exact cx_ac HC hQ _ hS1 d1 e1 i1 d2 e2 i2 (o1.below (L8.bnew w _)) w.heap.size (heap_alloc_last w _) hS.size
  refine AllReadyH.cons (o := { dst := some 4, op := Op.alloc 25, type := 0, pos := "law.go:63", after := #[], guard := none }) rfl (fun K hK => ?_) ?_
  · go_simp
    refine hK.out _ _ (hS.alloc hS.size _) (fun hS1 => ?_)
    clear hK K
    (try simp only [List.setIfInBounds_toArray, List.set_cons_zero, List.set_cons_succ])
    exact cx_bc HC hQ _ hS1 d1 e1 i1 d2 e2 i2 (o1.below (L8.bnew w _)) w.heap.size (heap_alloc_last w _) hS.size
  exact AllReadyH.nil

set_option maxHeartbeats 1000000 in
set_option maxRecDepth 100000 in
theorem cx_o (HC : Hid (∀ w, Below W.heap.size W w → Calls Tryz.prog 14 #[.agg #[.slice a1 n1 c1, .slice a2 n2 c2]] w (CloP p w))) (hQ : ∀ d1 e1 i1 d2 e2 i2 d3 e3 i3 d4 e4 i4 g3 g4 H2 w', Below W.heap.size W w' → CloA W.heap.size H2 w' (.slice d1 e1 i1) (.slice d2 e2 i2) p → CloR H2 w' (.slice d3 e3 i3) (.slice d4 e4 i4) p → W.heap.size ≤ H2 → w'.heap[g3]? = some (.cells #[.slice d1 e1 i1, .slice d2 e2 i2] 25) → w'.heap[g4]? = some (.cells #[.slice d3 e3 i3, .slice d4 e4 i4] 25) → W.heap.size ≤ g3 → W.heap.size ≤ g4 → g3 ≠ g4 → Q .normal ⟨#[.agg #[.slice a1 n1 c1, .slice a2 n2 c2], .pointer (some ⟨kx, 0, none⟩), .bool false, .pointer (some ⟨g3, 0, none⟩), .pointer (some ⟨g4, 0, none⟩), undef, undef, undef, .agg #[.slice a1 n1 c1, .slice a2 n2 c2], .bool true, .bool false, undef, .agg #[.slice a1 n1 c1, .slice a2 n2 c2], .agg #[.slice d1 e1 i1, .slice d2 e2 i2], .agg #[.slice a1 n1 c1, .slice a2 n2 c2], .agg #[.slice d3 e3 i3, .slice d4 e4 i4], undef, undef, undef, undef, undef, undef, undef, undef, undef, undef, undef, undef, undef, undef, undef, undef, undef, undef, undef, undef, undef, undef, undef, undef, undef, undef, undef, undef, undef, undef, undef, undef, undef, undef, undef, undef, undef, undef, undef, undef, undef, undef, undef, undef, undef, undef, undef, undef, undef, undef, undef, undef, undef, undef, undef, undef, undef, undef, undef, undef, undef, undef, undef, undef, undef, undef, undef, undef, undef, undef, undef, undef], []⟩ w') (w : World) (hS : Below W.heap.size W w) : wpAnyH Tryz.prog .any RCx Q (SCl W) 6 #[true, false, true, false, false, false, false, false] ⟨#[.agg #[.slice a1 n1 c1, .slice a2 n2 c2], .pointer (some ⟨kx, 0, none⟩), .bool false, undef, undef, undef, undef, undef, .agg #[.slice a1 n1 c1, .slice a2 n2 c2], .bool true, .bool false, undef, .agg #[.slice a1 n1 c1, .slice a2 n2 c2], undef, .agg #[.slice a1 n1 c1, .slice a2 n2 c2], undef, undef, undef, undef, undef, undef, undef, undef, undef, undef, undef, undef, undef, undef, undef, undef, undef, undef, undef, undef, undef, undef, undef, undef, undef, undef, undef, undef, undef, undef, undef, undef, undef, undef, undef, undef, undef, undef, undef, undef, undef, undef, undef, undef, undef, undef, undef, undef, undef, undef, undef, undef, undef, undef, undef, undef, undef, undef, undef, undef, undef, undef, undef, undef, undef, undef, undef, undef, undef, undef, undef, undef, undef], []⟩ w := by
  refine wpAnyH_ready (rs := [1, 4, 5]) (by kernel_rfl) (by simp) ?_
  refine AllReadyH.cons (o := { dst := some 13, op := Op.call { callee := Callee.value (Operand.func 14), args := #[Operand.tmp 12], argTypes := #[25] }, type := 25, pos := "law.go:63", after := #[{ on := 0, ground := Ground.data }], guard := none }) rfl (fun K hK => ?_) ?_
  · go_simp
    refine (HC.out _ hS).mono ?_
    rintro e w1 ⟨d1, e1, i1, d2, e2, i2, rfl, o1, hb1⟩
    refine hK.out _ _ (hS.trans (hb1.mono hS.size)) (fun hS1 => ?_)
    clear hK K
    (try simp only [List.setIfInBounds_toArray, List.set_cons_zero, List.set_cons_succ])
    exact cx_c HC hQ w1 hS1 d1 e1 i1 d2 e2 i2 (by obtain ⟨ll, h1, h2, h3, h4⟩ := o1; exact ⟨ll, h1, own_lo h2 hS.size, own_lo h3 hS.size, fun x hx => own_lo (h4 x hx) hS.size⟩)
  refine AllReadyH.cons (o := { dst := some 3, op := Op.alloc 25, type := 0, pos := "law.go:63", after := #[], guard := none }) rfl (fun K hK => ?_) ?_
  · go_simp
    refine hK.out _ _ (hS.alloc hS.size _) (fun hS1 => ?_)
    clear hK K
    (try simp only [List.setIfInBounds_toArray, List.set_cons_zero, List.set_cons_succ])
    exact cx_a HC hQ _ hS1 w.heap.size (heap_alloc_last w _) hS.size
  refine AllReadyH.cons (o := { dst := some 4, op := Op.alloc 25, type := 0, pos := "law.go:63", after := #[], guard := none }) rfl (fun K hK => ?_) ?_
  · go_simp
    refine hK.out _ _ (hS.alloc hS.size _) (fun hS1 => ?_)
    clear hK K
    (try simp only [List.setIfInBounds_toArray, List.set_cons_zero, List.set_cons_succ])
    exact cx_b HC hQ _ hS1 w.heap.size (heap_alloc_last w _) hS.size
  exact AllReadyH.nil
end
end Go.Proofs.YtakblmonbeflmaaGreatDoor.L10
