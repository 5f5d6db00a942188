/- The region of the program's Clone that draws its order. Condition: the two lists' copies are made as their contracts say. -/
import Derived.Test.YtakblmonbeflmaaGreatDoorL10Cln
import Derived.Deep.RegionHeld3
namespace Go.Proofs.YtakblmonbeflmaaGreatDoor.L10
open Go.RowKit

/-- The region's operations. -/
def RCl : Array Oper :=
  #[{ dst := some 6, op := Op.fieldAddr 25 (Operand.tmp 1) 0, type := 0, pos := "prog.go:52", after := #[], guard := none },
    { dst := some 7, op := Op.load 22 (Operand.tmp 6), type := 22, pos := "prog.go:52", after := #[{ on := 0, ground := Ground.data }], guard := none },
    { dst := some 8, op := Op.call { callee := Callee.value (Operand.func 34), args := #[Operand.tmp 7], argTypes := #[22] }, type := 22, pos := "prog.go:52", after := #[{ on := 1, ground := Ground.data }], guard := none },
    { dst := some 9, op := Op.fieldAddr 25 (Operand.tmp 1) 1, type := 0, pos := "prog.go:52", after := #[], guard := none },
    { dst := some 10, op := Op.load 23 (Operand.tmp 9), type := 23, pos := "prog.go:52", after := #[{ on := 3, ground := Ground.data }], guard := none },
    { dst := some 11, op := Op.call { callee := Callee.value (Operand.func 35), args := #[Operand.tmp 10], argTypes := #[23] }, type := 23, pos := "prog.go:52", after := #[{ on := 4, ground := Ground.data }, { on := 2, ground := Ground.chain }], guard := none },
    { dst := some 12, op := Op.build 25 #[(0, Operand.tmp 8), (1, Operand.tmp 11)], type := 25, pos := "prog.go:52", after := #[{ on := 2, ground := Ground.data }, { on := 5, ground := Ground.data }], guard := none },
    { dst := some 3, op := Op.alloc 25, type := 0, pos := "prog.go:52", after := #[], guard := none },
    { dst := none, op := Op.store 25 (Operand.tmp 3) (Operand.tmp 12), type := 0, pos := "prog.go:52", after := #[{ on := 7, ground := Ground.data }, { on := 6, ground := Ground.data }, { on := 5, ground := Ground.chain }, { on := 0, ground := Ground.phase }, { on := 1, ground := Ground.phase }, { on := 2, ground := Ground.phase }, { on := 3, ground := Ground.phase }, { on := 4, ground := Ground.phase }, { on := 5, ground := Ground.phase }, { on := 6, ground := Ground.phase }, { on := 7, ground := Ground.phase }], guard := none }]
abbrev SCl (W : World) : World → Prop := fun w' => Below W.heap.size W w'
section
variable {Q : Exit → Act → World → Prop} {W : World} {kx kr B n1 n2 c1 c2 : Nat} {a1 a2 : Option Addr} {cs1 cs2 : List Value}

set_option maxHeartbeats 1000000 in
set_option maxRecDepth 100000 in
theorem cl_abcd (hQ : ∀ ga ca gb cb g w', Below W.heap.size W w' → w'.ownsRow B 36 4 (.slice ga n1 ca) n1 cs1 → w'.ownsRow B 41 9 (.slice gb n2 cb) n2 cs2 → w'.heap[g]? = some (.cells #[.slice ga n1 ca, .slice gb n2 cb] 25) → W.heap.size ≤ g → Q .normal ⟨#[.agg #[.slice a1 n1 c1, .slice a2 n2 c2], .pointer (some ⟨kx, 0, none⟩), .pointer (some ⟨kr, 0, none⟩), .pointer (some ⟨g, 0, none⟩), undef, undef, .pointer (some ⟨kx, 0, none⟩), .slice a1 n1 c1, .slice ga n1 ca, .pointer (some ⟨kx, 1, none⟩), .slice a2 n2 c2, .slice gb n2 cb, .agg #[.slice ga n1 ca, .slice gb n2 cb], undef, undef, undef, undef, undef, undef, undef, undef, undef, undef, undef, undef, undef, undef, undef, undef, undef, undef], []⟩ w') (w : World) (hS : Below W.heap.size W w) (ga : Option Addr) (ca : Nat) (o1 : w.ownsRow B 36 4 (.slice ga n1 ca) n1 cs1) (gb : Option Addr) (cb : Nat) (o2 : w.ownsRow B 41 9 (.slice gb n2 cb) n2 cs2) (g : Nat) (h3 : w.heap[g]? = some (.cells #[.slice none 0 0, .slice none 0 0] 25)) (k3 : W.heap.size ≤ g) : wpAnyH Tryz.prog .any RCl Q (SCl W) 1 #[true, true, true, true, true, true, true, true, false] ⟨#[.agg #[.slice a1 n1 c1, .slice a2 n2 c2], .pointer (some ⟨kx, 0, none⟩), .pointer (some ⟨kr, 0, none⟩), .pointer (some ⟨g, 0, none⟩), undef, undef, .pointer (some ⟨kx, 0, none⟩), .slice a1 n1 c1, .slice ga n1 ca, .pointer (some ⟨kx, 1, none⟩), .slice a2 n2 c2, .slice gb n2 cb, .agg #[.slice ga n1 ca, .slice gb n2 cb], undef, undef, undef, undef, undef, undef, undef, undef, undef, undef, undef, undef, undef, undef, undef, undef, undef, undef], []⟩ w := by
  obtain ⟨z0, z1⟩ := cells2p h3
  have fz := frozen_all h3
  refine wpAnyH_ready (rs := [8]) (by kernel_rfl) (by simp) ?_
  refine AllReadyH.cons (o := { dst := none, op := Op.store 25 (Operand.tmp 3) (Operand.tmp 12), type := 0, pos := "prog.go:52", after := #[{ on := 7, ground := Ground.data }, { on := 6, ground := Ground.data }, { on := 5, ground := Ground.chain }, { on := 0, ground := Ground.phase }, { on := 1, ground := Ground.phase }, { on := 2, ground := Ground.phase }, { on := 3, ground := Ground.phase }, { on := 4, ground := Ground.phase }, { on := 5, ground := Ground.phase }, { on := 6, ground := Ground.phase }, { on := 7, ground := Ground.phase }], guard := none }) rfl (fun K hK => ?_) AllReadyH.nil
  go_simp
  refine hK.out _ _ (Below.setCell (Below.setCell hS k3 _) k3 _) (fun hS3 => ?_)
  clear hK K
  refine wpAnyH_done (by kernel_rfl) ?_ _
  have n1 : ∀ k, (.slice ga n1 ca : Value).ownBlock = some k → (some g : Option Nat) ≠ some k := fun k hk => by
    obtain ⟨cur, hc⟩ := own_ty o1 hk
    exact ty_ne h3 hc (by decide)
  have n2 : ∀ k, (.slice gb n2 cb : Value).ownBlock = some k → (some g : Option Nat) ≠ some k := fun k hk => by
    obtain ⟨cur, hc⟩ := own_ty o2 hk
    exact ty_ne h3 hc (by decide)
  exact hQ ga ca gb cb g _ hS3 (own_kept (own_kept o1 (gr_setCell w g 0 _) n1) (gr_setCell _ g 1 _) n1) (own_kept (own_kept o2 (gr_setCell w g 0 _) n2) (gr_setCell _ g 1 _) n2) (row_set (row_set h3 0 _) 1 _) k3

set_option maxHeartbeats 1000000 in
set_option maxRecDepth 100000 in
theorem cl_abc (hQ : ∀ ga ca gb cb g w', Below W.heap.size W w' → w'.ownsRow B 36 4 (.slice ga n1 ca) n1 cs1 → w'.ownsRow B 41 9 (.slice gb n2 cb) n2 cs2 → w'.heap[g]? = some (.cells #[.slice ga n1 ca, .slice gb n2 cb] 25) → W.heap.size ≤ g → Q .normal ⟨#[.agg #[.slice a1 n1 c1, .slice a2 n2 c2], .pointer (some ⟨kx, 0, none⟩), .pointer (some ⟨kr, 0, none⟩), .pointer (some ⟨g, 0, none⟩), undef, undef, .pointer (some ⟨kx, 0, none⟩), .slice a1 n1 c1, .slice ga n1 ca, .pointer (some ⟨kx, 1, none⟩), .slice a2 n2 c2, .slice gb n2 cb, .agg #[.slice ga n1 ca, .slice gb n2 cb], undef, undef, undef, undef, undef, undef, undef, undef, undef, undef, undef, undef, undef, undef, undef, undef, undef, undef], []⟩ w') (w : World) (hS : Below W.heap.size W w) (ga : Option Addr) (ca : Nat) (o1 : w.ownsRow B 36 4 (.slice ga n1 ca) n1 cs1) (gb : Option Addr) (cb : Nat) (o2 : w.ownsRow B 41 9 (.slice gb n2 cb) n2 cs2) (g : Nat) (h3 : w.heap[g]? = some (.cells #[.slice none 0 0, .slice none 0 0] 25)) (k3 : W.heap.size ≤ g) : wpAnyH Tryz.prog .any RCl Q (SCl W) 2 #[true, true, true, true, true, true, false, true, false] ⟨#[.agg #[.slice a1 n1 c1, .slice a2 n2 c2], .pointer (some ⟨kx, 0, none⟩), .pointer (some ⟨kr, 0, none⟩), .pointer (some ⟨g, 0, none⟩), undef, undef, .pointer (some ⟨kx, 0, none⟩), .slice a1 n1 c1, .slice ga n1 ca, .pointer (some ⟨kx, 1, none⟩), .slice a2 n2 c2, .slice gb n2 cb, undef, undef, undef, undef, undef, undef, undef, undef, undef, undef, undef, undef, undef, undef, undef, undef, undef, undef, undef], []⟩ w := by
  refine wpAnyH_ready (rs := [6]) (by kernel_rfl) (by simp) ?_
  refine AllReadyH.cons (o := { dst := some 12, op := Op.build 25 #[(0, Operand.tmp 8), (1, Operand.tmp 11)], type := 25, pos := "prog.go:52", after := #[{ on := 2, ground := Ground.data }, { on := 5, ground := Ground.data }], guard := none }) rfl (fun K hK => ?_) ?_
  · go_simp
    refine hK.out _ _ hS (fun hS1 => ?_)
    clear hK K
    (try simp only [List.setIfInBounds_toArray, List.set_cons_zero, List.set_cons_succ])
    exact cl_abcd hQ w hS1 ga ca o1 gb cb o2 g h3 k3
  exact AllReadyH.nil

set_option maxHeartbeats 1000000 in
set_option maxRecDepth 100000 in
theorem cl_bcd (hQ : ∀ ga ca gb cb g w', Below W.heap.size W w' → w'.ownsRow B 36 4 (.slice ga n1 ca) n1 cs1 → w'.ownsRow B 41 9 (.slice gb n2 cb) n2 cs2 → w'.heap[g]? = some (.cells #[.slice ga n1 ca, .slice gb n2 cb] 25) → W.heap.size ≤ g → Q .normal ⟨#[.agg #[.slice a1 n1 c1, .slice a2 n2 c2], .pointer (some ⟨kx, 0, none⟩), .pointer (some ⟨kr, 0, none⟩), .pointer (some ⟨g, 0, none⟩), undef, undef, .pointer (some ⟨kx, 0, none⟩), .slice a1 n1 c1, .slice ga n1 ca, .pointer (some ⟨kx, 1, none⟩), .slice a2 n2 c2, .slice gb n2 cb, .agg #[.slice ga n1 ca, .slice gb n2 cb], undef, undef, undef, undef, undef, undef, undef, undef, undef, undef, undef, undef, undef, undef, undef, undef, undef, undef], []⟩ w') (w : World) (hS : Below W.heap.size W w) (ga : Option Addr) (ca : Nat) (o1 : w.ownsRow B 36 4 (.slice ga n1 ca) n1 cs1) (gb : Option Addr) (cb : Nat) (o2 : w.ownsRow B 41 9 (.slice gb n2 cb) n2 cs2) : wpAnyH Tryz.prog .any RCl Q (SCl W) 2 #[true, true, true, true, true, true, true, false, false] ⟨#[.agg #[.slice a1 n1 c1, .slice a2 n2 c2], .pointer (some ⟨kx, 0, none⟩), .pointer (some ⟨kr, 0, none⟩), undef, undef, undef, .pointer (some ⟨kx, 0, none⟩), .slice a1 n1 c1, .slice ga n1 ca, .pointer (some ⟨kx, 1, none⟩), .slice a2 n2 c2, .slice gb n2 cb, .agg #[.slice ga n1 ca, .slice gb n2 cb], undef, undef, undef, undef, undef, undef, undef, undef, undef, undef, undef, undef, undef, undef, undef, undef, undef, undef], []⟩ w := by
  refine wpAnyH_ready (rs := [7]) (by kernel_rfl) (by simp) ?_
  refine AllReadyH.cons (o := { dst := some 3, op := Op.alloc 25, type := 0, pos := "prog.go:52", after := #[], guard := none }) rfl (fun K hK => ?_) ?_
  · go_simp
    refine hK.out _ _ (hS.alloc hS.size _) (fun hS1 => ?_)
    clear hK K
    (try simp only [List.setIfInBounds_toArray, List.set_cons_zero, List.set_cons_succ])
    exact cl_abcd hQ _ hS1 ga ca (own_up o1 (L8.bnew w _)) gb cb (own_up o2 (L8.bnew w _)) w.heap.size (heap_alloc_last w _) hS.size
  exact AllReadyH.nil

set_option maxHeartbeats 1000000 in
set_option maxRecDepth 100000 in
theorem cl_ab (HM : Hid (∀ w, Below W.heap.size W w → Calls Tryz.prog 35 #[.slice a2 n2 c2] w (ClP 41 9 n2 cs2 w))) (hB : B ≤ W.heap.size) (hQ : ∀ ga ca gb cb g w', Below W.heap.size W w' → w'.ownsRow B 36 4 (.slice ga n1 ca) n1 cs1 → w'.ownsRow B 41 9 (.slice gb n2 cb) n2 cs2 → w'.heap[g]? = some (.cells #[.slice ga n1 ca, .slice gb n2 cb] 25) → W.heap.size ≤ g → Q .normal ⟨#[.agg #[.slice a1 n1 c1, .slice a2 n2 c2], .pointer (some ⟨kx, 0, none⟩), .pointer (some ⟨kr, 0, none⟩), .pointer (some ⟨g, 0, none⟩), undef, undef, .pointer (some ⟨kx, 0, none⟩), .slice a1 n1 c1, .slice ga n1 ca, .pointer (some ⟨kx, 1, none⟩), .slice a2 n2 c2, .slice gb n2 cb, .agg #[.slice ga n1 ca, .slice gb n2 cb], undef, undef, undef, undef, undef, undef, undef, undef, undef, undef, undef, undef, undef, undef, undef, undef, undef, undef], []⟩ w') (w : World) (hS : Below W.heap.size W w) (ga : Option Addr) (ca : Nat) (o1 : w.ownsRow B 36 4 (.slice ga n1 ca) n1 cs1) (g : Nat) (h3 : w.heap[g]? = some (.cells #[.slice none 0 0, .slice none 0 0] 25)) (k3 : W.heap.size ≤ g) : wpAnyH Tryz.prog .any RCl Q (SCl W) 3 #[true, true, true, true, true, false, false, true, false] ⟨#[.agg #[.slice a1 n1 c1, .slice a2 n2 c2], .pointer (some ⟨kx, 0, none⟩), .pointer (some ⟨kr, 0, none⟩), .pointer (some ⟨g, 0, none⟩), undef, undef, .pointer (some ⟨kx, 0, none⟩), .slice a1 n1 c1, .slice ga n1 ca, .pointer (some ⟨kx, 1, none⟩), .slice a2 n2 c2, undef, undef, undef, undef, undef, undef, undef, undef, undef, undef, undef, undef, undef, undef, undef, undef, undef, undef, undef, undef], []⟩ w := by
  refine wpAnyH_ready (rs := [5]) (by kernel_rfl) (by simp) ?_
  refine AllReadyH.cons (o := { dst := some 11, op := Op.call { callee := Callee.value (Operand.func 35), args := #[Operand.tmp 10], argTypes := #[23] }, type := 23, pos := "prog.go:52", after := #[{ on := 4, ground := Ground.data }, { on := 2, ground := Ground.chain }], guard := none }) rfl (fun K hK => ?_) ?_
  · go_simp
    refine (HM.out _ hS).mono ?_
    rintro e w1 ⟨v, rfl, o2, hb1⟩
    obtain ⟨gb, cb, rfl⟩ := L8.owns_slice o2
    refine hK.out _ _ (hS.trans (hb1.mono hS.size)) (fun hS1 => ?_)
    clear hK K
    (try simp only [List.setIfInBounds_toArray, List.set_cons_zero, List.set_cons_succ])
    exact cl_abc hQ w1 hS1 ga ca (own_up o1 hb1) gb cb (own_lo o2 (Nat.le_trans hB hS.size)) g (L8.row_up h3 hb1) k3
  exact AllReadyH.nil

set_option maxHeartbeats 1000000 in
set_option maxRecDepth 100000 in
theorem cl_bc (hQ : ∀ ga ca gb cb g w', Below W.heap.size W w' → w'.ownsRow B 36 4 (.slice ga n1 ca) n1 cs1 → w'.ownsRow B 41 9 (.slice gb n2 cb) n2 cs2 → w'.heap[g]? = some (.cells #[.slice ga n1 ca, .slice gb n2 cb] 25) → W.heap.size ≤ g → Q .normal ⟨#[.agg #[.slice a1 n1 c1, .slice a2 n2 c2], .pointer (some ⟨kx, 0, none⟩), .pointer (some ⟨kr, 0, none⟩), .pointer (some ⟨g, 0, none⟩), undef, undef, .pointer (some ⟨kx, 0, none⟩), .slice a1 n1 c1, .slice ga n1 ca, .pointer (some ⟨kx, 1, none⟩), .slice a2 n2 c2, .slice gb n2 cb, .agg #[.slice ga n1 ca, .slice gb n2 cb], undef, undef, undef, undef, undef, undef, undef, undef, undef, undef, undef, undef, undef, undef, undef, undef, undef, undef], []⟩ w') (w : World) (hS : Below W.heap.size W w) (ga : Option Addr) (ca : Nat) (o1 : w.ownsRow B 36 4 (.slice ga n1 ca) n1 cs1) (gb : Option Addr) (cb : Nat) (o2 : w.ownsRow B 41 9 (.slice gb n2 cb) n2 cs2) : wpAnyH Tryz.prog .any RCl Q (SCl W) 3 #[true, true, true, true, true, true, false, false, false] ⟨#[.agg #[.slice a1 n1 c1, .slice a2 n2 c2], .pointer (some ⟨kx, 0, none⟩), .pointer (some ⟨kr, 0, none⟩), undef, undef, undef, .pointer (some ⟨kx, 0, none⟩), .slice a1 n1 c1, .slice ga n1 ca, .pointer (some ⟨kx, 1, none⟩), .slice a2 n2 c2, .slice gb n2 cb, undef, undef, undef, undef, undef, undef, undef, undef, undef, undef, undef, undef, undef, undef, undef, undef, undef, undef, undef], []⟩ w := by
  refine wpAnyH_ready (rs := [6, 7]) (by kernel_rfl) (by simp) ?_
  refine AllReadyH.cons (o := { dst := some 12, op := Op.build 25 #[(0, Operand.tmp 8), (1, Operand.tmp 11)], type := 25, pos := "prog.go:52", after := #[{ on := 2, ground := Ground.data }, { on := 5, ground := Ground.data }], guard := none }) rfl (fun K hK => ?_) ?_
  · go_simp
    refine hK.out _ _ hS (fun hS1 => ?_)
    clear hK K
    (try simp only [List.setIfInBounds_toArray, List.set_cons_zero, List.set_cons_succ])
    exact cl_bcd hQ w hS1 ga ca o1 gb cb o2
  refine AllReadyH.cons (o := { dst := some 3, op := Op.alloc 25, type := 0, pos := "prog.go:52", after := #[], guard := none }) rfl (fun K hK => ?_) ?_
  · go_simp
    refine hK.out _ _ (hS.alloc hS.size _) (fun hS1 => ?_)
    clear hK K
    (try simp only [List.setIfInBounds_toArray, List.set_cons_zero, List.set_cons_succ])
    exact cl_abc hQ _ hS1 ga ca (own_up o1 (L8.bnew w _)) gb cb (own_up o2 (L8.bnew w _)) w.heap.size (heap_alloc_last w _) hS.size
  exact AllReadyH.nil

set_option maxHeartbeats 1000000 in
set_option maxRecDepth 100000 in
theorem cl_a (HD : Hid (∀ w, Below W.heap.size W w → Calls Tryz.prog 34 #[.slice a1 n1 c1] w (ClP 36 4 n1 cs1 w))) (HM : Hid (∀ w, Below W.heap.size W w → Calls Tryz.prog 35 #[.slice a2 n2 c2] w (ClP 41 9 n2 cs2 w))) (hB : B ≤ W.heap.size) (hQ : ∀ ga ca gb cb g w', Below W.heap.size W w' → w'.ownsRow B 36 4 (.slice ga n1 ca) n1 cs1 → w'.ownsRow B 41 9 (.slice gb n2 cb) n2 cs2 → w'.heap[g]? = some (.cells #[.slice ga n1 ca, .slice gb n2 cb] 25) → W.heap.size ≤ g → Q .normal ⟨#[.agg #[.slice a1 n1 c1, .slice a2 n2 c2], .pointer (some ⟨kx, 0, none⟩), .pointer (some ⟨kr, 0, none⟩), .pointer (some ⟨g, 0, none⟩), undef, undef, .pointer (some ⟨kx, 0, none⟩), .slice a1 n1 c1, .slice ga n1 ca, .pointer (some ⟨kx, 1, none⟩), .slice a2 n2 c2, .slice gb n2 cb, .agg #[.slice ga n1 ca, .slice gb n2 cb], undef, undef, undef, undef, undef, undef, undef, undef, undef, undef, undef, undef, undef, undef, undef, undef, undef, undef], []⟩ w') (w : World) (hS : Below W.heap.size W w) (g : Nat) (h3 : w.heap[g]? = some (.cells #[.slice none 0 0, .slice none 0 0] 25)) (k3 : W.heap.size ≤ g) : wpAnyH Tryz.prog .any RCl Q (SCl W) 4 #[true, true, false, true, true, false, false, true, false] ⟨#[.agg #[.slice a1 n1 c1, .slice a2 n2 c2], .pointer (some ⟨kx, 0, none⟩), .pointer (some ⟨kr, 0, none⟩), .pointer (some ⟨g, 0, none⟩), undef, undef, .pointer (some ⟨kx, 0, none⟩), .slice a1 n1 c1, undef, .pointer (some ⟨kx, 1, none⟩), .slice a2 n2 c2, undef, undef, undef, undef, undef, undef, undef, undef, undef, undef, undef, undef, undef, undef, undef, undef, undef, undef, undef, undef], []⟩ w := by
  refine wpAnyH_ready (rs := [2]) (by kernel_rfl) (by simp) ?_
  refine AllReadyH.cons (o := { dst := some 8, op := Op.call { callee := Callee.value (Operand.func 34), args := #[Operand.tmp 7], argTypes := #[22] }, type := 22, pos := "prog.go:52", after := #[{ on := 1, ground := Ground.data }], guard := none }) rfl (fun K hK => ?_) ?_
  · go_simp
    refine (HD.out _ hS).mono ?_
    rintro e w1 ⟨v, rfl, o1, hb1⟩
    obtain ⟨ga, ca, rfl⟩ := L8.owns_slice o1
    refine hK.out _ _ (hS.trans (hb1.mono hS.size)) (fun hS1 => ?_)
    clear hK K
    (try simp only [List.setIfInBounds_toArray, List.set_cons_zero, List.set_cons_succ])
    exact cl_ab HM hB hQ w1 hS1 ga ca (own_lo o1 (Nat.le_trans hB hS.size)) g (L8.row_up h3 hb1) k3
  exact AllReadyH.nil

set_option maxHeartbeats 1000000 in
set_option maxRecDepth 100000 in
theorem cl_b (HM : Hid (∀ w, Below W.heap.size W w → Calls Tryz.prog 35 #[.slice a2 n2 c2] w (ClP 41 9 n2 cs2 w))) (hB : B ≤ W.heap.size) (hQ : ∀ ga ca gb cb g w', Below W.heap.size W w' → w'.ownsRow B 36 4 (.slice ga n1 ca) n1 cs1 → w'.ownsRow B 41 9 (.slice gb n2 cb) n2 cs2 → w'.heap[g]? = some (.cells #[.slice ga n1 ca, .slice gb n2 cb] 25) → W.heap.size ≤ g → Q .normal ⟨#[.agg #[.slice a1 n1 c1, .slice a2 n2 c2], .pointer (some ⟨kx, 0, none⟩), .pointer (some ⟨kr, 0, none⟩), .pointer (some ⟨g, 0, none⟩), undef, undef, .pointer (some ⟨kx, 0, none⟩), .slice a1 n1 c1, .slice ga n1 ca, .pointer (some ⟨kx, 1, none⟩), .slice a2 n2 c2, .slice gb n2 cb, .agg #[.slice ga n1 ca, .slice gb n2 cb], undef, undef, undef, undef, undef, undef, undef, undef, undef, undef, undef, undef, undef, undef, undef, undef, undef, undef], []⟩ w') (w : World) (hS : Below W.heap.size W w) (ga : Option Addr) (ca : Nat) (o1 : w.ownsRow B 36 4 (.slice ga n1 ca) n1 cs1) : wpAnyH Tryz.prog .any RCl Q (SCl W) 4 #[true, true, true, true, true, false, false, false, false] ⟨#[.agg #[.slice a1 n1 c1, .slice a2 n2 c2], .pointer (some ⟨kx, 0, none⟩), .pointer (some ⟨kr, 0, none⟩), undef, undef, undef, .pointer (some ⟨kx, 0, none⟩), .slice a1 n1 c1, .slice ga n1 ca, .pointer (some ⟨kx, 1, none⟩), .slice a2 n2 c2, undef, undef, undef, undef, undef, undef, undef, undef, undef, undef, undef, undef, undef, undef, undef, undef, undef, undef, undef, undef], []⟩ w := by
  refine wpAnyH_ready (rs := [5, 7]) (by kernel_rfl) (by simp) ?_
  refine AllReadyH.cons (o := { dst := some 11, op := Op.call { callee := Callee.value (Operand.func 35), args := #[Operand.tmp 10], argTypes := #[23] }, type := 23, pos := "prog.go:52", after := #[{ on := 4, ground := Ground.data }, { on := 2, ground := Ground.chain }], guard := none }) rfl (fun K hK => ?_) ?_
  · go_simp
    refine (HM.out _ hS).mono ?_
    rintro e w1 ⟨v, rfl, o2, hb1⟩
    obtain ⟨gb, cb, rfl⟩ := L8.owns_slice o2
    refine hK.out _ _ (hS.trans (hb1.mono hS.size)) (fun hS1 => ?_)
    clear hK K
    (try simp only [List.setIfInBounds_toArray, List.set_cons_zero, List.set_cons_succ])
    exact cl_bc hQ w1 hS1 ga ca (own_up o1 hb1) gb cb (own_lo o2 (Nat.le_trans hB hS.size))
  refine AllReadyH.cons (o := { dst := some 3, op := Op.alloc 25, type := 0, pos := "prog.go:52", after := #[], guard := none }) rfl (fun K hK => ?_) ?_
  · go_simp
    refine hK.out _ _ (hS.alloc hS.size _) (fun hS1 => ?_)
    clear hK K
    (try simp only [List.setIfInBounds_toArray, List.set_cons_zero, List.set_cons_succ])
    exact cl_ab HM hB hQ _ hS1 ga ca (own_up o1 (L8.bnew w _)) w.heap.size (heap_alloc_last w _) hS.size
  exact AllReadyH.nil

set_option maxHeartbeats 1000000 in
set_option maxRecDepth 100000 in
theorem cl_o (HD : Hid (∀ w, Below W.heap.size W w → Calls Tryz.prog 34 #[.slice a1 n1 c1] w (ClP 36 4 n1 cs1 w))) (HM : Hid (∀ w, Below W.heap.size W w → Calls Tryz.prog 35 #[.slice a2 n2 c2] w (ClP 41 9 n2 cs2 w))) (hB : B ≤ W.heap.size) (hQ : ∀ ga ca gb cb g w', Below W.heap.size W w' → w'.ownsRow B 36 4 (.slice ga n1 ca) n1 cs1 → w'.ownsRow B 41 9 (.slice gb n2 cb) n2 cs2 → w'.heap[g]? = some (.cells #[.slice ga n1 ca, .slice gb n2 cb] 25) → W.heap.size ≤ g → Q .normal ⟨#[.agg #[.slice a1 n1 c1, .slice a2 n2 c2], .pointer (some ⟨kx, 0, none⟩), .pointer (some ⟨kr, 0, none⟩), .pointer (some ⟨g, 0, none⟩), undef, undef, .pointer (some ⟨kx, 0, none⟩), .slice a1 n1 c1, .slice ga n1 ca, .pointer (some ⟨kx, 1, none⟩), .slice a2 n2 c2, .slice gb n2 cb, .agg #[.slice ga n1 ca, .slice gb n2 cb], undef, undef, undef, undef, undef, undef, undef, undef, undef, undef, undef, undef, undef, undef, undef, undef, undef, undef], []⟩ w') (w : World) (hS : Below W.heap.size W w) : wpAnyH Tryz.prog .any RCl Q (SCl W) 5 #[true, true, false, true, true, false, false, false, false] ⟨#[.agg #[.slice a1 n1 c1, .slice a2 n2 c2], .pointer (some ⟨kx, 0, none⟩), .pointer (some ⟨kr, 0, none⟩), undef, undef, undef, .pointer (some ⟨kx, 0, none⟩), .slice a1 n1 c1, undef, .pointer (some ⟨kx, 1, none⟩), .slice a2 n2 c2, undef, undef, undef, undef, undef, undef, undef, undef, undef, undef, undef, undef, undef, undef, undef, undef, undef, undef, undef, undef], []⟩ w := by
  refine wpAnyH_ready (rs := [2, 7]) (by kernel_rfl) (by simp) ?_
  refine AllReadyH.cons (o := { dst := some 8, op := Op.call { callee := Callee.value (Operand.func 34), args := #[Operand.tmp 7], argTypes := #[22] }, type := 22, pos := "prog.go:52", after := #[{ on := 1, ground := Ground.data }], guard := none }) rfl (fun K hK => ?_) ?_
  · go_simp
    refine (HD.out _ hS).mono ?_
    rintro e w1 ⟨v, rfl, o1, hb1⟩
    obtain ⟨ga, ca, rfl⟩ := L8.owns_slice o1
    refine hK.out _ _ (hS.trans (hb1.mono hS.size)) (fun hS1 => ?_)
    clear hK K
    (try simp only [List.setIfInBounds_toArray, List.set_cons_zero, List.set_cons_succ])
    exact cl_b HM hB hQ w1 hS1 ga ca (own_lo o1 (Nat.le_trans hB hS.size))
  refine AllReadyH.cons (o := { dst := some 3, op := Op.alloc 25, type := 0, pos := "prog.go:52", after := #[], guard := none }) rfl (fun K hK => ?_) ?_
  · go_simp
    refine hK.out _ _ (hS.alloc hS.size _) (fun hS1 => ?_)
    clear hK K
    (try simp only [List.setIfInBounds_toArray, List.set_cons_zero, List.set_cons_succ])
    exact cl_a HD HM hB hQ _ hS1 w.heap.size (heap_alloc_last w _) hS.size
  exact AllReadyH.nil
end
end Go.Proofs.YtakblmonbeflmaaGreatDoor.L10
