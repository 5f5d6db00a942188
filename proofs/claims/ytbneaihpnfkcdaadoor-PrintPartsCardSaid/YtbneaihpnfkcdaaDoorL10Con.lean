/- What the program's 'conditions' returns: a list of nine searches, over the program and two empty sets of names in memory. No condition. -/
import Derived.Test.YtbneaihpnfkcdaaDoorL10Cn
import Derived.Deep.RegionHeld3
namespace Go.Proofs.YtbneaihpnfkcdaaDoor.L10
open Go.RowKit Go.Maps
attribute [local go_sem] Oper.semAt_some

theorem eachD_mk (a : Option Addr) (n cap F : Nat) (caps : Array Value) (w : World) : Calls Tryd.prog 50 #[.slice a n cap, .func (.func F) #[] caps] w fun e w' =>
    ∃ kb kf, e = .returned (.func (.func 74) #[] #[.pointer (some ⟨kb, 0, none⟩), .pointer (some ⟨kf, 0, none⟩)]) ∧ Below w.heap.size w w' ∧ w'.heap[kb]? = some (.cells #[.slice a n cap] 37) ∧ w'.heap[kf]? = some (.cells #[.func (.func F) #[] caps] 92) := by
  have hmf : ∀ (fn : Fn) (first cap : Array Value) (w : World), (Instr.makeFunc fn first cap).run Tryd.prog w = .ok (.func fn first cap) w := fun _ _ _ _ => rfl
  go_enter Tryd.func50, Tryd.ntmps50
  go_wp2
  go_ret
  exact ⟨_, _, rfl, L2.bch (L8.bnew _ _) (L8.bnew _ _), L8.row_up (heap_alloc_last w _) (L8.bnew _ _), by have := heap_alloc_last (w.alloc (.cells #[.slice a n cap] 37)) (.cells #[.func (.func F) #[] caps] 92); simpa using this⟩
theorem eachS_mk (a : Option Addr) (n cap F : Nat) (caps : Array Value) (w : World) : Calls Tryd.prog 53 #[.slice a n cap, .func (.func F) #[] caps] w fun e w' =>
    ∃ kb kf, e = .returned (.func (.func 77) #[] #[.pointer (some ⟨kb, 0, none⟩), .pointer (some ⟨kf, 0, none⟩)]) ∧ Below w.heap.size w w' ∧ w'.heap[kb]? = some (.cells #[.slice a n cap] 36) ∧ w'.heap[kf]? = some (.cells #[.func (.func F) #[] caps] 95) := by
  have hmf : ∀ (fn : Fn) (first cap : Array Value) (w : World), (Instr.makeFunc fn first cap).run Tryd.prog w = .ok (.func fn first cap) w := fun _ _ _ _ => rfl
  go_enter Tryd.func53, Tryd.ntmps53
  go_wp2
  go_ret
  exact ⟨_, _, rfl, L2.bch (L8.bnew _ _) (L8.bnew _ _), L8.row_up (heap_alloc_last w _) (L8.bnew _ _), by have := heap_alloc_last (w.alloc (.cells #[.slice a n cap] 36)) (.cells #[.func (.func F) #[] caps] 95); simpa using this⟩
/-- Boxes of one cell. -/
def Acc (W : World) (l : List (Nat × Value × TypeId)) : Prop := ∀ x ∈ l, W.heap[x.1]? = some (.cells #[x.2.1] x.2.2)
theorem acc_nil (W : World) : Acc W [] := fun x hx => by cases hx
theorem Acc.below {W W' : World} {l : List (Nat × Value × TypeId)} (h : Acc W l) (hb : Below W.heap.size W W') : Acc W' l := fun x hx => L8.row_up (h x hx) hb
theorem acc_add {W W' : World} {l : List (Nat × Value × TypeId)} {b f : Nat} {u v : Value} {s t : TypeId} (h : Acc W l) (hb : Below W.heap.size W W') (h1 : W'.heap[b]? = some (.cells #[u] s)) (h2 : W'.heap[f]? = some (.cells #[v] t)) : Acc W' (l ++ [(b, u, s), (f, v, t)]) := fun x hx => by
  rcases List.mem_append.1 hx with hx | hx
  · exact h.below hb x hx
  · simp only [List.mem_cons, List.not_mem_nil, or_false] at hx
    rcases hx with rfl | rfl
    · exact h1
    · exact h2
theorem cells2 {w : World} {k : Nat} {a b : Value} {t : TypeId} (h : w.heap[k]? = some (.cells #[a, b] t)) : w.cell? ⟨k, 0, none⟩ = some a ∧ w.cell? ⟨k, 1, none⟩ = some b := by
  simp [World.cell?, h]
theorem made_set (w : World) : SetAt (w.alloc (.map #[] 0)) w.heap.size [] := World.ownsMap_made _ _ _ _
theorem acc_at {W : World} {l : List (Nat × Value × TypeId)} (h : Acc W l) (i : Nat) {b : Nat} {v : Value} {t : TypeId} (hx : l[i]? = some (b, v, t)) : W.heap[b]? = some (.cells #[v] t) := h _ (List.mem_of_getElem? hx)
/-- A search in memory: its list and its check. -/
def ClD (W : World) (v vm : Value) (F : Nat) (caps : Array Value) : Prop := ∃ kb kf, v = .func (.func 74) #[] #[.pointer (some ⟨kb, 0, none⟩), .pointer (some ⟨kf, 0, none⟩)] ∧ W.heap[kb]? = some (.cells #[vm] 37) ∧ W.heap[kf]? = some (.cells #[.func (.func F) #[] caps] 92)
def ClS (W : World) (v vs : Value) (F : Nat) (caps : Array Value) : Prop := ∃ kb kf, v = .func (.func 77) #[] #[.pointer (some ⟨kb, 0, none⟩), .pointer (some ⟨kf, 0, none⟩)] ∧ W.heap[kb]? = some (.cells #[vs] 36) ∧ W.heap[kf]? = some (.cells #[.func (.func F) #[] caps] 95)
/-- The nine searches in memory, over a program and two sets. -/
structure CnS (W : World) (vm vs : Value) (g k1 k3 k4 g3 g4 : Nat) (v1 v2 v3 v4 v5 v7 v8 v9 : Value) : Prop where
  list : W.heap[g]? = some (.cells #[.bool true, v1, .bool false, v2, .bool true, v3, .bool true, v4, .bool false, v5, .bool false, .func (.func 61) #[] #[.pointer (some ⟨k1, 0, none⟩)], .bool false, v7, .bool false, v8, .bool false, v9] 76)
  prg : W.heap[k1]? = some (.cells #[vm, vs] 39)
  box3 : W.heap[k3]? = some (.cells #[.map (some g3)] 89)
  box4 : W.heap[k4]? = some (.cells #[.map (some g4)] 89)
  set3 : SetAt W g3 []
  set4 : SetAt W g4 []
  ne : g3 ≠ g4
  c1 : ClD W v1 vm 51 #[]
  c2 : ClS W v2 vs 54 #[]
  c3 : ClD W v3 vm 56 #[]
  c4 : ClD W v4 vm 58 #[.pointer (some ⟨k3, 0, none⟩)]
  c5 : ClS W v5 vs 60 #[.pointer (some ⟨k4, 0, none⟩)]
  c7 : ClS W v7 vs 62 #[.pointer (some ⟨k4, 0, none⟩), .pointer (some ⟨k3, 0, none⟩)]
  c8 : ClS W v8 vs 63 #[]
  c9 : ClS W v9 vs 65 #[.pointer (some ⟨k1, 0, none⟩)]
theorem five (w : World) (vm vs : Value) : ∃ (W0 : World) (k1 g3 g4 k3 k4 : Nat), W0 = (((((w.alloc (.cells #[vm, vs] 39)).alloc (.map #[] 0)).alloc (.map #[] 0)).alloc (.cells #[.map (some (w.heap.size + 1))] 89)).alloc (.cells #[.map (some (w.heap.size + 1 + 1))] 89)) ∧ k1 = w.heap.size ∧ g3 = w.heap.size + 1 ∧ g4 = w.heap.size + 1 + 1 ∧ k3 = w.heap.size + 1 + 1 + 1 ∧ k4 = w.heap.size + 1 + 1 + 1 + 1 ∧
    Below w.heap.size w W0 ∧ W0.heap[k1]? = some (.cells #[vm, vs] 39) ∧ W0.heap[k3]? = some (.cells #[.map (some g3)] 89) ∧ W0.heap[k4]? = some (.cells #[.map (some g4)] 89) ∧ SetAt W0 g3 [] ∧ SetAt W0 g4 [] ∧ g3 ≠ g4 ∧ w.heap.size ≤ g3 ∧ w.heap.size ≤ g4 := by
  refine ⟨_, _, _, _, _, _, rfl, rfl, rfl, rfl, rfl, rfl, L2.bch (L2.bch (L2.bch (L2.bch (L8.bnew w _) (L8.bnew _ _)) (L8.bnew _ _)) (L8.bnew _ _)) (L8.bnew _ _), ?_, ?_, ?_, ?_, ?_, by omega, by omega, by omega⟩
  · exact L8.row_up (L8.row_up (L8.row_up (L8.row_up (heap_alloc_last w _) (L8.bnew _ _)) (L8.bnew _ _)) (L8.bnew _ _)) (L8.bnew _ _)
  · have := heap_alloc_last (((w.alloc (.cells #[vm, vs] 39)).alloc (.map #[] 0)).alloc (.map #[] 0)) (.cells #[.map (some (w.heap.size + 1))] 89)
    have h := L8.row_up this (L8.bnew _ (.cells #[.map (some (w.heap.size + 1 + 1))] 89))
    simpa using h
  · have := heap_alloc_last ((((w.alloc (.cells #[vm, vs] 39)).alloc (.map #[] 0)).alloc (.map #[] 0)).alloc (.cells #[.map (some (w.heap.size + 1))] 89)) (.cells #[.map (some (w.heap.size + 1 + 1))] 89)
    simpa using this
  · have h := made_set (w.alloc (.cells #[vm, vs] 39))
    have := set_below (set_below (set_below h (L8.bnew _ (.map #[] 0))) (L8.bnew _ (.cells #[.map (some (w.heap.size + 1))] 89))) (L8.bnew _ (.cells #[.map (some (w.heap.size + 1 + 1))] 89))
    rwa [show (w.alloc (.cells #[vm, vs] 39)).heap.size = w.heap.size + 1 by simp] at this
  · have h := made_set ((w.alloc (.cells #[vm, vs] 39)).alloc (.map #[] 0))
    have := set_below (set_below h (L8.bnew _ (.cells #[.map (some (w.heap.size + 1))] 89))) (L8.bnew _ (.cells #[.map (some (w.heap.size + 1 + 1))] 89))
    rwa [show ((w.alloc (.cells #[vm, vs] 39)).alloc (.map #[] 0)).heap.size = w.heap.size + 1 + 1 by simp] at this
theorem keepP {W0 W W' : World} {k1 : Nat} {a b : Value} (hb : Below W.heap.size W W') (h : Below W0.heap.size W0 W ∧ W0.heap[k1]? = some (.cells #[a, b] 39)) : Below W0.heap.size W0 W' ∧ W'.cell? ⟨k1, 0, none⟩ = some a ∧ W'.cell? ⟨k1, 1, none⟩ = some b :=
  ⟨L2.bch h.1 hb, cells2 (L8.row_up h.2 (L2.bch h.1 hb))⟩
set_option maxHeartbeats 4000000 in
set_option maxRecDepth 100000 in
theorem conds_at (am at2 : Option Addr) (nm cm ns cs : Nat) (w : World) :
    Calls Tryd.prog 32 #[.agg #[.slice am nm cm, .slice at2 ns cs]] w fun e w' => ∃ g k1 k3 k4 g3 g4 v1 v2 v3 v4 v5 v7 v8 v9, e = .returned (.slice (some ⟨g, 0, none⟩) 9 9) ∧ Below w.heap.size w w' ∧ CnS w' (.slice am nm cm) (.slice at2 ns cs) g k1 k3 k4 g3 g4 v1 v2 v3 v4 v5 v7 v8 v9 ∧ w.heap.size ≤ g3 ∧ w.heap.size ≤ g4 := by
  have hmf : ∀ (fn : Fn) (first cap : Array Value) (w : World), (Instr.makeFunc fn first cap).run Tryd.prog w = .ok (.func fn first cap) w := fun _ _ _ _ => rfl
  have hmm := @run_makeMap Tryd.prog
  go_enter Tryd.func32, Tryd.ntmps32
  go_upto_region 2 with (fail)
  clear hmm
  obtain ⟨W0, k1, g3, g4, k3, k4, hW, e1, e3, e4, f3, f4, hB0, r1, r3, r4, s3, s4, hne, lo3, lo4⟩ := five w (.slice am nm cm) (.slice at2 ns cs)
  rw [← hW]
  rw [← f4, ← f3, ← e4, ← e3, ← e1]
  have HB := Lib.hid hB0
  have HL := Lib.hid (And.intro lo3 lo4)
  clear hW e1 e3 e4 f3 f4 hB0 lo3 lo4
  obtain ⟨p0, p1⟩ := cells2 r1
  have R := Lib.hid (And.intro r1 (And.intro r3 (And.intro r4 (And.intro s3 (And.intro s4 hne)))))
  clear r1 r3 r4 s3 s4 hne
  refine wp_region_noPanic ?_
  refine wp_region_held_drew (S := fun W => Below W0.heap.size W0 W ∧ W.cell? ⟨k1, 0, none⟩ = some (.slice am nm cm) ∧ W.cell? ⟨k1, 1, none⟩ = some (.slice at2 ns cs)) (by kernel_rfl) (keepP (Below.refl _ _).drew ⟨Below.refl _ _, R.out.1⟩) (fun hH => ?_)
  refine wpAnyH_take (i := 0) (oi := { dst := some 7, op := Op.fieldAddr 39 (Operand.tmp 1) 0, type := 0, pos := "check.go:57", after := #[], guard := none }) (v := .pointer (some ⟨k1, 0, none⟩)) rfl (by kernel_rfl) (by kernel_rfl) (by kernel_rfl) (fun _ _ _ h => h) (Or.inl ⟨by rfl, fun wS hS => (by have d0 := hS.2.1; have d1 := hS.2.2; go_simp)⟩) hH ?_
  simp only [Act.put, List.setIfInBounds_toArray, List.set_cons_zero, List.set_cons_succ]
  refine wpAnyH_take (i := 1) (oi := { dst := some 8, op := Op.load 37 (Operand.tmp 7), type := 37, pos := "check.go:57", after := #[{ on := 0, ground := Ground.data }], guard := none }) (v := .slice am nm cm) rfl (by kernel_rfl) (by kernel_rfl) (by kernel_rfl) (fun _ _ _ h => h) (Or.inl ⟨by rfl, fun wS hS => (by have d0 := hS.2.1; have d1 := hS.2.2; go_simp)⟩) hH ?_
  simp only [Act.put, List.setIfInBounds_toArray, List.set_cons_zero, List.set_cons_succ]
  refine wpAnyH_take (i := 4) (oi := { dst := some 11, op := Op.fieldAddr 39 (Operand.tmp 1) 1, type := 0, pos := "check.go:57", after := #[], guard := none }) (v := .pointer (some ⟨k1, 1, none⟩)) rfl (by kernel_rfl) (by kernel_rfl) (by kernel_rfl) (fun _ _ _ h => h) (Or.inl ⟨by rfl, fun wS hS => (by have d0 := hS.2.1; have d1 := hS.2.2; go_simp)⟩) hH ?_
  simp only [Act.put, List.setIfInBounds_toArray, List.set_cons_zero, List.set_cons_succ]
  refine wpAnyH_take (i := 5) (oi := { dst := some 12, op := Op.load 36 (Operand.tmp 11), type := 36, pos := "check.go:57", after := #[{ on := 4, ground := Ground.data }], guard := none }) (v := .slice at2 ns cs) rfl (by kernel_rfl) (by kernel_rfl) (by kernel_rfl) (fun _ _ _ h => h) (Or.inl ⟨by rfl, fun wS hS => (by have d0 := hS.2.1; have d1 := hS.2.2; go_simp)⟩) hH ?_
  simp only [Act.put, List.setIfInBounds_toArray, List.set_cons_zero, List.set_cons_succ]
  refine wpAnyH_take (i := 8) (oi := { dst := some 15, op := Op.fieldAddr 39 (Operand.tmp 1) 0, type := 0, pos := "check.go:57", after := #[], guard := none }) (v := .pointer (some ⟨k1, 0, none⟩)) rfl (by kernel_rfl) (by kernel_rfl) (by kernel_rfl) (fun _ _ _ h => h) (Or.inl ⟨by rfl, fun wS hS => (by have d0 := hS.2.1; have d1 := hS.2.2; go_simp)⟩) hH ?_
  simp only [Act.put, List.setIfInBounds_toArray, List.set_cons_zero, List.set_cons_succ]
  refine wpAnyH_take (i := 9) (oi := { dst := some 16, op := Op.load 37 (Operand.tmp 15), type := 37, pos := "check.go:57", after := #[{ on := 8, ground := Ground.data }], guard := none }) (v := .slice am nm cm) rfl (by kernel_rfl) (by kernel_rfl) (by kernel_rfl) (fun _ _ _ h => h) (Or.inl ⟨by rfl, fun wS hS => (by have d0 := hS.2.1; have d1 := hS.2.2; go_simp)⟩) hH ?_
  simp only [Act.put, List.setIfInBounds_toArray, List.set_cons_zero, List.set_cons_succ]
  refine wpAnyH_take (i := 12) (oi := { dst := some 19, op := Op.fieldAddr 39 (Operand.tmp 1) 0, type := 0, pos := "check.go:57", after := #[], guard := none }) (v := .pointer (some ⟨k1, 0, none⟩)) rfl (by kernel_rfl) (by kernel_rfl) (by kernel_rfl) (fun _ _ _ h => h) (Or.inl ⟨by rfl, fun wS hS => (by have d0 := hS.2.1; have d1 := hS.2.2; go_simp)⟩) hH ?_
  simp only [Act.put, List.setIfInBounds_toArray, List.set_cons_zero, List.set_cons_succ]
  refine wpAnyH_take (i := 13) (oi := { dst := some 20, op := Op.load 37 (Operand.tmp 19), type := 37, pos := "check.go:57", after := #[{ on := 12, ground := Ground.data }], guard := none }) (v := .slice am nm cm) rfl (by kernel_rfl) (by kernel_rfl) (by kernel_rfl) (fun _ _ _ h => h) (Or.inl ⟨by rfl, fun wS hS => (by have d0 := hS.2.1; have d1 := hS.2.2; go_simp)⟩) hH ?_
  simp only [Act.put, List.setIfInBounds_toArray, List.set_cons_zero, List.set_cons_succ]
  refine wpAnyH_take (i := 17) (oi := { dst := some 24, op := Op.fieldAddr 39 (Operand.tmp 1) 1, type := 0, pos := "check.go:57", after := #[], guard := none }) (v := .pointer (some ⟨k1, 1, none⟩)) rfl (by kernel_rfl) (by kernel_rfl) (by kernel_rfl) (fun _ _ _ h => h) (Or.inl ⟨by rfl, fun wS hS => (by have d0 := hS.2.1; have d1 := hS.2.2; go_simp)⟩) hH ?_
  simp only [Act.put, List.setIfInBounds_toArray, List.set_cons_zero, List.set_cons_succ]
  refine wpAnyH_take (i := 18) (oi := { dst := some 25, op := Op.load 36 (Operand.tmp 24), type := 36, pos := "check.go:57", after := #[{ on := 17, ground := Ground.data }], guard := none }) (v := .slice at2 ns cs) rfl (by kernel_rfl) (by kernel_rfl) (by kernel_rfl) (fun _ _ _ h => h) (Or.inl ⟨by rfl, fun wS hS => (by have d0 := hS.2.1; have d1 := hS.2.2; go_simp)⟩) hH ?_
  simp only [Act.put, List.setIfInBounds_toArray, List.set_cons_zero, List.set_cons_succ]
  refine wpAnyH_take (i := 24) (oi := { dst := some 31, op := Op.fieldAddr 39 (Operand.tmp 1) 1, type := 0, pos := "check.go:57", after := #[], guard := none }) (v := .pointer (some ⟨k1, 1, none⟩)) rfl (by kernel_rfl) (by kernel_rfl) (by kernel_rfl) (fun _ _ _ h => h) (Or.inl ⟨by rfl, fun wS hS => (by have d0 := hS.2.1; have d1 := hS.2.2; go_simp)⟩) hH ?_
  simp only [Act.put, List.setIfInBounds_toArray, List.set_cons_zero, List.set_cons_succ]
  refine wpAnyH_take (i := 25) (oi := { dst := some 32, op := Op.load 36 (Operand.tmp 31), type := 36, pos := "check.go:57", after := #[{ on := 24, ground := Ground.data }], guard := none }) (v := .slice at2 ns cs) rfl (by kernel_rfl) (by kernel_rfl) (by kernel_rfl) (fun _ _ _ h => h) (Or.inl ⟨by rfl, fun wS hS => (by have d0 := hS.2.1; have d1 := hS.2.2; go_simp)⟩) hH ?_
  simp only [Act.put, List.setIfInBounds_toArray, List.set_cons_zero, List.set_cons_succ]
  refine wpAnyH_take (i := 29) (oi := { dst := some 36, op := Op.fieldAddr 39 (Operand.tmp 1) 1, type := 0, pos := "check.go:57", after := #[], guard := none }) (v := .pointer (some ⟨k1, 1, none⟩)) rfl (by kernel_rfl) (by kernel_rfl) (by kernel_rfl) (fun _ _ _ h => h) (Or.inl ⟨by rfl, fun wS hS => (by have d0 := hS.2.1; have d1 := hS.2.2; go_simp)⟩) hH ?_
  simp only [Act.put, List.setIfInBounds_toArray, List.set_cons_zero, List.set_cons_succ]
  refine wpAnyH_take (i := 30) (oi := { dst := some 37, op := Op.load 36 (Operand.tmp 36), type := 36, pos := "check.go:57", after := #[{ on := 29, ground := Ground.data }], guard := none }) (v := .slice at2 ns cs) rfl (by kernel_rfl) (by kernel_rfl) (by kernel_rfl) (fun _ _ _ h => h) (Or.inl ⟨by rfl, fun wS hS => (by have d0 := hS.2.1; have d1 := hS.2.2; go_simp)⟩) hH ?_
  simp only [Act.put, List.setIfInBounds_toArray, List.set_cons_zero, List.set_cons_succ]
  refine wpAnyH_take (i := 33) (oi := { dst := some 40, op := Op.fieldAddr 39 (Operand.tmp 1) 1, type := 0, pos := "check.go:57", after := #[], guard := none }) (v := .pointer (some ⟨k1, 1, none⟩)) rfl (by kernel_rfl) (by kernel_rfl) (by kernel_rfl) (fun _ _ _ h => h) (Or.inl ⟨by rfl, fun wS hS => (by have d0 := hS.2.1; have d1 := hS.2.2; go_simp)⟩) hH ?_
  simp only [Act.put, List.setIfInBounds_toArray, List.set_cons_zero, List.set_cons_succ]
  refine wpAnyH_take (i := 34) (oi := { dst := some 41, op := Op.load 36 (Operand.tmp 40), type := 36, pos := "check.go:57", after := #[{ on := 33, ground := Ground.data }], guard := none }) (v := .slice at2 ns cs) rfl (by kernel_rfl) (by kernel_rfl) (by kernel_rfl) (fun _ _ _ h => h) (Or.inl ⟨by rfl, fun wS hS => (by have d0 := hS.2.1; have d1 := hS.2.2; go_simp)⟩) hH ?_
  simp only [Act.put, List.setIfInBounds_toArray, List.set_cons_zero, List.set_cons_succ]
  refine wpAnyH_take (i := 14) (oi := { dst := some 21, op := Op.makeFunc (Fn.func 58) #[] #[Operand.tmp 3], type := 92, pos := "check.go:57", after := #[], guard := none }) (v := .func (.func 58) #[] #[.pointer (some ⟨k3, 0, none⟩)]) rfl (by kernel_rfl) (by kernel_rfl) (by kernel_rfl) (fun _ _ _ h => h) (Or.inl ⟨by rfl, fun wS hS => (by have d0 := hS.2.1; have d1 := hS.2.2; go_simp)⟩) hH ?_
  simp only [Act.put, List.setIfInBounds_toArray, List.set_cons_zero, List.set_cons_succ]
  refine wpAnyH_take (i := 19) (oi := { dst := some 26, op := Op.makeFunc (Fn.func 60) #[] #[Operand.tmp 4], type := 95, pos := "check.go:57", after := #[], guard := none }) (v := .func (.func 60) #[] #[.pointer (some ⟨k4, 0, none⟩)]) rfl (by kernel_rfl) (by kernel_rfl) (by kernel_rfl) (fun _ _ _ h => h) (Or.inl ⟨by rfl, fun wS hS => (by have d0 := hS.2.1; have d1 := hS.2.2; go_simp)⟩) hH ?_
  simp only [Act.put, List.setIfInBounds_toArray, List.set_cons_zero, List.set_cons_succ]
  refine wpAnyH_take (i := 22) (oi := { dst := some 29, op := Op.makeFunc (Fn.func 61) #[] #[Operand.tmp 1], type := 74, pos := "check.go:57", after := #[], guard := none }) (v := .func (.func 61) #[] #[.pointer (some ⟨k1, 0, none⟩)]) rfl (by kernel_rfl) (by kernel_rfl) (by kernel_rfl) (fun _ _ _ h => h) (Or.inl ⟨by rfl, fun wS hS => (by have d0 := hS.2.1; have d1 := hS.2.2; go_simp)⟩) hH ?_
  simp only [Act.put, List.setIfInBounds_toArray, List.set_cons_zero, List.set_cons_succ]
  refine wpAnyH_take (i := 26) (oi := { dst := some 33, op := Op.makeFunc (Fn.func 62) #[] #[Operand.tmp 4, Operand.tmp 3], type := 95, pos := "check.go:57", after := #[], guard := none }) (v := .func (.func 62) #[] #[.pointer (some ⟨k4, 0, none⟩), .pointer (some ⟨k3, 0, none⟩)]) rfl (by kernel_rfl) (by kernel_rfl) (by kernel_rfl) (fun _ _ _ h => h) (Or.inl ⟨by rfl, fun wS hS => (by have d0 := hS.2.1; have d1 := hS.2.2; go_simp)⟩) hH ?_
  simp only [Act.put, List.setIfInBounds_toArray, List.set_cons_zero, List.set_cons_succ]
  refine wpAnyH_take (i := 35) (oi := { dst := some 42, op := Op.makeFunc (Fn.func 65) #[] #[Operand.tmp 1], type := 95, pos := "check.go:57", after := #[], guard := none }) (v := .func (.func 65) #[] #[.pointer (some ⟨k1, 0, none⟩)]) rfl (by kernel_rfl) (by kernel_rfl) (by kernel_rfl) (fun _ _ _ h => h) (Or.inl ⟨by rfl, fun wS hS => (by have d0 := hS.2.1; have d1 := hS.2.2; go_simp)⟩) hH ?_
  simp only [Act.put, List.setIfInBounds_toArray, List.set_cons_zero, List.set_cons_succ]
  refine wpAnyH_take (i := 23) (oi := { dst := some 30, op := Op.build 76 #[(0, Operand.const (Value.bool false)), (1, Operand.tmp 29)], type := 76, pos := "check.go:57", after := #[{ on := 22, ground := Ground.data }], guard := none }) (v := .agg #[.bool false, .func (.func 61) #[] #[.pointer (some ⟨k1, 0, none⟩)]]) rfl (by kernel_rfl) (by kernel_rfl) (by kernel_rfl) (fun _ _ _ h => h) (Or.inl ⟨by rfl, fun wS hS => (by have d0 := hS.2.1; have d1 := hS.2.2; go_simp)⟩) hH ?_
  simp only [Act.put, List.setIfInBounds_toArray, List.set_cons_zero, List.set_cons_succ]
  refine wpAnyH_ready (rs := [2]) (by kernel_rfl) (by simp) ?_
  refine AllReadyH.cons (o := { dst := some 9, op := Op.call { callee := Callee.value (Operand.func 50), args := #[Operand.tmp 8, Operand.func 51], argTypes := #[37, 92] }, type := 74, pos := "check.go:58", after := #[{ on := 1, ground := Ground.data }], guard := none }) rfl (fun K hK => ?_) AllReadyH.nil
  go_simp
  refine (eachD_mk am nm cm 51 #[] _).mono ?_
  rintro e w9 ⟨b1, f1, rfl, hb9, q1, q2⟩
  refine hK.out _ _ (keepP hb9 ⟨hH.1, R.out.1⟩) (fun hH2 => ?_)
  clear hK K
  have A2 := acc_add (acc_nil _) hb9 q1 q2
  clear q1 q2 hb9 hH
  have hH := hH2
  have A := A2
  clear hH2 A2
  (try simp only [Act.put, List.setIfInBounds_toArray, List.set_cons_zero, List.set_cons_succ])
  refine wpAnyH_take (i := 3) (oi := { dst := some 10, op := Op.build 76 #[(0, Operand.const (Value.bool true)), (1, Operand.tmp 9)], type := 76, pos := "check.go:57", after := #[{ on := 2, ground := Ground.data }], guard := none }) (v := .agg #[.bool true, .func (.func 74) #[] #[.pointer (some ⟨b1, 0, none⟩), .pointer (some ⟨f1, 0, none⟩)]]) rfl (by kernel_rfl) (by kernel_rfl) (by kernel_rfl) (fun _ _ _ h => h) (Or.inl ⟨by rfl, fun wS hS => (by have d0 := hS.2.1; have d1 := hS.2.2; go_simp)⟩) hH ?_
  simp only [Act.put, List.setIfInBounds_toArray, List.set_cons_zero, List.set_cons_succ]
  refine wpAnyH_ready (rs := [6]) (by kernel_rfl) (by simp) ?_
  refine AllReadyH.cons (o := { dst := some 13, op := Op.call { callee := Callee.value (Operand.func 53), args := #[Operand.tmp 12, Operand.func 54], argTypes := #[36, 95] }, type := 74, pos := "check.go:59", after := #[{ on := 5, ground := Ground.data }, { on := 2, ground := Ground.chain }], guard := none }) rfl (fun K hK => ?_) AllReadyH.nil
  go_simp
  refine (eachS_mk at2 ns cs 54 #[] _).mono ?_
  rintro e w9 ⟨b2, f2, rfl, hb9, q1, q2⟩
  refine hK.out _ _ (keepP hb9 ⟨hH.1, R.out.1⟩) (fun hH2 => ?_)
  clear hK K
  have A2 := acc_add (A) hb9 q1 q2
  clear q1 q2 hb9 hH A
  have hH := hH2
  have A := A2
  clear hH2 A2
  (try simp only [Act.put, List.setIfInBounds_toArray, List.set_cons_zero, List.set_cons_succ])
  refine wpAnyH_take (i := 7) (oi := { dst := some 14, op := Op.build 76 #[(0, Operand.const (Value.bool false)), (1, Operand.tmp 13)], type := 76, pos := "check.go:57", after := #[{ on := 6, ground := Ground.data }], guard := none }) (v := .agg #[.bool false, .func (.func 77) #[] #[.pointer (some ⟨b2, 0, none⟩), .pointer (some ⟨f2, 0, none⟩)]]) rfl (by kernel_rfl) (by kernel_rfl) (by kernel_rfl) (fun _ _ _ h => h) (Or.inl ⟨by rfl, fun wS hS => (by have d0 := hS.2.1; have d1 := hS.2.2; go_simp)⟩) hH ?_
  simp only [Act.put, List.setIfInBounds_toArray, List.set_cons_zero, List.set_cons_succ]
  refine wpAnyH_ready (rs := [10]) (by kernel_rfl) (by simp) ?_
  refine AllReadyH.cons (o := { dst := some 17, op := Op.call { callee := Callee.value (Operand.func 50), args := #[Operand.tmp 16, Operand.func 56], argTypes := #[37, 92] }, type := 74, pos := "check.go:60", after := #[{ on := 9, ground := Ground.data }, { on := 6, ground := Ground.chain }], guard := none }) rfl (fun K hK => ?_) AllReadyH.nil
  go_simp
  refine (eachD_mk am nm cm 56 #[] _).mono ?_
  rintro e w9 ⟨b3, f3, rfl, hb9, q1, q2⟩
  refine hK.out _ _ (keepP hb9 ⟨hH.1, R.out.1⟩) (fun hH2 => ?_)
  clear hK K
  have A2 := acc_add (A) hb9 q1 q2
  clear q1 q2 hb9 hH A
  have hH := hH2
  have A := A2
  clear hH2 A2
  (try simp only [Act.put, List.setIfInBounds_toArray, List.set_cons_zero, List.set_cons_succ])
  refine wpAnyH_take (i := 11) (oi := { dst := some 18, op := Op.build 76 #[(0, Operand.const (Value.bool true)), (1, Operand.tmp 17)], type := 76, pos := "check.go:57", after := #[{ on := 10, ground := Ground.data }], guard := none }) (v := .agg #[.bool true, .func (.func 74) #[] #[.pointer (some ⟨b3, 0, none⟩), .pointer (some ⟨f3, 0, none⟩)]]) rfl (by kernel_rfl) (by kernel_rfl) (by kernel_rfl) (fun _ _ _ h => h) (Or.inl ⟨by rfl, fun wS hS => (by have d0 := hS.2.1; have d1 := hS.2.2; go_simp)⟩) hH ?_
  simp only [Act.put, List.setIfInBounds_toArray, List.set_cons_zero, List.set_cons_succ]
  refine wpAnyH_ready (rs := [15]) (by kernel_rfl) (by simp) ?_
  refine AllReadyH.cons (o := { dst := some 22, op := Op.call { callee := Callee.value (Operand.func 50), args := #[Operand.tmp 20, Operand.tmp 21], argTypes := #[37, 92] }, type := 74, pos := "check.go:61", after := #[{ on := 13, ground := Ground.data }, { on := 14, ground := Ground.data }, { on := 10, ground := Ground.chain }], guard := none }) rfl (fun K hK => ?_) AllReadyH.nil
  go_simp
  refine (eachD_mk am nm cm 58 #[.pointer (some ⟨k3, 0, none⟩)] _).mono ?_
  rintro e w9 ⟨b4, f4, rfl, hb9, q1, q2⟩
  refine hK.out _ _ (keepP hb9 ⟨hH.1, R.out.1⟩) (fun hH2 => ?_)
  clear hK K
  have A2 := acc_add (A) hb9 q1 q2
  clear q1 q2 hb9 hH A
  have hH := hH2
  have A := A2
  clear hH2 A2
  (try simp only [Act.put, List.setIfInBounds_toArray, List.set_cons_zero, List.set_cons_succ])
  refine wpAnyH_take (i := 16) (oi := { dst := some 23, op := Op.build 76 #[(0, Operand.const (Value.bool true)), (1, Operand.tmp 22)], type := 76, pos := "check.go:57", after := #[{ on := 15, ground := Ground.data }], guard := none }) (v := .agg #[.bool true, .func (.func 74) #[] #[.pointer (some ⟨b4, 0, none⟩), .pointer (some ⟨f4, 0, none⟩)]]) rfl (by kernel_rfl) (by kernel_rfl) (by kernel_rfl) (fun _ _ _ h => h) (Or.inl ⟨by rfl, fun wS hS => (by have d0 := hS.2.1; have d1 := hS.2.2; go_simp)⟩) hH ?_
  simp only [Act.put, List.setIfInBounds_toArray, List.set_cons_zero, List.set_cons_succ]
  refine wpAnyH_ready (rs := [20]) (by kernel_rfl) (by simp) ?_
  refine AllReadyH.cons (o := { dst := some 27, op := Op.call { callee := Callee.value (Operand.func 53), args := #[Operand.tmp 25, Operand.tmp 26], argTypes := #[36, 95] }, type := 74, pos := "check.go:62", after := #[{ on := 18, ground := Ground.data }, { on := 19, ground := Ground.data }, { on := 15, ground := Ground.chain }], guard := none }) rfl (fun K hK => ?_) AllReadyH.nil
  go_simp
  refine (eachS_mk at2 ns cs 60 #[.pointer (some ⟨k4, 0, none⟩)] _).mono ?_
  rintro e w9 ⟨b5, f5, rfl, hb9, q1, q2⟩
  refine hK.out _ _ (keepP hb9 ⟨hH.1, R.out.1⟩) (fun hH2 => ?_)
  clear hK K
  have A2 := acc_add (A) hb9 q1 q2
  clear q1 q2 hb9 hH A
  have hH := hH2
  have A := A2
  clear hH2 A2
  (try simp only [Act.put, List.setIfInBounds_toArray, List.set_cons_zero, List.set_cons_succ])
  refine wpAnyH_take (i := 21) (oi := { dst := some 28, op := Op.build 76 #[(0, Operand.const (Value.bool false)), (1, Operand.tmp 27)], type := 76, pos := "check.go:57", after := #[{ on := 20, ground := Ground.data }], guard := none }) (v := .agg #[.bool false, .func (.func 77) #[] #[.pointer (some ⟨b5, 0, none⟩), .pointer (some ⟨f5, 0, none⟩)]]) rfl (by kernel_rfl) (by kernel_rfl) (by kernel_rfl) (fun _ _ _ h => h) (Or.inl ⟨by rfl, fun wS hS => (by have d0 := hS.2.1; have d1 := hS.2.2; go_simp)⟩) hH ?_
  simp only [Act.put, List.setIfInBounds_toArray, List.set_cons_zero, List.set_cons_succ]
  refine wpAnyH_ready (rs := [27]) (by kernel_rfl) (by simp) ?_
  refine AllReadyH.cons (o := { dst := some 34, op := Op.call { callee := Callee.value (Operand.func 53), args := #[Operand.tmp 32, Operand.tmp 33], argTypes := #[36, 95] }, type := 74, pos := "check.go:64", after := #[{ on := 25, ground := Ground.data }, { on := 26, ground := Ground.data }, { on := 20, ground := Ground.chain }], guard := none }) rfl (fun K hK => ?_) AllReadyH.nil
  go_simp
  refine (eachS_mk at2 ns cs 62 #[.pointer (some ⟨k4, 0, none⟩), .pointer (some ⟨k3, 0, none⟩)] _).mono ?_
  rintro e w9 ⟨b7, f7, rfl, hb9, q1, q2⟩
  refine hK.out _ _ (keepP hb9 ⟨hH.1, R.out.1⟩) (fun hH2 => ?_)
  clear hK K
  have A2 := acc_add (A) hb9 q1 q2
  clear q1 q2 hb9 hH A
  have hH := hH2
  have A := A2
  clear hH2 A2
  (try simp only [Act.put, List.setIfInBounds_toArray, List.set_cons_zero, List.set_cons_succ])
  refine wpAnyH_take (i := 28) (oi := { dst := some 35, op := Op.build 76 #[(0, Operand.const (Value.bool false)), (1, Operand.tmp 34)], type := 76, pos := "check.go:57", after := #[{ on := 27, ground := Ground.data }], guard := none }) (v := .agg #[.bool false, .func (.func 77) #[] #[.pointer (some ⟨b7, 0, none⟩), .pointer (some ⟨f7, 0, none⟩)]]) rfl (by kernel_rfl) (by kernel_rfl) (by kernel_rfl) (fun _ _ _ h => h) (Or.inl ⟨by rfl, fun wS hS => (by have d0 := hS.2.1; have d1 := hS.2.2; go_simp)⟩) hH ?_
  simp only [Act.put, List.setIfInBounds_toArray, List.set_cons_zero, List.set_cons_succ]
  refine wpAnyH_ready (rs := [31]) (by kernel_rfl) (by simp) ?_
  refine AllReadyH.cons (o := { dst := some 38, op := Op.call { callee := Callee.value (Operand.func 53), args := #[Operand.tmp 37, Operand.func 63], argTypes := #[36, 95] }, type := 74, pos := "check.go:67", after := #[{ on := 30, ground := Ground.data }, { on := 27, ground := Ground.chain }], guard := none }) rfl (fun K hK => ?_) AllReadyH.nil
  go_simp
  refine (eachS_mk at2 ns cs 63 #[] _).mono ?_
  rintro e w9 ⟨b8, f8, rfl, hb9, q1, q2⟩
  refine hK.out _ _ (keepP hb9 ⟨hH.1, R.out.1⟩) (fun hH2 => ?_)
  clear hK K
  have A2 := acc_add (A) hb9 q1 q2
  clear q1 q2 hb9 hH A
  have hH := hH2
  have A := A2
  clear hH2 A2
  (try simp only [Act.put, List.setIfInBounds_toArray, List.set_cons_zero, List.set_cons_succ])
  refine wpAnyH_take (i := 32) (oi := { dst := some 39, op := Op.build 76 #[(0, Operand.const (Value.bool false)), (1, Operand.tmp 38)], type := 76, pos := "check.go:57", after := #[{ on := 31, ground := Ground.data }], guard := none }) (v := .agg #[.bool false, .func (.func 77) #[] #[.pointer (some ⟨b8, 0, none⟩), .pointer (some ⟨f8, 0, none⟩)]]) rfl (by kernel_rfl) (by kernel_rfl) (by kernel_rfl) (fun _ _ _ h => h) (Or.inl ⟨by rfl, fun wS hS => (by have d0 := hS.2.1; have d1 := hS.2.2; go_simp)⟩) hH ?_
  simp only [Act.put, List.setIfInBounds_toArray, List.set_cons_zero, List.set_cons_succ]
  refine wpAnyH_ready (rs := [36]) (by kernel_rfl) (by simp) ?_
  refine AllReadyH.cons (o := { dst := some 43, op := Op.call { callee := Callee.value (Operand.func 53), args := #[Operand.tmp 41, Operand.tmp 42], argTypes := #[36, 95] }, type := 74, pos := "check.go:70", after := #[{ on := 34, ground := Ground.data }, { on := 35, ground := Ground.data }, { on := 31, ground := Ground.chain }], guard := none }) rfl (fun K hK => ?_) AllReadyH.nil
  go_simp
  refine (eachS_mk at2 ns cs 65 #[.pointer (some ⟨k1, 0, none⟩)] _).mono ?_
  rintro e w9 ⟨b9, f9, rfl, hb9, q1, q2⟩
  refine hK.out _ _ (keepP hb9 ⟨hH.1, R.out.1⟩) (fun hH2 => ?_)
  clear hK K
  have A2 := acc_add (A) hb9 q1 q2
  clear q1 q2 hb9 hH A
  have hH := hH2
  have A := A2
  clear hH2 A2
  (try simp only [Act.put, List.setIfInBounds_toArray, List.set_cons_zero, List.set_cons_succ])
  refine wpAnyH_take (i := 37) (oi := { dst := some 44, op := Op.build 76 #[(0, Operand.const (Value.bool false)), (1, Operand.tmp 43)], type := 76, pos := "check.go:57", after := #[{ on := 36, ground := Ground.data }], guard := none }) (v := .agg #[.bool false, .func (.func 77) #[] #[.pointer (some ⟨b9, 0, none⟩), .pointer (some ⟨f9, 0, none⟩)]]) rfl (by kernel_rfl) (by kernel_rfl) (by kernel_rfl) (fun _ _ _ h => h) (Or.inl ⟨by rfl, fun wS hS => (by have d0 := hS.2.1; have d1 := hS.2.2; go_simp)⟩) hH ?_
  simp only [Act.put, List.setIfInBounds_toArray, List.set_cons_zero, List.set_cons_succ]
  refine wpAnyH_ready (rs := [38]) (by kernel_rfl) (by simp) ?_
  refine AllReadyH.cons (o := { dst := some 45, op := Op.buildSlice 72 9 #[(0, Operand.tmp 10), (1, Operand.tmp 14), (2, Operand.tmp 18), (3, Operand.tmp 23), (4, Operand.tmp 28), (5, Operand.tmp 30), (6, Operand.tmp 35), (7, Operand.tmp 39), (8, Operand.tmp 44)], type := 72, pos := "check.go:57", after := #[{ on := 3, ground := Ground.data }, { on := 7, ground := Ground.data }, { on := 11, ground := Ground.data }, { on := 16, ground := Ground.data }, { on := 21, ground := Ground.data }, { on := 23, ground := Ground.data }, { on := 28, ground := Ground.data }, { on := 32, ground := Ground.data }, { on := 37, ground := Ground.data }], guard := none }) rfl (fun K hK => ?_) AllReadyH.nil
  go_simp
  refine hK.out _ _ (keepP (L8.bnew w9 _) ⟨hH.1, R.out.1⟩) (fun hH2 => ?_)
  clear hK K
  have hL := heap_alloc_last w9 (.cells #[.bool true, .func (.func 74) #[] #[.pointer (some ⟨b1, 0, none⟩), .pointer (some ⟨f1, 0, none⟩)], .bool false, .func (.func 77) #[] #[.pointer (some ⟨b2, 0, none⟩), .pointer (some ⟨f2, 0, none⟩)], .bool true, .func (.func 74) #[] #[.pointer (some ⟨b3, 0, none⟩), .pointer (some ⟨f3, 0, none⟩)], .bool true, .func (.func 74) #[] #[.pointer (some ⟨b4, 0, none⟩), .pointer (some ⟨f4, 0, none⟩)], .bool false, .func (.func 77) #[] #[.pointer (some ⟨b5, 0, none⟩), .pointer (some ⟨f5, 0, none⟩)], .bool false, .func (.func 61) #[] #[.pointer (some ⟨k1, 0, none⟩)], .bool false, .func (.func 77) #[] #[.pointer (some ⟨b7, 0, none⟩), .pointer (some ⟨f7, 0, none⟩)], .bool false, .func (.func 77) #[] #[.pointer (some ⟨b8, 0, none⟩), .pointer (some ⟨f8, 0, none⟩)], .bool false, .func (.func 77) #[] #[.pointer (some ⟨b9, 0, none⟩), .pointer (some ⟨f9, 0, none⟩)]] 76)
  have A2 := A.below (L8.bnew w9 (.cells #[.bool true, .func (.func 74) #[] #[.pointer (some ⟨b1, 0, none⟩), .pointer (some ⟨f1, 0, none⟩)], .bool false, .func (.func 77) #[] #[.pointer (some ⟨b2, 0, none⟩), .pointer (some ⟨f2, 0, none⟩)], .bool true, .func (.func 74) #[] #[.pointer (some ⟨b3, 0, none⟩), .pointer (some ⟨f3, 0, none⟩)], .bool true, .func (.func 74) #[] #[.pointer (some ⟨b4, 0, none⟩), .pointer (some ⟨f4, 0, none⟩)], .bool false, .func (.func 77) #[] #[.pointer (some ⟨b5, 0, none⟩), .pointer (some ⟨f5, 0, none⟩)], .bool false, .func (.func 61) #[] #[.pointer (some ⟨k1, 0, none⟩)], .bool false, .func (.func 77) #[] #[.pointer (some ⟨b7, 0, none⟩), .pointer (some ⟨f7, 0, none⟩)], .bool false, .func (.func 77) #[] #[.pointer (some ⟨b8, 0, none⟩), .pointer (some ⟨f8, 0, none⟩)], .bool false, .func (.func 77) #[] #[.pointer (some ⟨b9, 0, none⟩), .pointer (some ⟨f9, 0, none⟩)]] 76))
  clear hH A
  have hH := hH2
  clear hH2
  (try simp only [Act.put, List.setIfInBounds_toArray, List.set_cons_zero, List.set_cons_succ])
  refine wpAnyH_take (i := 39) (oi := { dst := some 2, op := Op.assign (Operand.tmp 45), type := 72, pos := "check.go:57", after := #[{ on := 38, ground := Ground.data }, { on := 36, ground := Ground.chain }, { on := 0, ground := Ground.phase }, { on := 1, ground := Ground.phase }, { on := 2, ground := Ground.phase }, { on := 3, ground := Ground.phase }, { on := 4, ground := Ground.phase }, { on := 5, ground := Ground.phase }, { on := 6, ground := Ground.phase }, { on := 7, ground := Ground.phase }, { on := 8, ground := Ground.phase }, { on := 9, ground := Ground.phase }, { on := 10, ground := Ground.phase }, { on := 11, ground := Ground.phase }, { on := 12, ground := Ground.phase }, { on := 13, ground := Ground.phase }, { on := 14, ground := Ground.phase }, { on := 15, ground := Ground.phase }, { on := 16, ground := Ground.phase }, { on := 17, ground := Ground.phase }, { on := 18, ground := Ground.phase }, { on := 19, ground := Ground.phase }, { on := 20, ground := Ground.phase }, { on := 21, ground := Ground.phase }, { on := 22, ground := Ground.phase }, { on := 23, ground := Ground.phase }, { on := 24, ground := Ground.phase }, { on := 25, ground := Ground.phase }, { on := 26, ground := Ground.phase }, { on := 27, ground := Ground.phase }, { on := 28, ground := Ground.phase }, { on := 29, ground := Ground.phase }, { on := 30, ground := Ground.phase }, { on := 31, ground := Ground.phase }, { on := 32, ground := Ground.phase }, { on := 33, ground := Ground.phase }, { on := 34, ground := Ground.phase }, { on := 35, ground := Ground.phase }, { on := 36, ground := Ground.phase }, { on := 37, ground := Ground.phase }, { on := 38, ground := Ground.phase }], guard := none }) (v := .slice (some ⟨w9.heap.size, 0, none⟩) 9 9) rfl (by kernel_rfl) (by kernel_rfl) (by kernel_rfl) (fun _ _ _ h => h) (Or.inl ⟨by rfl, fun wS hS => (by have d0 := hS.2.1; have d1 := hS.2.2; go_simp)⟩) hH ?_
  simp only [Act.put, List.setIfInBounds_toArray, List.set_cons_zero, List.set_cons_succ]
  refine wpAnyH_done (by kernel_rfl) ?_ _
  refine NoPanic.normal ?_
  go_wp2
  go_ret
  have hB := hH.1
  exact ⟨_, k1, k3, k4, g3, g4, _, _, _, _, _, _, _, _, rfl, L2.bch HB.out hB, ⟨hL, L8.row_up R.out.1 hB, L8.row_up R.out.2.1 hB, L8.row_up R.out.2.2.1 hB, set_below R.out.2.2.2.1 hB, set_below R.out.2.2.2.2.1 hB, R.out.2.2.2.2.2,
    ⟨b1, f1, rfl, acc_at A2 0 rfl, acc_at A2 1 rfl⟩, ⟨b2, f2, rfl, acc_at A2 2 rfl, acc_at A2 3 rfl⟩, ⟨b3, f3, rfl, acc_at A2 4 rfl, acc_at A2 5 rfl⟩, ⟨b4, f4, rfl, acc_at A2 6 rfl, acc_at A2 7 rfl⟩, ⟨b5, f5, rfl, acc_at A2 8 rfl, acc_at A2 9 rfl⟩, ⟨b7, f7, rfl, acc_at A2 10 rfl, acc_at A2 11 rfl⟩, ⟨b8, f8, rfl, acc_at A2 12 rfl, acc_at A2 13 rfl⟩, ⟨b9, f9, rfl, acc_at A2 14 rfl, acc_at A2 15 rfl⟩⟩, HL.out⟩
end Go.Proofs.YtbneaihpnfkcdaaDoor.L10
