/- What the reference's define returns: the declaration of a map, or the first error. Conditions: there are at most 100000 tokens, whose texts are no longer than memory allows. -/
import Derived.Test.YtjcaonbejhdhkaaDoorL9Rspl
import Derived.StillTail
import Derived.StillTactics
import Derived.WalkSpells
import Derived.Laws.CopyOwn
import Derived.BigRegion
namespace Go.Proofs.YtjcaonbejhdhkaaDoor.L9
open Go.RowKit
attribute [local go_sem] Oper.semAt_some

abbrev rsA (lab : Value) (r : Rs) : Array Value := #[lab, .int .i64 r.kind, .string r.d.nm, .int .i64 r.d.key, .int .i64 r.d.val, .int .i64 r.d.ent, .int .i64 r.x.op, .bool r.x.reg, .int .i64 r.x.dst, .int .i64 r.x.src, .int .i64 r.x.off, .int .i64 r.x.imm, .string r.tg, .string r.mp]
theorem frozen_all {w : World} {k : Nat} {cs : Array Value} {t : TypeId} (h : w.heap[k]? = some (.cells cs t)) (i : Nat) : w.frozen? ⟨k, i, none⟩ = false := by simp [World.frozen?, h]
theorem cells14 {w : World} {k : Nat} {a b c d e f g h i j l m n o : Value} {t : TypeId} (hh : w.heap[k]? = some (.cells #[a, b, c, d, e, f, g, h, i, j, l, m, n, o] t)) :
    w.cell? ⟨k, 0, none⟩ = some a ∧ w.cell? ⟨k, 1, none⟩ = some b ∧ w.cell? ⟨k, 2, none⟩ = some c ∧ w.cell? ⟨k, 3, none⟩ = some d ∧ w.cell? ⟨k, 4, none⟩ = some e ∧ w.cell? ⟨k, 5, none⟩ = some f ∧ w.cell? ⟨k, 6, none⟩ = some g ∧ w.cell? ⟨k, 7, none⟩ = some h ∧ w.cell? ⟨k, 8, none⟩ = some i ∧ w.cell? ⟨k, 9, none⟩ = some j ∧ w.cell? ⟨k, 10, none⟩ = some l ∧ w.cell? ⟨k, 11, none⟩ = some m ∧ w.cell? ⟨k, 12, none⟩ = some n ∧ w.cell? ⟨k, 13, none⟩ = some o := by
  simp [World.cell?, hh]
theorem cells3 {w : World} {k : Nat} {a b c : Value} {t : TypeId} (h : w.heap[k]? = some (.cells #[a, b, c] t)) : w.cell? ⟨k, 0, none⟩ = some a ∧ w.cell? ⟨k, 1, none⟩ = some b ∧ w.cell? ⟨k, 2, none⟩ = some c := by
  simp [World.cell?, h]
theorem cells4 {w : World} {k : Nat} {a b c d : Value} {t : TypeId} (h : w.heap[k]? = some (.cells #[a, b, c, d] t)) : w.cell? ⟨k, 0, none⟩ = some a ∧ w.cell? ⟨k, 1, none⟩ = some b ∧ w.cell? ⟨k, 2, none⟩ = some c ∧ w.cell? ⟨k, 3, none⟩ = some d := by
  simp [World.cell?, h]
theorem row_up {w w' : World} {k : Nat} {cs : Array Value} {t : TypeId} (h : w.heap[k]? = some (.cells cs t)) (hb : Below w.heap.size w w') : w'.heap[k]? = some (.cells cs t) := (hb.block _ (lt_of_block h)).trans h
theorem row_set {w : World} {k : Nat} {cs : Array Value} {t : TypeId} (h : w.heap[k]? = some (.cells cs t)) (i : Nat) (v : Value) : (w.setCell ⟨k, i, none⟩ v).heap[k]? = some (.cells (cs.setIfInBounds i v) t) := by
  have hlt := lt_of_block h
  have h' : w.heap[k] = .cells cs t := by simpa [Array.getElem?_eq_getElem hlt] using h
  show (w.heap.modify k _)[k]? = _
  rw [Array.getElem?_eq_getElem (by simpa using hlt), Array.getElem_modify_self, h']
  rfl
theorem row_other {w : World} {k g : Nat} {o : Option Obj} (h : w.heap[k]? = o) (i : Nat) (v : Value) (hne : k ≠ g) : (w.setCell ⟨g, i, none⟩ v).heap[k]? = o := by
  rw [← h]
  show (w.heap.modify g _)[k]? = _
  simp [Array.getElem?_modify, Ne.symm hne]
theorem bdrd {B : Nat} {w w' : World} (h : Below B w w') : Below B w w'.drew := ⟨h.1, h.2, h.3, h.4, h.5⟩
theorem rsA_one (r : Rs) : (rsA (.slice none 0 0) r).all (·.oneCell') = true := by simp [Value.oneCell']

/-- The tokens of a declaration. -/
theorem def_four {xs : L8.Tks} (h : shpB (txs xs) = ⟨#[119, 119, 119, 119]⟩) : xs.length = 4 := by
  have h1 : (shpB (txs xs)).size = xs.length := by
    show (L8.shp _).toArray.size = _
    simp [L8.shp, txs]
  rw [← h1, h]; rfl
theorem shp_txs (xs : L8.Tks) : L8.shB xs = shpB (txs xs) := by
  unfold L8.shB shpB txs L8.txt
  rw [List.map_map]; rfl
set_option maxHeartbeats 4000000 in
set_option maxRecDepth 100000 in
theorem rdef_shape (v : Value) (xs : L8.Tks) (hm : xs.length ≤ 100000) (w : World) (hv : L8.TksAt w v xs) (hsh : shpB (txs xs) ≠ ⟨#[119, 119, 119, 119]⟩) :
    Calls Tryd.prog 27 #[v] w fun e w' => e = .returned (.tuple #[.agg #[.slice none 0 0, .int .i64 0, .string ⟨#[]⟩, .int .i64 0, .int .i64 0, .int .i64 0, .int .i64 0, .bool false, .int .i64 0, .int .i64 0, .int .i64 0, .int .i64 0, .string ⟨#[]⟩, .string ⟨#[]⟩], .int .i64 2]) ∧ Below w.heap.size w w' := by
  have HSH := Lib.hid (fun (W : World) (hB : Below w.heap.size w W) => L8.rshape_at v xs hm W (hv.below hB))
  obtain ⟨S, hS0⟩ : ∃ S, L8.shB xs = S := ⟨_, rfl⟩
  have t1 : (S.toList == ([119, 119, 119, 119] : List UInt8)) = false := beqt_ne (by rw [← hS0, shp_txs]; exact hsh)
  rw [hS0] at HSH
  clear hv hS0 hsh
  go_enter Tryd.func27, Tryd.ntmps27
  go_wp2_with (first | (go_at_call 31; ((with_reducible refine (HSH.out _ (L8.bnew _ _)).mono ?_); rintro e w1 ⟨rfl, b1⟩; have hS := row_up (heap_alloc_last w (.cells #[.slice none 0 0, .int .i64 0, .string ⟨#[]⟩, .int .i64 0, .int .i64 0, .int .i64 0, .int .i64 0, .bool false, .int .i64 0, .int .i64 0, .int .i64 0, .int .i64 0, .string ⟨#[]⟩, .string ⟨#[]⟩] 33)) b1; have B1 := L2.bch (L8.bnew w (.cells #[.slice none 0 0, .int .i64 0, .string ⟨#[]⟩, .int .i64 0, .int .i64 0, .int .i64 0, .int .i64 0, .bool false, .int .i64 0, .int .i64 0, .int .i64 0, .int .i64 0, .string ⟨#[]⟩, .string ⟨#[]⟩] 33)) b1)) | (refine wpList_store_row rfl _ _ _ rfl w.heap.size #[.slice none 0 0, .int .i64 0, .string ⟨#[]⟩, .int .i64 0, .int .i64 0, .int .i64 0, .int .i64 0, .bool false, .int .i64 0, .int .i64 0, .int .i64 0, .int .i64 0, .string ⟨#[]⟩, .string ⟨#[]⟩] rfl rfl 33 _ hS (by kernel_rfl) rfl (by simp [Value.oneCell']) ?_))
  have hR := setRow_heap _ _ _ #[.slice none 0 0, .int .i64 0, .string ⟨#[]⟩, .int .i64 0, .int .i64 0, .int .i64 0, .int .i64 0, .bool false, .int .i64 0, .int .i64 0, .int .i64 0, .int .i64 0, .string ⟨#[]⟩, .string ⟨#[]⟩] _ _ hS
  obtain ⟨x0, x1, x2, x3, x4, x5, x6, x7, x8, x9, x10, x11, x12, x13⟩ := cells14 hR
  exact bodyPost_ret (v := .tuple #[.agg #[.slice none 0 0, .int .i64 0, .string ⟨#[]⟩, .int .i64 0, .int .i64 0, .int .i64 0, .int .i64 0, .bool false, .int .i64 0, .int .i64 0, .int .i64 0, .int .i64 0, .string ⟨#[]⟩, .string ⟨#[]⟩], .int .i64 2]) (by simp [results, Tryd.results27, go_sem, x0, x1, x2, x3, x4, x5, x6, x7, x8, x9, x10, x11, x12, x13]) rfl ⟨rfl, below_setRow B1 (Nat.le_refl _) _⟩
set_option maxHeartbeats 4000000 in
set_option maxRecDepth 100000 in
theorem rdef_name (b o n cap : Nat) (xs : L8.Tks) (hn : xs.length = n) (hm : n ≤ 100000) (w : World) (hb : b < w.heap.size) (hcp : n ≤ cap) (hc : L8.Tksat w b o xs) (hz : ∀ x ∈ xs, x.1.size ≤ 100000) (hsh : shpB (txs xs) = ⟨#[119, 119, 119, 119]⟩) (h1 : naV (g0 (txs xs) 0) ≠ 0) :
    Calls Tryd.prog 27 #[.slice (some ⟨b, o, none⟩) n cap] w fun e w' => e = .returned (.tuple #[.agg #[.slice none 0 0, .int .i64 0, .string ⟨#[]⟩, .int .i64 0, .int .i64 0, .int .i64 0, .int .i64 0, .bool false, .int .i64 0, .int .i64 0, .int .i64 0, .int .i64 0, .string ⟨#[]⟩, .string ⟨#[]⟩], .int .i64 7]) ∧ Below w.heap.size w w' := by
  have hT : ∀ W, Below w.heap.size w W → L8.TksAt W (.slice (some ⟨b, o, none⟩) n cap) xs := fun W hB => .inl ⟨b, o, cap, by rw [hn], by rw [hn]; exact hcp, Nat.lt_of_lt_of_le hb hB.size, hc.below hb hB⟩
  have HSH := Lib.hid (fun (W : World) (hB : Below w.heap.size w W) => L8.rshape_at (.slice (some ⟨b, o, none⟩) n cap) xs (by rw [hn]; exact hm) W (hT W hB))
  have h4 := def_four hsh
  have hn4 : n = 4 := by omega
  rw [shp_txs, hsh] at HSH
  obtain ⟨t0, e0, c0⟩ := tks_cell hc 0 (by omega)
  obtain ⟨t1, e1, c1⟩ := tks_cell hc 1 (by omega)
  obtain ⟨t2, e2, c2⟩ := tks_cell hc 2 (by omega)
  obtain ⟨t3, e3, c3⟩ := tks_cell hc 3 (by omega)
  have g0' : g0 (txs xs) 0 = t0 := by rw [← e0]; simp [g0, txs, List.getD, h4]
  have g1' : g0 (txs xs) 1 = t1 := by rw [← e1]; simp [g0, txs, List.getD, h4]
  have g2' : g0 (txs xs) 2 = t2 := by rw [← e2]; simp [g0, txs, List.getD, h4]
  have g3' : g0 (txs xs) 3 = t3 := by rw [← e3]; simp [g0, txs, List.getD, h4]
  subst hn4
  have k0 := hz _ (List.getElem_mem (show 0 < xs.length by omega))
  have k1 := hz _ (List.getElem_mem (show 1 < xs.length by omega))
  have k2 := hz _ (List.getElem_mem (show 2 < xs.length by omega))
  have k3 := hz _ (List.getElem_mem (show 3 < xs.length by omega))
  rw [e0] at k0
  rw [e1] at k1
  rw [e2] at k2
  rw [e3] at k3
  have hC0 : ∀ W, Below w.heap.size w W → W.cell? ⟨b, o, none⟩ = some (.string t0) := fun W hB => (hB.cell (p := ⟨b, o, none⟩) hb).trans (by simpa using c0)
  have hC1 : ∀ W, Below w.heap.size w W → W.cell? ⟨b, o + 2, none⟩ = some (.string t1) := fun W hB => (hB.cell (p := ⟨b, o + 2, none⟩) hb).trans (by simpa using c1)
  have hC2 : ∀ W, Below w.heap.size w W → W.cell? ⟨b, o + 4, none⟩ = some (.string t2) := fun W hB => (hB.cell (p := ⟨b, o + 4, none⟩) hb).trans (by simpa using c2)
  have hC3 : ∀ W, Below w.heap.size w W → W.cell? ⟨b, o + 6, none⟩ = some (.string t3) := fun W hB => (hB.cell (p := ⟨b, o + 6, none⟩) hb).trans (by simpa using c3)
  rw [g0'] at h1
  obtain ⟨x, hx⟩ : ∃ x, naV t0 = x := ⟨_, rfl⟩
  rw [hx] at h1
  have HNM := Lib.hid (fun W => rnam_at t0 x W (by omega) hx)
  have HC0 := Lib.hid hC0
  clear hT hc hsh hx e0 e1 e2 e3 g0' g1' g2' g3' c0 c1 c2 c3 hC0 hC1 hC2 hC3 k0 k1 k2 k3 hz
  go_enter Tryd.func27, Tryd.ntmps27
  go_wp2_with (first | (go_at_call 31; ((with_reducible refine (HSH.out _ (L8.bnew _ _)).mono ?_); rintro e w1 ⟨rfl, b1⟩; have hS := row_up (heap_alloc_last w (.cells #[.slice none 0 0, .int .i64 0, .string ⟨#[]⟩, .int .i64 0, .int .i64 0, .int .i64 0, .int .i64 0, .bool false, .int .i64 0, .int .i64 0, .int .i64 0, .int .i64 0, .string ⟨#[]⟩, .string ⟨#[]⟩] 33)) b1; have B1 := L2.bch (L8.bnew w (.cells #[.slice none 0 0, .int .i64 0, .string ⟨#[]⟩, .int .i64 0, .int .i64 0, .int .i64 0, .int .i64 0, .bool false, .int .i64 0, .int .i64 0, .int .i64 0, .int .i64 0, .string ⟨#[]⟩, .string ⟨#[]⟩] 33)) b1; have y0 := HC0.out _ B1)) | (go_at_call 26; ((with_reducible refine (HNM.out _).mono ?_); rintro e w2 ⟨rfl, rfl⟩)) | (refine wpList_store_row rfl _ _ _ rfl w.heap.size #[.slice none 0 0, .int .i64 0, .string ⟨#[]⟩, .int .i64 0, .int .i64 0, .int .i64 0, .int .i64 0, .bool false, .int .i64 0, .int .i64 0, .int .i64 0, .int .i64 0, .string ⟨#[]⟩, .string ⟨#[]⟩] rfl rfl 33 _ hS (by kernel_rfl) rfl (by simp [Value.oneCell']) ?_))
  have hR := setRow_heap _ _ _ #[.slice none 0 0, .int .i64 0, .string ⟨#[]⟩, .int .i64 0, .int .i64 0, .int .i64 0, .int .i64 0, .bool false, .int .i64 0, .int .i64 0, .int .i64 0, .int .i64 0, .string ⟨#[]⟩, .string ⟨#[]⟩] _ _ hS
  obtain ⟨x0, x1, x2, x3, x4, x5, x6, x7, x8, x9, x10, x11, x12, x13⟩ := cells14 hR
  exact bodyPost_ret (v := .tuple #[.agg #[.slice none 0 0, .int .i64 0, .string ⟨#[]⟩, .int .i64 0, .int .i64 0, .int .i64 0, .int .i64 0, .bool false, .int .i64 0, .int .i64 0, .int .i64 0, .int .i64 0, .string ⟨#[]⟩, .string ⟨#[]⟩], .int .i64 7]) (by simp [results, Tryd.results27, go_sem, x0, x1, x2, x3, x4, x5, x6, x7, x8, x9, x10, x11, x12, x13]) rfl ⟨rfl, below_setRow B1 (Nat.le_refl _) _⟩
set_option maxHeartbeats 4000000 in
set_option maxRecDepth 100000 in
theorem rdef_num (b o n cap : Nat) (xs : L8.Tks) (hn : xs.length = n) (hm : n ≤ 100000) (w : World) (hb : b < w.heap.size) (hcp : n ≤ cap) (hc : L8.Tksat w b o xs) (hz : ∀ x ∈ xs, x.1.size ≤ 100000) (hsh : shpB (txs xs) = ⟨#[119, 119, 119, 119]⟩) (h1 : naV (g0 (txs xs) 0) = 0) (x : Int) (hx : nuE (g0 (txs xs) 1) (g0 (txs xs) 2) (g0 (txs xs) 3) = x) (hne : x ≠ 0) :
    Calls Tryd.prog 27 #[.slice (some ⟨b, o, none⟩) n cap] w fun e w' => e = .returned (.tuple #[.agg #[.slice none 0 0, .int .i64 0, .string ⟨#[]⟩, .int .i64 0, .int .i64 0, .int .i64 0, .int .i64 0, .bool false, .int .i64 0, .int .i64 0, .int .i64 0, .int .i64 0, .string ⟨#[]⟩, .string ⟨#[]⟩], .int .i64 x]) ∧ Below w.heap.size w w' := by
  have hT : ∀ W, Below w.heap.size w W → L8.TksAt W (.slice (some ⟨b, o, none⟩) n cap) xs := fun W hB => .inl ⟨b, o, cap, by rw [hn], by rw [hn]; exact hcp, Nat.lt_of_lt_of_le hb hB.size, hc.below hb hB⟩
  have HSH := Lib.hid (fun (W : World) (hB : Below w.heap.size w W) => L8.rshape_at (.slice (some ⟨b, o, none⟩) n cap) xs (by rw [hn]; exact hm) W (hT W hB))
  have h4 := def_four hsh
  have hn4 : n = 4 := by omega
  rw [shp_txs, hsh] at HSH
  obtain ⟨t0, e0, c0⟩ := tks_cell hc 0 (by omega)
  obtain ⟨t1, e1, c1⟩ := tks_cell hc 1 (by omega)
  obtain ⟨t2, e2, c2⟩ := tks_cell hc 2 (by omega)
  obtain ⟨t3, e3, c3⟩ := tks_cell hc 3 (by omega)
  have g0' : g0 (txs xs) 0 = t0 := by rw [← e0]; simp [g0, txs, List.getD, h4]
  have g1' : g0 (txs xs) 1 = t1 := by rw [← e1]; simp [g0, txs, List.getD, h4]
  have g2' : g0 (txs xs) 2 = t2 := by rw [← e2]; simp [g0, txs, List.getD, h4]
  have g3' : g0 (txs xs) 3 = t3 := by rw [← e3]; simp [g0, txs, List.getD, h4]
  subst hn4
  have k0 := hz _ (List.getElem_mem (show 0 < xs.length by omega))
  have k1 := hz _ (List.getElem_mem (show 1 < xs.length by omega))
  have k2 := hz _ (List.getElem_mem (show 2 < xs.length by omega))
  have k3 := hz _ (List.getElem_mem (show 3 < xs.length by omega))
  rw [e0] at k0
  rw [e1] at k1
  rw [e2] at k2
  rw [e3] at k3
  have hC0 : ∀ W, Below w.heap.size w W → W.cell? ⟨b, o, none⟩ = some (.string t0) := fun W hB => (hB.cell (p := ⟨b, o, none⟩) hb).trans (by simpa using c0)
  have hC1 : ∀ W, Below w.heap.size w W → W.cell? ⟨b, o + 2, none⟩ = some (.string t1) := fun W hB => (hB.cell (p := ⟨b, o + 2, none⟩) hb).trans (by simpa using c1)
  have hC2 : ∀ W, Below w.heap.size w W → W.cell? ⟨b, o + 4, none⟩ = some (.string t2) := fun W hB => (hB.cell (p := ⟨b, o + 4, none⟩) hb).trans (by simpa using c2)
  have hC3 : ∀ W, Below w.heap.size w W → W.cell? ⟨b, o + 6, none⟩ = some (.string t3) := fun W hB => (hB.cell (p := ⟨b, o + 6, none⟩) hb).trans (by simpa using c3)
  rw [g0'] at h1
  have HNM := Lib.hid (fun W => rnam_at t0 0 W (by omega) h1)
  have HC0 := Lib.hid hC0
  obtain ⟨v1, hv1⟩ : ∃ v, (nuV t1 32).1 = v := ⟨_, rfl⟩
  obtain ⟨x1, hx1⟩ : ∃ x, (nuV t1 32).2 = x := ⟨_, rfl⟩
  have HN1 := Lib.hid (fun W => rnumber_at t1 32 v1 x1 W (by unfold maxLen; omega) hv1 hx1)
  have HC1 := Lib.hid hC1
  obtain ⟨v2, hv2⟩ : ∃ v, (nuV t2 32).1 = v := ⟨_, rfl⟩
  obtain ⟨x2, hx2⟩ : ∃ x, (nuV t2 32).2 = x := ⟨_, rfl⟩
  have HN2 := Lib.hid (fun W => rnumber_at t2 32 v2 x2 W (by unfold maxLen; omega) hv2 hx2)
  have HC2 := Lib.hid hC2
  obtain ⟨v3, hv3⟩ : ∃ v, (nuV t3 32).1 = v := ⟨_, rfl⟩
  obtain ⟨x3, hx3⟩ : ∃ x, (nuV t3 32).2 = x := ⟨_, rfl⟩
  have HN3 := Lib.hid (fun W => rnumber_at t3 32 v3 x3 W (by unfold maxLen; omega) hv3 hx3)
  have HC3 := Lib.hid hC3
  rw [g1', g2', g3'] at hx
  have hE : (if x1 ≠ 0 then x1 else if x2 ≠ 0 then x2 else x3) = x := by rw [← hx, ← hx1, ← hx2, ← hx3]; rfl
  clear hx
  clear hT hc hsh e0 e1 e2 e3 g0' g1' g2' g3' c0 c1 c2 c3 hC0 hC1 hC2 hC3 k0 k1 k2 k3 hz h1 hv1 hv2 hv3 hx1 hx2 hx3
  go_enter Tryd.func27, Tryd.ntmps27
  go_wp2_with (first | (go_at_call 31; ((with_reducible refine (HSH.out _ (L8.bnew _ _)).mono ?_); rintro e w1 ⟨rfl, b1⟩; have hS := row_up (heap_alloc_last w (.cells #[.slice none 0 0, .int .i64 0, .string ⟨#[]⟩, .int .i64 0, .int .i64 0, .int .i64 0, .int .i64 0, .bool false, .int .i64 0, .int .i64 0, .int .i64 0, .int .i64 0, .string ⟨#[]⟩, .string ⟨#[]⟩] 33)) b1; have B1 := L2.bch (L8.bnew w (.cells #[.slice none 0 0, .int .i64 0, .string ⟨#[]⟩, .int .i64 0, .int .i64 0, .int .i64 0, .int .i64 0, .bool false, .int .i64 0, .int .i64 0, .int .i64 0, .int .i64 0, .string ⟨#[]⟩, .string ⟨#[]⟩] 33)) b1; have y0 := HC0.out _ B1)) | (go_at_call 26; ((with_reducible refine (HNM.out _).mono ?_); rintro e w2 ⟨rfl, rfl⟩)))
  have hS1 := row_up hS (L8.bnew w1 (.cells #[.int .i64 0, .int .i64 0, .int .i64 0] 99))
  have hA1 := heap_alloc_last w1 (.cells #[.int .i64 0, .int .i64 0, .int .i64 0] 99)
  have B2 := L2.bch B1 (L8.bnew w1 (.cells #[.int .i64 0, .int .i64 0, .int .i64 0] 99))
  have hgw : w.heap.size < w1.heap.size := Nat.lt_of_lt_of_le (by simp) b1.size
  generalize w1.heap.size = g at hS1 hA1 hgw ⊢
  generalize w1.alloc (.cells _ 99) = W0 at hS1 hA1 B2 ⊢
  clear hS b1 B1 y0
  go_loopw [5] (fun a wr => wr.heap[w.heap.size]? = some (.cells #[.slice none 0 0, .int .i64 0, .string ⟨#[]⟩, .int .i64 0, .int .i64 0, .int .i64 0, .int .i64 0, .bool false, .int .i64 0, .int .i64 0, .int .i64 0, .int .i64 0, .string ⟨#[]⟩, .string ⟨#[]⟩] 33) ∧ Below w.heap.size w wr ∧ ((a = .int .i64 0 ∧ wr.heap[g]? = some (.cells #[.int .i64 0, .int .i64 0, .int .i64 0] 99)) ∨ (a = .int .i64 1 ∧ wr.heap[g]? = some (.cells #[.int .i64 v1, .int .i64 0, .int .i64 0] 99) ∧ x1 = 0) ∨ (a = .int .i64 2 ∧ wr.heap[g]? = some (.cells #[.int .i64 v1, .int .i64 v2, .int .i64 0] 99) ∧ x1 = 0 ∧ x2 = 0))) (fun a _ => 3 - (intOf a).toNat)
  case atStart => exact ⟨hS1, B2, .inl ⟨rfl, hA1⟩⟩
  case round =>
    obtain ⟨hS, hB, hst⟩ := hrel
    clear hS1 hA1 B2
    rcases hst with ⟨rfl, hA⟩ | ⟨rfl, hA, e1⟩ | ⟨rfl, hA, e1, e2⟩
    · have y := HC1.out _ hB
      obtain ⟨z0, z1, z2⟩ := cells3 hA
      have f := frozen_all hA 0
      by_cases hx : x1 = 0
      · have HX := Lib.hid hE
        clear hE
        rw [hx] at HN1
        go_wp2_with ((go_at_call 57; ((with_reducible refine (HN1.out _).mono ?_); rintro e w2 ⟨rfl, rfl⟩)))
        go_roundw
        case rel => exact ⟨row_other hS 0 _ (by omega), hB.setCell (p := ⟨g, 0, none⟩) (by show w.heap.size ≤ g; omega) _, .inr (.inl ⟨by go_num, row_set hA 0 _, hx⟩)⟩
        case measure => simp [intOf]
      · have hx' : x1 = x := by rw [← hE]; simp [hx]
        clear hE
        go_wp2_with (first | (go_at_call 57; ((with_reducible refine (HN1.out _).mono ?_); rintro e w2 ⟨rfl, rfl⟩)) | (refine wpList_store_row rfl _ _ _ rfl w.heap.size #[.slice none 0 0, .int .i64 0, .string ⟨#[]⟩, .int .i64 0, .int .i64 0, .int .i64 0, .int .i64 0, .bool false, .int .i64 0, .int .i64 0, .int .i64 0, .int .i64 0, .string ⟨#[]⟩, .string ⟨#[]⟩] rfl rfl 33 _ hS (by kernel_rfl) rfl (by simp [Value.oneCell']) ?_))
        have hR := setRow_heap _ _ _ #[.slice none 0 0, .int .i64 0, .string ⟨#[]⟩, .int .i64 0, .int .i64 0, .int .i64 0, .int .i64 0, .bool false, .int .i64 0, .int .i64 0, .int .i64 0, .int .i64 0, .string ⟨#[]⟩, .string ⟨#[]⟩] _ _ hS
        obtain ⟨q0, q1, q2, q3, q4, q5, q6, q7, q8, q9, q10, q11, q12, q13⟩ := cells14 hR
        exact bodyPost_ret (v := .tuple #[.agg #[.slice none 0 0, .int .i64 0, .string ⟨#[]⟩, .int .i64 0, .int .i64 0, .int .i64 0, .int .i64 0, .bool false, .int .i64 0, .int .i64 0, .int .i64 0, .int .i64 0, .string ⟨#[]⟩, .string ⟨#[]⟩], .int .i64 x]) (by simp [results, Tryd.results27, go_sem, q0, q1, q2, q3, q4, q5, q6, q7, q8, q9, q10, q11, q12, q13]) rfl ⟨rfl, below_setRow hB (Nat.le_refl _) _⟩
    · have y := HC2.out _ hB
      obtain ⟨z0, z1, z2⟩ := cells3 hA
      have f := frozen_all hA 1
      by_cases hx : x2 = 0
      · have HX := Lib.hid hE
        clear hE
        rw [hx] at HN2
        go_wp2_with ((go_at_call 57; ((with_reducible refine (HN2.out _).mono ?_); rintro e w2 ⟨rfl, rfl⟩)))
        go_roundw
        case rel => exact ⟨row_other hS 1 _ (by omega), hB.setCell (p := ⟨g, 1, none⟩) (by show w.heap.size ≤ g; omega) _, .inr (.inr ⟨by go_num, row_set hA 1 _, e1, hx⟩)⟩
        case measure => simp [intOf]
      · have hx' : x2 = x := by rw [← hE]; simp [hx, e1]
        clear hE
        go_wp2_with (first | (go_at_call 57; ((with_reducible refine (HN2.out _).mono ?_); rintro e w2 ⟨rfl, rfl⟩)) | (refine wpList_store_row rfl _ _ _ rfl w.heap.size #[.slice none 0 0, .int .i64 0, .string ⟨#[]⟩, .int .i64 0, .int .i64 0, .int .i64 0, .int .i64 0, .bool false, .int .i64 0, .int .i64 0, .int .i64 0, .int .i64 0, .string ⟨#[]⟩, .string ⟨#[]⟩] rfl rfl 33 _ hS (by kernel_rfl) rfl (by simp [Value.oneCell']) ?_))
        have hR := setRow_heap _ _ _ #[.slice none 0 0, .int .i64 0, .string ⟨#[]⟩, .int .i64 0, .int .i64 0, .int .i64 0, .int .i64 0, .bool false, .int .i64 0, .int .i64 0, .int .i64 0, .int .i64 0, .string ⟨#[]⟩, .string ⟨#[]⟩] _ _ hS
        obtain ⟨q0, q1, q2, q3, q4, q5, q6, q7, q8, q9, q10, q11, q12, q13⟩ := cells14 hR
        exact bodyPost_ret (v := .tuple #[.agg #[.slice none 0 0, .int .i64 0, .string ⟨#[]⟩, .int .i64 0, .int .i64 0, .int .i64 0, .int .i64 0, .bool false, .int .i64 0, .int .i64 0, .int .i64 0, .int .i64 0, .string ⟨#[]⟩, .string ⟨#[]⟩], .int .i64 x]) (by simp [results, Tryd.results27, go_sem, q0, q1, q2, q3, q4, q5, q6, q7, q8, q9, q10, q11, q12, q13]) rfl ⟨rfl, below_setRow hB (Nat.le_refl _) _⟩
    · have y := HC3.out _ hB
      obtain ⟨z0, z1, z2⟩ := cells3 hA
      have f := frozen_all hA 2
      by_cases hx : x3 = 0
      · exact absurd (by rw [← hE, e1, e2, hx]; rfl) hne
      · have hx' : x3 = x := by rw [← hE]; simp [e1, e2]
        clear hE
        go_wp2_with (first | (go_at_call 57; ((with_reducible refine (HN3.out _).mono ?_); rintro e w2 ⟨rfl, rfl⟩)) | (refine wpList_store_row rfl _ _ _ rfl w.heap.size #[.slice none 0 0, .int .i64 0, .string ⟨#[]⟩, .int .i64 0, .int .i64 0, .int .i64 0, .int .i64 0, .bool false, .int .i64 0, .int .i64 0, .int .i64 0, .int .i64 0, .string ⟨#[]⟩, .string ⟨#[]⟩] rfl rfl 33 _ hS (by kernel_rfl) rfl (by simp [Value.oneCell']) ?_))
        have hR := setRow_heap _ _ _ #[.slice none 0 0, .int .i64 0, .string ⟨#[]⟩, .int .i64 0, .int .i64 0, .int .i64 0, .int .i64 0, .bool false, .int .i64 0, .int .i64 0, .int .i64 0, .int .i64 0, .string ⟨#[]⟩, .string ⟨#[]⟩] _ _ hS
        obtain ⟨q0, q1, q2, q3, q4, q5, q6, q7, q8, q9, q10, q11, q12, q13⟩ := cells14 hR
        exact bodyPost_ret (v := .tuple #[.agg #[.slice none 0 0, .int .i64 0, .string ⟨#[]⟩, .int .i64 0, .int .i64 0, .int .i64 0, .int .i64 0, .bool false, .int .i64 0, .int .i64 0, .int .i64 0, .int .i64 0, .string ⟨#[]⟩, .string ⟨#[]⟩], .int .i64 x]) (by simp [results, Tryd.results27, go_sem, q0, q1, q2, q3, q4, q5, q6, q7, q8, q9, q10, q11, q12, q13]) rfl ⟨rfl, below_setRow hB (Nat.le_refl _) _⟩
set_option maxHeartbeats 4000000 in
set_option maxRecDepth 100000 in
theorem rdef_size (b o n cap : Nat) (xs : L8.Tks) (hn : xs.length = n) (hm : n ≤ 100000) (w : World) (hb : b < w.heap.size) (hcp : n ≤ cap) (hc : L8.Tksat w b o xs) (hz : ∀ x ∈ xs, x.1.size ≤ 100000) (hsh : shpB (txs xs) = ⟨#[119, 119, 119, 119]⟩) (h1 : naV (g0 (txs xs) 0) = 0) (hx : nuE (g0 (txs xs) 1) (g0 (txs xs) 2) (g0 (txs xs) 3) = 0) (d : Df) (hd : dfV (txs xs) = d) (hsz : sizV d = false) :
    Calls Tryd.prog 27 #[.slice (some ⟨b, o, none⟩) n cap] w fun e w' => e = .returned (.tuple #[.agg #[.slice none 0 0, .int .i64 0, .string ⟨#[]⟩, .int .i64 0, .int .i64 0, .int .i64 0, .int .i64 0, .bool false, .int .i64 0, .int .i64 0, .int .i64 0, .int .i64 0, .string ⟨#[]⟩, .string ⟨#[]⟩], .int .i64 9]) ∧ Below w.heap.size w w' := by
  have hT : ∀ W, Below w.heap.size w W → L8.TksAt W (.slice (some ⟨b, o, none⟩) n cap) xs := fun W hB => .inl ⟨b, o, cap, by rw [hn], by rw [hn]; exact hcp, Nat.lt_of_lt_of_le hb hB.size, hc.below hb hB⟩
  have HSH := Lib.hid (fun (W : World) (hB : Below w.heap.size w W) => L8.rshape_at (.slice (some ⟨b, o, none⟩) n cap) xs (by rw [hn]; exact hm) W (hT W hB))
  have h4 := def_four hsh
  have hn4 : n = 4 := by omega
  rw [shp_txs, hsh] at HSH
  obtain ⟨t0, e0, c0⟩ := tks_cell hc 0 (by omega)
  obtain ⟨t1, e1, c1⟩ := tks_cell hc 1 (by omega)
  obtain ⟨t2, e2, c2⟩ := tks_cell hc 2 (by omega)
  obtain ⟨t3, e3, c3⟩ := tks_cell hc 3 (by omega)
  have g0' : g0 (txs xs) 0 = t0 := by rw [← e0]; simp [g0, txs, List.getD, h4]
  have g1' : g0 (txs xs) 1 = t1 := by rw [← e1]; simp [g0, txs, List.getD, h4]
  have g2' : g0 (txs xs) 2 = t2 := by rw [← e2]; simp [g0, txs, List.getD, h4]
  have g3' : g0 (txs xs) 3 = t3 := by rw [← e3]; simp [g0, txs, List.getD, h4]
  subst hn4
  have k0 := hz _ (List.getElem_mem (show 0 < xs.length by omega))
  have k1 := hz _ (List.getElem_mem (show 1 < xs.length by omega))
  have k2 := hz _ (List.getElem_mem (show 2 < xs.length by omega))
  have k3 := hz _ (List.getElem_mem (show 3 < xs.length by omega))
  rw [e0] at k0
  rw [e1] at k1
  rw [e2] at k2
  rw [e3] at k3
  have hC0 : ∀ W, Below w.heap.size w W → W.cell? ⟨b, o, none⟩ = some (.string t0) := fun W hB => (hB.cell (p := ⟨b, o, none⟩) hb).trans (by simpa using c0)
  have hC1 : ∀ W, Below w.heap.size w W → W.cell? ⟨b, o + 2, none⟩ = some (.string t1) := fun W hB => (hB.cell (p := ⟨b, o + 2, none⟩) hb).trans (by simpa using c1)
  have hC2 : ∀ W, Below w.heap.size w W → W.cell? ⟨b, o + 4, none⟩ = some (.string t2) := fun W hB => (hB.cell (p := ⟨b, o + 4, none⟩) hb).trans (by simpa using c2)
  have hC3 : ∀ W, Below w.heap.size w W → W.cell? ⟨b, o + 6, none⟩ = some (.string t3) := fun W hB => (hB.cell (p := ⟨b, o + 6, none⟩) hb).trans (by simpa using c3)
  rw [g0'] at h1
  have HNM := Lib.hid (fun W => rnam_at t0 0 W (by omega) h1)
  have HC0 := Lib.hid hC0
  obtain ⟨v1, hv1⟩ : ∃ v, (nuV t1 32).1 = v := ⟨_, rfl⟩
  obtain ⟨x1, hx1⟩ : ∃ x, (nuV t1 32).2 = x := ⟨_, rfl⟩
  have HN1 := Lib.hid (fun W => rnumber_at t1 32 v1 x1 W (by unfold maxLen; omega) hv1 hx1)
  have HC1 := Lib.hid hC1
  obtain ⟨v2, hv2⟩ : ∃ v, (nuV t2 32).1 = v := ⟨_, rfl⟩
  obtain ⟨x2, hx2⟩ : ∃ x, (nuV t2 32).2 = x := ⟨_, rfl⟩
  have HN2 := Lib.hid (fun W => rnumber_at t2 32 v2 x2 W (by unfold maxLen; omega) hv2 hx2)
  have HC2 := Lib.hid hC2
  obtain ⟨v3, hv3⟩ : ∃ v, (nuV t3 32).1 = v := ⟨_, rfl⟩
  obtain ⟨x3, hx3⟩ : ∃ x, (nuV t3 32).2 = x := ⟨_, rfl⟩
  have HN3 := Lib.hid (fun W => rnumber_at t3 32 v3 x3 W (by unfold maxLen; omega) hv3 hx3)
  have HC3 := Lib.hid hC3
  rw [g1', g2', g3'] at hx
  have hE : x1 = 0 ∧ x2 = 0 ∧ x3 = 0 := by
    unfold nuE at hx
    rw [hx1, hx2, hx3] at hx
    split at hx
    · rename_i h; exact absurd hx h
    · rename_i q1
      split at hx
      · rename_i h; exact absurd hx h
      · rename_i q2
        exact ⟨by simpa using q1, by simpa using q2, hx⟩
  obtain ⟨r1, r2, r3⟩ := hE
  have hd' : d = ⟨t0, v1, v2, v3⟩ := by rw [← hd]; unfold dfV; rw [g0', g1', g2', g3', hv1, hv2, hv3]
  subst hd'
  have HSZ := Lib.hid (show ∀ W, Calls Tryd.prog 58 #[.agg #[.string t0, .int .i64 v1, .int .i64 v2, .int .i64 v3]] W fun e w' => e = .returned (.bool false) ∧ Below W.heap.size W w' from fun W => rsizes_at ⟨t0, v1, v2, v3⟩ false W hsz)
  rw [r1] at HN1
  rw [r2] at HN2
  rw [r3] at HN3
  clear hx hd hsz
  clear hT hc hsh e0 e1 e2 e3 g0' g1' g2' g3' c0 c1 c2 c3 hC0 hC1 hC2 hC3 k0 k1 k2 k3 hz h1 hv1 hv2 hv3 hx1 hx2 hx3
  clear r1 r2 r3
  go_enter Tryd.func27, Tryd.ntmps27
  go_wp2_with (first | (go_at_call 31; ((with_reducible refine (HSH.out _ (L8.bnew _ _)).mono ?_); rintro e w1 ⟨rfl, b1⟩; have hS := row_up (heap_alloc_last w (.cells #[.slice none 0 0, .int .i64 0, .string ⟨#[]⟩, .int .i64 0, .int .i64 0, .int .i64 0, .int .i64 0, .bool false, .int .i64 0, .int .i64 0, .int .i64 0, .int .i64 0, .string ⟨#[]⟩, .string ⟨#[]⟩] 33)) b1; have B1 := L2.bch (L8.bnew w (.cells #[.slice none 0 0, .int .i64 0, .string ⟨#[]⟩, .int .i64 0, .int .i64 0, .int .i64 0, .int .i64 0, .bool false, .int .i64 0, .int .i64 0, .int .i64 0, .int .i64 0, .string ⟨#[]⟩, .string ⟨#[]⟩] 33)) b1; have y0 := HC0.out _ B1)) | (go_at_call 26; ((with_reducible refine (HNM.out _).mono ?_); rintro e w2 ⟨rfl, rfl⟩)))
  have hS1 := row_up hS (L8.bnew w1 (.cells #[.int .i64 0, .int .i64 0, .int .i64 0] 99))
  have hA1 := heap_alloc_last w1 (.cells #[.int .i64 0, .int .i64 0, .int .i64 0] 99)
  have B2 := L2.bch B1 (L8.bnew w1 (.cells #[.int .i64 0, .int .i64 0, .int .i64 0] 99))
  have hgw : w.heap.size < w1.heap.size := Nat.lt_of_lt_of_le (by simp) b1.size
  generalize w1.heap.size = g at hS1 hA1 hgw ⊢
  generalize w1.alloc (.cells _ 99) = W0 at hS1 hA1 B2 ⊢
  clear hS b1 B1 y0
  go_loopw [5] (fun a wr => wr.heap[w.heap.size]? = some (.cells #[.slice none 0 0, .int .i64 0, .string ⟨#[]⟩, .int .i64 0, .int .i64 0, .int .i64 0, .int .i64 0, .bool false, .int .i64 0, .int .i64 0, .int .i64 0, .int .i64 0, .string ⟨#[]⟩, .string ⟨#[]⟩] 33) ∧ Below w.heap.size w wr ∧ ((a = .int .i64 0 ∧ wr.heap[g]? = some (.cells #[.int .i64 0, .int .i64 0, .int .i64 0] 99)) ∨ (a = .int .i64 1 ∧ wr.heap[g]? = some (.cells #[.int .i64 v1, .int .i64 0, .int .i64 0] 99)) ∨ (a = .int .i64 2 ∧ wr.heap[g]? = some (.cells #[.int .i64 v1, .int .i64 v2, .int .i64 0] 99)) ∨ (a = .int .i64 3 ∧ wr.heap[g]? = some (.cells #[.int .i64 v1, .int .i64 v2, .int .i64 v3] 99)))) (fun a _ => 3 - (intOf a).toNat)
  case atStart => exact ⟨hS1, B2, .inl ⟨rfl, hA1⟩⟩
  case round =>
    obtain ⟨hS, hB, hst⟩ := hrel
    clear hS1 hA1 B2
    rcases hst with ⟨rfl, hA⟩ | ⟨rfl, hA⟩ | ⟨rfl, hA⟩ | ⟨rfl, hA⟩
    · have y := HC1.out _ hB
      obtain ⟨z0, z1, z2⟩ := cells3 hA
      have f := frozen_all hA 0
      go_wp2_with ((go_at_call 57; ((with_reducible refine (HN1.out _).mono ?_); rintro e w2 ⟨rfl, rfl⟩)))
      go_roundw
      case rel => exact ⟨row_other hS 0 _ (by omega), hB.setCell (p := ⟨g, 0, none⟩) (by show w.heap.size ≤ g; omega) _, .inr (.inl ⟨by go_num, row_set hA 0 _⟩)⟩
      case measure => simp [intOf]
    · have y := HC2.out _ hB
      obtain ⟨z0, z1, z2⟩ := cells3 hA
      have f := frozen_all hA 1
      go_wp2_with ((go_at_call 57; ((with_reducible refine (HN2.out _).mono ?_); rintro e w2 ⟨rfl, rfl⟩)))
      go_roundw
      case rel => exact ⟨row_other hS 1 _ (by omega), hB.setCell (p := ⟨g, 1, none⟩) (by show w.heap.size ≤ g; omega) _, .inr (.inr (.inl ⟨by go_num, row_set hA 1 _⟩))⟩
      case measure => simp [intOf]
    · have y := HC3.out _ hB
      obtain ⟨z0, z1, z2⟩ := cells3 hA
      have f := frozen_all hA 2
      go_wp2_with ((go_at_call 57; ((with_reducible refine (HN3.out _).mono ?_); rintro e w2 ⟨rfl, rfl⟩)))
      go_roundw
      case rel => exact ⟨row_other hS 2 _ (by omega), hB.setCell (p := ⟨g, 2, none⟩) (by show w.heap.size ≤ g; omega) _, .inr (.inr (.inr ⟨by go_num, row_set hA 2 _⟩))⟩
      case measure => simp [intOf]
    · have y := HC0.out _ hB
      obtain ⟨z0, z1, z2⟩ := cells3 hA
      have hbl : b < wr.heap.size := Nat.lt_of_lt_of_le hb hB.size
      have hgl := lt_of_block hA
      go_upto_region 13 with (fail)
      go_region
      have hb1 : Below wr.heap.size wr (wr.alloc (.cells #[.string t0, .int .i64 v1, .int .i64 v2, .int .i64 v3] 29)).drew := bdrd (L8.bnew wr _)
      have hS3 := row_up hS hb1
      have B3 := L2.bch hB hb1
      have hD : (wr.alloc (.cells #[.string t0, .int .i64 v1, .int .i64 v2, .int .i64 v3] 29)).drew.heap[wr.heap.size]? = some (.cells #[.string t0, .int .i64 v1, .int .i64 v2, .int .i64 v3] 29) := heap_alloc_last wr _
      obtain ⟨d0, d1, d2, d3⟩ := cells4 hD
      generalize wr.heap.size = gd at hD d0 d1 d2 d3 ⊢
      generalize (wr.alloc (.cells _ 29)).drew = W3 at hS3 B3 hD d0 d1 d2 d3 ⊢
      clear hb1 hbl hgl y z0 z1 z2 hA hS hB
      go_wp2_with (first | (go_at_call 58; ((with_reducible refine (HSZ.out _).mono ?_); rintro e w4 ⟨rfl, b4⟩; have hS4 := row_up hS3 b4; have B4 := L2.bch B3 b4; have hD4 := row_up hD b4; clear d0 d1 d2 d3; obtain ⟨d0, d1, d2, d3⟩ := cells4 hD4)) | (refine wpList_store_row rfl _ _ _ rfl w.heap.size #[.slice none 0 0, .int .i64 0, .string ⟨#[]⟩, .int .i64 0, .int .i64 0, .int .i64 0, .int .i64 0, .bool false, .int .i64 0, .int .i64 0, .int .i64 0, .int .i64 0, .string ⟨#[]⟩, .string ⟨#[]⟩] rfl rfl 33 _ hS4 (by kernel_rfl) rfl (by simp [Value.oneCell']) ?_))
      have hR := setRow_heap _ _ _ #[.slice none 0 0, .int .i64 0, .string ⟨#[]⟩, .int .i64 0, .int .i64 0, .int .i64 0, .int .i64 0, .bool false, .int .i64 0, .int .i64 0, .int .i64 0, .int .i64 0, .string ⟨#[]⟩, .string ⟨#[]⟩] _ _ hS4
      obtain ⟨q0, q1, q2, q3, q4, q5, q6, q7, q8, q9, q10, q11, q12, q13⟩ := cells14 hR
      exact bodyPost_ret (v := .tuple #[.agg #[.slice none 0 0, .int .i64 0, .string ⟨#[]⟩, .int .i64 0, .int .i64 0, .int .i64 0, .int .i64 0, .bool false, .int .i64 0, .int .i64 0, .int .i64 0, .int .i64 0, .string ⟨#[]⟩, .string ⟨#[]⟩], .int .i64 9]) (by simp [results, Tryd.results27, go_sem, q0, q1, q2, q3, q4, q5, q6, q7, q8, q9, q10, q11, q12, q13]) rfl ⟨rfl, below_setRow B4 (Nat.le_refl _) _⟩
set_option maxHeartbeats 4000000 in
set_option maxRecDepth 100000 in
theorem rdef_ok (b o n cap : Nat) (xs : L8.Tks) (hn : xs.length = n) (hm : n ≤ 100000) (w : World) (hb : b < w.heap.size) (hcp : n ≤ cap) (hc : L8.Tksat w b o xs) (hz : ∀ x ∈ xs, x.1.size ≤ 100000) (hsh : shpB (txs xs) = ⟨#[119, 119, 119, 119]⟩) (h1 : naV (g0 (txs xs) 0) = 0) (hx : nuE (g0 (txs xs) 1) (g0 (txs xs) 2) (g0 (txs xs) 3) = 0) (d : Df) (hd : dfV (txs xs) = d) (hsz : sizV d = true) :
    Calls Tryd.prog 27 #[.slice (some ⟨b, o, none⟩) n cap] w fun e w' => e = .returned (.tuple #[.agg #[.slice none 0 0, .int .i64 1, .string d.nm, .int .i64 d.key, .int .i64 d.val, .int .i64 d.ent, .int .i64 0, .bool false, .int .i64 0, .int .i64 0, .int .i64 0, .int .i64 0, .string ⟨#[]⟩, .string ⟨#[]⟩], .int .i64 0]) ∧ Below w.heap.size w w' := by
  have hT : ∀ W, Below w.heap.size w W → L8.TksAt W (.slice (some ⟨b, o, none⟩) n cap) xs := fun W hB => .inl ⟨b, o, cap, by rw [hn], by rw [hn]; exact hcp, Nat.lt_of_lt_of_le hb hB.size, hc.below hb hB⟩
  have HSH := Lib.hid (fun (W : World) (hB : Below w.heap.size w W) => L8.rshape_at (.slice (some ⟨b, o, none⟩) n cap) xs (by rw [hn]; exact hm) W (hT W hB))
  have h4 := def_four hsh
  have hn4 : n = 4 := by omega
  rw [shp_txs, hsh] at HSH
  obtain ⟨t0, e0, c0⟩ := tks_cell hc 0 (by omega)
  obtain ⟨t1, e1, c1⟩ := tks_cell hc 1 (by omega)
  obtain ⟨t2, e2, c2⟩ := tks_cell hc 2 (by omega)
  obtain ⟨t3, e3, c3⟩ := tks_cell hc 3 (by omega)
  have g0' : g0 (txs xs) 0 = t0 := by rw [← e0]; simp [g0, txs, List.getD, h4]
  have g1' : g0 (txs xs) 1 = t1 := by rw [← e1]; simp [g0, txs, List.getD, h4]
  have g2' : g0 (txs xs) 2 = t2 := by rw [← e2]; simp [g0, txs, List.getD, h4]
  have g3' : g0 (txs xs) 3 = t3 := by rw [← e3]; simp [g0, txs, List.getD, h4]
  subst hn4
  have k0 := hz _ (List.getElem_mem (show 0 < xs.length by omega))
  have k1 := hz _ (List.getElem_mem (show 1 < xs.length by omega))
  have k2 := hz _ (List.getElem_mem (show 2 < xs.length by omega))
  have k3 := hz _ (List.getElem_mem (show 3 < xs.length by omega))
  rw [e0] at k0
  rw [e1] at k1
  rw [e2] at k2
  rw [e3] at k3
  have hC0 : ∀ W, Below w.heap.size w W → W.cell? ⟨b, o, none⟩ = some (.string t0) := fun W hB => (hB.cell (p := ⟨b, o, none⟩) hb).trans (by simpa using c0)
  have hC1 : ∀ W, Below w.heap.size w W → W.cell? ⟨b, o + 2, none⟩ = some (.string t1) := fun W hB => (hB.cell (p := ⟨b, o + 2, none⟩) hb).trans (by simpa using c1)
  have hC2 : ∀ W, Below w.heap.size w W → W.cell? ⟨b, o + 4, none⟩ = some (.string t2) := fun W hB => (hB.cell (p := ⟨b, o + 4, none⟩) hb).trans (by simpa using c2)
  have hC3 : ∀ W, Below w.heap.size w W → W.cell? ⟨b, o + 6, none⟩ = some (.string t3) := fun W hB => (hB.cell (p := ⟨b, o + 6, none⟩) hb).trans (by simpa using c3)
  rw [g0'] at h1
  have HNM := Lib.hid (fun W => rnam_at t0 0 W (by omega) h1)
  have HC0 := Lib.hid hC0
  obtain ⟨v1, hv1⟩ : ∃ v, (nuV t1 32).1 = v := ⟨_, rfl⟩
  obtain ⟨x1, hx1⟩ : ∃ x, (nuV t1 32).2 = x := ⟨_, rfl⟩
  have HN1 := Lib.hid (fun W => rnumber_at t1 32 v1 x1 W (by unfold maxLen; omega) hv1 hx1)
  have HC1 := Lib.hid hC1
  obtain ⟨v2, hv2⟩ : ∃ v, (nuV t2 32).1 = v := ⟨_, rfl⟩
  obtain ⟨x2, hx2⟩ : ∃ x, (nuV t2 32).2 = x := ⟨_, rfl⟩
  have HN2 := Lib.hid (fun W => rnumber_at t2 32 v2 x2 W (by unfold maxLen; omega) hv2 hx2)
  have HC2 := Lib.hid hC2
  obtain ⟨v3, hv3⟩ : ∃ v, (nuV t3 32).1 = v := ⟨_, rfl⟩
  obtain ⟨x3, hx3⟩ : ∃ x, (nuV t3 32).2 = x := ⟨_, rfl⟩
  have HN3 := Lib.hid (fun W => rnumber_at t3 32 v3 x3 W (by unfold maxLen; omega) hv3 hx3)
  have HC3 := Lib.hid hC3
  rw [g1', g2', g3'] at hx
  have hE : x1 = 0 ∧ x2 = 0 ∧ x3 = 0 := by
    unfold nuE at hx
    rw [hx1, hx2, hx3] at hx
    split at hx
    · rename_i h; exact absurd hx h
    · rename_i q1
      split at hx
      · rename_i h; exact absurd hx h
      · rename_i q2
        exact ⟨by simpa using q1, by simpa using q2, hx⟩
  obtain ⟨r1, r2, r3⟩ := hE
  have hd' : d = ⟨t0, v1, v2, v3⟩ := by rw [← hd]; unfold dfV; rw [g0', g1', g2', g3', hv1, hv2, hv3]
  subst hd'
  have HSZ := Lib.hid (show ∀ W, Calls Tryd.prog 58 #[.agg #[.string t0, .int .i64 v1, .int .i64 v2, .int .i64 v3]] W fun e w' => e = .returned (.bool true) ∧ Below W.heap.size W w' from fun W => rsizes_at ⟨t0, v1, v2, v3⟩ true W hsz)
  rw [r1] at HN1
  rw [r2] at HN2
  rw [r3] at HN3
  clear hx hd hsz
  clear hT hc hsh e0 e1 e2 e3 g0' g1' g2' g3' c0 c1 c2 c3 hC0 hC1 hC2 hC3 k0 k1 k2 k3 hz h1 hv1 hv2 hv3 hx1 hx2 hx3
  clear r1 r2 r3
  go_enter Tryd.func27, Tryd.ntmps27
  go_wp2_with (first | (go_at_call 31; ((with_reducible refine (HSH.out _ (L8.bnew _ _)).mono ?_); rintro e w1 ⟨rfl, b1⟩; have hS := row_up (heap_alloc_last w (.cells #[.slice none 0 0, .int .i64 0, .string ⟨#[]⟩, .int .i64 0, .int .i64 0, .int .i64 0, .int .i64 0, .bool false, .int .i64 0, .int .i64 0, .int .i64 0, .int .i64 0, .string ⟨#[]⟩, .string ⟨#[]⟩] 33)) b1; have B1 := L2.bch (L8.bnew w (.cells #[.slice none 0 0, .int .i64 0, .string ⟨#[]⟩, .int .i64 0, .int .i64 0, .int .i64 0, .int .i64 0, .bool false, .int .i64 0, .int .i64 0, .int .i64 0, .int .i64 0, .string ⟨#[]⟩, .string ⟨#[]⟩] 33)) b1; have y0 := HC0.out _ B1)) | (go_at_call 26; ((with_reducible refine (HNM.out _).mono ?_); rintro e w2 ⟨rfl, rfl⟩)))
  have hS1 := row_up hS (L8.bnew w1 (.cells #[.int .i64 0, .int .i64 0, .int .i64 0] 99))
  have hA1 := heap_alloc_last w1 (.cells #[.int .i64 0, .int .i64 0, .int .i64 0] 99)
  have B2 := L2.bch B1 (L8.bnew w1 (.cells #[.int .i64 0, .int .i64 0, .int .i64 0] 99))
  have hgw : w.heap.size < w1.heap.size := Nat.lt_of_lt_of_le (by simp) b1.size
  generalize w1.heap.size = g at hS1 hA1 hgw ⊢
  generalize w1.alloc (.cells _ 99) = W0 at hS1 hA1 B2 ⊢
  clear hS b1 B1 y0
  go_loopw [5] (fun a wr => wr.heap[w.heap.size]? = some (.cells #[.slice none 0 0, .int .i64 0, .string ⟨#[]⟩, .int .i64 0, .int .i64 0, .int .i64 0, .int .i64 0, .bool false, .int .i64 0, .int .i64 0, .int .i64 0, .int .i64 0, .string ⟨#[]⟩, .string ⟨#[]⟩] 33) ∧ Below w.heap.size w wr ∧ ((a = .int .i64 0 ∧ wr.heap[g]? = some (.cells #[.int .i64 0, .int .i64 0, .int .i64 0] 99)) ∨ (a = .int .i64 1 ∧ wr.heap[g]? = some (.cells #[.int .i64 v1, .int .i64 0, .int .i64 0] 99)) ∨ (a = .int .i64 2 ∧ wr.heap[g]? = some (.cells #[.int .i64 v1, .int .i64 v2, .int .i64 0] 99)) ∨ (a = .int .i64 3 ∧ wr.heap[g]? = some (.cells #[.int .i64 v1, .int .i64 v2, .int .i64 v3] 99)))) (fun a _ => 3 - (intOf a).toNat)
  case atStart => exact ⟨hS1, B2, .inl ⟨rfl, hA1⟩⟩
  case round =>
    obtain ⟨hS, hB, hst⟩ := hrel
    clear hS1 hA1 B2
    rcases hst with ⟨rfl, hA⟩ | ⟨rfl, hA⟩ | ⟨rfl, hA⟩ | ⟨rfl, hA⟩
    · have y := HC1.out _ hB
      obtain ⟨z0, z1, z2⟩ := cells3 hA
      have f := frozen_all hA 0
      go_wp2_with ((go_at_call 57; ((with_reducible refine (HN1.out _).mono ?_); rintro e w2 ⟨rfl, rfl⟩)))
      go_roundw
      case rel => exact ⟨row_other hS 0 _ (by omega), hB.setCell (p := ⟨g, 0, none⟩) (by show w.heap.size ≤ g; omega) _, .inr (.inl ⟨by go_num, row_set hA 0 _⟩)⟩
      case measure => simp [intOf]
    · have y := HC2.out _ hB
      obtain ⟨z0, z1, z2⟩ := cells3 hA
      have f := frozen_all hA 1
      go_wp2_with ((go_at_call 57; ((with_reducible refine (HN2.out _).mono ?_); rintro e w2 ⟨rfl, rfl⟩)))
      go_roundw
      case rel => exact ⟨row_other hS 1 _ (by omega), hB.setCell (p := ⟨g, 1, none⟩) (by show w.heap.size ≤ g; omega) _, .inr (.inr (.inl ⟨by go_num, row_set hA 1 _⟩))⟩
      case measure => simp [intOf]
    · have y := HC3.out _ hB
      obtain ⟨z0, z1, z2⟩ := cells3 hA
      have f := frozen_all hA 2
      go_wp2_with ((go_at_call 57; ((with_reducible refine (HN3.out _).mono ?_); rintro e w2 ⟨rfl, rfl⟩)))
      go_roundw
      case rel => exact ⟨row_other hS 2 _ (by omega), hB.setCell (p := ⟨g, 2, none⟩) (by show w.heap.size ≤ g; omega) _, .inr (.inr (.inr ⟨by go_num, row_set hA 2 _⟩))⟩
      case measure => simp [intOf]
    · have y := HC0.out _ hB
      obtain ⟨z0, z1, z2⟩ := cells3 hA
      have hbl : b < wr.heap.size := Nat.lt_of_lt_of_le hb hB.size
      have hgl := lt_of_block hA
      go_upto_region 13 with (fail)
      go_region
      have hb1 : Below wr.heap.size wr (wr.alloc (.cells #[.string t0, .int .i64 v1, .int .i64 v2, .int .i64 v3] 29)).drew := bdrd (L8.bnew wr _)
      have hS3 := row_up hS hb1
      have B3 := L2.bch hB hb1
      have hD : (wr.alloc (.cells #[.string t0, .int .i64 v1, .int .i64 v2, .int .i64 v3] 29)).drew.heap[wr.heap.size]? = some (.cells #[.string t0, .int .i64 v1, .int .i64 v2, .int .i64 v3] 29) := heap_alloc_last wr _
      obtain ⟨d0, d1, d2, d3⟩ := cells4 hD
      generalize wr.heap.size = gd at hD d0 d1 d2 d3 ⊢
      generalize (wr.alloc (.cells _ 29)).drew = W3 at hS3 B3 hD d0 d1 d2 d3 ⊢
      clear hb1 hbl hgl y z0 z1 z2 hA hS hB
      go_wp2_with (first | (go_at_call 58; ((with_reducible refine (HSZ.out _).mono ?_); rintro e w4 ⟨rfl, b4⟩; have hS4 := row_up hS3 b4; have B4 := L2.bch B3 b4; have hD4 := row_up hD b4; clear d0 d1 d2 d3; obtain ⟨d0, d1, d2, d3⟩ := cells4 hD4)) | (refine wpList_store_row rfl _ _ _ rfl w.heap.size #[.slice none 0 0, .int .i64 1, .string t0, .int .i64 v1, .int .i64 v2, .int .i64 v3, .int .i64 0, .bool false, .int .i64 0, .int .i64 0, .int .i64 0, .int .i64 0, .string ⟨#[]⟩, .string ⟨#[]⟩] rfl rfl 33 _ hS4 (by kernel_rfl) rfl (by simp [Value.oneCell']) ?_))
      have hR := setRow_heap _ _ _ #[.slice none 0 0, .int .i64 1, .string t0, .int .i64 v1, .int .i64 v2, .int .i64 v3, .int .i64 0, .bool false, .int .i64 0, .int .i64 0, .int .i64 0, .int .i64 0, .string ⟨#[]⟩, .string ⟨#[]⟩] _ _ hS4
      obtain ⟨q0, q1, q2, q3, q4, q5, q6, q7, q8, q9, q10, q11, q12, q13⟩ := cells14 hR
      exact bodyPost_ret (v := .tuple #[.agg #[.slice none 0 0, .int .i64 1, .string t0, .int .i64 v1, .int .i64 v2, .int .i64 v3, .int .i64 0, .bool false, .int .i64 0, .int .i64 0, .int .i64 0, .int .i64 0, .string ⟨#[]⟩, .string ⟨#[]⟩], .int .i64 0]) (by simp [results, Tryd.results27, go_sem, q0, q1, q2, q3, q4, q5, q6, q7, q8, q9, q10, q11, q12, q13]) rfl ⟨rfl, below_setRow B4 (Nat.le_refl _) _⟩
theorem rdefine_at (v : Value) (xs : L8.Tks) (hm : xs.length ≤ 100000) (hz : ∀ x ∈ xs, x.1.size ≤ 100000) (w : World) (hv : L8.TksAt w v xs) (r : Rs) (x : Int) (h : deV (txs xs) = (r, x)) :
    Calls Tryd.prog 27 #[v] w fun e w' => e = .returned (.tuple #[.agg (rsA (.slice none 0 0) r), .int .i64 x]) ∧ Below w.heap.size w w' := by
  unfold deV at h
  by_cases h1 : shpB (txs xs) = ⟨#[119, 119, 119, 119]⟩
  · rw [if_neg (by simpa using h1)] at h
    rcases hv with ⟨b, o, cap, rfl, hcp, hb, hc⟩ | ⟨rfl, a, cap, rfl⟩
    · by_cases h2 : naV (g0 (txs xs) 0) = 0
      · rw [if_neg (by simpa using h2)] at h
        by_cases h3 : nuE (g0 (txs xs) 1) (g0 (txs xs) 2) (g0 (txs xs) 3) = 0
        · rw [if_neg (by simpa using h3)] at h
          cases h4 : sizV (dfV (txs xs))
          · rw [if_pos h4] at h
            cases h
            exact rdef_size b o _ cap xs rfl hm w hb hcp hc hz h1 h2 h3 _ rfl h4
          · rw [if_neg (by rw [h4]; simp)] at h
            cases h
            exact rdef_ok b o _ cap xs rfl hm w hb hcp hc hz h1 h2 h3 _ rfl h4
        · rw [if_pos h3] at h
          cases h
          exact rdef_num b o _ cap xs rfl hm w hb hcp hc hz h1 h2 _ rfl h3
      · rw [if_pos h2] at h
        cases h
        exact rdef_name b o _ cap xs rfl hm w hb hcp hc hz h1 h2
    · exact absurd h1 (by decide)
  · rw [if_pos h1] at h
    cases h
    exact rdef_shape v xs hm w hv h1
end Go.Proofs.YtjcaonbejhdhkaaDoor.L9
