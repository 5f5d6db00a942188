/- What the nine checks of the program's conditions return. Condition: the tables read as the program's text lays them; memory holds the program, its labels, and the sets of names, which are maps of the call's own. -/
import Derived.Test.YtbneaihpnfkcdaaDoorL10Ea
namespace Go.Proofs.YtbneaihpnfkcdaaDoor.L10
open Go.RowKit Go.Maps
attribute [local go_sem] Oper.semAt_some

theorem set_of {w W : World} {g : Nat} {ks : List ByteArray} (h : SetAt w g ks) (e : W.heap[g]? = w.heap[g]?) : SetAt W g ks := by
  obtain ⟨es, n, h1, h2⟩ := h
  exact ⟨es, n, e.trans h1, h2⟩
theorem set_lt {w : World} {g : Nat} {ks : List ByteArray} (h : SetAt w g ks) : g < w.heap.size := by
  obtain ⟨es, n, h1, h2⟩ := h
  exact (Array.getElem?_eq_some_iff.1 h1).1
theorem set_below {w W : World} {g : Nat} {ks : List ByteArray} (h : SetAt w g ks) (hb : Below w.heap.size w W) : SetAt W g ks := set_of h (hb.block _ (set_lt h))
theorem one_text (W : World) (t : ByteArray) (ty : TypeId) (k : Nat) (hk : k = W.heap.size) : L8.StAt (W.alloc (.cells #[.string t] ty)) (.slice (some ⟨k, 0, none⟩) 1 1) [t] := by
  subst hk
  refine .inl ⟨W.heap.size, 0, 1, rfl, by simp, fun j hj => ?_⟩
  obtain rfl : j = 0 := by simpa using hj
  have h := heap_alloc_last W (.cells #[.string t] ty)
  unfold World.cell?
  rw [h]
  rfl
theorem look_run {w : World} {g : Nat} {ks : List ByteArray} {x : ByteArray} {b : Bool} (h : SetAt w g ks) (hx : x.size ≤ maxLen) (hb : L2.on ks x = b) : (Instr.lookup 89 (.map (some g)) (.string x) false).run Tryd.prog w = .ok (.bool b) w := by
  have hz : (zeroValue 4).run Tryd.prog w = .ok (.bool false) w := by kernel_rfl
  obtain ⟨v, ps, hrun, hv⟩ := World.ownsMap.lookup h L2.law9 Tryd.underlying89 hz (plainElem_bool Tryd.underlying4 false) (key_of hx)
  rw [Sl_at, hb] at hv
  obtain ⟨y, rfl, hy⟩ := L2.bool_inv Tryd.underlying4 hv
  simp only [Prod.mk.injEq, DataW.lit.injEq, Lit.bool.injEq] at hy
  rw [hrun, hy.1]
set_option maxHeartbeats 1000000 in
theorem c1_at (i : Int) (d : L9.Df) (r : Int) (w : World) (hT : L2.Regs w) (h : deE d = r) : Calls Tryd.prog 51 #[.int .i64 i, .agg #[.string d.nm, .int .i64 d.key, .int .i64 d.val, .int .i64 d.ent]] w fun e w' => e = .returned (.int .i64 r) ∧ Below w.heap.size w w' := by
  have HD := Lib.hid (fun (W : World) (hb : Below w.heap.size w W) => checkDef_at d r W (hT.below hb) h)
  clear hT h
  go_enter Tryd.func51, Tryd.ntmps51
  go_wp2_with (go_at_call 52; ((with_reducible refine (HD.out _ (L8.bnew w _)).mono ?_); rintro e w1 ⟨rfl, b1⟩))
  go_ret
  exact ⟨rfl, L2.bch (L8.bnew _ _) b1⟩
set_option maxHeartbeats 1000000 in
theorem c2_at (i : Int) (lv : Value) (s : Stm) (r : Int) (w : World) (hT : L1.Wid w ∧ L2.Regs w) (hv : L8.StAt w lv s.labs) (hm : s.labs.length ≤ 100000) (h : stE s = r) : Calls Tryd.prog 54 #[.int .i64 i, .agg (smA lv s.x.op s.x.reg s.x.dst s.x.src s.x.off s.x.imm s.tg s.mp)] w fun e w' => e = .returned (.int .i64 r) ∧ Below w.heap.size w w' := by
  have HD := Lib.hid (fun (W : World) (hb : Below w.heap.size w W) => checkStmt_at lv s.labs s.x.op s.x.reg s.x.dst s.x.src s.x.off s.x.imm s.tg s.mp r W ⟨L4.wid_below hT.1 hb, hT.2.below hb⟩ (hv.below hb) hm h)
  obtain ⟨ln, hln⟩ : ∃ ln, s.labs.length = ln := ⟨_, rfl⟩
  obtain ⟨la, lc, rfl, -⟩ := st_form hln hv
  clear hT h hv hm hln
  go_enter Tryd.func54, Tryd.ntmps54
  go_wp2_with (go_at_call 55; ((with_reducible refine (HD.out _ (L8.bnew w _)).mono ?_); rintro e w1 ⟨rfl, b1⟩))
  go_ret
  exact ⟨rfl, L2.bch (L8.bnew _ _) b1⟩
theorem c3_at (j : Nat) (a b c : Int) (t : ByteArray) (r : Int) (w : World) (h : (if j < 255 then 0 else 16) = r) : Calls Tryd.prog 56 #[.int .i64 (j : Int), .agg #[.string t, .int .i64 a, .int .i64 b, .int .i64 c]] w fun e w' => e = .returned (.int .i64 r) ∧ Below w.heap.size w w' := by
  obtain ⟨v, hv⟩ : ∃ v, decide ((j : Int) < 255) = v := ⟨_, rfl⟩
  have HU := Lib.hid (fun W => unless_at v 16 r W (by rw [← h, ← hv]; by_cases hj : j < 255 <;> simp [hj] <;> omega))
  clear h
  cases v
  all_goals
    have hv' := hv
    simp only [decide_eq_true_eq, decide_eq_false_iff_not] at hv'
    go_enter Tryd.func56, Tryd.ntmps56
    go_wp2_with (go_at_call 57; ((with_reducible refine (HU.out _).mono ?_); rintro e w1 ⟨rfl, rfl⟩))
    go_ret
    exact ⟨rfl, L8.bnew _ _⟩
set_option maxHeartbeats 1000000 in
theorem c4_at (i : Int) (a b c : Int) (t : ByteArray) (k3 g : Nat) (ks : List ByteArray) (r : Int) (w : World) (hc : w.cell? ⟨k3, 0, none⟩ = some (.map (some g))) (hs : SetAt w g ks) (hz : t.size ≤ maxLen) (hm : ks.length + 1 ≤ 100000) (h : (if addB ks [t] then 0 else 10) = r) :
    Calls Tryd.prog 58 #[.int .i64 i, .agg #[.string t, .int .i64 a, .int .i64 b, .int .i64 c], .pointer (some ⟨k3, 0, none⟩)] w fun e w' => e = .returned (.int .i64 r) ∧ w.grownBy w' (some g) ∧ (r = 0 → SetAt w' g (ks ++ [t])) := by
  obtain ⟨v, hv⟩ : ∃ v, addB ks [t] = v := ⟨_, rfl⟩
  rw [hv] at h
  have HA := Lib.hid (fun (W : World) (hb : Below w.heap.size w W) (v' : Value) (hl : L8.StAt W v' [t]) => add_at v' g ks [t] W (by simpa using hm) (set_below hs hb) (fun x hx => by simp at hx; rw [hx]; exact hz) hl v hv)
  have HU := Lib.hid (fun W => unless_at v 10 r W h)
  have HR := Lib.hid h
  have hk := World.block_lt_of_cell? w _ hc
  clear hv h hs
  go_enter Tryd.func58, Tryd.ntmps58
  go_wp2_with (first | (go_at_call 59; ((with_reducible refine (HA.out _ (L2.bch (L8.bnew w _) (L8.bnew _ _)) _ (one_text _ t _ _ (by simp))).mono ?_); rintro e w1 ⟨rfl, g1, s1⟩)) | (go_at_call 57; ((with_reducible refine (HU.out _).mono ?_); rintro e w2 ⟨rfl, rfl⟩)))
  go_ret
  refine ⟨rfl, gr_tr (gr_of (L2.bch (L8.bnew w _) (L8.bnew _ _)) _) g1, fun h0 => s1 ?_⟩
  cases v
  · have := HR.out; simp at this; omega
  · rfl
set_option maxHeartbeats 1000000 in
theorem c5_at (i : Int) (lv : Value) (s : Stm) (k4 g : Nat) (ks : List ByteArray) (r : Int) (w : World) (hc : w.cell? ⟨k4, 0, none⟩ = some (.map (some g))) (hs : SetAt w g ks) (hz : ∀ t ∈ s.labs, t.size ≤ maxLen) (hm : ks.length + s.labs.length ≤ 100000) (hl : L8.StAt w lv s.labs) (h : (if addB ks s.labs then 0 else 10) = r) :
    Calls Tryd.prog 60 #[.int .i64 i, .agg (smA lv s.x.op s.x.reg s.x.dst s.x.src s.x.off s.x.imm s.tg s.mp), .pointer (some ⟨k4, 0, none⟩)] w fun e w' => e = .returned (.int .i64 r) ∧ w.grownBy w' (some g) ∧ (r = 0 → SetAt w' g (ks ++ s.labs)) := by
  obtain ⟨v, hv⟩ : ∃ v, addB ks s.labs = v := ⟨_, rfl⟩
  rw [hv] at h
  have HA := Lib.hid (fun (W : World) (hb : Below w.heap.size w W) => add_at lv g ks s.labs W hm (set_below hs hb) hz (hl.below hb) v hv)
  have HU := Lib.hid (fun W => unless_at v 10 r W h)
  have HR := Lib.hid h
  have hk := World.block_lt_of_cell? w _ hc
  obtain ⟨ln, hln⟩ : ∃ ln, s.labs.length = ln := ⟨_, rfl⟩
  obtain ⟨la, lc, rfl, -⟩ := st_form hln hl
  clear hv h hs hl hln hm hz
  go_enter Tryd.func60, Tryd.ntmps60
  go_wp2_with (first | (go_at_call 59; ((with_reducible refine (HA.out _ (L8.bnew w _)).mono ?_); rintro e w1 ⟨rfl, g1, s1⟩)) | (go_at_call 57; ((with_reducible refine (HU.out _).mono ?_); rintro e w2 ⟨rfl, rfl⟩)))
  go_ret
  refine ⟨rfl, gr_tr (gr_of (L8.bnew w _) _) g1, fun h0 => s1 ?_⟩
  cases v
  · have := HR.out; simp at this; omega
  · rfl
theorem c6_at (k1 n cap : Nat) (a : Option Addr) (r : Int) (w : World) (hc : w.cell? ⟨k1, 1, none⟩ = some (.slice a n cap)) (h : (if 0 < n then 0 else 15) = r) :
    Calls Tryd.prog 61 #[.pointer (some ⟨k1, 0, none⟩)] w fun e w' => e = .returned (.tuple #[.int .i64 0, .int .i64 r]) ∧ w = w' := by
  obtain ⟨v, hv⟩ : ∃ v, decide (0 < n) = v := ⟨_, rfl⟩
  have HU := Lib.hid (fun W => unless_at v 15 r W (by rw [← h, ← hv]; by_cases hj : 0 < n <;> simp [hj] <;> omega))
  clear h
  cases v
  all_goals
    simp only [decide_eq_true_eq, decide_eq_false_iff_not] at hv
    have hv1 : (0 : Int) < (n : Int) ↔ 0 < n := by omega
    go_enter Tryd.func61, Tryd.ntmps61
    go_wp2_with (go_at_call 57; ((with_reducible refine (HU.out _).mono ?_); rintro e w1 ⟨rfl, rfl⟩))
    go_ret2
    exact ⟨rfl, rfl⟩
set_option maxHeartbeats 2000000 in
set_option maxRecDepth 100000 in
theorem c7_at (i : Int) (la : Option Addr) (ln lc : Nat) (s : Stm) (k4 k3 g4 g3 : Nat) (ls ms : List ByteArray) (r : Int) (w : World) (hc4 : w.cell? ⟨k4, 0, none⟩ = some (.map (some g4))) (hc3 : w.cell? ⟨k3, 0, none⟩ = some (.map (some g3))) (hs4 : SetAt w g4 ls) (hs3 : SetAt w g3 ms) (hz : s.tg.size ≤ maxLen ∧ s.mp.size ≤ maxLen)
    (h : (if (s.tg.toList.isEmpty || L2.on ls s.tg) && (s.mp.toList.isEmpty || L2.on ms s.mp) then 0 else 11) = r) :
    Calls Tryd.prog 62 #[.int .i64 i, .agg (smA (.slice la ln lc) s.x.op s.x.reg s.x.dst s.x.src s.x.off s.x.imm s.tg s.mp), .pointer (some ⟨k4, 0, none⟩), .pointer (some ⟨k3, 0, none⟩)] w fun e w' => e = .returned (.int .i64 r) ∧ Below w.heap.size w w' := by
  obtain ⟨labs, x, tg, mp⟩ := s
  simp only at hz h ⊢
  obtain ⟨bt, hbt⟩ : ∃ v, L2.on ls tg = v := ⟨_, rfl⟩
  obtain ⟨bm, hbm⟩ : ∃ v, L2.on ms mp = v := ⟨_, rfl⟩
  rw [hbt, hbm] at h
  have hl4 := look_run (set_below hs4 (L8.bnew w (.cells (smA (.slice la ln lc) x.op x.reg x.dst x.src x.off x.imm tg mp) 30))) hz.1 hbt
  have hl3 := look_run (set_below hs3 (L8.bnew w (.cells (smA (.slice la ln lc) x.op x.reg x.dst x.src x.off x.imm tg mp) 30))) hz.2 hbm
  have hk4 := World.block_lt_of_cell? w _ hc4
  have hk3 := World.block_lt_of_cell? w _ hc3
  have HR := Lib.hid h
  clear hbt hbm hs4 hs3 h hz
  cases hte : tg.toList.isEmpty <;> cases bt <;> cases hme : mp.toList.isEmpty <;> cases bm
  all_goals
    rw [hte, hme] at HR
    have hR := HR.out
    simp at hR
    subst hR
    clear HR
    go_enter Tryd.func62, Tryd.ntmps62
    go_wp2
    go_ret
    exact ⟨rfl, L8.bnew _ _⟩
set_option maxHeartbeats 1000000 in
theorem c8_at (i : Int) (la : Option Addr) (ln lc : Nat) (s : Stm) (r : Int) (w : World) (h : wrE s = r) :
    Calls Tryd.prog 63 #[.int .i64 i, .agg (smA (.slice la ln lc) s.x.op s.x.reg s.x.dst s.x.src s.x.off s.x.imm s.tg s.mp)] w fun e w' => e = .returned (.int .i64 r) ∧ Below w.heap.size w w' := by
  obtain ⟨v, hv⟩ : ∃ v, L4.wri (fmI s.x) s.x.dst = v := ⟨_, rfl⟩
  have HW := Lib.hid (fun W => L4.writes_at s.x.op s.x.reg s.x.dst s.x.src s.x.off s.x.imm _ v W rfl hv)
  unfold wrE at h
  rw [hv] at h
  clear hv
  by_cases h10 : v = 10
  · subst h10
    have HU := Lib.hid (fun W => unless_at false 14 r W (by rw [← h]; rfl))
    clear h
    go_enter Tryd.func63, Tryd.ntmps63
    go_wp2_with (go_at_call 64; ((with_reducible refine (HW.out _).mono ?_); rintro e w1 ⟨rfl, b1⟩))
    refine Calls.mono (HU.out _) ?_
    rintro e w2 ⟨rfl, rfl⟩
    go_wp2
    go_ret
    exact ⟨rfl, L2.bch (L8.bnew _ _) b1⟩
  · have HU := Lib.hid (fun W => unless_at (v != 10) 14 r W (by rw [← h, if_neg h10]; simp [h10]))
    clear h
    go_enter Tryd.func63, Tryd.ntmps63
    go_wp2_with (go_at_call 64; ((with_reducible refine (HW.out _).mono ?_); rintro e w1 ⟨rfl, b1⟩))
    refine Calls.mono (HU.out _) ?_
    rintro e w2 ⟨rfl, rfl⟩
    go_wp2
    go_ret
    exact ⟨rfl, L2.bch (L8.bnew _ _) b1⟩
set_option maxHeartbeats 1000000 in
theorem c9_at (j : Nat) (la : Option Addr) (ln lc : Nat) (s : Stm) (k1 n cap : Nat) (a : Option Addr) (r : Int) (w : World) (hc : w.cell? ⟨k1, 1, none⟩ = some (.slice a n cap)) (hn : n ≤ 100000) (h : enE n j s = r) :
    Calls Tryd.prog 65 #[.int .i64 (j : Int), .agg (smA (.slice la ln lc) s.x.op s.x.reg s.x.dst s.x.src s.x.off s.x.imm s.tg s.mp), .pointer (some ⟨k1, 0, none⟩)] w fun e w' => e = .returned (.int .i64 r) ∧ Below w.heap.size w w' := by
  unfold enE at h
  obtain ⟨v, hv⟩ : ∃ v, L4.endF (fmI s.x) = v := ⟨_, rfl⟩
  rw [hv] at h
  have HE := Lib.hid (fun W => L4.ends_at s.x.op s.x.reg s.x.dst s.x.src s.x.off s.x.imm _ v W rfl hv)
  have hk := World.block_lt_of_cell? w _ hc
  have hw : IntKind.i64.wrap ((n : Int) - 1) = (n : Int) - 1 := IntWalk.i64_in _ (by omega)
  clear hv
  by_cases hj : (j : Int) < (n : Int) - 1
  · obtain rfl : 0 = r := by rw [← h]; simp [hj]
    clear h
    go_enter Tryd.func65, Tryd.ntmps65
    go_wp2
    go_ret
    exact ⟨rfl, L8.bnew _ _⟩
  · have HU := Lib.hid (fun W => unless_at v 15 r W (by rw [← h]; simp [hj]))
    clear h
    go_enter Tryd.func65, Tryd.ntmps65
    go_wp2_with (go_at_call 66; ((with_reducible refine (HE.out _).mono ?_); rintro e w1 ⟨rfl, b1⟩))
    refine Calls.mono (HU.out _) ?_
    rintro e w2 ⟨rfl, rfl⟩
    go_wp2
    go_ret
    exact ⟨rfl, L2.bch (L8.bnew _ _) b1⟩
end Go.Proofs.YtbneaihpnfkcdaaDoor.L10
