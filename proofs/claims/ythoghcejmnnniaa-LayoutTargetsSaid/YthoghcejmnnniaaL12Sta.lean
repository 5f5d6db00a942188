/- What Starts returns: the slot of each instruction, and all slots. Condition: memory holds the instructions, which are no more than 1000000. -/
import Derived.Test.YthoghcejmnnniaaL12Itr
namespace Go.Proofs.Ythoghcejmnnniaa.L12
open Go.RowKit Go.Shelf L3 L4
attribute [local go_sem] Oper.semAt_some

theorem infoInt : (Try.prog.info? 3).map (fun i => (i.zero, i.size, i.bytes)) = some (some (.int .i64 0), 1, 8) := by kernel_rfl
theorem Boxed.below {W W' : World} {B : Nat} {t : TypeId} {v : Value} (h : Boxed W B t v) (hb : Below W.heap.size W W') : Boxed W' B t v := (hb.block B h.lt).trans h
theorem KI.row {W W' : World} {base e : TypeId} {size : Nat} {v : Value} {n : Nat} {xs : List Value} (hr : W.ownsRow base e size v n xs) (he : e ≠ 34) (hg : W.grownBy W' v.ownBlock) : KI W W' := fun i cs fr h => by
  refine (hg.block i (lt_of_block h) (fun eq => ?_)).trans h
  rcases hr.2 with ⟨rfl, _⟩ | ⟨g, cap, cur, rfl, _, hh, _⟩
  · simp [Value.ownBlock] at eq
  · obtain rfl : i = g := by simpa [Value.ownBlock] using eq
    rw [h] at hh
    simp only [Option.some.injEq, Obj.cells.injEq] at hh
    exact he hh.2.1.symm
theorem box_putObj {W : World} {B : Nat} {t : TypeId} {v : Value} (h : Boxed W B t v) {l : Nat} {o : Obj} (o' : Obj) (hl : W.heap[l]? = some o) (ho : o.isCells = false) : Boxed (W.putObj l o') B t v :=
  h.kept (grownBy_putObj' W l o') (fun e => by
    cases e
    have h' : W.heap[B]? = some (.cells #[v] t (0, 0)) := h
    rw [h'] at hl; cases hl; cases ho)
theorem cells_own {β : Type} (B : Nat) (t : TypeId) (f : β → Array Value) : Own (fun s W => W.heap[B]? = some (.cells (f s) t)) := fun s X Y row hs hg hrow => by
  have hs' : X.heap[B]? = some (.cells (f s) t) := hs
  exact (hg.block B (lt_of_block hs') (fun e' => by obtain ⟨o, ho, hc⟩ := hrow B e'.symm; rw [hs'] at ho; cases ho; cases hc)).trans hs'
theorem owns_slice {w : World} {base e : TypeId} {size : Nat} {v : Value} {n : Nat} {xs : List Value} (h : w.ownsRow base e size v n xs) : ∃ a c, v = .slice a n c := by
  rcases h.2 with ⟨rfl, rfl⟩ | ⟨g, cap, cur, rfl, _⟩
  · exact ⟨_, _, rfl⟩
  · exact ⟨_, _, rfl⟩

theorem own_weak {w : World} {base base' e : TypeId} {size : Nat} {v : Value} {n : Nat} {xs : List Value} (h : w.ownsRow base e size v n xs) (hb : base' ≤ base) : w.ownsRow base' e size v n xs := by
  refine ⟨h.1, ?_⟩
  rcases h.2 with h | ⟨g, cap, cur, hv, hg, r⟩
  · exact .inl h
  · exact .inr ⟨g, cap, cur, hv, Nat.le_trans hb hg, r⟩
theorem own_off {w : World} {base e : TypeId} {size : Nat} {v : Value} {n : Nat} {xs : List Value} (h : w.ownsRow base e size v n xs) {k : Nat} (hk : k < base) : some k ≠ v.ownBlock := by
  rcases h.2 with ⟨rfl, _⟩ | ⟨g, cap, cur, rfl, hg, _⟩
  · simp [Value.ownBlock]
  · simp [Value.ownBlock]; omega

/-- The slots so far; the slot behind the last. -/
def stC (l : List Sl) : List Value := l.map fun r => .int .i64 (r.a : Int)
def ttN (l : List Sl) : Nat := (l.getLast?.map fun r => r.a + slN r.x).getD 0
theorem stC_snoc (l : List Sl) (x : Sl) : stC (l ++ [x]) = stC l ++ [.int .i64 (x.a : Int)] := by simp [stC]
theorem ttN_snoc (l : List Sl) (x : Sl) : ttN (l ++ [x]) = x.a + slN x.x := by simp [ttN]
theorem stC_all (l : List L9.Ins) (h : l.length ≤ 1000000) : stC (sls 0 l) = (stL 0 l).map fun (a : Nat) => Value.int .i64 (a : Int) := by
  refine List.ext_getElem? fun i => ?_
  unfold stC
  rw [List.getElem?_map, List.getElem?_map]
  by_cases hi : i < l.length
  · rw [sls_get l 0 i hi, stL_get l 0 i hi]
    have := stN_le l i
    simp only [Option.map_some, Sl.a]
    rw [Nat.min_eq_left (by omega)]
  · rw [List.getElem?_eq_none (by rw [sls_len]; omega), List.getElem?_eq_none (by rw [stL_len]; omega)]
    rfl
theorem ttN_all (l : List L9.Ins) (h : l.length ≤ 1000000) : ttN (sls 0 l) = smN l := by
  by_cases h0 : l = []
  · subst h0; rfl
  · have hp : 0 < l.length := List.length_pos_iff.2 h0
    obtain ⟨m, hm⟩ : ∃ m, l.length = m + 1 := ⟨l.length - 1, by omega⟩
    have e := sls_step l m (by omega)
    rw [List.take_of_length_le (by rw [sls_len, hm]; exact Nat.le_refl _)] at e
    have := stN_le l m
    have hs := stN_all l
    rw [hm, stN_succ l m (by omega)] at hs
    rw [e, ttN_snoc, ← hs]
    simp only [Sl.a]
    rw [Nat.min_eq_left (by omega)]

/-- What Starts' loop keeps. -/
def StI (w : World) (g : Nat) (pre : List Sl) (W : World) : Prop :=
  Boxed W (g + 1) 3 (.int .i64 (ttN pre : Int)) ∧ (∃ v, Boxed W g 24 v ∧ W.ownsRow (w.heap.size + 1 + 1 + 1) 3 1 v pre.length (stC pre) ∧ True) ∧ Below w.heap.size w W
theorem stI_own (w : World) (B : Nat) (hB : w.heap.size ≤ B) : OwnFrom B (StI w w.heap.size) :=
  OwnFrom.and (Own.from (boxed_own _ _ (fun pre => .int .i64 (ttN pre : Int))) _) (OwnFrom.and (Own.from (holdsRow_own _ _ _ _ _ (fun pre : List Sl => pre.length) (fun pre => stC pre) (fun _ _ => True)) _) (ownFrom_below (Nat.le_refl _) hB))
/-- What Starts leaves. -/
def StP (w : World) (l : List L9.Ins) (e : Ending) (w' : World) : Prop :=
  (∃ v, e = .returned (.tuple #[v, .int .i64 (smN l : Int)]) ∧ w'.ownsRow w.heap.size 3 1 v l.length ((stL 0 l).map fun (a : Nat) => Value.int .i64 (a : Int))) ∧ Below w.heap.size w w'

set_option maxRecDepth 100000 in
set_option maxHeartbeats 4000000 in
theorem starts_at (v : Value) (l : List L9.Ins) (hl : l.length ≤ 1000000) (w : World) (hv : IsAt w v l) :
    Calls Try.prog 10 #[v] w fun e w' => StP w l e w' := by
  obtain ⟨n, hn⟩ : ∃ n, l.length = n := ⟨_, rfl⟩
  have hL := hv.low
  obtain ⟨ad, cap, rfl, -⟩ := is_form hn hv
  clear hv
  obtain ⟨i0, hi, hz0, hz1, hz2⟩ := info_parts infoInt
  refine (callsIn_wide (n := 6)).1 ?_
  refine callsIn_of_wp_marks Try.func10 rfl trivial ?_ rfl
  simp only [Try.ntmps10, List.size_toArray, List.length_cons, List.length_nil, Nat.reduceAdd, Nat.reduceSub, Array.replicate_succ, Array.replicate_zero, List.push_toArray, List.append_toArray, List.nil_append, List.cons_append]
  gi_wp2_with (refine ⟨trivial, ?_⟩; gi_at_call 26; refine (callsIn_wide.2 (slots_fn ad n cap _)).mono ?_; rintro e w1 ⟨rfl, rfl⟩)
  have b0 := (((Boxed.new w 24 (.slice none 0 0)).alloc (.cells #[.int .i64 0] 3)).alloc (.cells #[.slice ad n cap] 22))
  have b1 := ((Boxed.new (w.alloc (.cells #[.slice none 0 0] 24)) 3 (.int .i64 0)).alloc (.cells #[.slice ad n cap] 22))
  have b2 := Boxed.new ((w.alloc (.cells #[.slice none 0 0] 24)).alloc (.cells #[.int .i64 0] 3)) 22 (.slice ad n cap)
  simp only [World.size_alloc] at b1 b2
  have hB0 : Below w.heap.size w (((w.alloc (.cells #[.slice none 0 0] 24)).alloc (.cells #[.int .i64 0] 3)).alloc (.cells #[.slice ad n cap] 22)) :=
    (((Below.refl _ w).alloc (Nat.le_refl _) _).alloc (by simp) _).alloc (by simp; omega) _
  have hsz : (((w.alloc (.cells #[.slice none 0 0] 24)).alloc (.cells #[.int .i64 0] 3)).alloc (.cells #[.slice ad n cap] 22)).heap.size = w.heap.size + 1 + 1 + 1 := by simp
  obtain ⟨W0, hW0⟩ : ∃ W0, ((w.alloc (.cells #[.slice none 0 0] 24)).alloc (.cells #[.int .i64 0] 3)).alloc (.cells #[.slice ad n cap] 22) = W0 := ⟨_, rfl⟩
  rw [hW0] at b0 b1 b2 hB0 hsz
  have HSZ := Lib.hid hsz
  have hsz1 : w.heap.size + 1 + 1 < W0.heap.size := by omega
  simp only [hW0]
  clear hsz
  clear hW0
  refine wpIn_rangeFunc_ownH rfl (by omega) (gf := 32) (lb := #[.pointer (some ⟨w.heap.size + 1 + 1, 0, none⟩)]) rfl trivial (enters_of Try.func32 (by kernel_rfl) rfl)
    (stops_at _ (by omega) (w.heap.size + 1 + 1) w.heap.size (.slice ad n cap) l hl W0 (by omega) (by omega) b2.cell (hL.below hB0)) (fun h k => Kq.t h k) (fun W l o o' h1 h2 h3 h4 => Kq.b (w := W0) (by omega) W l o o' h1 h2 h3 h4) (Below.refl _ _) (fun _ => rfl)
    (StI w w.heap.size) (fun _ _ _ => False) (stI_own w _ (by omega)) (fun _ => ownFrom_pure _ _)
    ⟨b1, ⟨_, b0, World.ownsRow_nil _ _ _ _, trivial⟩, hB0⟩
    (fun x a' W => ∃ Bx, w.heap.size + 1 < Bx ∧ W.heap[Bx]? = some (.cells (xcs x.x) 34) ∧ a' = { tmps := #[.slice ad n cap, undef, .slice none 0 0, .int .i64 0, .pointer (some ⟨w.heap.size, 0, none⟩), .pointer (some ⟨w.heap.size + 1, 0, none⟩), .int .i64 (x.a : Int), .pointer (some ⟨Bx, 0, none⟩), .slice ad n cap, .func (.func 32) #[] #[.pointer (some ⟨w.heap.size + 1 + 1, 0, none⟩)], .int .i64 (x.a : Int), .agg (xcs x.x), undef, undef, undef, undef, undef, undef, undef, undef, undef], defers := [] })
    (fun x a' _ X Y row hs hg hr => by obtain ⟨Bx, h1, h2, h3⟩ := hs; exact ⟨Bx, h1, cells_own Bx 34 (fun (_ : Unit) => xcs x.x) () X Y row h2 hg (fun r e => (hr r e).2), h3⟩)
    ?assign ?body ?done ?stop
  case assign =>
    rintro lp pre x W K ⟨c1, ⟨vv, c0, hrow, -⟩, hB1⟩ hK
    gi_wp2
    exact hK _ _ ((KeepsOthers.alloc _ _).from _) ⟨(Below.refl _ W).alloc hB1.size _, KI.below (L8.bnew _ _)⟩ ⟨c1.alloc _, ⟨vv, c0.alloc _, hrow.alloc _, trivial⟩, hB1.alloc hB1.size _⟩ ⟨W.heap.size, c1.lt, heap_alloc_last _ _, rfl⟩
  case body =>
    rintro lp pre x a' W hlp ⟨lr, hlr⟩ ⟨c1, ⟨vv, c0, hrow, -⟩, hB1⟩ ⟨Bx, hBx, bX, rfl⟩ hlt
    rw [sls_len, hn] at hlt
    have d0 := c0.cell
    have f0 := c0.frozen
    have hpl : pre.length < 1000000 := by omega
    have hsz := hB1.size
    have hlz : w.heap.size + 1 + 1 + 1 ≤ W.heap.size := by have := lt_of_block hlr; have := HSZ.out; omega
    have hBe := Lib.hid (fun W => callsIn_wide (n := 3).2 (behind_at x.a x.x _ W (by unfold Sl.a; omega) rfl))
    have x0 := six_new bX
    obtain ⟨y0, y1, y2, y3, y4, y5⟩ := x0
    obtain ⟨sa, xx⟩ := x
    obtain ⟨op, reg, dst, src, off, imm⟩ := xx
    generalize hsa : Sl.a _ = s at *
    simp only [Nat.zero_add] at y1 y2 y3 y4 y5
    gi_wp2_with (first | (gi_at_builtin; refine wpListIn_append_own _ rfl _ _ 24 rfl (w.heap.size + 1 + 1 + 1) 3 i0 (.int .i64 0) 1 8 Try.underlying24 hi hz0 hz1 hz2 rfl (by decide) _ _ _ rfl (hrow.alloc _) ⟨W.heap.size, 0, none⟩ 1 1 [.int .i64 (s : Int)] rfl rfl (World.news_of_block (cs := #[.int .i64 (s : Int)]) (t := 3) (fr := (0, 0)) (heap_alloc_last W _)) (by simp [Value.oneCell']) (by unfold maxLen; omega) (by omega) (by simp; omega) ?_; intro v' w1 hown' hgrow _; obtain ⟨g', cap', rfl⟩ := ownsRow_succ hown'; obtain ⟨hv1, hv2, -, hk2, hb2⟩ := c0.appended (by decide) (own_weak hrow (by omega : w.heap.size ≤ w.heap.size + 1 + 1 + 1)) hB1.size (Nat.le_refl _) (own_weak hown' (by omega : w.heap.size ≤ w.heap.size + 1 + 1 + 1)) hgrow; have hc1 := hv1.cell; have hf1 := hv1.frozen; have hki := ((KI.below (L8.bnew W (.cells #[.int .i64 (s : Int)] 3))).trans (KI.row (hrow.alloc _) (by decide) hgrow)).trans (KI.set hv1 (by decide) (.slice (some ⟨g', 0, none⟩) (pre.length + 1) cap')); obtain ⟨z0, z1, z2, z3, z4, z5⟩ := six_new (hki _ _ _ bX); simp only [Nat.zero_add] at z1 z2 z3 z4 z5) | (refine ⟨trivial, ?_⟩; (refine (CallsIn.inRound lp (hBe.out _)).mono ?_; rintro e w4 ⟨rfl, b4⟩; have c1w := Boxed.below ((((c1.alloc (.cells #[.int .i64 (s : Int)] 3)).kept hgrow (own_off hrow (by omega))).other (B' := w.heap.size) (by omega) (.slice (some ⟨g', 0, none⟩) (pre.length + 1) cap'))) b4; have hc2 := c1w.cell; have hf2 := c1w.frozen)))
    have e1 : ((ttN (pre ++ [⟨sa, ⟨op, reg, dst, src, off, imm⟩⟩]) : Nat) : Int) = (s : Int) + (slN ⟨op, reg, dst, src, off, imm⟩ : Int) := by rw [ttN_snoc, hsa]; exact Int.natCast_add _ _
    have e2 := stC_snoc pre ⟨sa, ⟨op, reg, dst, src, off, imm⟩⟩
    rw [hsa] at e2
    have hBB := (hb2.trans (b4.mono (Nat.le_trans hsz hb2.size))).setCell (p := ⟨w.heap.size + 1, 0, none⟩) (Nat.le_succ _) (.int .i64 ((s : Int) + (slN ⟨op, reg, dst, src, off, imm⟩ : Int)))
    have r1 := hown'.kept (grownBy_setCell' w1 w.heap.size (.slice (some ⟨g', 0, none⟩) (pre.length + 1) cap')) (.inr (own_off hown' (by omega)).symm)
    have r2 := L8.own_below r1 b4
    have r3 := r2.kept (grownBy_setCell' w4 (w.heap.size + 1) (.int .i64 ((s : Int) + (slN ⟨op, reg, dst, src, off, imm⟩ : Int)))) (.inr (own_off r2 (by omega)).symm)
    refine ⟨((hk2.trans (keeps_below b4)).trans (KeepsOthers.setCell _ _ _)).from _, ⟨hBB, (hki.trans (KI.below b4)).trans (KI.set c1w (by decide) _)⟩, ?_, ⟨_, (Boxed.below hv2 b4).other (by omega) _, ?_, trivial⟩, hB1.trans hBB⟩
    · rw [e1]; exact c1w.set _
    · rw [e2, List.length_append]; exact r3
  case done =>
    rintro D ys W hD rfl ⟨c1, ⟨vv, c0, hrow, -⟩, hB1⟩ hK
    obtain ⟨va, vc, rfl⟩ := owns_slice hrow
    have d0 := c0.cell
    have d1 := c1.cell
    have hmx : Try.prog.follows .mixedOrders = true := by kernel_rfl
    have hlx : Try.prog.follows .lateStores = true := by kernel_rfl
    gi_wp2
    gi_quiet (fail)
    gi_wp2
    have hD0 : Below W.heap.size W (W.drewN nq) := below_drewN (Below.refl _ _) nq
    have hKD := (hD0.block D (lt_of_block hK)).trans hK
    refine ⟨by simp, .inl ⟨_, _, rfl, run_takeDeferred hKD, ?_⟩⟩
    refine ⟨.tuple #[.slice va (sls 0 l).length vc, .int .i64 (ttN (sls 0 l) : Int)], by simp [results, Try.results10, go_sem], ⟨_, by rw [ttN_all l hl], ?_⟩, ?_⟩
    · have := own_weak (ownsRow_putObj (L8.own_below hrow hD0) (.deferred none) hKD rfl) (by omega : w.heap.size ≤ w.heap.size + 1 + 1 + 1)
      rw [stC_all l hl, sls_len] at this
      rw [sls_len]
      exact this
    · exact (hB1.trans (hD0.mono hB1.size)).trans (belowK_b (w := w) (Nat.le_refl _) (W.drewN nq) D _ _ (by have := HSZ.out; omega) hKD rfl rfl)
  case stop =>
    rintro D c pre W hD hp h hK
    exact absurd h (by simp)
end Go.Proofs.Ythoghcejmnnniaa.L12
