/- What At returns: the index of the first instruction that starts at a slot, or -1. Condition: memory holds the instructions, which are no more than 1000000. -/
import Derived.Test.YthoghcejmnnniaaL12Sta
namespace Go.Proofs.Ythoghcejmnnniaa.L12
open Go.RowKit Go.Shelf L3 L4
attribute [local go_sem] Oper.semAt_some

theorem sls_small (l : List L9.Ins) (h : l.length ≤ 1000000) (r : Sl) (hr : r ∈ sls 0 l) : r.a = r.at' := by
  obtain ⟨i, hi, rfl⟩ := List.mem_iff_getElem.1 hr
  rw [sls_len] at hi
  have e := sls_get l 0 i hi
  rw [List.getElem?_eq_getElem (by rw [sls_len]; exact hi), Option.some.injEq] at e
  rw [e]
  have := stN_le l i
  simp only [Sl.a]
  rw [Nat.min_eq_left (by omega)]
theorem atN_none : ∀ (l : List L9.Ins) (k a : Nat) (s : Int), (∀ r ∈ sls a l, (r.at' : Int) ≠ s) → atN k a l s = -1
  | [], _, _, _, _ => rfl
  | x :: r, k, a, s, h => by
    rw [atN, if_neg (h ⟨a, x⟩ (by simp [sls]))]
    exact atN_none r _ _ _ fun y hy => h y (by simp [sls, hy])
theorem atN_pre : ∀ (l : List L9.Ins) (k a : Nat) (s : Int) (p : List Sl) (x : Sl), p ++ [x] <+: sls a l → (x.at' : Int) = s → (∀ r ∈ p, (r.at' : Int) ≠ s) → atN k a l s = ((k + p.length : Nat) : Int)
  | [], _, _, _, p, x, h, _, _ => by
    rw [sls, List.prefix_nil] at h
    simp at h
  | y :: r, k, a, s, p, x, h, hx, hp => by
    cases p with
    | nil =>
      rw [sls, List.nil_append, List.cons_prefix_cons] at h
      rw [h.1] at hx
      rw [atN, if_pos hx]
      simp
    | cons z q =>
      rw [sls, List.cons_append, List.cons_prefix_cons] at h
      have hz := hp z (by simp)
      rw [h.1] at hz
      rw [atN, if_neg hz, atN_pre r (k + 1) _ s q x h.2 hx (fun r hr => hp r (by simp [hr]))]
      simp only [List.length_cons]
      omega

/-- What At's loop keeps, and what it leaves behind where it stops. -/
def AtI (w : World) (g : Nat) (s : Int) (pre : List Sl) (W : World) : Prop :=
  (Boxed W g 3 (.int .i64 s) ∧ Boxed W (g + 1) 3 (.int .i64 0) ∧ Boxed W (g + 1 + 1) 3 (.int .i64 (pre.length : Int)) ∧ ∀ r ∈ pre, (r.a : Int) ≠ s) ∧ Below w.heap.size w W
def AtX (w : World) (g : Nat) (s : Int) (c : Code) (pre : List Sl) (W : World) : Prop :=
  ((c = .ret ∧ ∃ p x, pre = p ++ [x] ∧ (x.a : Int) = s ∧ ∀ r ∈ p, (r.a : Int) ≠ s) ∧ Boxed W (g + 1) 3 (.int .i64 ((pre.length : Int) - 1))) ∧ Below w.heap.size w W
theorem atI_own (w : World) (s : Int) (B : Nat) (hB : w.heap.size ≤ B) : OwnFrom B (AtI w w.heap.size s) :=
  OwnFrom.and (OwnFrom.and (Own.from (boxed_own _ _ _) _) (OwnFrom.and (Own.from (boxed_own _ _ _) _) (OwnFrom.and (Own.from (boxed_own _ _ (fun pre : List Sl => .int .i64 (pre.length : Int))) _) (ownFrom_pure _ _)))) (ownFrom_below (Nat.le_refl _) hB)
theorem atX_own (w : World) (s : Int) (B : Nat) (hB : w.heap.size ≤ B) (c : Code) : OwnFrom B (AtX w w.heap.size s c) :=
  OwnFrom.and (OwnFrom.and (ownFrom_pure _ _) (Own.from (boxed_own _ _ (fun pre : List Sl => .int .i64 ((pre.length : Int) - 1))) _)) (ownFrom_below (Nat.le_refl _) hB)

set_option maxRecDepth 100000 in
set_option maxHeartbeats 4000000 in
theorem at_at (v : Value) (l : List L9.Ins) (s R : Int) (hl : l.length ≤ 1000000) (w : World) (hv : IsAt w v l) (hR : atN 0 0 l s = R) :
    Calls Try.prog 12 #[v, .int .i64 s] w fun e w' => e = .returned (.int .i64 R) ∧ Below w.heap.size w w' := by
  obtain ⟨n, hn⟩ : ∃ n, l.length = n := ⟨_, rfl⟩
  have hL := hv.low
  obtain ⟨ad, cap, rfl, -⟩ := is_form hn hv
  clear hv
  refine (callsIn_wide (n := 6)).1 ?_
  refine callsIn_of_wp_marks Try.func12 rfl trivial ?_ rfl
  simp only [Try.ntmps12, List.size_toArray, List.length_cons, List.length_nil, Nat.reduceAdd, Nat.reduceSub, Array.replicate_succ, Array.replicate_zero, List.push_toArray, List.append_toArray, List.nil_append, List.cons_append]
  gi_wp2_with (refine ⟨trivial, ?_⟩; gi_at_call 26; refine (callsIn_wide.2 (slots_fn ad n cap _)).mono ?_; rintro e w1 ⟨rfl, rfl⟩)
  have b0 := (((Boxed.new w 3 (.int .i64 s)).alloc (.cells #[.int .i64 0] 3)).alloc (.cells #[.int .i64 0] 3)).alloc (.cells #[.slice ad n cap] 22)
  have b1 := (((Boxed.new (w.alloc (.cells #[.int .i64 s] 3)) 3 (.int .i64 0))).alloc (.cells #[.int .i64 0] 3)).alloc (.cells #[.slice ad n cap] 22)
  have b2 := (Boxed.new ((w.alloc (.cells #[.int .i64 s] 3)).alloc (.cells #[.int .i64 0] 3)) 3 (.int .i64 0)).alloc (.cells #[.slice ad n cap] 22)
  have b3 := Boxed.new (((w.alloc (.cells #[.int .i64 s] 3)).alloc (.cells #[.int .i64 0] 3)).alloc (.cells #[.int .i64 0] 3)) 22 (.slice ad n cap)
  simp only [World.size_alloc] at b1 b2 b3
  have hB0 : Below w.heap.size w ((((w.alloc (.cells #[.int .i64 s] 3)).alloc (.cells #[.int .i64 0] 3)).alloc (.cells #[.int .i64 0] 3)).alloc (.cells #[.slice ad n cap] 22)) :=
    ((((Below.refl _ w).alloc (Nat.le_refl _) _).alloc (by simp) _).alloc (by simp; omega) _).alloc (by simp; omega) _
  have hsz : ((((w.alloc (.cells #[.int .i64 s] 3)).alloc (.cells #[.int .i64 0] 3)).alloc (.cells #[.int .i64 0] 3)).alloc (.cells #[.slice ad n cap] 22)).heap.size = w.heap.size + 1 + 1 + 1 + 1 := by simp
  obtain ⟨W0, hW0⟩ : ∃ W0, (((w.alloc (.cells #[.int .i64 s] 3)).alloc (.cells #[.int .i64 0] 3)).alloc (.cells #[.int .i64 0] 3)).alloc (.cells #[.slice ad n cap] 22) = W0 := ⟨_, rfl⟩
  rw [hW0] at b0 b1 b2 b3 hB0 hsz
  have HSZ := Lib.hid hsz
  have hsz1 : w.heap.size + 1 + 1 + 1 < W0.heap.size := by omega
  simp only [hW0]
  clear hsz
  clear hW0
  refine wpIn_rangeFunc_ownH rfl (by omega) (gf := 32) (lb := #[.pointer (some ⟨w.heap.size + 1 + 1 + 1, 0, none⟩)]) rfl trivial (enters_of Try.func32 (by kernel_rfl) rfl)
    (stops_at _ (by omega) (w.heap.size + 1 + 1 + 1) w.heap.size (.slice ad n cap) l hl W0 (by omega) (by omega) b3.cell (hL.below hB0)) (fun h k => Kq.t h k) (fun W l o o' h1 h2 h3 h4 => Kq.b (w := W0) (by omega) W l o o' h1 h2 h3 h4) (Below.refl _ _) (fun _ => rfl)
    (AtI w w.heap.size s) (AtX w w.heap.size s) (atI_own w s _ (by omega)) (atX_own w s _ (by omega))
    ⟨⟨b0, b1, b2, fun r hr => by cases hr⟩, hB0⟩
    (fun x a' _ => a' = { tmps := #[.slice ad n cap, .int .i64 s, undef, .pointer (some ⟨w.heap.size, 0, none⟩), .pointer (some ⟨w.heap.size + 1, 0, none⟩), .pointer (some ⟨w.heap.size + 1 + 1, 0, none⟩), .int .i64 (x.a : Int), .slice ad n cap, .func (.func 32) #[] #[.pointer (some ⟨w.heap.size + 1 + 1 + 1, 0, none⟩)], .int .i64 (x.a : Int), .agg (xcs x.x), undef, undef, undef, undef, undef, undef], defers := [] })
    (fun x a' => ownFrom_pure _ _)
    ?assign ?body ?done ?stop
  case assign =>
    rintro lp pre x W K ⟨⟨c0, c1, c2, hz⟩, hB1⟩ hK
    gi_wp2
    exact hK _ _ ((KeepsOthers.refl _).from _) ⟨Below.refl _ W, fun _ _ _ h => h⟩ ⟨⟨c0, c1, c2, hz⟩, hB1⟩ rfl
  case body =>
    rintro lp pre x a' W hlp - ⟨⟨c0, c1, c2, hz⟩, hB1⟩ rfl hlt
    rw [sls_len, hn] at hlt
    have d0 := c0.cell
    have d1 := c1.cell
    have d2 := c2.cell
    have f1 := c1.frozen
    have f2 := c2.frozen
    have hpl : pre.length < 1000000 := by omega
    have hB2 := Lib.hid hB1
    have HZ := Lib.hid hz
    obtain ⟨s', hs'⟩ : ∃ s', x.a = s' := ⟨_, rfl⟩
    by_cases he : (x.a : Int) = s
    · have heb : ((x.a : Int) == s) = true := by simpa using he
      have HE := Lib.hid he
      rw [hs'] at heb ⊢
      clear hz he
      gi_wp2
      have e1 : (((pre ++ [x]).length : Nat) : Int) - 1 = (pre.length : Int) := by simp
      exact ⟨(KeepsOthers.setCell _ _ _).from _, ⟨⟨rfl, pre, x, rfl, HE.out, HZ.out⟩, by rw [e1]; exact c1.set _⟩, hB2.out.setCell (p := ⟨_, 0, none⟩) (Nat.le_succ _) _⟩
    · have heb : ((x.a : Int) == s) = false := by simpa using he
      have HE := Lib.hid he
      rw [hs'] at heb ⊢
      clear hz he
      gi_wp2
      have e1 : (((pre ++ [x]).length : Nat) : Int) = (pre.length : Int) + 1 := by simp
      refine ⟨(KeepsOthers.setCell _ _ _).from _, ⟨(Below.refl _ W).setCell (p := ⟨_, 0, none⟩) (by show w.heap.size ≤ w.heap.size + 1 + 1; omega) _, KI.set c2 (by decide) _⟩, ⟨c0.other (by omega) _, c1.other (by omega) _, by rw [e1]; exact c2.set _, ?_⟩, hB2.out.setCell (p := ⟨_, 0, none⟩) (by show w.heap.size ≤ w.heap.size + 1 + 1; omega) _⟩
      intro r hr
      rcases List.mem_append.1 hr with h | h
      · exact HZ.out r h
      · rw [List.mem_singleton.1 h]; exact HE.out
  case done =>
    rintro D ys W hD rfl ⟨⟨c0, c1, c2, hz⟩, hB1⟩ hK
    have d1 := c1.cell
    have f1 := c1.frozen
    have hr : R = -1 := by rw [← hR]; exact atN_none l 0 0 s fun r hr => by rw [← sls_small l hl r hr]; exact hz r hr
    gi_wp2
    have hK2 := (KeepsOthers.setCell W ⟨w.heap.size + 1, 0, none⟩ (.int .i64 (-1))).same D _ hK rfl
    have c1' := c1.set (.int .i64 (-1))
    have hBE := hB1.setCell (p := ⟨w.heap.size + 1, 0, none⟩) (Nat.le_succ _) (.int .i64 (-1))
    generalize W.setCell ⟨w.heap.size + 1, 0, none⟩ _ = E at hK2 c1' hBE ⊢
    refine ⟨by simp, .inl ⟨_, _, rfl, run_takeDeferred hK2, ?_⟩⟩
    have k1 := (box_putObj c1' (.deferred none) hK2 rfl).cell
    exact ⟨.int .i64 (-1), by simp [results, Try.results12, go_sem, k1], by rw [hr], hBE.trans (belowK_b (w := w) (Nat.le_refl _) E D _ _ (by have := HSZ.out; omega) hK2 rfl rfl)⟩
  case stop =>
    rintro D c pre W hD hp ⟨⟨⟨rfl, p, x, rfl, hx, hpz⟩, c1⟩, hB1⟩ hK
    gi_wp2
    have sm : ∀ r ∈ p ++ [x], r.a = r.at' := fun r hr => sls_small l hl r (hp.mem hr)
    have hr : R = (p.length : Int) := by
      rw [← hR, atN_pre l 0 0 s p x hp (by rw [← sm x (by simp)]; exact hx) (fun r hr => by rw [← sm r (by simp [hr])]; exact hpz r hr), Nat.zero_add]
    have e1 : (((p ++ [x]).length : Nat) : Int) - 1 = (p.length : Int) := by simp
    rw [e1] at c1
    refine ⟨by simp, .inl ⟨_, _, rfl, run_takeDeferred hK, ?_⟩⟩
    have k1 := (box_putObj c1 (.deferred none) hK rfl).cell
    exact ⟨.int .i64 (p.length : Int), by simp [results, Try.results12, go_sem, k1], by rw [hr], hB1.trans (belowK_b (w := w) (Nat.le_refl _) W D _ _ (by have := HSZ.out; omega) hK rfl rfl)⟩
end Go.Proofs.Ythoghcejmnnniaa.L12
