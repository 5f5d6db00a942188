/- What the function that writes pairs of operations in both directions returns, for any map of pairs of which the reading is known and in whatever order its entries come. No condition but that the pairs are few and small. -/
import Derived.Test.YtiklgnokojkoeaaL3Get
import Derived.Test.YtiklgnokojkoeaaCnd
import Derived.Maps.RangeWalk
import Derived.Maps.OwnSet
namespace Go.Proofs.Ytiklgnokojkoeaa
open Go.RowKit Go.Maps L3

abbrev ik (x : Int) : Lit := .int .i64 x
abbrev iv (c : Int) : DataW Unit := .lit (.int .i64 c)
theorem law3 : Keyed Try.prog 3 := int_keyed Try.underlying3
theorem wf_sm {x : Int} (h0 : 0 ≤ x) (h1 : x < 1000) : (Lit.int .i64 x).wf = true := by
  simp [Lit.wf, IntKind.min, IntKind.max, IntKind.bits, IntKind.signed]
  omega

/-- A map whose every entry is one of q's. -/
def Mp (q : Int → Option Int) (D : DataW Unit) : Prop := IsMap D ∧ ∀ y, Maps.has D (ik y) = true → ∃ c, q y = some c ∧ ∀ z, D.atKey (ik y) z = iv c
theorem Mp_empty (q : Int → Option Int) : Mp q (.map []) := ⟨isMap_empty, fun y h => by cases h⟩
theorem Mp_put {q : Int → Option Int} {D : DataW Unit} (h : Mp q D) (y c : Int) (hq : q y = some c) : Mp q (D.put (ik y) (iv c)) := by
  refine ⟨h.1.put _ _, fun x hx => ?_⟩
  by_cases e : x = y
  · subst e
    exact ⟨c, hq, fun z => atKey_put_same h.1 (show WideAt.IsKeyLit (ik x) from trivial) _ _⟩
  · have e' : ik x ≠ ik y := fun e2 => e (by simpa [ik] using e2)
    rw [has_put_other e'] at hx
    obtain ⟨d, h1, h2⟩ := h.2 x hx
    exact ⟨d, h1, fun z => by rw [atKey_put_other e', h2]⟩
theorem has_put {D : DataW Unit} (h : IsMap D) (x y c : Int) : Maps.has (D.put (ik y) (iv c)) (ik x) = (decide (x = y) || Maps.has D (ik x)) := by
  by_cases e : x = y
  · subst e
    rw [has_put_same h (show WideAt.IsKeyLit (ik x) from trivial)]
    simp
  · have e' : ik x ≠ ik y := fun e2 => e (by simpa [ik] using e2)
    rw [has_put_other e']
    simp [e]
/-- The map holds a pair in both directions, and that of 32 bits. -/
def Four (D : DataW Unit) (x c : Int) : Prop := Maps.has D (ik x) = true ∧ Maps.has D (ik c) = true ∧ Maps.has D (ik (x + 11)) = true ∧ Maps.has D (ik (c + 11)) = true
theorem Four_put {D : DataW Unit} (h : IsMap D) {x c : Int} (hf : Four D x c) (y d : Int) : Four (D.put (ik y) (iv d)) x c := by
  obtain ⟨h1, h2, h3, h4⟩ := hf
  refine ⟨?_, ?_, ?_, ?_⟩ <;> rw [has_put h] <;> simp [h1, h2, h3, h4]
/-- The four entries of a pair are laid. -/
def put4 (D : DataW Unit) (x c : Int) : DataW Unit := (((D.put (ik x) (iv c)).put (ik c) (iv x)).put (ik (x + 11)) (iv (c + 11))).put (ik (c + 11)) (iv (x + 11))
theorem Four_put4 {D : DataW Unit} (h : IsMap D) (x c : Int) : Four (put4 D x c) x c := by
  have h1 := h.put (ik x) (iv c)
  have h2 := h1.put (ik c) (iv x)
  have h3 := h2.put (ik (x + 11)) (iv (c + 11))
  refine ⟨?_, ?_, ?_, ?_⟩ <;> unfold put4 <;> simp [has_put h, has_put h1, has_put h2, has_put h3]
/-- Whatever is no longer to come is laid. -/
def Done (D0 D : DataW Unit) (left : Lit → Bool) : Prop := ∀ x c, D0.atKey (ik x) .nil = iv c → left (ik x) = false → Four D x c
theorem Done_start (D0 D : DataW Unit) : Done D0 D (Maps.has D0) := fun x c h hl => by
  rw [atKey_of_not_has hl] at h; cases h
theorem Done_step {D0 D : DataW Unit} {left : Lit → Bool} (hm : IsMap D) (hd : Done D0 D left) (x c : Int) (hat : D0.atKey (ik x) .nil = iv c) :
    Done D0 (put4 D x c) (fun z => left z && !z.sameKey (ik x)) := by
  intro y d hy hl
  by_cases e : y = x
  · subst e
    rw [hat] at hy
    cases hy
    exact Four_put4 hm y _
  · have e' : ik y ≠ ik x := fun e2 => e (by simpa [ik] using e2)
    simp only [sameKey_ne e', Bool.not_false, Bool.and_true] at hl
    exact Four_put (((hm.put _ _).put _ _).put _ _) (Four_put ((hm.put _ _).put _ _) (Four_put (hm.put _ _) (Four_put hm (hd y d hy hl) _ _) _ _) _ _) _ _

/-- What the pairs must be. -/
def Pr (q : Int → Option Int) (D0 : DataW Unit) : Prop := ∀ x c, D0.atKey (ik x) .nil = iv c → (0 ≤ x ∧ x < 100) ∧ (0 ≤ c ∧ c < 100) ∧ q x = some c ∧ q c = some x ∧ q (x + 11) = some (c + 11) ∧ q (c + 11) = some (x + 11)

set_option maxHeartbeats 4000000 in
set_option maxRecDepth 100000 in
theorem both_any (q : Int → Option Int) (D0 : DataW Unit) (b n : Nat) (w : World) (hown : w.ownsMap Try.prog 3 (plainElem Try.prog 3) b n D0) (hq : Pr q D0) (k : Nat) (hs : Maps.size D0 = k) (hk : k = 5 ∨ k = 7) :
    Calls Try.prog 26 #[.map (some b)] w fun e w' => ∃ D, e = .returned (.map (some w.heap.size)) ∧ w'.ownsMap Try.prog 3 (plainElem Try.prog 3) w.heap.size 100 D ∧ Below w.heap.size w w' ∧ Mp q D ∧ Done D0 D (fun _ => false) := by
  have hm20 : ∀ w, (Instr.makeMap 43 (some (.int .i64 20))).run Try.prog w = .ok (.map (some w.heap.size)) (w.alloc (.map #[] 0)) := fun w => by kernel_rfl
  have hm28 : ∀ w, (Instr.makeMap 43 (some (.int .i64 28))).run Try.prog w = .ok (.map (some w.heap.size)) (w.alloc (.map #[] 0)) := fun w => by kernel_rfl
  have hbl := hown.lt
  have hk' : Maps.size D0 ≤ 7 := by omega
  have HQ := Lib.hid hq
  clear hq
  have e1 : (w.alloc (.map #[] 0)).heap.size = w.heap.size + 1 := by simp
  rcases hk with rfl | rfl
  all_goals
    go_enter Try.func26, Try.ntmps26
    go_wp2_with (first
      | (at_len; refine wpList_len_own _ rfl _ 43 rfl 3 3 Try.underlying43 _ b n _ rfl hown ?_; rw [hs])
      | (at_range; refine wpList_range_own _ rfl _ 43 rfl 3 3 law3 Try.underlying43 _ b n _ rfl (hown.alloc _) ?_; intro w0 hrg0 hg0 hs0)
      | go_in)
    go_frame
    rw [e1] at hrg0 hs0 ⊢
    go_loopw [4, 5] (fun _ _ wr => ∃ (left : Lit → Bool) (cnt : Nat) (D : DataW Unit), wr.ranges Try.prog 3 (plainElem Try.prog 3) b (w.heap.size + 1) n D0 left cnt ∧ cnt ≤ Maps.size D0 ∧
        wr.ownsMap Try.prog 3 (plainElem Try.prog 3) w.heap.size (28 - 4 * cnt) D ∧ Mp q D ∧ Done D0 D left ∧ Below w.heap.size w wr)
      (fun _ _ wr => wr.rangeLeft b (w.heap.size + 1))
    case atStart =>
      exact ⟨_, _, .map [], hrg0, Nat.le_refl _, ((World.ownsMap_made _ _ _ _).kept hg0 (by simp)).mono (Nat.zero_le _), Mp_empty q, Done_start D0 _, ((Below.refl _ _).alloc (Nat.le_refl _) _).grown hg0 (by simp) (fun j hj => by cases hj)⟩
    case round =>
      obtain ⟨left, cnt, D, hrg, hcs, hout, hM, hD, hnx⟩ := hrel
      go_wp2_with (first
        | (at_next; refine wpList_next_ranges_ii _ rfl _ rfl 3 3 .i64 .i64 law3 Try.underlying3 Try.underlying3 b (w.heap.size + 1) n _ _ _ rfl hrg ?_ ?_)
        | go_in)
      · intro hc0 hl0
        go_wp2
        go_ret
        exact ⟨D, rfl, hout.mono (by omega), hnx, hM, fun x c h _ => hD x c h (hl0 _)⟩
      · intro x c w1 cnt1 hwx hwc hlx hat hrg1 hlt hg1 hs1 hen
        obtain ⟨⟨x0, x1⟩, ⟨c0, c1⟩, q1, q2, q3, q4⟩ := HQ.out x c (hat .nil)
        have hat0 := hat .nil
        have hout1 := hout.kept hg1 (by simp)
        have M1 := Mp_put hM x c q1
        have M2 := Mp_put M1 c x q2
        have M3 := Mp_put M2 (x + 11) (c + 11) q3
        have M4 := Mp_put M3 (c + 11) (x + 11) q4
        have D4 := Done_step hM.1 hD x c hat0
        have wx := wf_sm (x := x + 11) (by omega) (by omega)
        have wc := wf_sm (x := c + 11) (by omega) (by omega)
        go_wp2_with (first
          | (at_mapUpdate; refine wpList_mapUpdate_own _ rfl _ _ _ 43 rfl 3 3 law3 Try.underlying43 _ w.heap.size _ _ rfl hout1 (by unfold maxLen; omega) _ _ _ rfl rfl (keyOf_int_mk Try.underlying3 hwx) _ [] (plainElem_int Try.underlying3 hwc) ?_; intro w2 hout2 hg2)
          | (at_mapUpdate; refine wpList_mapUpdate_own _ rfl _ _ _ 43 rfl 3 3 law3 Try.underlying43 _ w.heap.size _ _ rfl hout2 (by unfold maxLen; omega) _ _ _ rfl rfl (keyOf_int_mk Try.underlying3 hwc) _ [] (plainElem_int Try.underlying3 hwx) ?_; intro w3 hout3 hg3)
          | (at_mapUpdate; refine wpList_mapUpdate_own _ rfl _ _ _ 43 rfl 3 3 law3 Try.underlying43 _ w.heap.size _ _ rfl hout3 (by unfold maxLen; omega) _ _ _ rfl rfl (keyOf_int_mk Try.underlying3 wx) _ [] (plainElem_int Try.underlying3 wc) ?_; intro w4 hout4 hg4)
          | (at_mapUpdate; refine wpList_mapUpdate_own _ rfl _ _ _ 43 rfl 3 3 law3 Try.underlying43 _ w.heap.size _ _ rfl hout4 (by unfold maxLen; omega) _ _ _ rfl rfl (keyOf_int_mk Try.underlying3 wc) _ [] (plainElem_int Try.underlying3 wx) ?_; intro w5 hout5 hg5; go_frame)
          | go_in)
        have hg := ((hg2.andThen hg3 (fun j hj => .inr hj)).andThen hg4 (fun j hj => .inr hj)).andThen hg5 (fun j hj => .inr hj)
        have hrg2 := hrg1.kept hg (fun e => by have := Option.some.inj e; omega) (fun e => by have := Option.some.inj e; omega)
        go_roundw
        case rel =>
          exact ⟨_, cnt1, _, hrg2, by omega, hout5.mono (by omega), M4, D4,
            (hnx.grown hg1 hnx.size (fun j hj => by cases hj; exact Nat.le_succ _)).grown hg (by have := hnx.size; omega) (fun j hj => by cases hj; exact Nat.le_refl _)⟩
        case measure => rw [hrg2.left_eq, hrg.left_eq]; exact hlt
end Go.Proofs.Ytiklgnokojkoeaa
