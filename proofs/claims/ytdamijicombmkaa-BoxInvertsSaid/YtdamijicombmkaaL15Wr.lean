/- What the program's Write returns: the container of correct sections, or the error. Condition: memory holds the sections, which are no more than 100000 of no more than 1000000 bytes each. -/
import Derived.Test.YtdamijicombmkaaL15It
namespace Go.Proofs.Ytdamijicombmkaa.L15
open Go.RowKit Go.Shelf L14
attribute [local go_sem] Oper.semAt_some

theorem fw_of {l : List Sc} (hs : Sml l) (h : chkV l = 0) : Fw l := ⟨(chk0.1 h).1.1, hs.d⟩
set_option maxRecDepth 100000 in
set_option maxHeartbeats 4000000 in
theorem write_no (v : Value) (l : List Sc) (R : Int) (w : World) (hv : Ss w v l) (hs : Sml l) (hR : chkV l = R) (h0 : R ≠ 0) :
    Calls Try.prog 11 #[v] w fun e w' => e = .returned (.tuple #[.slice none 0 0, .int .i64 R]) ∧ Below w.heap.size w w' := by
  have HC := Lib.hid (callsIn_wide (n := 6 - 1).2 (check_at v l R w hv hs hR))
  obtain ⟨a, c, rfl, -⟩ := hv
  generalize l.length = N at HC ⊢
  have hb : (R != 0) = true := by simpa using h0
  clear hR h0 hs
  refine (callsIn_wide (n := 6)).1 ?_
  refine callsIn_of_wp_marks Try.func11 rfl trivial ?_ rfl
  simp only [Try.ntmps11, List.size_toArray, List.length_cons, List.length_nil, Nat.reduceAdd, Nat.reduceSub, Array.replicate_succ, Array.replicate_zero, List.push_toArray, List.append_toArray, List.nil_append, List.cons_append]
  gi_wp2_with (refine ⟨trivial, ?_⟩; gi_at_call 24; ((with_reducible refine (HC.out).mono ?_); rintro e w1 ⟨rfl, b1⟩))
  exact ⟨.tuple #[.slice none 0 0, .int .i64 R], by simp [results, Try.results11, go_sem], rfl, b1⟩

/-- Bytes that were appended to a row whose slice lies in a box. -/
theorem box_grown {W w1 : World} {n₀ B : Nat} {v v' : Value} {k m : Nat} {xs ys : List Value} (hv : Boxed W B 25 v) (hrow : W.ownsRow n₀ 5 1 v k xs) (hn₀ : n₀ ≤ W.heap.size) (hB : n₀ ≤ B) (hown : w1.ownsRow n₀ 5 1 v' m ys) (hg : W.grownBy w1 v.ownBlock) :
    Boxed w1 B 25 v ∧ Boxed (w1.setCell ⟨B, 0, none⟩ v') B 25 v' ∧ (w1.setCell ⟨B, 0, none⟩ v').ownsRow n₀ 5 1 v' m ys ∧ KeepsOthers W (w1.setCell ⟨B, 0, none⟩ v') ∧ KP n₀ W (w1.setCell ⟨B, 0, none⟩ v') := by
  have hv1 : Boxed w1 B 25 v := hv.kept hg (hv.not_row (by decide) hrow)
  have hel : ∀ (k : Nat) (cs : Array Value) (t : TypeId) (fr : Nat × Nat), t ≠ 5 → t ≠ 25 → W.heap[k]? = some (Obj.cells cs t fr) → (w1.setCell ⟨B, 0, none⟩ v').heap[k]? = some (Obj.cells cs t fr) := fun k cs t fr ht1 ht2 h => by
    have h1 : w1.heap[k]? = some (Obj.cells cs t fr) := by
      rw [hg.block k (lt_of_block h) fun e => ?_]
      · exact h
      · obtain ⟨cur, hc⟩ := own_ty hrow e.symm
        rw [h] at hc
        cases hc
        exact ht1 rfl
    rw [Below.heap_setCell _ _ _ _ ?_]
    · exact h1
    · show k ≠ B
      rintro rfl
      rw [show w1.heap[k]? = _ from hv1] at h1
      cases h1
      exact ht2 rfl
  refine ⟨hv1, hv1.set v', hown.kept (grownBy_setCell' w1 B v') (.inr (hv1.not_row (by decide) hown).symm), ?_, ?_, fun k cs fr h => hel k cs _ fr (by decide) (by decide) h, fun k cs fr h => hel k cs _ fr (by decide) (by decide) h⟩
  · refine (KeepsOthers.of_grownBy hg fun j o ej hj => ?_).trans (KeepsOthers.setCell _ _ _)
    obtain ⟨cur, hc⟩ := own_ty hrow ej
    rw [hc] at hj; cases hj; rfl
  · exact ((Below.refl n₀ W).grown hg hn₀ (own_base hrow)).setCell (p := ⟨B, 0, none⟩) hB v'
/-- What Write's loop keeps. -/
def WrI (w : World) (B : Nat) (pre : List Pa) (W : World) : Prop :=
  (∃ v, Boxed W B 25 v ∧ W.ownsRow w.heap.size 5 1 v (byt pre).flatten.length ((byt pre).flatten.map eB) ∧ True) ∧ Below w.heap.size w W
theorem wrI_own (w : World) (B d : Nat) (hd : w.heap.size ≤ d) : OwnFrom d (WrI w B) :=
  OwnFrom.and (Own.from (holdsRow_own _ _ _ _ _ (fun pre : List Pa => (byt pre).flatten.length) (fun pre => (byt pre).flatten.map eB) (fun _ _ => True)) _) (ownFrom_below (Nat.le_refl _) hd)
theorem pre_len {l : List Sc} {pre : List Pa} (h : byt pre <+: prt l) : (byt pre).flatten.length ≤ szL l := by
  obtain ⟨r, hr⟩ := h
  have h1 := congrArg (fun x => (List.flatten x).length) hr
  simp only [prt_wr, List.flatten_append, List.length_append, wr_len] at h1
  omega

set_option maxRecDepth 100000 in
set_option maxHeartbeats 4000000 in
theorem write_yes (v : Value) (l : List Sc) (S : Nat) (w : World) (hv : Ss w v l) (hs : Sml l) (hR : chkV l = 0) (hS : szL l = S) :
    Calls Try.prog 11 #[v] w fun e w' => (∃ a c, e = .returned (.tuple #[.slice a S c, .int .i64 0]) ∧ Rw eB w' (.slice a S c) (wr l)) ∧ Below w.heap.size w w' := by
  obtain ⟨ib, ki, kz0, kz1, kz2⟩ := info_parts infoByte
  have hf := fw_of hs hR
  have hk := (chk0.1 hR).2
  have hsz := hf.sz
  rw [hS] at hsz
  have HC := Lib.hid (callsIn_wide (n := 6 - 1).2 (check_at v l 0 w hv hs hR))
  have HZ := Lib.hid (fun W (hb : Below w.heap.size w W) => callsIn_wide (n := 6 - 1).2 (size_at v l S W (hv.below hb) hs hS))
  obtain ⟨N, hN⟩ : ∃ N, l.length = N := ⟨_, rfl⟩
  have HV := Lib.hid hv
  obtain ⟨a, c, rfl, -⟩ := hv.form hN
  have HN := Lib.hid hN
  have HS := Lib.hid hS
  have HF := Lib.hid hf
  have HK := Lib.hid hk
  clear hR hs hf hk hN hv hS
  refine (callsIn_wide (n := 6)).1 ?_
  refine callsIn_of_wp_marks Try.func11 rfl trivial ?_ rfl
  simp only [Try.ntmps11, List.size_toArray, List.length_cons, List.length_nil, Nat.reduceAdd, Nat.reduceSub, Array.replicate_succ, Array.replicate_zero, List.push_toArray, List.append_toArray, List.nil_append, List.cons_append]
  gi_wp2_with (first
    | (refine ⟨trivial, ?_⟩; gi_at_call 24; ((with_reducible refine (HC.out).mono ?_); rintro e w1 ⟨rfl, b1⟩))
    | (refine ⟨trivial, ?_⟩; gi_at_call 13; ((with_reducible refine (HZ.out _ b1).mono ?_); rintro e w2 ⟨rfl, b2⟩; have B2 := bch b1 b2))
    | (gi_at_make; refine wpListIn_make_own _ rfl _ _ 25 rfl w.heap.size 5 ib (.int .u8 0) 1 Try.underlying25 ki kz0 kz1 .i64 .i64 _ S rfl rfl rfl (by rw [kz2]; omega) (by unfold maxLen; omega) B2.size ?_; intro w3 o3 g3; have B3 := B2.grown g3 B2.size (fun k e => by cases e))
    | (refine ⟨trivial, ?_⟩; gi_at_call 25; refine (callsIn_wide.2 (parts_fn _ a N c rfl _)).mono ?_; rintro e w4 ⟨rfl, rfl⟩))
  have bx := (Boxed.new w3 25 (.slice (some ⟨w2.heap.size, 0, none⟩) 0 S)).alloc (.cells #[.slice a N c] 29)
  have by' := Boxed.new (w3.alloc (.cells #[.slice (some ⟨w2.heap.size, 0, none⟩) 0 S] 25)) 29 (.slice a N c)
  rw [World.size_alloc] at by'
  have o5 := (o3.alloc (.cells #[.slice (some ⟨w2.heap.size, 0, none⟩) 0 S] 25)).alloc (.cells #[.slice a N c] 29)
  have B5 := (B3.alloc B3.size (.cells #[.slice (some ⟨w2.heap.size, 0, none⟩) 0 S] 25)).alloc (Nat.le_trans B3.size (by simp)) (.cells #[.slice a N c] 29)
  obtain ⟨B, hB⟩ : ∃ B, w3.heap.size = B := ⟨_, rfl⟩
  have hBl : w.heap.size ≤ B := by rw [← hB]; exact B3.size
  rw [hB] at bx by' ⊢
  obtain ⟨W0, hW0⟩ : ∃ W0, (w3.alloc (.cells #[.slice (some ⟨w2.heap.size, 0, none⟩) 0 S] 25)).alloc (.cells #[.slice a N c] 29) = W0 := ⟨_, rfl⟩
  rw [hW0] at bx by' o5 B5
  simp only [hW0]
  have HBY := Lib.hid by'
  have HB5 := Lib.hid B5
  clear hW0 hB o3 g3 B3 b1 b2 B2 HC HZ by'
  refine range_told rfl (by omega) (gf := 35) (lb := #[.pointer (some ⟨B + 1, 0, none⟩)]) rfl trivial (enters_of Try.func35 (by kernel_rfl) rfl)
    (tells_at _ (by omega) (B + 1) w.heap.size a N c l HN.out HF.out HK.out W0 HB5.out.size HBY.out (fun A hA => HV.out.below (HB5.out.trans hA))) (fun h k => KP.t h k) (fun W k o o' h1 h2 h3 h4 => KP.p (w := W0) HB5.out.size W k o o' h1 h2 h3 h4) (fun _ => rfl)
    (relP_own _) (WrI w B) (fun _ _ => False) (wrI_own w B _ HB5.out.size) (ownFrom_pure _ _) ⟨⟨_, bx, by simpa [byt] using o5, trivial⟩, B5⟩
    (fun x => { tmps := #[.slice a N c, undef, .slice none 0 0, .int .i64 0, .int .i64 0, .pointer (some ⟨B, 0, none⟩), x.1, .slice a N c, .int .i64 0, .int .i64 0, .bool false, undef, .slice a N c, .int .i64 (S : Int), .slice (some ⟨w2.heap.size, 0, none⟩) 0 S, .slice a N c, .func (.func 35) #[] #[.pointer (some ⟨B + 1, 0, none⟩)], x.1, undef, undef, undef, undef], defers := [] })
    ?assign ?body ?done ?stop
  case assign =>
    intro lp x W K hK
    obtain ⟨xv, xd⟩ := x
    gi_wp2
    exact hK
  case body =>
    rintro lp pre ⟨xv, xd⟩ W ⟨⟨v1, c1, r1, -⟩, hB1⟩ hx hp
    have hx' : Rw eB W xv xd := hx
    obtain ⟨pa, pc, rfl, -⟩ := id hx'
    obtain ⟨ra, rc, rfl⟩ := owns_slice r1
    have hpl := pre_len hp
    have hfl : (byt (pre ++ [((.slice pa xd.length pc, xd) : Pa)])).flatten = (byt pre).flatten ++ xd := by simp [byt]
    rw [hfl, HS.out, List.length_append] at hpl
    have HFL := Lib.hid hfl
    have HX := Lib.hid hx'
    have HP := Lib.hid hpl
    have hc1 := c1.cell
    have hf1 := c1.frozen
    have hl1 : B < W.heap.size := c1.lt
    obtain ⟨k1, hk1⟩ : ∃ k, (byt pre).flatten.length = k := ⟨_, rfl⟩
    obtain ⟨k2, hk2⟩ : ∃ k, xd.length = k := ⟨_, rfl⟩
    have HK1 := Lib.hid hk1
    have HK2 := Lib.hid hk2
    rw [hk1] at c1 r1 hc1
    rw [hk2] at HX
    simp only [hk2]
    have hsb : k1 + k2 ≤ S := by rw [← hk1, ← hk2]; exact hpl
    clear hx hx' hp hpl hfl hk1 hk2
    gi_wp2_with (gi_at_builtin; refine wpListIn_append_rw rfl _ _ rfl w.heap.size _ _ _ rfl r1 _ xd rfl HX.out (by have := HK2.out; omega) hB1.size ?_; intro v' w5 hown hgrow; rw [HK2.out] at hown; obtain ⟨na, nc, rfl⟩ := owns_slice hown; obtain ⟨d1, d2, d3, d4, d5⟩ := box_grown c1 r1 hB1.size hBl hown hgrow; have hc5 := d1.cell; have hf5 := d1.frozen)
    refine ⟨d4.from _, d5, ⟨_, d2, ?_, trivial⟩, hB1.trans d5.b⟩
    have e := HFL.out
    rw [HK2.out] at e
    rw [e, List.length_append, HK1.out, HK2.out, List.map_append]
    exact d3
  case done =>
    rintro D xs W hD hS ⟨⟨v1, c1, r1, -⟩, hB1⟩ hK
    obtain ⟨ra, rc, rfl⟩ := owns_slice r1
    have hfl : (byt xs).flatten = wr l := by rw [hS, prt_wr]
    have hln : (byt xs).flatten.length = S := by rw [hfl, wr_len, HS.out]
    rw [hln] at c1 r1
    rw [hfl] at r1
    have hc1 := c1.cell
    have HR := Lib.hid r1
    have HKK := Lib.hid hK
    have HB1 := Lib.hid hB1
    clear hS hfl hln r1 hK hB1
    gi_wp2
    refine ⟨by simp, .inl ⟨_, _, rfl, run_takeDeferred HKK.out, ?_⟩⟩
    have o9 := ownsRow_putObj HR.out (.deferred none) HKK.out rfl
    have b9 := HB1.out.trans (belowK_b (w := W0) HB5.out.size W D _ (.deferred none) hD HKK.out rfl rfl)
    exact ⟨.tuple #[.slice ra S rc, .int .i64 0], by simp [results, Try.results11, go_sem], ⟨ra, rc, rfl, by have e := wr_len l; rw [HS.out] at e; subst e; exact Rw.own o9⟩, b9⟩
  case stop =>
    rintro D pre W - - h -
    exact h.elim
end Go.Proofs.Ytdamijicombmkaa.L15
