/- What the program's Parse returns: the texts whose table the bytes are and their offsets, or the error. Condition: memory holds the bytes (no more than 100000). -/
import Derived.Test.YtegdffebdbkchaaL14It
namespace Go.Proofs.Ytegdffebdbkchaa.L14
open Go.RowKit Go.Shelf
attribute [local go_sem] Oper.semAt_some

/-- Another box behind an append to a row whose slice lies in a box of its own. -/
theorem box_step {W w1 : World} {B C : Nat} {s e : TypeId} {v u : Value} {n₀ k sz : Nat} {xs : List Value} {tmp : Obj} (c : Boxed W C s u) (hs : s ≠ e) (hrow : W.ownsRow n₀ e sz v k xs) (hgrow : (W.alloc tmp).grownBy w1 v.ownBlock) (hne : C ≠ B) (v' : Value) : Boxed (w1.setCell ⟨B, 0, none⟩ v') C s u :=
  ((c.alloc tmp).kept hgrow (c.not_row hs hrow)).other hne v'
/-- .. another row. -/
theorem row_step {W w1 : World} {B n₁ n₂ k q : Nat} {t e e' : TypeId} {v vA v0 : Value} {xs ys : List Value} {tmp : Obj} (hA : W.ownsRow n₁ e' 1 vA q ys) (hrow : W.ownsRow n₂ e 1 v k xs) (he : e' ≠ e) (hgrow : (W.alloc tmp).grownBy w1 v.ownBlock) (hv : Boxed w1 B t v0) (ht : t ≠ e') (v' : Value) : (w1.setCell ⟨B, 0, none⟩ v').ownsRow n₁ e' 1 vA q ys := by
  have h := own_two (hA.alloc tmp) (hrow.alloc tmp) he hgrow
  exact h.kept (grownBy_setCell' w1 B v') (.inr (hv.not_row ht h).symm)

/-- What Parse's loop keeps, and what it leaves behind at an empty text. -/
def PaI (w : World) (g : Nat) {l : List UInt8} (pre : List (Pt l)) (W : World) : Prop :=
  ((Boxed W g 22 (.slice none 0 0) ∧ Boxed W (g + 1) 26 (.slice none 0 0) ∧ Boxed W (g + 1 + 1) 27 (.int .i64 0)) ∧ (∀ x ∈ pre, x.1.t ≠ [])) ∧
    (∃ v, Boxed W (g + 1 + 1 + 1) 22 v ∧ W.ownsRow w.heap.size 9 1 v pre.length (pre.map fun x => eT x.1.t) ∧ True) ∧
    (∃ v, Boxed W (g + 1 + 1 + 1 + 1) 26 v ∧ W.ownsRow w.heap.size 3 1 v pre.length (pre.map fun x => eN (1 + x.1.at')) ∧ True) ∧ Below w.heap.size w W
def PaX (w : World) (g : Nat) {l : List UInt8} (c : Code) (pre : List (Pt l)) (W : World) : Prop :=
  ((c = .ret ∧ ∃ x ∈ pre, x.1.t = []) ∧ Boxed W g 22 (.slice none 0 0) ∧ Boxed W (g + 1) 26 (.slice none 0 0) ∧ Boxed W (g + 1 + 1) 27 (.int .i64 19)) ∧ Below w.heap.size w W
theorem paI_own (w : World) (l : List UInt8) (B : Nat) (hB : w.heap.size ≤ B) : OwnFrom B (PaI w w.heap.size (l := l)) :=
  OwnFrom.and (OwnFrom.and (OwnFrom.and (Own.from (boxed_own _ _ _) _) (OwnFrom.and (Own.from (boxed_own _ _ _) _) (Own.from (boxed_own _ _ _) _))) (ownFrom_pure _ _))
    (OwnFrom.and (Own.from (holdsRow_own _ _ _ _ _ (fun pre : List (Pt l) => pre.length) (fun pre => pre.map fun x => eT x.1.t) (fun _ _ => True)) _)
      (OwnFrom.and (Own.from (holdsRow_own _ _ _ _ _ (fun pre : List (Pt l) => pre.length) (fun pre => pre.map fun x => eN (1 + x.1.at')) (fun _ _ => True)) _) (ownFrom_below (Nat.le_refl _) hB)))
theorem paX_own (w : World) (l : List UInt8) (B : Nat) (hB : w.heap.size ≤ B) (c : Code) : OwnFrom B (PaX w w.heap.size (l := l) c) :=
  OwnFrom.and (OwnFrom.and (ownFrom_pure _ _) (OwnFrom.and (Own.from (boxed_own _ _ _) _) (OwnFrom.and (Own.from (boxed_own _ _ _) _) (Own.from (boxed_own _ _ _) _)))) (ownFrom_below (Nat.le_refl _) hB)
/-- What Parse leaves, for the bytes behind the first, where it looks at the texts. -/
def PaP (w : World) (r : List UInt8) (e : Ending) (w' : World) : Prop :=
  (((∃ x : Pt r, x.1.t = []) ∧ e = .returned (.tuple #[.slice none 0 0, .slice none 0 0, .int .i64 19])) ∨
    ((∀ x ∈ pts r, x.1.t ≠ []) ∧ ∃ v v', e = .returned (.tuple #[v, v', .int .i64 0]) ∧ w'.ownsRow w.heap.size 9 1 v (pts r).length ((pts r).map fun x => eT x.1.t) ∧ w'.ownsRow w.heap.size 3 1 v' (pts r).length ((pts r).map fun x => eN (1 + x.1.at')))) ∧ Below w.heap.size w w'

set_option maxRecDepth 100000 in
set_option maxHeartbeats 4000000 in
theorem parse_go (b o n c : Nat) (r : List UInt8) (hn : (0 :: r : List UInt8).length = n) (hl : n ≤ 100000) (w : World) (h : Rw eB w (.slice (some ⟨b, o, none⟩) n c) (0 :: r)) (hlast : (0 :: r : List UInt8).getLast? = some 0) :
    Calls Try.prog 16 #[.slice (some ⟨b, o, none⟩) n c] w fun e w' => PaP w r e w' := by
  obtain ⟨h0, hc1, -, hc⟩ := h.at
  obtain ⟨b', o', e, hb, hcc⟩ := hc (by rw [← hn]; simp)
  cases e
  obtain ⟨m, rfl⟩ : ∃ m, n = m + 1 := ⟨n - 1, by simp at hn; omega⟩
  have hx : w.cell? ⟨b, o, none⟩ = some (.int .u8 0) := hcc 0 (by rw [hn]; omega)
  have hy : w.cell? ⟨b, o + m, none⟩ = some (.int .u8 0) := by
    rw [hcc m (by rw [hn]; omega)]
    have : (0 :: r : List UInt8)[m]'(by rw [hn]; omega) = 0 := by
      have h2 := hlast
      rw [List.getLast?_eq_getElem?, hn, Nat.add_sub_cancel, List.getElem?_eq_getElem (by rw [hn]; omega)] at h2
      exact Option.some.inj h2
    rw [this]; rfl
  have hd := h.drop 1 (by omega)
  have hs := run_from und8 size8 (some ⟨b, o, none⟩) (m + 1) c 1 (by omega) hc1
  rw [List.drop_one, List.tail_cons] at hd
  have e1 : ((1 : Nat) : Int) = 1 := rfl
  rw [e1] at hs
  rw [show m + 1 - 1 = m by omega] at hs hd
  generalize (if c = 1 then some (⟨b, o, none⟩ : Addr) else (some (⟨b, o, none⟩ : Addr)).map (·.add 1)) = a2 at hs hd
  obtain ⟨cc, hcc2⟩ : ∃ cc, c - 1 = cc := ⟨_, rfl⟩
  rw [hcc2] at hs hd
  obtain ⟨i0, hi, hz0, hz1, hz2⟩ := info_parts infoText
  obtain ⟨j0, ki, kz0, kz1, kz2⟩ := info_parts infoInt
  have hne0 : ((m : Int) + 1 == 0) = false := by rw [beq_eq_false_iff_ne]; omega
  have hb3 : Below w.heap.size w (((w.alloc (.cells #[.slice none 0 0] 22)).alloc (.cells #[.slice none 0 0] 26)).alloc (.cells #[.int .i64 0] 27)) := bch (bch (bnew _ _) (bnew _ _)) (bnew _ _)
  have hx3 := (hb3.cell (p := ⟨b, o, none⟩) hb).trans hx
  have hy3 := (hb3.cell (p := ⟨b, o + m, none⟩) hb).trans hy
  obtain ⟨tb', to', hLo⟩ := hd.lo
  have HLo := Lib.hid hLo
  have hrm : r.length = m := hd.at.1
  have HRM := Lib.hid hrm
  clear hx hy hcc hc hlast h hd hn h0 hb3 hLo hrm
  refine (callsIn_wide (n := 6)).1 ?_
  refine callsIn_of_wp_marks Try.func16 rfl trivial ?_ rfl
  simp only [Try.ntmps16, List.size_toArray, List.length_cons, List.length_nil, Nat.reduceAdd, Nat.reduceSub, Array.replicate_succ, Array.replicate_zero, List.push_toArray, List.append_toArray, List.nil_append, List.cons_append]
  gi_wp2_with (refine ⟨trivial, ?_⟩; gi_at_call 23; refine (callsIn_wide.2 (parts_fn _ a2 m cc rfl _)).mono ?_; rintro e w1 ⟨rfl, rfl⟩)
  clear hx3 hy3 hs
  have b0 := ((((((Boxed.new w 22 (.slice none 0 0)).alloc (.cells #[.slice none 0 0] 26)).alloc (.cells #[.int .i64 0] 27)).alloc (.cells #[.slice none 0 0] 22)).alloc (.cells #[.slice none 0 0] 26)).alloc (.cells #[.slice a2 m cc] 25))
  have b1 := (((((Boxed.new (w.alloc (.cells #[.slice none 0 0] 22)) 26 (.slice none 0 0)).alloc (.cells #[.int .i64 0] 27)).alloc (.cells #[.slice none 0 0] 22)).alloc (.cells #[.slice none 0 0] 26)).alloc (.cells #[.slice a2 m cc] 25))
  have b2 := ((((Boxed.new ((w.alloc (.cells #[.slice none 0 0] 22)).alloc (.cells #[.slice none 0 0] 26)) 27 (.int .i64 0)).alloc (.cells #[.slice none 0 0] 22)).alloc (.cells #[.slice none 0 0] 26)).alloc (.cells #[.slice a2 m cc] 25))
  have b3 := (((Boxed.new (((w.alloc (.cells #[.slice none 0 0] 22)).alloc (.cells #[.slice none 0 0] 26)).alloc (.cells #[.int .i64 0] 27)) 22 (.slice none 0 0)).alloc (.cells #[.slice none 0 0] 26)).alloc (.cells #[.slice a2 m cc] 25))
  have b4 := ((Boxed.new ((((w.alloc (.cells #[.slice none 0 0] 22)).alloc (.cells #[.slice none 0 0] 26)).alloc (.cells #[.int .i64 0] 27)).alloc (.cells #[.slice none 0 0] 22)) 26 (.slice none 0 0)).alloc (.cells #[.slice a2 m cc] 25))
  have b5 := (Boxed.new (((((w.alloc (.cells #[.slice none 0 0] 22)).alloc (.cells #[.slice none 0 0] 26)).alloc (.cells #[.int .i64 0] 27)).alloc (.cells #[.slice none 0 0] 22)).alloc (.cells #[.slice none 0 0] 26)) 25 (.slice a2 m cc))
  simp only [World.size_alloc] at b1 b2 b3 b4 b5
  have hB0 : Below w.heap.size w ((((((w.alloc (.cells #[.slice none 0 0] 22)).alloc (.cells #[.slice none 0 0] 26)).alloc (.cells #[.int .i64 0] 27)).alloc (.cells #[.slice none 0 0] 22)).alloc (.cells #[.slice none 0 0] 26)).alloc (.cells #[.slice a2 m cc] 25)) := (((((((Below.refl _ w).alloc (Nat.le_refl _) _).alloc (by simp) _).alloc (by simp; omega) _).alloc (by simp; omega) _).alloc (by simp; omega) _).alloc (by simp; omega) _)
  have hsz : ((((((w.alloc (.cells #[.slice none 0 0] 22)).alloc (.cells #[.slice none 0 0] 26)).alloc (.cells #[.int .i64 0] 27)).alloc (.cells #[.slice none 0 0] 22)).alloc (.cells #[.slice none 0 0] 26)).alloc (.cells #[.slice a2 m cc] 25)).heap.size = w.heap.size + 1 + 1 + 1 + 1 + 1 + 1 := by simp
  obtain ⟨W0, hW0⟩ : ∃ W0, ((((((w.alloc (.cells #[.slice none 0 0] 22)).alloc (.cells #[.slice none 0 0] 26)).alloc (.cells #[.int .i64 0] 27)).alloc (.cells #[.slice none 0 0] 22)).alloc (.cells #[.slice none 0 0] 26)).alloc (.cells #[.slice a2 m cc] 25)) = W0 := ⟨_, rfl⟩
  rw [hW0] at b0 b1 b2 b3 b4 b5 hB0 hsz
  have HSZ := Lib.hid hsz
  have hsz1 : w.heap.size + 1 + 1 + 1 + 1 + 1 < W0.heap.size := by omega
  simp only [hW0]
  clear hsz
  clear hW0
  have HB5 := Lib.hid b5
  have HB0 := Lib.hid hB0
  refine wpIn_rangeFunc_ownH rfl (by omega) (gf := 27) (lb := #[.pointer (some ⟨w.heap.size + 1 + 1 + 1 + 1 + 1, 0, none⟩)]) rfl trivial (enters_of Try.func27 (by kernel_rfl) rfl)
    (stops_at _ (by omega) (w.heap.size + 1 + 1 + 1 + 1 + 1) w.heap.size a2 m cc tb' to' r HRM.out (by omega) W0 (by omega) (fun W hW => Boxed.below HB5.out hW) (HLo.out.below hB0)) (fun h k => Kq.t h k) (fun W l o o' h1 h2 h3 h4 => Kq.b (w := W0) (by omega) W l o o' h1 h2 h3 h4) (Below.refl _ _) (fun _ => rfl)
    (PaI w w.heap.size) (PaX w w.heap.size) (paI_own w r _ (by omega)) (paX_own w r _ (by omega))
    ⟨⟨⟨b0, b1, b2⟩, fun r hr => (by cases hr)⟩, ⟨_, b3, World.ownsRow_nil _ _ _ _, trivial⟩, ⟨_, b4, World.ownsRow_nil _ _ _ _, trivial⟩, hB0⟩
    (fun x a' _ => a' = { tmps := #[.slice (some ⟨b, o, none⟩) (m + 1) c, undef, .pointer (some ⟨w.heap.size, 0, none⟩), .pointer (some ⟨w.heap.size + 1, 0, none⟩), .pointer (some ⟨w.heap.size + 1 + 1, 0, none⟩), .pointer (some ⟨w.heap.size + 1 + 1 + 1, 0, none⟩), .pointer (some ⟨w.heap.size + 1 + 1 + 1 + 1, 0, none⟩), .int .i64 (x.1.at' : Int), .slice (some ⟨tb', to' + x.1.at', none⟩) x.1.t.length (cc - x.1.at'), .slice (some ⟨b, o, none⟩) (m + 1) c, .int .i64 ((m : Int) + 1), .bool false, .bool false, .slice (some ⟨b, o, none⟩) (m + 1) c, .pointer (some ⟨b, o, none⟩), .int .u8 0, .bool false, .bool false, .bool false, .slice (some ⟨b, o, none⟩) (m + 1) c, .slice (some ⟨b, o, none⟩) (m + 1) c, .int .i64 ((m : Int) + 1), .int .i64 (m : Int), .pointer (some ⟨b, o + m, none⟩), .int .u8 0, .bool false, .bool false, .slice (some ⟨b, o, none⟩) (m + 1) c, .slice a2 m cc, .func (.func 27) #[] #[.pointer (some ⟨w.heap.size + 1 + 1 + 1 + 1 + 1, 0, none⟩)], .int .i64 (x.1.at' : Int), .slice (some ⟨tb', to' + x.1.at', none⟩) x.1.t.length (cc - x.1.at'), undef, undef, undef, undef, undef, undef, undef, undef, undef, undef, undef, undef, undef, undef, undef], defers := [] })
    (fun x a' => ownFrom_pure _ _)
    ?assign ?body ?done ?stop
  case assign =>
    rintro lp pre x W K hI hK
    gi_wp2
    exact hK _ _ ((KeepsOthers.refl _).from _) ⟨Below.refl _ W, fun h => h⟩ hI rfl
  case body =>
    rintro lp pre x a' W hlp - ⟨⟨⟨c0, c1, c2⟩, hz⟩, ⟨v3, c3, r3, -⟩, ⟨v4, c4, r4, -⟩, hB1⟩ rfl hlt
    have hpl : pre.length < 100000 := by
      have h1 := sg_len r 0 []
      rw [pts_len] at hlt
      have := HRM.out
      omega
    have hin := (pt_in x).1
    rw [HRM.out] at hin
    have hcv := conv_at ((HLo.out.below hB1).pt hB1.size x)
    obtain ⟨p, hp⟩ : ∃ p, x.1.at' = p := ⟨_, rfl⟩
    obtain ⟨q, hq⟩ : ∃ q, x.1.t.length = q := ⟨_, rfl⟩
    obtain ⟨T, hT⟩ : ∃ T, mkB x.1.t = T := ⟨_, rfl⟩
    rw [hp, hq] at hin hcv ⊢
    rw [hT] at hcv
    have HP := Lib.hid hp
    have HT := Lib.hid hT
    have HZ := Lib.hid hz
    have d0 := c0.cell
    have d1 := c1.cell
    have d2 := c2.cell
    have d3 := c3.cell
    have d4 := c4.cell
    have f0 := c0.frozen
    have f1 := c1.frozen
    have f2 := c2.frozen
    by_cases he : q = 0
    · have hx0 : x.1.t = [] := List.eq_nil_of_length_eq_zero (by rw [hq, he])
      have heb : ((q : Int) == 0) = true := by rw [beq_iff_eq]; omega
      have HX := Lib.hid hx0
      clear hp hq hT hz he hcv hx0
      gi_wp2
      exact ⟨(((KeepsOthers.setCell _ _ _).trans (KeepsOthers.setCell _ _ _)).trans (KeepsOthers.setCell _ _ _)).from _,
        ⟨⟨⟨rfl, x, by simp, HX.out⟩, ((c0.set _).other (by omega) _).other (by omega) _, ((c1.other (by omega) _).set _).other (by omega) _, ((c2.other (by omega) _).other (by omega) _).set _⟩,
          ((hB1.setCell (p := ⟨_, 0, none⟩) (Nat.le_refl _) _).setCell (p := ⟨_, 0, none⟩) (Nat.le_succ _) _).setCell (p := ⟨_, 0, none⟩) (by show w.heap.size ≤ w.heap.size + 1 + 1; omega) _⟩⟩
    · have heb : ((q : Int) == 0) = false := by rw [beq_eq_false_iff_ne]; omega
      have hx0 : x.1.t ≠ [] := fun e => he (by rw [← hq, e]; rfl)
      have HX := Lib.hid hx0
      clear hp hq hT hz he hx0
      have hle : w.heap.size ≤ w.heap.size + 1 + 1 + 1 := by omega
      have hsz3 := hB1.size
      gi_wp2_with (first
        | (gi_at_builtin; refine wpListIn_append_own _ rfl _ _ 22 rfl w.heap.size 9 i0 (.string ⟨#[]⟩) 1 16 Try.underlying22 hi hz0 hz1 hz2 rfl (by decide) _ _ _ rfl (r3.alloc _) ⟨W.heap.size, 0, none⟩ 1 1 [.string T] rfl rfl (World.news_of_block (cs := #[.string T]) (t := 9) (fr := (0, 0)) (heap_alloc_last W _)) (by simp [Value.oneCell']) (by unfold maxLen; omega) (by omega) (by simp; omega) ?_; intro v' w1 hown' hgrow _; obtain ⟨g', cap', rfl⟩ := ownsRow_succ hown'; obtain ⟨hv1, hv2, hr5, hk2, hb2⟩ := c3.appended (by decide) r3 hB1.size hle hown' hgrow; have hc1 := hv1.cell; have hf1 := hv1.frozen; have c4' := box_step (B := w.heap.size + 1 + 1 + 1) c4 (by decide) r3 hgrow (by omega) (.slice (some ⟨g', 0, none⟩) (pre.length + 1) cap'); have d4' := c4'.cell; have r4' := row_step r4 r3 (by decide) hgrow hv1 (by decide) (.slice (some ⟨g', 0, none⟩) (pre.length + 1) cap'); have hsz4 : W.heap.size ≤ w1.heap.size := Nat.le_trans (by simp) hgrow.size; have hal := heap_alloc_last (w1.setCell ⟨w.heap.size + 1 + 1 + 1, 0, none⟩ (.slice (some ⟨g', 0, none⟩) (pre.length + 1) cap')) (.cells #[.int .i64 (1 + (p : Int))] 3); have hal2 : ((w1.setCell ⟨w.heap.size + 1 + 1 + 1, 0, none⟩ (.slice (some ⟨g', 0, none⟩) (pre.length + 1) cap')).alloc (.cells #[.int .i64 (1 + (p : Int))] 3)).heap[w1.heap.size]? = some (.cells #[.int .i64 (1 + (p : Int))] 3) := by (rw [World.size_setCell] at hal; exact hal))
        | (gi_at_builtin; refine wpListIn_append_own _ rfl _ _ 26 rfl w.heap.size 3 j0 (.int .i64 0) 1 8 Try.underlying26 ki kz0 kz1 kz2 rfl (by decide) _ _ _ rfl (r4'.alloc _) ⟨w1.heap.size, 0, none⟩ 1 1 [.int .i64 (1 + (p : Int))] rfl rfl (World.news_of_block (cs := #[.int .i64 (1 + (p : Int))]) (t := 3) (fr := (0, 0)) hal2) (by simp [Value.oneCell']) (by unfold maxLen; omega) (by omega) (by simp; omega) ?_; intro v'' w2 hown2 hgrow2 _; obtain ⟨g2, cap2, rfl⟩ := ownsRow_succ hown2; obtain ⟨kv1, kv2, kr5, kk2, kb2⟩ := c4'.appended (by decide) r4' (by simp; omega) (by omega) hown2 hgrow2; have hc2 := kv1.cell; have hf2 := kv1.frozen))
      have st : ∀ (C : Nat) (s : TypeId) (u : Value), Boxed W C s u → s ≠ 9 → s ≠ 3 → C ≠ w.heap.size + 1 + 1 + 1 → C ≠ w.heap.size + 1 + 1 + 1 + 1 → Boxed (w2.setCell ⟨w.heap.size + 1 + 1 + 1 + 1, 0, none⟩ (.slice (some ⟨g2, 0, none⟩) (pre.length + 1) cap2)) C s u := fun C s u hC h1 h2 h3 h4 =>
        box_step (box_step (B := w.heap.size + 1 + 1 + 1) hC h1 r3 hgrow h3 (.slice (some ⟨g', 0, none⟩) (pre.length + 1) cap')) h2 r4' hgrow2 h4 _
      refine ⟨(hk2.trans kk2).from _, ⟨hb2.trans kb2, fun hx => st _ _ _ hx (by decide) (by decide) (by omega) (by omega)⟩, ⟨⟨st _ _ _ c0 (by decide) (by decide) (by omega) (by omega), st _ _ _ c1 (by decide) (by decide) (by omega) (by omega), st _ _ _ c2 (by decide) (by decide) (by omega) (by omega)⟩, ?_⟩, ⟨_, box_step hv2 (by decide) r4' hgrow2 (by omega) _, ?_, trivial⟩, ⟨_, kv2, ?_, trivial⟩, hB1.trans (hb2.trans kb2)⟩
      · intro y hy
        rcases List.mem_append.1 hy with h | h
        · exact HZ.out y h
        · rw [List.mem_singleton.1 h]; exact HX.out
      · have := row_step hr5 r4' (by decide) hgrow2 kv1 (by decide) (.slice (some ⟨g2, 0, none⟩) (pre.length + 1) cap2)
        rw [List.map_append, List.length_append, List.map_cons, List.map_nil]
        show _
        rw [show eT x.1.t = .string T by rw [← HT.out]]
        exact this
      · rw [List.map_append, List.length_append, List.map_cons, List.map_nil]
        have e2 : eN (1 + x.1.at') = .int .i64 (1 + (p : Int)) := by rw [HP.out]; show Value.int _ _ = _; congr 1
        rw [e2]
        exact kr5
  case done =>
    rintro D ys W hD rfl ⟨⟨⟨c0, c1, c2⟩, hz⟩, ⟨v3, c3, r3, -⟩, ⟨v4, c4, r4, -⟩, hB1⟩ hK
    obtain ⟨a3, c3', rfl⟩ := owns_slice r3
    obtain ⟨a4, c4', rfl⟩ := owns_slice r4
    have d0 := c0.cell
    have d1 := c1.cell
    have d2 := c2.cell
    have d3 := c3.cell
    have d4 := c4.cell
    have f0 := c0.frozen
    have f1 := c1.frozen
    have f2 := c2.frozen
    have hmx : Try.prog.follows .mixedOrders = true := by kernel_rfl
    have hlx : Try.prog.follows .lateStores = true := by kernel_rfl
    gi_wp2
    gi_region_with_o (fail)
    all_goals gi_wp2
    all_goals (
      have e0 := ((c0.set (.slice a3 (pts r).length c3')).other (B' := w.heap.size + 1) (by omega) (.slice a4 (pts r).length c4')).other (B' := w.heap.size + 1 + 1) (by omega) (.int .i64 0)
      have e1' := ((c1.other (B' := w.heap.size) (by omega) (.slice a3 (pts r).length c3')).set (.slice a4 (pts r).length c4')).other (B' := w.heap.size + 1 + 1) (by omega) (.int .i64 0)
      have e2 := ((c2.other (B' := w.heap.size) (by omega) (.slice a3 (pts r).length c3')).other (B' := w.heap.size + 1) (by omega) (.slice a4 (pts r).length c4')).set (.int .i64 0)
      have hK2 := (((KeepsOthers.setCell W ⟨w.heap.size, 0, none⟩ (.slice a3 (pts r).length c3')).trans (KeepsOthers.setCell _ ⟨w.heap.size + 1, 0, none⟩ (.slice a4 (pts r).length c4'))).trans (KeepsOthers.setCell _ ⟨w.heap.size + 1 + 1, 0, none⟩ (.int .i64 0))).same D _ hK rfl
      have c1' := c1.other (B' := w.heap.size) (by omega) (.slice a3 (pts r).length c3')
      have c2' := (c2.other (B' := w.heap.size) (by omega) (.slice a3 (pts r).length c3')).other (B' := w.heap.size + 1) (by omega) (.slice a4 (pts r).length c4')
      have s1 := r3.kept (grownBy_setCell' W w.heap.size (.slice a3 (pts r).length c3')) (.inr (c0.not_row (by decide) r3).symm)
      have s2 := s1.kept (grownBy_setCell' _ (w.heap.size + 1) (.slice a4 (pts r).length c4')) (.inr (c1'.not_row (by decide) s1).symm)
      have s3 := s2.kept (grownBy_setCell' _ (w.heap.size + 1 + 1) (.int .i64 0)) (.inr (c2'.not_row (by decide) s2).symm)
      have q1 := r4.kept (grownBy_setCell' W w.heap.size (.slice a3 (pts r).length c3')) (.inr (c0.not_row (by decide) r4).symm)
      have q2 := q1.kept (grownBy_setCell' _ (w.heap.size + 1) (.slice a4 (pts r).length c4')) (.inr (c1'.not_row (by decide) q1).symm)
      have q3 := q2.kept (grownBy_setCell' _ (w.heap.size + 1 + 1) (.int .i64 0)) (.inr (c2'.not_row (by decide) q2).symm)
      have hBE := ((hB1.setCell (p := ⟨w.heap.size, 0, none⟩) (Nat.le_refl _) (.slice a3 (pts r).length c3')).setCell (p := ⟨w.heap.size + 1, 0, none⟩) (Nat.le_succ _) (.slice a4 (pts r).length c4')).setCell (p := ⟨w.heap.size + 1 + 1, 0, none⟩) (by show w.heap.size ≤ w.heap.size + 1 + 1; omega) (.int .i64 0)
      generalize ((W.setCell ⟨w.heap.size, 0, none⟩ _).setCell ⟨w.heap.size + 1, 0, none⟩ _).setCell ⟨w.heap.size + 1 + 1, 0, none⟩ _ = E at e0 e1' e2 hK2 s3 q3 hBE ⊢
      have g0 : Boxed E.drew w.heap.size 22 (.slice a3 (pts r).length c3') := e0
      have g1 : Boxed E.drew (w.heap.size + 1) 26 (.slice a4 (pts r).length c4') := e1'
      have g2 : Boxed E.drew (w.heap.size + 1 + 1) 27 (.int .i64 0) := e2
      have hK3 : E.drew.heap[D]? = _ := hK2
      refine ⟨by simp, .inl ⟨_, _, rfl, run_takeDeferred hK3, ?_⟩⟩
      have k0 := (box_putObj g0 (.deferred none) hK3 rfl).cell
      have k1 := (box_putObj g1 (.deferred none) hK3 rfl).cell
      have k2 := (box_putObj g2 (.deferred none) hK3 rfl).cell
      exact ⟨.tuple #[.slice a3 (pts r).length c3', .slice a4 (pts r).length c4', .int .i64 0], by simp [results, Try.results16, go_sem, k0, k1, k2], .inr ⟨hz, _, _, rfl, ownsRow_putObj s3.drew _ hK3 rfl, ownsRow_putObj q3.drew _ hK3 rfl⟩, (hBE.drew).trans (belowK_b (w := w) (Nat.le_refl _) E.drew D _ _ (by have := HSZ.out; omega) hK3 rfl rfl)⟩)
  case stop =>
    rintro D cd pre W hD hp ⟨⟨⟨rfl, x, hx, hxe⟩, c0, c1, c2⟩, hB1⟩ hK
    gi_wp2
    refine ⟨by simp, .inl ⟨_, _, rfl, run_takeDeferred hK, ?_⟩⟩
    have k0 := (box_putObj c0 (.deferred none) hK rfl).cell
    have k1 := (box_putObj c1 (.deferred none) hK rfl).cell
    have k2 := (box_putObj c2 (.deferred none) hK rfl).cell
    exact ⟨.tuple #[.slice none 0 0, .slice none 0 0, .int .i64 19], by simp [results, Try.results16, go_sem, k0, k1, k2], .inl ⟨⟨x, hxe⟩, rfl⟩, hB1.trans (belowK_b (w := w) (Nat.le_refl _) W D _ _ (by have := HSZ.out; omega) hK rfl rfl)⟩
end Go.Proofs.Ytegdffebdbkchaa.L14
