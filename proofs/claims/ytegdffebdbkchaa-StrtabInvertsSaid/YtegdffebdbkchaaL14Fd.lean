/- What the program's Find returns: the least offset of a text, or none. Condition: memory holds the bytes (no more than 100000), and the text has no more than 100000 bytes. -/
import Derived.Test.YtegdffebdbkchaaL14Pr
namespace Go.Proofs.Ytegdffebdbkchaa.L14
open Go.RowKit Go.Shelf
attribute [local go_sem] Oper.semAt_some

/-- What Find returns. -/
def fiE (r : Option Nat) : Ending := match r with
  | none => .returned (.tuple #[.int .i64 0, .bool false])
  | some i => .returned (.tuple #[.int .i64 (i : Int), .bool true])
theorem fsg_none (s : List UInt8) : ∀ (L : List Sg), (∀ x ∈ L, ¬ s <:+ x.t) → fsg s L = none
  | [], _ => rfl
  | x :: r, h => by
    rw [fsg, if_neg (h x (by simp)), fsg_none s r fun y hy => h y (by simp [hy])]
theorem fsg_pre (s : List UInt8) : ∀ (L p : List Sg) (x : Sg), p ++ [x] <+: L → s <:+ x.t → (∀ y ∈ p, ¬ s <:+ y.t) → fsg s L = some (x.at' + x.t.length - s.length)
  | [], p, x, h, _, _ => by
    rw [List.prefix_nil] at h
    simp at h
  | z :: r, [], x, h, hx, _ => by
    rw [List.nil_append, List.cons_prefix_cons] at h
    rw [fsg, ← h.1, if_pos hx]
  | z :: r, y :: q, x, h, hx, hp => by
    rw [List.cons_append, List.cons_prefix_cons] at h
    rw [fsg, ← h.1, if_neg (hp y (by simp)), fsg_pre s r q x h.2 hx fun u hu => hp u (by simp [hu])]
/-- Where a text ends with another. -/
def laV (m : Nat) {l : List UInt8} (pre : List (Pt l)) : Nat := (pre.getLast?.map fun x => x.1.at' + x.1.t.length - m).getD 0
theorem laV_snoc (m : Nat) {l : List UInt8} (pre : List (Pt l)) (x : Pt l) : laV m (pre ++ [x]) = x.1.at' + x.1.t.length - m := by simp [laV]

/-- What Find's loop keeps, and what it leaves behind where it stops. -/
def FiI (W0 : World) (s : List UInt8) {l : List UInt8} (pre : List (Pt l)) (W : World) : Prop :=
  (∀ x ∈ pre, ¬ s <:+ x.1.t) ∧ Below W0.heap.size W0 W
def FiX (w : World) (g : Nat) (s : List UInt8) {l : List UInt8} (c : Code) (pre : List (Pt l)) (W : World) : Prop :=
  ((c = .ret ∧ ∃ p x, pre = p ++ [x] ∧ s <:+ x.1.t ∧ ∀ y ∈ p, ¬ s <:+ y.1.t) ∧ Boxed W g 3 (.int .i64 (laV s.length pre : Int)) ∧ Boxed W (g + 1) 4 (.bool true)) ∧ Below w.heap.size w W
theorem fiI_own (W0 : World) (s l : List UInt8) (B : Nat) (hB : W0.heap.size ≤ B) : OwnFrom B (FiI W0 s (l := l)) :=
  OwnFrom.and (ownFrom_pure _ _) (ownFrom_below (Nat.le_refl _) hB)
theorem fiX_own (w : World) (s l : List UInt8) (B : Nat) (hB : w.heap.size ≤ B) (c : Code) : OwnFrom B (FiX w w.heap.size s (l := l) c) :=
  OwnFrom.and (OwnFrom.and (ownFrom_pure _ _) (OwnFrom.and (Own.from (boxed_own _ _ (fun pre => .int .i64 (laV s.length pre : Int))) _) (Own.from (boxed_own _ _ _) _))) (ownFrom_below (Nat.le_refl _) hB)

set_option maxRecDepth 100000 in
set_option maxHeartbeats 4000000 in
theorem find_at (v : Value) (l : List UInt8) (s : List UInt8) (S : ByteArray) (hS : S = mkB s) (w : World) (h : Rw eB w v l) (hl : l.length ≤ 100000) (hs : s.length ≤ 100000) :
    Calls Try.prog 21 #[v, .string S] w fun e w' => e = fiE (fnd s 0 l) ∧ Below w.heap.size w w' := by
  obtain ⟨n, hn⟩ : ∃ n, l.length = n := ⟨_, rfl⟩
  obtain ⟨a, c, rfl, hc1, -⟩ := h.form hn
  obtain ⟨b, o, hLo⟩ := h.lo
  obtain ⟨R, hR⟩ : ∃ R, fiE (fnd s 0 l) = R := ⟨_, rfl⟩
  rw [hR]
  rw [fnd_sg s l.length l 0 (Nat.le_refl _)] at hR
  have HR := Lib.hid hR
  obtain ⟨m, hm⟩ : ∃ m, s.length = m := ⟨_, rfl⟩
  have hSs : S.size = m := by rw [hS, mkB_size, hm]
  have hcv := run_bytes_of_string (P := Try.prog) ((w.alloc (.cells #[.int .i64 0] 3)).alloc (.cells #[.bool false] 4)) 9 25 5 S Try.underlying9 Try.underlying25 Try.underlying5
  have hKge := grownCap_ge ((w.alloc (.cells #[.int .i64 0] 3)).alloc (.cells #[.bool false] 4)) S.size 0 5
  generalize grownCap ((w.alloc (.cells #[.int .i64 0] 3)).alloc (.cells #[.bool false] 4)) S.size 0 5 = K at hcv hKge
  have hsz1 : ((w.alloc (.cells #[.int .i64 0] 3)).alloc (.cells #[.bool false] 4)).heap.size = w.heap.size + 1 + 1 := by simp
  rw [hsz1, hSs] at hcv
  rw [hSs] at hKge
  have hnew := heap_alloc_new ((w.alloc (.cells #[.int .i64 0] 3)).alloc (.cells #[.bool false] 4)).drew (.cells (bytesRow S K) 5 ((bytesRow S K).size, (bytesRow S K).size + 1))
  have hbel : Below w.heap.size w (((w.alloc (.cells #[.int .i64 0] 3)).alloc (.cells #[.bool false] 4)).drew.alloc (.cells (bytesRow S K) 5 ((bytesRow S K).size, (bytesRow S K).size + 1))) := bch (bch (bch (bnew _ _) (bnew _ _)) (bdN (Below.refl _ _) 1)) (bnew _ _)
  have q0 : Boxed (((w.alloc (.cells #[.int .i64 0] 3)).alloc (.cells #[.bool false] 4)).drew.alloc (.cells (bytesRow S K) 5 ((bytesRow S K).size, (bytesRow S K).size + 1))) w.heap.size 3 (.int .i64 0) := Boxed.below (((Boxed.new w 3 (.int .i64 0)).alloc (.cells #[.bool false] 4))) (bch (bdN (Below.refl _ _) 1) (bnew _ _))
  have q1 : Boxed (((w.alloc (.cells #[.int .i64 0] 3)).alloc (.cells #[.bool false] 4)).drew.alloc (.cells (bytesRow S K) 5 ((bytesRow S K).size, (bytesRow S K).size + 1))) (w.heap.size + 1) 4 (.bool false) := by
    have := Boxed.new (w.alloc (.cells #[.int .i64 0] 3)) 4 (.bool false)
    simp only [World.size_alloc] at this
    exact Boxed.below this (bch (bdN (Below.refl _ _) 1) (bnew _ _))
  have hsz2 : (((w.alloc (.cells #[.int .i64 0] 3)).alloc (.cells #[.bool false] 4)).drew.alloc (.cells (bytesRow S K) 5 ((bytesRow S K).size, (bytesRow S K).size + 1))).heap.size = w.heap.size + 1 + 1 + 1 := by simp
  have hrw : Rw eB (((w.alloc (.cells #[.int .i64 0] 3)).alloc (.cells #[.bool false] 4)).drew.alloc (.cells (bytesRow S K) 5 ((bytesRow S K).size, (bytesRow S K).size + 1))) (.slice (some ⟨w.heap.size + 1 + 1, 0, none⟩) m K) s := by
    refine ⟨_, _, by rw [hm], by omega, fun e => (by cases e), fun _ => ⟨w.heap.size + 1 + 1, 0, rfl, by omega, fun j hj => ?_⟩⟩
    have h2 : ((w.alloc (.cells #[.int .i64 0] 3)).alloc (.cells #[.bool false] 4)).drew.heap.size = w.heap.size + 1 + 1 := by simp
    rw [h2] at hnew
    have hk : (bytesRow S K)[j]? = some (eB s[j]) := by
      unfold bytesRow
      rw [Array.getElem?_append_left (by rw [Array.size_map]; show j < S.size; omega), hS]
      simp [mkB, hj]
    rw [Nat.zero_add, ← hk]
    unfold World.cell?
    simp only [hnew]
    rfl
  generalize ((w.alloc (.cells #[.int .i64 0] 3)).alloc (.cells #[.bool false] 4)).drew.alloc (.cells (bytesRow S K) 5 ((bytesRow S K).size, (bytesRow S K).size + 1)) = W2 at hcv hbel q0 q1 hsz2 hrw
  clear hnew hsz1
  have HLo := Lib.hid hLo
  have HRW := Lib.hid hrw
  have HN := Lib.hid hn
  have HM := Lib.hid hm
  rw [hm] at hs
  rw [hn] at hl
  clear hLo hrw hn h hR hS hSs hm
  refine (callsIn_wide (n := 6)).1 ?_
  refine callsIn_of_wp_marks Try.func21 rfl trivial ?_ rfl
  simp only [Try.ntmps21, List.size_toArray, List.length_cons, List.length_nil, Nat.reduceAdd, Nat.reduceSub, Array.replicate_succ, Array.replicate_zero, List.push_toArray, List.append_toArray, List.nil_append, List.cons_append]
  gi_wp2_with (refine ⟨trivial, ?_⟩; gi_at_call 23; refine (callsIn_wide.2 (parts_fn _ a n c rfl _)).mono ?_; rintro e w1 ⟨rfl, rfl⟩)
  have b0 := (q0.alloc (.cells #[.slice (some ⟨w.heap.size + 1 + 1, 0, none⟩) m K] 25)).alloc (.cells #[.slice a n c] 25)
  have b1 := (q1.alloc (.cells #[.slice (some ⟨w.heap.size + 1 + 1, 0, none⟩) m K] 25)).alloc (.cells #[.slice a n c] 25)
  have bw := (Boxed.new W2 25 (.slice (some ⟨w.heap.size + 1 + 1, 0, none⟩) m K)).alloc (.cells #[.slice a n c] 25)
  have b5 := Boxed.new (W2.alloc (.cells #[.slice (some ⟨w.heap.size + 1 + 1, 0, none⟩) m K] 25)) 25 (.slice a n c)
  simp only [World.size_alloc, hsz2] at bw b5
  have hB2 : Below W2.heap.size W2 ((W2.alloc (.cells #[.slice (some ⟨w.heap.size + 1 + 1, 0, none⟩) m K] 25)).alloc (.cells #[.slice a n c] 25)) := bch (bnew _ _) (bnew _ _)
  have hB0 : Below w.heap.size w ((W2.alloc (.cells #[.slice (some ⟨w.heap.size + 1 + 1, 0, none⟩) m K] 25)).alloc (.cells #[.slice a n c] 25)) := bch hbel hB2
  have hsz : ((W2.alloc (.cells #[.slice (some ⟨w.heap.size + 1 + 1, 0, none⟩) m K] 25)).alloc (.cells #[.slice a n c] 25)).heap.size = w.heap.size + 1 + 1 + 1 + 1 + 1 := by simp [hsz2]
  obtain ⟨W0, hW0⟩ : ∃ W0, ((W2.alloc (.cells #[.slice (some ⟨w.heap.size + 1 + 1, 0, none⟩) m K] 25)).alloc (.cells #[.slice a n c] 25)) = W0 := ⟨_, rfl⟩
  rw [hW0] at b0 b1 bw b5 hB2 hB0 hsz
  have HSZ := Lib.hid hsz
  have hsz5 : w.heap.size + 1 + 1 + 1 + 1 < W0.heap.size := by omega
  simp only [hW0]
  clear hsz hW0
  have HB5 := Lib.hid b5
  have HB0 := Lib.hid hB0
  have HBW := Lib.hid (And.intro bw (HRW.out.below hB2))
  have HB01 := Lib.hid (And.intro b0 b1)
  clear bw b5 b0 b1 hB2 hbel q0 q1
  refine wpIn_rangeFunc_ownH rfl (by omega) (gf := 27) (lb := #[.pointer (some ⟨w.heap.size + 1 + 1 + 1 + 1, 0, none⟩)]) rfl trivial (enters_of Try.func27 (by kernel_rfl) rfl)
    (stops_at _ (by omega) (w.heap.size + 1 + 1 + 1 + 1) w.heap.size a n c b o l HN.out (by omega) W0 (by omega) (fun W hW => Boxed.below HB5.out hW) (HLo.out.below hB0)) (fun h k => Kq.t h k) (fun W l o o' h1 h2 h3 h4 => Kq.b (w := W0) (by omega) W l o o' h1 h2 h3 h4) (Below.refl _ _) (fun _ => rfl)
    (FiI W0 s) (FiX w w.heap.size s) (fiI_own W0 s l _ (Nat.le_refl _)) (fiX_own w s l _ (by omega))
    ⟨fun x hx => (by cases hx), Below.refl _ _⟩
    (fun x a' _ => a' = { tmps := #[.slice a n c, .string S, undef, undef, .pointer (some ⟨w.heap.size, 0, none⟩), .pointer (some ⟨w.heap.size + 1, 0, none⟩), .pointer (some ⟨w.heap.size + 1 + 1 + 1, 0, none⟩), .int .i64 (x.1.at' : Int), .slice (some ⟨b, o + x.1.at', none⟩) x.1.t.length (c - x.1.at'), .string S, .slice (some ⟨w.heap.size + 1 + 1, 0, none⟩) m K, .slice a n c, .func (.func 27) #[] #[.pointer (some ⟨w.heap.size + 1 + 1 + 1 + 1, 0, none⟩)], .int .i64 (x.1.at' : Int), .slice (some ⟨b, o + x.1.at', none⟩) x.1.t.length (c - x.1.at'), undef, undef, undef, undef, undef, undef, undef, undef, undef, undef], defers := [] })
    (fun x a' => ownFrom_pure _ _)
    ?assign ?body ?done ?stop
  case assign =>
    rintro lp pre x W K hI hK
    gi_wp2
    exact hK _ _ ((KeepsOthers.refl _).from _) ⟨Below.refl _ W, fun h => h⟩ hI rfl
  case body =>
    rintro lp pre x a' W hlp - ⟨hz, hB1⟩ rfl hlt
    have hin := (pt_in x).1
    rw [HN.out] at hin
    have hBw := HB0.out.trans (hB1.mono (by omega : w.heap.size ≤ W0.heap.size))
    have hpt := (HLo.out.below hBw).pt hBw.size x
    have c0 := Boxed.below HB01.out.1 hB1
    have c1 := Boxed.below HB01.out.2 hB1
    have cw := (Boxed.below HBW.out.1 hB1).cell
    have hwt := HBW.out.2.below hB1
    have f0 := c0.frozen
    have f1 := c1.frozen
    have d0 := c0.cell
    have d1 := c1.cell
    have hlast := laV_snoc m pre x
    obtain ⟨t, ht⟩ : ∃ t, x.1.t = t := ⟨_, rfl⟩
    rw [ht] at hin hpt hlast
    by_cases he : s <:+ t
    · have hle := he.length_le
      rw [HM.out] at hle
      have HH := Lib.hid (callsIn_wide (n := 3).2 (hsuf_at _ _ t s true W (by omega) (by have := HM.out; omega) hpt hwt (by simp [he])))
      have HE := Lib.hid (show FiX w w.heap.size s (l := l) .ret (pre ++ [x]) ((W.setCell ⟨w.heap.size, 0, none⟩ (.int .i64 ((x.1.at' + t.length - m : Nat) : Int))).setCell ⟨w.heap.size + 1, 0, none⟩ (.bool true)) from
        ⟨⟨⟨rfl, pre, x, rfl, by rw [ht]; exact he, hz⟩, by rw [HM.out, hlast]; exact (c0.set _).other (by omega) _, (c1.other (by omega) _).set _⟩, (hBw.setCell (p := ⟨_, 0, none⟩) (Nat.le_refl _) _).setCell (p := ⟨_, 0, none⟩) (Nat.le_succ _) _⟩)
      obtain ⟨p, hp⟩ : ∃ p, x.1.at' = p := ⟨_, rfl⟩
      obtain ⟨q, hq⟩ : ∃ q, t.length = q := ⟨_, rfl⟩
      rw [ht, hp, hq]
      rw [hp, hq] at hin HH HE
      rw [hq] at hle
      have e1 : ((p + q - m : Nat) : Int) = (p : Int) + (q : Int) - (m : Int) := by omega
      rw [e1] at HE
      clear hpt hwt hlast he ht hp hq hz c0 c1 e1
      gi_wp2_with (refine ⟨trivial, ?_⟩; (refine (CallsIn.inRound lp (HH.out)).mono ?_; rintro e w4 ⟨rfl, rfl⟩))
      exact ⟨((KeepsOthers.setCell _ _ _).trans (KeepsOthers.setCell _ _ _)).from _, HE.out⟩
    · have HH := Lib.hid (callsIn_wide (n := 3).2 (hsuf_at _ _ t s false W (by omega) (by have := HM.out; omega) hpt hwt (by simp [he])))
      have HE := Lib.hid (show ∀ y ∈ pre ++ [x], ¬ s <:+ y.1.t from fun y hy => by
        rcases List.mem_append.1 hy with h | h
        · exact hz y h
        · rw [List.mem_singleton.1 h, ht]; exact he)
      obtain ⟨p, hp⟩ : ∃ p, x.1.at' = p := ⟨_, rfl⟩
      obtain ⟨q, hq⟩ : ∃ q, t.length = q := ⟨_, rfl⟩
      rw [ht, hp, hq]
      rw [hp, hq] at hin HH
      clear hpt hwt hlast he ht hp hq hz c0 c1
      gi_wp2_with (refine ⟨trivial, ?_⟩; (refine (CallsIn.inRound lp (HH.out)).mono ?_; rintro e w4 ⟨rfl, rfl⟩))
      exact ⟨(KeepsOthers.refl _).from _, ⟨Below.refl _ _, fun h => h⟩, HE.out, hB1⟩
  case done =>
    rintro D ys W hD rfl ⟨hz, hB1⟩ hK
    have hBw := HB0.out.trans (hB1.mono (by omega : w.heap.size ≤ W0.heap.size))
    have c0 := Boxed.below HB01.out.1 hB1
    have c1 := Boxed.below HB01.out.2 hB1
    have f0 := c0.frozen
    have f1 := c1.frozen
    have d0 := c0.cell
    have d1 := c1.cell
    have hr : R = .returned (.tuple #[.int .i64 0, .bool false]) := by
      rw [← HR.out, fsg_none s _ fun x hx => hz ⟨x, hx⟩ (pts_val x hx)]; rfl
    subst hr
    gi_wp2
    have e0 := (c0.set (.int .i64 0)).other (B' := w.heap.size + 1) (by omega) (.bool false)
    have e1 := (c1.other (B' := w.heap.size) (by omega) (.int .i64 0)).set (.bool false)
    have hK2 := ((KeepsOthers.setCell W ⟨w.heap.size, 0, none⟩ (.int .i64 0)).trans (KeepsOthers.setCell _ ⟨w.heap.size + 1, 0, none⟩ (.bool false))).same D _ hK rfl
    have hBE := (hBw.setCell (p := ⟨w.heap.size, 0, none⟩) (Nat.le_refl _) (.int .i64 0)).setCell (p := ⟨w.heap.size + 1, 0, none⟩) (Nat.le_succ _) (.bool false)
    generalize (W.setCell ⟨w.heap.size, 0, none⟩ _).setCell ⟨w.heap.size + 1, 0, none⟩ _ = E at e0 e1 hK2 hBE ⊢
    refine ⟨by simp, .inl ⟨_, _, rfl, run_takeDeferred hK2, ?_⟩⟩
    have k0 := (box_putObj e0 (.deferred none) hK2 rfl).cell
    have k1 := (box_putObj e1 (.deferred none) hK2 rfl).cell
    exact ⟨.tuple #[.int .i64 0, .bool false], by simp [results, Try.results21, go_sem, k0, k1], rfl, hBE.trans (belowK_b (w := w) (Nat.le_refl _) E D _ _ (by have := HSZ.out; omega) hK2 rfl rfl)⟩
  case stop =>
    rintro D cd pre W hD hp ⟨⟨⟨rfl, p, x, rfl, hx, hpz⟩, c0, c1⟩, hB1⟩ hK
    have hpm : (p.map (·.1)) ++ [x.1] <+: sg 0 [] l := by
      have := hp.map (fun y : Pt l => y.1)
      rw [pts_map l (fun y => y), List.map_id', List.map_append] at this
      exact this
    have hr : R = .returned (.tuple #[.int .i64 (laV s.length (p ++ [x]) : Int), .bool true]) := by
      rw [← HR.out, fsg_pre s _ _ x.1 hpm hx (fun y hy => by obtain ⟨z, hz, rfl⟩ := List.mem_map.1 hy; exact hpz z hz), laV_snoc]; rfl
    obtain ⟨la, hla⟩ : ∃ la, laV s.length (p ++ [x]) = la := ⟨_, rfl⟩
    rw [hla] at c0 hr
    subst hr
    gi_wp2
    refine ⟨by simp, .inl ⟨_, _, rfl, run_takeDeferred hK, ?_⟩⟩
    have k0 := (box_putObj c0 (.deferred none) hK rfl).cell
    have k1 := (box_putObj c1 (.deferred none) hK rfl).cell
    exact ⟨.tuple #[.int .i64 (la : Int), .bool true], by simp [results, Try.results21, go_sem, k0, k1], rfl, hB1.trans (belowK_b (w := w) (Nat.le_refl _) W D _ _ (by have := HSZ.out; omega) hK rfl rfl)⟩
end Go.Proofs.Ytegdffebdbkchaa.L14
