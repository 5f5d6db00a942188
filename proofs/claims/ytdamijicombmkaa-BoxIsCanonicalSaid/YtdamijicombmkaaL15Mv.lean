/- What few, forward and back of the laws and the program's Get return. Condition: memory holds the sections. -/
import Derived.Test.YtdamijicombmkaaL15Lb
namespace Go.Proofs.Ytdamijicombmkaa.L15
open Go.RowKit L14
attribute [local go_sem] Oper.semAt_some

set_option maxHeartbeats 2000000 in
set_option maxRecDepth 100000 in
theorem few_at (v : Value) (l : List Sc) (b : Bool) (w : World) (hv : Ss w v l) (hl : l.length ≤ 9223372036854775807) (hb : b = true ↔ (∀ s ∈ l, s.2.length ≤ 500) ∧ l.length ≤ 30) :
    Calls Try.prog 9 #[v] w fun e w' => e = .returned (.bool b) ∧ Below w.heap.size w w' := by
  obtain ⟨n, hn⟩ : ∃ n, l.length = n := ⟨_, rfl⟩
  obtain ⟨a, c, rfl, -, -, hc⟩ := hv.form hn
  rw [hn] at hl
  have HC := Lib.hid hc
  have HN := Lib.hid hn
  have HB := Lib.hid hb
  clear hn hc hv hb
  go_enter Try.func9, Try.ntmps9
  go_wp2
  go_loopw [4, 7] (fun _ q wr => ∃ j : Nat, j ≤ n ∧ q = .int .i64 (j : Int) ∧ Below w.heap.size w wr ∧ Hid (∀ s ∈ l.take j, s.2.length ≤ 500)) (fun _ q _ => n - (intOf q).toNat)
  case atStart => exact ⟨0, Nat.zero_le _, rfl, Below.refl _ _, Lib.hid (by simp)⟩
  case round =>
    obtain ⟨j, hj, rfl, hB, hA⟩ := hrel
    by_cases hlt : j < n
    · have hjl : j < l.length := by rw [HN.out]; exact hlt
      obtain ⟨bb, o, rfl, hbl, hcc⟩ := HC.out (by omega)
      obtain ⟨x0, dv, x1, hr⟩ := hcc j hjl
      obtain ⟨m, hm⟩ : ∃ m, l[j].2.length = m := ⟨_, rfl⟩
      obtain ⟨da, dc, rfl, -⟩ := hr.form hm
      have y0 := (hB.cell (p := ⟨bb, o + j * 2, none⟩) (by exact hbl)).trans x0
      have y1 := (hB.cell (p := ⟨bb, o + j * 2 + 1, none⟩) (by exact hbl)).trans x1
      have hsz := hB.size
      by_cases h5 : m ≤ 500
      · have HA : Hid (∀ s ∈ l.take (j + 1), s.2.length ≤ 500) := Lib.hid (by
          rw [take_snoc l j hjl]
          intro s hs
          rcases List.mem_append.1 hs with h | h
          · exact hA.out s h
          · rw [List.mem_singleton.1 h, hm]; exact h5)
        have h5' : ¬ (500 : Int) < (m : Int) := by omega
        generalize l[j].1 = kk at y0
        clear hcc x0 x1 hr hm hA h5
        go_wp2
        go_roundw
        case rel => exact ⟨j + 1, hlt, by go_num, bch hB (bnew _ _), HA⟩
        case measure => simp [intOf]; omega
      · have hbf : b = false := by
          cases b with
          | false => rfl
          | true =>
            have := (HB.out.1 rfl).1 _ (List.getElem_mem hjl)
            omega
        subst hbf
        have h5' : (500 : Int) < (m : Int) := by omega
        generalize l[j].1 = kk at y0
        clear hcc x0 x1 hr hm hA h5
        go_wp2
        go_ret
        exact ⟨rfl, bch hB (bnew _ _)⟩
    · obtain rfl : j = n := by omega
      have hA2 := hA.out
      rw [List.take_of_length_le (by rw [HN.out]; exact Nat.le_refl _)] at hA2
      have hbb : decide ((j : Int) ≤ 30) = b := by
        have := HB.out
        rw [HN.out] at this
        cases b with
        | true =>
          have := (this.1 rfl).2
          exact decide_eq_true (by omega)
        | false =>
          refine decide_eq_false fun h => ?_
          have := this.2 ⟨hA2, by omega⟩
          cases this
      subst hbb
      clear hA hA2 HB
      go_wp2
      go_ret
      exact ⟨rfl, hB⟩

/-! ### rows of sections that the call made -/
/-- The cells of some sections, given by their kinds and the values of their data. -/
def fl (ps : List (Int × Value)) : List Value := ps.flatMap fun p => [.int .i64 p.1, p.2]
theorem fl_snoc (ps : List (Int × Value)) (k : Int) (v : Value) : fl (ps ++ [(k, v)]) = fl ps ++ [.int .i64 k, v] := by simp [fl]
theorem fl_len : ∀ ps : List (Int × Value), (fl ps).length = ps.length * 2
  | [] => rfl
  | p :: r => by
    have := fl_len r
    unfold fl at this ⊢
    simp [List.flatMap_cons, this]; omega
theorem fl_get : ∀ (ps : List (Int × Value)) (j : Nat) (h : j < ps.length), (fl ps)[j * 2]? = some (.int .i64 ps[j].1) ∧ (fl ps)[j * 2 + 1]? = some ps[j].2
  | p :: r, 0, _ => by simp [fl]
  | p :: r, j + 1, h => by
    have ih := fl_get r j (by simpa using h)
    unfold fl at ih ⊢
    rw [List.flatMap_cons, show (j + 1) * 2 = j * 2 + 2 by omega]
    simpa using ih
/-- .. and memory holds their data. -/
def Fits (w : World) (ps : List (Int × Value)) (l : List Sc) : Prop := ps.length = l.length ∧ ∀ j (h1 : j < ps.length) (h2 : j < l.length), ps[j].1 = l[j].1 ∧ Rw eB w ps[j].2 l[j].2
theorem Fits.nil (w : World) : Fits w [] [] := ⟨rfl, fun j h => absurd h (by simp)⟩
theorem Fits.below {w w' : World} {ps : List (Int × Value)} {l : List Sc} (h : Fits w ps l) (hb : Below w.heap.size w w') : Fits w' ps l := ⟨h.1, fun j h1 h2 => ⟨(h.2 j h1 h2).1, (h.2 j h1 h2).2.below hb⟩⟩
theorem Fits.snoc {w : World} {ps : List (Int × Value)} {l : List Sc} {k : Int} {v : Value} {s : Sc} (h : Fits w ps l) (hk : k = s.1) (hv : Rw eB w v s.2) : Fits w (ps ++ [(k, v)]) (l ++ [s]) := by
  refine ⟨by rw [List.length_append, List.length_append, h.1]; rfl, fun j h1 h2 => ?_⟩
  by_cases hj : j < ps.length
  · have hj2 : j < l.length := by rw [← h.1]; exact hj
    rw [List.getElem_append_left hj, List.getElem_append_left hj2]
    exact h.2 j hj hj2
  · have e1 : j = ps.length := by
      rw [List.length_append] at h1
      simp only [List.length_cons, List.length_nil] at h1
      omega
    subst e1
    have e2 : ps.length = l.length := h.1
    rw [List.getElem_append_right (Nat.le_refl _), List.getElem_append_right (by omega)]
    simp only [Nat.sub_self, e2, List.getElem_cons_zero]
    exact ⟨hk, hv⟩
theorem own_ss {W : World} {B e : TypeId} {v : Value} {ps : List (Int × Value)} {l : List Sc} {n : Nat} (hn : l.length = n) (h : W.ownsRow B e 2 v n (fl ps)) (hf : Fits W ps l) : Ss W v l := by
  subst hn
  rcases h.2 with ⟨rfl, h0⟩ | ⟨g, cap, cur, rfl, _, hh, hle, _⟩
  · rw [List.eq_nil_of_length_eq_zero h0]
    exact Ss.nil W
  · refine ⟨_, cap, rfl, hle, fun e => (by cases e), fun hp => ⟨g, 0, rfl, lt_of_block hh, fun j hj => ?_⟩⟩
    have hj2 : j < ps.length := by rw [hf.1]; exact hj
    have k1 := h.cells (g := g) rfl (j * 2) _ (fl_get ps j hj2).1
    have k2 := h.cells (g := g) rfl (j * 2 + 1) _ (fl_get ps j hj2).2
    rw [add0, Nat.zero_add] at k1 k2
    rw [Nat.zero_add]
    obtain ⟨q1, q2⟩ := hf.2 j hj2 hj
    rw [q1] at k1
    exact ⟨k1, _, k2, q2⟩
theorem infoSr : (Try.prog.info? 46).map (fun i => (i.zero, i.size, i.bytes)) = some (some (.agg #[.int .i64 0, .slice none 0 0]), 2, 32) := by kernel_rfl
theorem infoSb : (Try.prog.info? 50).map (fun i => (i.zero, i.size, i.bytes)) = some (some (.agg #[.int .i64 0, .slice none 0 0]), 2, 32) := by kernel_rfl

set_option maxHeartbeats 4000000 in
set_option maxRecDepth 100000 in
/-- Sections of the reference as those of the package. -/
theorem forward_at (v : Value) (l : List Sc) (n : Nat) (w : World) (hv : Ss w v l) (hn : l.length = n) (hl : n ≤ 100000) :
    Calls Try.prog 12 #[v] w fun e w' => (∃ a c, e = .returned (.slice a n c) ∧ Ss w' (.slice a n c) l) ∧ Below w.heap.size w w' := by
  obtain ⟨i0, hi, hz0, hz1, hz2⟩ := info_parts infoSb
  obtain ⟨a, c, rfl, -, -, hc⟩ := hv.form hn
  have HC := Lib.hid hc
  have HN := Lib.hid hn
  clear hn hc hv
  go_enter Try.func12, Try.ntmps12
  go_wp2
  go_loopw [3, 5, 8] (fun ov _ q wr => ∃ j : Nat, j ≤ n ∧ q = .int .i64 (j : Int) ∧ Below w.heap.size w wr ∧ ∃ ps, wr.ownsRow w.heap.size 50 2 ov j (fl ps) ∧ Hid (Fits w ps (l.take j))) (fun _ _ q _ => n - (intOf q).toNat)
  case atStart => exact ⟨0, Nat.zero_le _, rfl, Below.refl _ _, [], World.ownsRow_nil _ _ _ _, Lib.hid (by rw [List.take_zero]; exact Fits.nil w)⟩
  case round =>
    obtain ⟨j, hj, rfl, hB, ps, hown, hF⟩ := hrel
    obtain ⟨oa, oc, rfl⟩ := owns_slice hown
    by_cases hlt : j < n
    · have hjl : j < l.length := by rw [HN.out]; exact hlt
      obtain ⟨bb, o, rfl, hbl, hcc⟩ := HC.out (by omega)
      obtain ⟨x0, dv, x1, hr⟩ := hcc j hjl
      obtain ⟨m, hm⟩ : ∃ m, l[j].2.length = m := ⟨_, rfl⟩
      obtain ⟨da, dc, rfl, -⟩ := hr.form hm
      have y0 := (hB.cell (p := ⟨bb, o + j * 2, none⟩) (by exact hbl)).trans x0
      have y1 := (hB.cell (p := ⟨bb, o + j * 2 + 1, none⟩) (by exact hbl)).trans x1
      have hsz := hB.size
      obtain ⟨kk, hkk⟩ : ∃ kk, l[j].1 = kk := ⟨_, rfl⟩
      rw [hkk] at y0
      have hF2 := hF.out.snoc hkk.symm hr
      rw [← take_snoc l j hjl] at hF2
      have HF := Lib.hid hF2
      clear hcc x0 x1 hr hm hF hF2 hkk
      go_upto_region 5 with (fail)
      have hx := heap_alloc_last wr (.cells #[.int .i64 kk, .slice da m dc] 46)
      have B1 := bch hB (bnew wr (.cells #[.int .i64 kk, .slice da m dc] 46))
      have hown1 := own_below hown (bnew wr (.cells #[.int .i64 kk, .slice da m dc] 46))
      obtain ⟨g, hg⟩ : ∃ g, g = wr.heap.size := ⟨_, rfl⟩
      rw [← hg] at hx ⊢
      generalize wr.alloc (.cells _ 46) = W1 at hx B1 hown1 ⊢
      have z0 : W1.cell? ⟨g, 0, none⟩ = some (.int .i64 kk) := by simp [World.cell?, hx]
      have z1 : W1.cell? ⟨g, 1, none⟩ = some (.slice da m dc) := by simp [World.cell?, hx]
      clear hg hown y0 y1 hB hsz hx
      have hsz1 := B1.size
      go_wp2_with (at_builtin; refine wpList_append_own _ rfl _ _ 29 rfl w.heap.size 50 i0 (.agg #[.int .i64 0, .slice none 0 0]) 2 32 Try.underlying29 hi hz0 hz1 hz2 rfl (by decide) _ j _ rfl (hown1.alloc _) ⟨W1.heap.size, 0, none⟩ 1 1 [.int .i64 kk, .slice da m dc] rfl rfl (World.news_of_block (cs := #[.int .i64 kk, .slice da m dc]) (t := 50) (fr := (0, 0)) (heap_alloc_last W1 _)) (by simp [Value.oneCell']) (by unfold maxLen; omega) (by omega) (by simp; omega) ?_; intro v' w5 hown6 hgrow6 _; have B2 := (B1.alloc hsz1 _).grown hgrow6 (by simp; omega) (own_base hown1))
      go_roundw
      case rel => exact ⟨j + 1, hlt, by go_num, B2, ps ++ [(kk, .slice da m dc)], by rw [fl_snoc]; exact hown6, HF⟩
      case measure => simp [intOf]; omega
    · obtain rfl : j = n := by omega
      have hFF := hF.out
      rw [List.take_of_length_le (by rw [HN.out]; exact Nat.le_refl _)] at hFF
      have hss := own_ss HN.out hown (hFF.below hB)
      have HS := Lib.hid hss
      clear hF hFF hown hss
      go_wp2
      go_ret
      exact ⟨⟨oa, oc, rfl, HS.out⟩, hB⟩

set_option maxHeartbeats 4000000 in
set_option maxRecDepth 100000 in
/-- .. and back. -/
theorem back_at (v : Value) (l : List Sc) (n : Nat) (w : World) (hv : Ss w v l) (hn : l.length = n) (hl : n ≤ 100000) :
    Calls Try.prog 22 #[v] w fun e w' => (∃ a c, e = .returned (.slice a n c) ∧ Ss w' (.slice a n c) l) ∧ Below w.heap.size w w' := by
  obtain ⟨i0, hi, hz0, hz1, hz2⟩ := info_parts infoSr
  obtain ⟨a, c, rfl, -, -, hc⟩ := hv.form hn
  have HC := Lib.hid hc
  have HN := Lib.hid hn
  clear hn hc hv
  go_enter Try.func22, Try.ntmps22
  go_wp2
  go_loopw [3, 5, 8] (fun ov _ q wr => ∃ j : Nat, j ≤ n ∧ q = .int .i64 (j : Int) ∧ Below w.heap.size w wr ∧ ∃ ps, wr.ownsRow w.heap.size 46 2 ov j (fl ps) ∧ Hid (Fits w ps (l.take j))) (fun _ _ q _ => n - (intOf q).toNat)
  case atStart => exact ⟨0, Nat.zero_le _, rfl, Below.refl _ _, [], World.ownsRow_nil _ _ _ _, Lib.hid (by rw [List.take_zero]; exact Fits.nil w)⟩
  case round =>
    obtain ⟨j, hj, rfl, hB, ps, hown, hF⟩ := hrel
    obtain ⟨oa, oc, rfl⟩ := owns_slice hown
    by_cases hlt : j < n
    · have hjl : j < l.length := by rw [HN.out]; exact hlt
      obtain ⟨bb, o, rfl, hbl, hcc⟩ := HC.out (by omega)
      obtain ⟨x0, dv, x1, hr⟩ := hcc j hjl
      obtain ⟨m, hm⟩ : ∃ m, l[j].2.length = m := ⟨_, rfl⟩
      obtain ⟨da, dc, rfl, -⟩ := hr.form hm
      have y0 := (hB.cell (p := ⟨bb, o + j * 2, none⟩) (by exact hbl)).trans x0
      have y1 := (hB.cell (p := ⟨bb, o + j * 2 + 1, none⟩) (by exact hbl)).trans x1
      have hsz := hB.size
      obtain ⟨kk, hkk⟩ : ∃ kk, l[j].1 = kk := ⟨_, rfl⟩
      rw [hkk] at y0
      have hF2 := hF.out.snoc hkk.symm hr
      rw [← take_snoc l j hjl] at hF2
      have HF := Lib.hid hF2
      clear hcc x0 x1 hr hm hF hF2 hkk
      go_upto_region 5 with (fail)
      have hx := heap_alloc_last wr (.cells #[.int .i64 kk, .slice da m dc] 50)
      have B1 := bch hB (bnew wr (.cells #[.int .i64 kk, .slice da m dc] 50))
      have hown1 := own_below hown (bnew wr (.cells #[.int .i64 kk, .slice da m dc] 50))
      obtain ⟨g, hg⟩ : ∃ g, g = wr.heap.size := ⟨_, rfl⟩
      rw [← hg] at hx ⊢
      generalize wr.alloc (.cells _ 50) = W1 at hx B1 hown1 ⊢
      have z0 : W1.cell? ⟨g, 0, none⟩ = some (.int .i64 kk) := by simp [World.cell?, hx]
      have z1 : W1.cell? ⟨g, 1, none⟩ = some (.slice da m dc) := by simp [World.cell?, hx]
      clear hg hown y0 y1 hB hsz hx
      have hsz1 := B1.size
      go_wp2_with (at_builtin; refine wpList_append_own _ rfl _ _ 22 rfl w.heap.size 46 i0 (.agg #[.int .i64 0, .slice none 0 0]) 2 32 Try.underlying22 hi hz0 hz1 hz2 rfl (by decide) _ j _ rfl (hown1.alloc _) ⟨W1.heap.size, 0, none⟩ 1 1 [.int .i64 kk, .slice da m dc] rfl rfl (World.news_of_block (cs := #[.int .i64 kk, .slice da m dc]) (t := 46) (fr := (0, 0)) (heap_alloc_last W1 _)) (by simp [Value.oneCell']) (by unfold maxLen; omega) (by omega) (by simp; omega) ?_; intro v' w5 hown6 hgrow6 _; have B2 := (B1.alloc hsz1 _).grown hgrow6 (by simp; omega) (own_base hown1))
      go_roundw
      case rel => exact ⟨j + 1, hlt, by go_num, B2, ps ++ [(kk, .slice da m dc)], by rw [fl_snoc]; exact hown6, HF⟩
      case measure => simp [intOf]; omega
    · obtain rfl : j = n := by omega
      have hFF := hF.out
      rw [List.take_of_length_le (by rw [HN.out]; exact Nat.le_refl _)] at hFF
      have hss := own_ss HN.out hown (hFF.below hB)
      have HS := Lib.hid hss
      clear hF hFF hown hss
      go_wp2
      go_ret
      exact ⟨⟨oa, oc, rfl, HS.out⟩, hB⟩

/-! ### Get -/
/-- The data of the first section of a kind. -/
def getV (l : List Sc) (k : Int) : Option (List UInt8) := match l with
  | [] => none
  | s :: r => if s.1 = k then some s.2 else getV r k
/-- What Get leaves. -/
def GeP (l : List Sc) (k : Int) (w : World) (e : Ending) (w' : World) : Prop :=
  ((getV l k = none ∧ e = .returned (.tuple #[.slice none 0 0, .bool false])) ∨ ∃ d a c, getV l k = some d ∧ e = .returned (.tuple #[.slice a d.length c, .bool true]) ∧ Rw eB w' (.slice a d.length c) d) ∧ Below w.heap.size w w'
set_option maxHeartbeats 2000000 in
set_option maxRecDepth 100000 in
theorem get_at (v : Value) (l : List Sc) (k : Int) (w : World) (hv : Ss w v l) (hl : l.length ≤ 1000000) :
    Calls Try.prog 23 #[v, .int .i64 k] w (GeP l k w) := by
  obtain ⟨n, hn⟩ : ∃ n, l.length = n := ⟨_, rfl⟩
  obtain ⟨a, c, rfl, -, -, hc⟩ := hv.form hn
  rw [hn] at hl
  have HC := Lib.hid hc
  have HN := Lib.hid hn
  clear hn hc hv
  go_enter Try.func23, Try.ntmps23
  go_wp2
  go_loopw [7, 10] (fun _ q wr => ∃ j : Nat, j ≤ n ∧ q = .int .i64 (j : Int) ∧ Below w.heap.size w wr ∧ Hid (getV l k = getV (l.drop j) k)) (fun _ q _ => n - (intOf q).toNat)
  case atStart => exact ⟨0, Nat.zero_le _, rfl, Below.refl _ _, Lib.hid rfl⟩
  case round =>
    obtain ⟨j, hj, rfl, hB, hA⟩ := hrel
    by_cases hlt : j < n
    · have hjl : j < l.length := by rw [HN.out]; exact hlt
      obtain ⟨bb, o, rfl, hbl, hcc⟩ := HC.out (by omega)
      obtain ⟨x0, dv, x1, hr⟩ := hcc j hjl
      obtain ⟨m, hm⟩ : ∃ m, l[j].2.length = m := ⟨_, rfl⟩
      obtain ⟨da, dc, rfl, -⟩ := hr.form hm
      have y0 := (hB.cell (p := ⟨bb, o + j * 2, none⟩) (by exact hbl)).trans x0
      have y1 := (hB.cell (p := ⟨bb, o + j * 2 + 1, none⟩) (by exact hbl)).trans x1
      have hsz := hB.size
      have hg := hA.out
      rw [List.drop_eq_getElem_cons hjl, getV] at hg
      obtain ⟨kk, hkk⟩ : ∃ kk, l[j].1 = kk := ⟨_, rfl⟩
      rw [hkk] at y0 hg
      have HR := Lib.hid (And.intro hm hr)
      by_cases he : kk = k
      · rw [if_pos he] at hg
        have heb : (kk == k) = true := by simpa using he
        have HG := Lib.hid hg
        clear hcc x0 x1 hr hm hA hkk hg he
        go_wp2
        refine bodyPost_ret (v := .tuple #[.slice da m dc, .bool true]) (by simp [results, Try.results23, go_sem]) rfl ⟨.inr ⟨_, da, dc, HG.out, by rw [HR.out.1], ?_⟩, bch hB (bnew _ _)⟩
        rw [HR.out.1]
        exact HR.out.2.below (bch hB (bnew _ _))
      · rw [if_neg he] at hg
        have heb : (kk == k) = false := by simpa using he
        have HG := Lib.hid hg
        clear hcc x0 x1 hr hm hA hkk hg HR
        go_wp2
        go_roundw
        case rel => exact ⟨j + 1, hlt, by go_num, bch hB (bnew _ _), HG⟩
        case measure => simp [intOf]; omega
    · obtain rfl : j = n := by omega
      have hg := hA.out
      rw [List.drop_eq_nil_of_le (by rw [HN.out]; exact Nat.le_refl _)] at hg
      have HG := Lib.hid hg
      clear hA hg
      go_wp2
      refine bodyPost_ret (v := .tuple #[.slice none 0 0, .bool false]) (by simp [results, Try.results23, go_sem]) rfl ⟨.inl ⟨HG.out, rfl⟩, hB⟩
end Go.Proofs.Ytdamijicombmkaa.L15
