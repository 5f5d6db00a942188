/- What the reference's Read returns: the sections whose container the bytes are, or that there are none. Condition: memory holds the bytes, which are no more than 1000000. -/
import Derived.Test.YtdamijicombmkaaL15Rg
namespace Go.Proofs.Ytdamijicombmkaa.L15
open Go.RowKit Go.Shelf L14
attribute [local go_sem] Oper.semAt_some

theorem rget_is (v : Value) (b : List UInt8) (i n V : Nat) (I M : Int) (w : World) (h : Rw eB w v b) (hn : n ≤ 4) (hl : i + n ≤ b.length) (hb : b.length ≤ 1000000000) (hV : va (sub b i n) = V) (hI : I = (i : Int)) (hM : M = (n : Int)) :
    Calls Try.prog 34 #[v, .int .i64 I, .int .i64 M] w fun e w' => e = .returned (.int .u64 (V : Int)) ∧ w = w' := by
  subst hI hM
  exact rget_at v b i n V w h hn hl hb hV
/-- Sections whose data are the call's own. -/
def FitO (W : World) (B : Nat) (ps : List (Int × Value)) (l : List Sc) : Prop := ps.length = l.length ∧ ∀ j (h1 : j < ps.length) (h2 : j < l.length), ps[j].1 = l[j].1 ∧ W.ownsRow B 5 1 ps[j].2 l[j].2.length (l[j].2.map eB)
theorem FitO.fits {W : World} {B : Nat} {ps : List (Int × Value)} {l : List Sc} (h : FitO W B ps l) : Fits W ps l := ⟨h.1, fun j h1 h2 => ⟨(h.2 j h1 h2).1, Rw.own (h.2 j h1 h2).2⟩⟩
theorem FitO.nil (W : World) (B : Nat) : FitO W B [] [] := ⟨rfl, fun j h => absurd h (by simp)⟩
theorem FitO.map {W W' : World} {B : Nat} {ps : List (Int × Value)} {l : List Sc} (h : FitO W B ps l) (hk : ∀ v n xs, W.ownsRow B 5 1 v n xs → W'.ownsRow B 5 1 v n xs) : FitO W' B ps l := ⟨h.1, fun j h1 h2 => ⟨(h.2 j h1 h2).1, hk _ _ _ (h.2 j h1 h2).2⟩⟩
theorem FitO.snoc {w : World} {B : Nat} {ps : List (Int × Value)} {l : List Sc} {k : Int} {v : Value} {s : Sc} (h : FitO w B ps l) (hk : k = s.1) (hv : w.ownsRow B 5 1 v s.2.length (s.2.map eB)) : FitO w B (ps ++ [(k, v)]) (l ++ [s]) := by
  refine ⟨by rw [List.length_append, List.length_append, h.1]; rfl, fun j h1 h2 => ?_⟩
  by_cases hj : j < ps.length
  · have hj2 : j < l.length := by rw [← h.1]; exact hj
    rw [List.getElem_append_left hj, List.getElem_append_left hj2]
    exact h.2 j hj hj2
  · have e1 : j = ps.length := by
      rw [List.length_append] at h1
      simp only [List.length_cons, List.length_nil] at h1
      omega
    subst e1
    have e2 : ps.length = l.length := h.1
    rw [List.getElem_append_right (Nat.le_refl _), List.getElem_append_right (by omega)]
    simp only [Nat.sub_self, e2, List.getElem_cons_zero]
    exact ⟨hk, hv⟩
/-- What the reference's Read leaves. -/
def RrP (b : List UInt8) (w : World) (e : Ending) (w' : World) : Prop :=
  ((¬ rdOk b ∧ e = .returned (.tuple #[.slice none 0 0, .bool false])) ∨ (rdOk b ∧ ∃ a c, e = .returned (.tuple #[.slice a (nS b) c, .bool true]) ∧ Ss w' (.slice a (nS b) c) (rdT b (nS b)))) ∧ Below w.heap.size w w'

set_option maxHeartbeats 4000000 in
set_option maxRecDepth 100000 in
theorem rread_no (a : Option Addr) (n c : Nat) (b : List UInt8) (w : World) (hv : Rw eB w (.slice a n c) b) (hb : n ≤ 1000000) (hno : n < 16 ∨ (16 ≤ n ∧ (16 < nS b ∨ n < 16 + 12 * nS b))) :
    Calls Try.prog 20 #[.slice a n c] w (RrP b w) := by
  have hn := hv.at.1
  have hr : ¬ rdOk b := fun h => by
    have h1 := h.1.1
    rcases hno with h2 | ⟨-, h2 | h2⟩
    · omega
    · have := (chk0.1 h.2.1).1.1
      rw [rdT_len] at this
      omega
    · have h3 := (h.1.2 (nS b - 1) (by omega)).1
      omega
  have HR := Lib.hid hr
  by_cases h16 : n < 16
  · have h16' : (n : Int) < 16 := by omega
    clear hr hno hv hn h16
    go_enter Try.func20, Try.ntmps20
    go_wp2
    refine bodyPost_ret (v := .tuple #[.slice none 0 0, .bool false]) (by simp [results, Try.results20, go_sem]) rfl ⟨.inl ⟨HR.out, rfl⟩, Below.refl _ _⟩
  · have h16' : ¬ (n : Int) < 16 := by omega
    obtain ⟨k, hk⟩ : ∃ k, nS b = k := ⟨_, rfl⟩
    have hkb : k < 65536 := by
      rw [← hk]
      have := va_lt (sub b 6 2)
      rw [sub_len _ _ _ (by omega)] at this
      exact this
    have HG := Lib.hid (rget_is (.slice a n c) b 6 2 k 6 2 w hv (by omega) (by omega) (by omega) hk rfl rfl)
    rw [hk] at hno
    have hwr : IntKind.i64.wrap (k : Int) = (k : Int) := by rw [IntKind.wrap_i64]; omega
    by_cases h17 : 16 < k
    · have h17' : (16 : Int) < (k : Int) := by omega
      clear hr hno hv hn h16 hk h17
      go_enter Try.func20, Try.ntmps20
      go_wp2_with (go_at_call 34; ((with_reducible refine (HG.out).mono ?_); rintro e w1 ⟨rfl, rfl⟩))
      refine bodyPost_ret (v := .tuple #[.slice none 0 0, .bool false]) (by simp [results, Try.results20, go_sem]) rfl ⟨.inl ⟨HR.out, rfl⟩, Below.refl _ _⟩
    · have h17' : ¬ (16 : Int) < (k : Int) := by omega
      have h18 : (n : Int) < 16 + 12 * (k : Int) := by omega
      clear hr hno hv hn h16 hk h17
      go_enter Try.func20, Try.ntmps20
      go_wp2_with (go_at_call 34; ((with_reducible refine (HG.out).mono ?_); rintro e w1 ⟨rfl, rfl⟩))
      refine bodyPost_ret (v := .tuple #[.slice none 0 0, .bool false]) (by simp [results, Try.results20, go_sem]) rfl ⟨.inl ⟨HR.out, rfl⟩, Below.refl _ _⟩

/-- Rows that lie below a block stay where only that block grows. -/
theorem own_far {W W' : World} {B e : TypeId} {size n g : Nat} {v : Value} {xs : List Value} (h : W.ownsRow B e size v n xs) (hg : W.grownBy W' (some g)) (hl : ∀ k, v.ownBlock = some k → k ≠ g) : W'.ownsRow B e size v n xs := by
  refine h.kept hg ?_
  cases ho : v.ownBlock with
  | none => exact .inl rfl
  | some k => exact .inr fun e => hl k ho (by simpa using e)
theorem own_apart {W W' : World} {B B' eA eB sA sB n m : Nat} {vA vB : Value} {xs ys : List Value} (hA : W.ownsRow B eA sA vA n xs) (hB : W.ownsRow B' eB sB vB m ys) (he : eA ≠ eB) (hg : W.grownBy W' vB.ownBlock) : W'.ownsRow B eA sA vA n xs := by
  refine hA.kept hg ?_
  cases hv : vA.ownBlock with
  | none => exact .inl rfl
  | some g =>
    refine .inr fun e => ?_
    obtain ⟨c1, h1⟩ := own_ty hA hv
    obtain ⟨c2, h2⟩ := own_ty hB e.symm
    rw [h1] at h2
    cases h2
    exact he rfl
set_option maxHeartbeats 8000000 in
set_option maxRecDepth 100000 in
theorem rread_yes (a : Option Addr) (n c : Nat) (b : List UInt8) (w : World) (hv : Rw eB w (.slice a n c) b) (hb : n ≤ 1000000) (h16 : 16 ≤ n) (hkk : nS b ≤ 16 ∧ 16 + 12 * nS b ≤ n) :
    Calls Try.prog 20 #[.slice a n c] w (RrP b w) := by
  obtain ⟨i0, hi, hz0, hz1, hz2⟩ := info_parts infoSr
  obtain ⟨hn, hc, -, -⟩ := hv.at
  obtain ⟨k, hk⟩ : ∃ k, nS b = k := ⟨_, rfl⟩
  rw [hk] at hkk
  obtain ⟨hk16, hkn⟩ := hkk
  have HG := Lib.hid (rget_is (.slice a n c) b 6 2 k 6 2 w hv (by omega) (by omega) (by omega) hk rfl rfl)
  have h16' : ¬ (n : Int) < 16 := by omega
  have h17' : ¬ (16 : Int) < (k : Int) := by omega
  have h18' : ¬ (n : Int) < 16 + 12 * (k : Int) := by omega
  have hwr : IntKind.i64.wrap (k : Int) = (k : Int) := by rw [IntKind.wrap_i64]; omega
  unfold RrP
  rw [hk]
  have HV := Lib.hid hv
  have HN := Lib.hid hn
  have HK := Lib.hid hk
  clear hv hn hk
  go_enter Try.func20, Try.ntmps20
  go_wp2_with (go_at_call 34; ((with_reducible refine (HG.out).mono ?_); rintro e w1 ⟨rfl, rfl⟩))
  clear HG
  go_loopw [5, 6, 7, 8, 9] (fun lv q _ _ _ wr => ∃ (i : Nat) (ps : List (Int × Value)), i ≤ k ∧ q = .int .i64 (i : Int) ∧ Below w.heap.size w wr ∧ wr.ownsRow w.heap.size 46 2 lv i (fl ps) ∧ Hid (FitO wr w.heap.size ps (rdT b i) ∧ ∀ j, j < i → okR b j)) (fun _ q _ _ _ _ => k - (intOf q).toNat)
  case atStart => exact ⟨0, [], Nat.zero_le _, rfl, Below.refl _ _, World.ownsRow_nil _ _ _ _, Lib.hid ⟨FitO.nil _ _, fun j h => absurd h (by omega)⟩⟩
  case round =>
    obtain ⟨i, ps, hi', rfl, hB, hown, hI⟩ := hrel
    obtain ⟨oa, oc, rfl⟩ := owns_slice hown
    by_cases hlt : i < k
    · have hn2 := HN.out
      have hvr := HV.out.below hB
      obtain ⟨K, hK⟩ : ∃ K, kiN b i = K := ⟨_, rfl⟩
      obtain ⟨A, hA⟩ : ∃ A, atN b i = A := ⟨_, rfl⟩
      obtain ⟨L, hL⟩ : ∃ L, lnN b i = L := ⟨_, rfl⟩
      have b4 : ∀ j, j + 4 ≤ n → va (sub b j 4) < 4294967296 := fun j hj => by
        have := va_lt (sub b j 4)
        rw [sub_len _ _ _ (by omega)] at this
        exact this
      have hAb : A < 4294967296 := by rw [← hA]; exact b4 _ (by omega)
      have hLb : L < 4294967296 := by rw [← hL]; exact b4 _ (by omega)
      have hKb : K < 4294967296 := by rw [← hK]; exact b4 _ (by omega)
      have G0 := Lib.hid (fun W (h : Below w.heap.size w W) => rget_is (.slice a n c) b (16 + 12 * i) 4 K (16 + 12 * (i : Int)) 4 W (HV.out.below h) (by omega) (by omega) (by omega) hK (by omega) rfl)
      have G4 := Lib.hid (fun W (h : Below w.heap.size w W) => rget_is (.slice a n c) b (20 + 12 * i) 4 A (20 + 12 * (i : Int)) 4 W (HV.out.below h) (by omega) (by omega) (by omega) hA (by omega) rfl)
      have G8 := Lib.hid (fun W (h : Below w.heap.size w W) => rget_is (.slice a n c) b (24 + 12 * i) 4 L (24 + 12 * (i : Int)) 4 W (HV.out.below h) (by omega) (by omega) (by omega) hL (by omega) rfl)
      have wK : IntKind.i64.wrap (K : Int) = (K : Int) := by rw [IntKind.wrap_i64]; omega
      have wA : IntKind.i64.wrap (A : Int) = (A : Int) := by rw [IntKind.wrap_i64]; omega
      have wL : IntKind.i64.wrap (L : Int) = (L : Int) := by rw [IntKind.wrap_i64]; omega
      by_cases hC : n < A + L
      · have HNO := Lib.hid (show ¬ rdOk b from fun h => by
          have h1 := (h.1.2 i (by rw [HK.out]; exact hlt)).2
          omega)
        have hC' : (n : Int) < (A : Int) + (L : Int) := by omega
        have HBB := Lib.hid hB
        clear hI hown hvr hK hA hL b4 hn2
        go_wp2_with (first
          | (go_at_call 34; ((with_reducible refine (G0.out _ HBB.out).mono ?_); rintro e w1 ⟨rfl, rfl⟩))
          | (go_at_call 34; ((with_reducible refine (G4.out _ HBB.out).mono ?_); rintro e w1 ⟨rfl, rfl⟩))
          | (go_at_call 34; ((with_reducible refine (G8.out _ HBB.out).mono ?_); rintro e w1 ⟨rfl, rfl⟩)))
        refine bodyPost_ret (v := .tuple #[.slice none 0 0, .bool false]) (by simp [results, Try.results20, go_sem]) rfl ⟨.inl ⟨HNO.out, rfl⟩, HBB.out⟩
      · have hC' : ¬ (n : Int) < (A : Int) + (L : Int) := by omega
        have HBB := Lib.hid hB
        have hdr := cut_rw hvr A L (by omega)
        have hhs := fun W => run_part und8 size8 a n c A (A + L) (by omega) (by omega) hc W
        rw [show A + L - A = L by omega] at hhs
        have e1 : ((A + L : Nat) : Int) = (A : Int) + (L : Int) := by omega
        rw [e1] at hhs
        have hhs' : ∀ W, (Instr.slice 25 (.slice a n c) (some (.int .i64 (A : Int))) (some (.int .i64 ((A : Int) + (L : Int)))) none).run Try.prog W = .ok (cutV a c A L) W := hhs
        obtain ⟨da, dc, hde⟩ := cut_form a c A L
        rw [hde] at hdr
        simp only [hde] at hhs'
        have hrd : rdT b (i + 1) = rdT b i ++ [((K : Int), sub b A L)] := by rw [rdT_snoc, rd1, hK, hA, hL]
        have HRD := Lib.hid hrd
        have HOK := Lib.hid (show okR b i from ⟨by omega, by rw [hA, hL]; omega⟩)
        have HDR := Lib.hid (hdr.below (bnew wr (.cells #[] 5)))
        have hdl : (sub b A L).length = L := sub_len _ _ _ (by omega)
        have HDL := Lib.hid hdl
        have hL2 : L ≤ n := by omega
        have hown1 := hown.alloc (.cells #[] 5)
        have HI := Lib.hid hI.out
        have hwsz := hB.size
        clear hI hvr hK hA hL b4 hn2 hdr hhs e1 hde hrd hdl
        go_wp2_with (first
          | (go_at_call 34; ((with_reducible refine (G0.out _ HBB.out).mono ?_); rintro e w1 ⟨rfl, rfl⟩))
          | (go_at_call 34; ((with_reducible refine (G4.out _ HBB.out).mono ?_); rintro e w1 ⟨rfl, rfl⟩))
          | (go_at_call 34; ((with_reducible refine (G8.out _ HBB.out).mono ?_); rintro e w1 ⟨rfl, rfl⟩))
          | (at_builtin; refine wpList_append_rw rfl _ _ rfl w.heap.size _ 0 [] rfl (World.ownsRow_made wr #[] 0 hwsz (Nat.zero_le _) rfl) _ (sub b A L) rfl HDR.out (by have := HDL.out; omega) (by simp; omega) ?_; intro v' w5 ho5 hg5; rw [Nat.zero_add, HDL.out, List.nil_append] at ho5; obtain ⟨na, nc, rfl⟩ := owns_slice ho5; have hg5' : (wr.alloc (.cells #[] 5)).grownBy w5 (some wr.heap.size) := hg5; have B5 := (HBB.out.alloc hwsz (.cells #[] 5)).grown hg5' (by simp; omega) (fun q e => by (cases e; exact hwsz)); have hown5 := own_far hown1 hg5' (fun q e => by (have := (World.ownsRow.lt hown q e).2; omega)); have F5 := HI.out.1.map (fun v n xs h => own_far (h.alloc (.cells #[] 5)) hg5' (fun q e => by (have := (World.ownsRow.lt h q e).2; omega))); have z5 := B5.size)
          | (at_builtin; refine wpList_append_own _ rfl _ _ 22 rfl w.heap.size 46 i0 (.agg #[.int .i64 0, .slice none 0 0]) 2 32 Try.underlying22 hi hz0 hz1 hz2 rfl (by decide) _ i _ rfl (hown5.alloc _) ⟨w5.heap.size, 0, none⟩ 1 1 [.int .i64 (K : Int), .slice na L nc] rfl rfl (World.news_of_block (cs := #[.int .i64 (K : Int), .slice na L nc]) (t := 46) (fr := (0, 0)) (heap_alloc_last w5 _)) (by simp [Value.oneCell']) (by unfold maxLen; omega) (by omega) (by simp; omega) ?_; intro v6 w6 hown6 hgrow6 _; have B6 := (B5.alloc z5 _).grown hgrow6 (by simp; omega) (own_base hown5)))
        have hg6 : (w5.alloc (.cells #[.int .i64 (K : Int), .slice na L nc] 46)).grownBy w6 (Value.slice oa i oc).ownBlock := hgrow6
        have hown7 := hown5.alloc (.cells #[.int .i64 (K : Int), .slice na L nc] 46)
        have F6 : FitO w6 w.heap.size (ps ++ [((K : Int), .slice na L nc)]) (rdT b (i + 1)) := by
          rw [HRD.out]
          refine FitO.snoc (F5.map fun v n xs h => own_apart (h.alloc _) hown7 (by decide) hg6) rfl ?_
          have := own_apart (ho5.alloc (.cells #[.int .i64 (K : Int), .slice na L nc] 46)) hown7 (by decide) hg6
          show w6.ownsRow w.heap.size 5 1 (.slice na L nc) (sub b A L).length _
          rw [HDL.out]
          exact this
        have HF := Lib.hid (show FitO w6 w.heap.size (ps ++ [((K : Int), .slice na L nc)]) (rdT b (i + 1)) ∧ ∀ j, j < i + 1 → okR b j from ⟨F6, fun j hj => by
          rcases Nat.lt_succ_iff_lt_or_eq.1 hj with h | rfl
          · exact HI.out.2 j h
          · exact HOK.out⟩)
        clear F5 F6 ho5 hg5 hg5' hown5 B5 hown1 hg6 hown7
        go_roundw
        case rel => exact ⟨i + 1, ps ++ [((K : Int), .slice na L nc)], hlt, by go_num, B6, by rw [fl_snoc]; exact hown6, HF⟩
        case measure => simp [intOf]; omega
    · obtain rfl : i = k := by omega
      have hfo := hI.out
      have hrd : rdB b := ⟨by rw [HN.out]; exact h16, fun j hj => hfo.2 j (by rw [HK.out] at hj; exact hj)⟩
      obtain ⟨l, hl⟩ : ∃ l, rdT b i = l := ⟨_, rfl⟩
      have hli : l.length = i := by rw [← hl, rdT_len]
      rw [hl] at hfo
      have hss := own_ss hli hown hfo.1.fits
      have hro : rdOk b ↔ chkV l = 0 ∧ L15.wr l = b := ⟨fun h => by
        have := h.2
        rw [HK.out, hl] at this
        exact this, fun h => ⟨hrd, by rw [HK.out, hl]; exact h⟩⟩
      have hsm : Sml l := by
        have := ((rdT_sml b (by rw [HN.out]; exact hb)).resolve_right (fun h => h hrd)).1
        rw [HK.out, hl] at this
        exact this
      have HL := Lib.hid hl
      obtain ⟨R, hR⟩ : ∃ R, chkV l = R := ⟨_, rfl⟩
      have HC := Lib.hid (rcheck_at (.slice oa i oc) l R wr hss hsm hR)
      have HSS := Lib.hid hss
      have HBw := Lib.hid hB
      have HRO := Lib.hid hro
      by_cases h0 : R = 0
      · subst h0
        have hf := fw_of hsm hR
        have ha := (chk0.1 hR).2
        obtain ⟨S, hS⟩ : ∃ S, szL l = S := ⟨_, rfl⟩
        have hSb := hf.sz
        rw [hS] at hSb
        have HW := Lib.hid (fun q => rwrite_at (.slice oa i oc) l (wr.drewN q) (hss.below (bdN (Below.refl _ _) q)) hf ha S hS)
        have HWL := Lib.hid (show (L15.wr l).length = S by rw [wr_len, hS])
        have HV2 := Lib.hid (fun W (h : Below w.heap.size w W) => HV.out.below h)
        by_cases he : L15.wr l = b
        · have HS := Lib.hid (fun W v (h : Rw eB W v (L15.wr l)) (h2 : Rw eB W (.slice a n c) b) => rsameB_at v (.slice a n c) (L15.wr l) b true W (by rw [HWL.out]; omega) (by rw [HN.out]; omega) h h2 (by simpa using he))
          have HOK := Lib.hid (HRO.out.2 ⟨hR, he⟩)
          clear hown hB hI hfo hrd hl hli hss hro hsm hR hf ha hS he
          go_wp2_with (first
            | (go_at_call 15; ((with_reducible refine (HC.out).mono ?_); rintro e w1 ⟨rfl, q, rfl⟩))
            | (go_at_call 17; ((with_reducible refine (HW.out _).mono ?_); rintro e w2 ⟨⟨a2, c2, rfl, o2⟩, b2, z2⟩; have B2 := (bdN HBw.out q).trans (b2.mono HBw.out.size); have r2 : Rw eB w2 (.slice a2 S c2) (L15.wr l) := (by have e := HWL.out; subst e; exact Rw.own o2)))
            | (go_at_call 16; ((with_reducible refine (HS.out _ _ r2 (HV2.out _ B2)).mono ?_); rintro e w3 ⟨rfl, q3, rfl⟩)))
          refine bodyPost_ret (v := .tuple #[.slice oa i oc, .bool true]) (by simp [results, Try.results20, go_sem]) rfl ⟨.inr ⟨HOK.out, oa, oc, rfl, ?_⟩, bdN B2 _⟩
          rw [HL.out]
          exact HSS.out.below (bdN ((bdN (Below.refl _ _) q).trans b2) q3)
        · have HS := Lib.hid (fun W v (h : Rw eB W v (L15.wr l)) (h2 : Rw eB W (.slice a n c) b) => rsameB_at v (.slice a n c) (L15.wr l) b false W (by rw [HWL.out]; omega) (by rw [HN.out]; omega) h h2 (by simpa using he))
          have HNO := Lib.hid (show ¬ rdOk b from fun h => he (HRO.out.1 h).2)
          clear hown hB hI hfo hrd hl hli hss hro hsm hR hf ha hS he
          go_wp2_with (first
            | (go_at_call 15; ((with_reducible refine (HC.out).mono ?_); rintro e w1 ⟨rfl, q, rfl⟩))
            | (go_at_call 17; ((with_reducible refine (HW.out _).mono ?_); rintro e w2 ⟨⟨a2, c2, rfl, o2⟩, b2, z2⟩; have B2 := (bdN HBw.out q).trans (b2.mono HBw.out.size); have r2 : Rw eB w2 (.slice a2 S c2) (L15.wr l) := (by have e := HWL.out; subst e; exact Rw.own o2)))
            | (go_at_call 16; ((with_reducible refine (HS.out _ _ r2 (HV2.out _ B2)).mono ?_); rintro e w3 ⟨rfl, q3, rfl⟩)))
          refine bodyPost_ret (v := .tuple #[.slice none 0 0, .bool false]) (by simp [results, Try.results20, go_sem]) rfl ⟨.inl ⟨HNO.out, rfl⟩, bdN B2 _⟩
      · have HNO := Lib.hid (show ¬ rdOk b from fun h => h0 (by rw [← hR]; exact (HRO.out.1 h).1))
        have hRb : (R != 0) = true := by simpa using h0
        clear hown hB hI hfo hrd hl hli hss hro hsm hR h0
        go_wp2_with (go_at_call 15; ((with_reducible refine (HC.out).mono ?_); rintro e w1 ⟨rfl, q, rfl⟩))
        refine bodyPost_ret (v := .tuple #[.slice none 0 0, .bool false]) (by simp [results, Try.results20, go_sem]) rfl ⟨.inl ⟨HNO.out, rfl⟩, bdN HBw.out _⟩
theorem rread_at (a : Option Addr) (n c : Nat) (b : List UInt8) (w : World) (hv : Rw eB w (.slice a n c) b) (hb : n ≤ 1000000) :
    Calls Try.prog 20 #[.slice a n c] w (RrP b w) := by
  by_cases h1 : 16 ≤ n
  · by_cases h2 : nS b ≤ 16 ∧ 16 + 12 * nS b ≤ n
    · exact rread_yes a n c b w hv hb h1 h2
    · exact rread_no a n c b w hv hb (.inr ⟨h1, by omega⟩)
  · exact rread_no a n c b w hv hb (.inl (by omega))
end Go.Proofs.Ytdamijicombmkaa.L15
