/- What sections returns: the sections that the table of some bytes tells, if the bytes do not end ahead of them. Condition: memory holds the bytes, which are no more than 1000000. -/
import Derived.Test.YtdamijicombmkaaL15Wr
import Derived.Laws.EntriesVeiled
import Derived.Deep.QuietTactic
import Derived.BigQuiet
namespace Go.Proofs.Ytdamijicombmkaa.L15
open Go.RowKit Go.Shelf L14
attribute [local go_sem] Oper.semAt_some

/-- b[at : at + m], where it lies. -/
def cutV (a : Option Addr) (c i m : Nat) : Value := .slice (if c = i then a else a.map (·.add i)) m (c - i)
theorem cut_rw {w : World} {a : Option Addr} {n c : Nat} {b : List UInt8} (h : Rw eB w (.slice a n c) b) (i m : Nat) (hi : i + m ≤ n) : Rw eB w (cutV a c i m) (sub b i m) := (h.drop i (by omega)).take m (by omega)
theorem cut_form (a : Option Addr) (c i m : Nat) : ∃ a' c', cutV a c i m = .slice a' m c' := ⟨_, _, rfl⟩
set_option maxHeartbeats 1000000 in
theorem part_yes (B i m : Nat) (a : Option Addr) (n c : Nat) (w : World) (hB : w.cell? ⟨B, 0, none⟩ = some (.slice a n c)) (hn : n ≤ c) (hi : i + m ≤ n) (hb : n ≤ 1000000) (I M : Int) (hI : I = (i : Int)) (hM : M = (m : Int)) :
    Calls Try.prog 38 #[.int .i64 I, .int .i64 M, .pointer (some ⟨B, 0, none⟩)] w fun e w' => e = .returned (.tuple #[cutV a c i m, .bool true]) ∧ w = w' := by
  subst hI hM
  have hs := fun W => run_part und8 size8 a n c i (i + m) (by omega) hi hn W
  rw [show i + m - i = m by omega] at hs
  have e1 : ((i + m : Nat) : Int) = (i : Int) + (m : Int) := by omega
  rw [e1] at hs
  unfold cutV
  generalize (if c = i then a else a.map (·.add i)) = a2 at hs ⊢
  generalize c - i = c2 at hs ⊢
  have h1 : ¬ (n : Int) < (i : Int) + (m : Int) := by omega
  go_enter Try.func38, Try.ntmps38
  go_wp2
  refine bodyPost_ret (v := .tuple #[.slice a2 m c2, .bool true]) (by simp [results, Try.results38, go_sem]) rfl ⟨rfl, rfl⟩
set_option maxHeartbeats 1000000 in
theorem part_no (B i m : Nat) (a : Option Addr) (n c : Nat) (w : World) (hB : w.cell? ⟨B, 0, none⟩ = some (.slice a n c)) (hi : n < i + m) (_ : i ≤ 1000000000000) (_ : m ≤ 1000000000000) (I M : Int) (hI : I = (i : Int)) (hM : M = (m : Int)) :
    Calls Try.prog 38 #[.int .i64 I, .int .i64 M, .pointer (some ⟨B, 0, none⟩)] w fun e w' => e = .returned (.tuple #[.slice none 0 0, .bool false]) ∧ w = w' := by
  subst hI hM
  have h1 : (n : Int) < (i : Int) + (m : Int) := by omega
  go_enter Try.func38, Try.ntmps38
  go_wp2
  refine bodyPost_ret (v := .tuple #[.slice none 0 0, .bool false]) (by simp [results, Try.results38, go_sem]) rfl ⟨rfl, rfl⟩

/-- The bytes do not end ahead of a section's row, or data. -/
def rdB (b : List UInt8) : Prop := 16 ≤ b.length ∧ ∀ i, i < nS b → okR b i
/-- What sections leaves. -/
def SeP (b : List UInt8) (w : World) (e : Ending) (w' : World) : Prop :=
  ((¬ rdB b ∧ e = .returned (.tuple #[.slice none 0 0, .bool false])) ∨ (rdB b ∧ ∃ a c ps, e = .returned (.tuple #[.slice a (nS b) c, .bool true]) ∧ w'.ownsRow w.heap.size 50 2 (.slice a (nS b) c) (nS b) (fl ps) ∧ Fits w ps (rdT b (nS b)))) ∧ Below w.heap.size w w'

set_option maxHeartbeats 4000000 in
set_option maxRecDepth 100000 in
theorem sections_at (a : Option Addr) (n c : Nat) (b : List UInt8) (w : World) (hv : Rw eB w (.slice a n c) b) (hb : n ≤ 1000000) :
    Calls Try.prog 31 #[.slice a n c] w (SeP b w) := by
  obtain ⟨hn, hc, -, -⟩ := hv.at
  have hmf : (Instr.makeFunc (.func 38) #[] #[.pointer (some ⟨w.heap.size, 0, none⟩)]).run Try.prog (w.alloc (.cells #[.slice a n c] 25)) = .ok (.func (.func 38) #[] #[.pointer (some ⟨w.heap.size, 0, none⟩)]) (w.alloc (.cells #[.slice a n c] 25)) := by rfl
  have hbx : (w.alloc (.cells #[.slice a n c] 25)).cell? ⟨w.heap.size, 0, none⟩ = some (.slice a n c) := cell_new w _ _
  have bn := bnew w (.cells #[.slice a n c] 25)
  by_cases h16 : 16 ≤ n
  · obtain ⟨i0, hi, hz0, hz1, hz2⟩ := info_parts infoSb
    have HP := Lib.hid (part_yes w.heap.size 0 16 a n c _ hbx hc (by omega) hb 0 16 rfl rfl)
    have hh := cut_rw hv 0 16 (by omega)
    obtain ⟨ha, hc', he⟩ := cut_form a c 0 16
    rw [he] at HP hh
    have hhs := fun W => run_part und8 size8 ha 16 hc' 6 8 (by omega) (by omega) hh.at.2.1 W
    have hhg := cut_rw hh 6 2 (by omega)
    rw [sub_sub b 0 16 6 2 (by omega)] at hhg
    obtain ⟨k, hk⟩ : ∃ k, nS b = k := ⟨_, rfl⟩
    have HG := Lib.hid (get2_at (cutV ha hc' 6 2) _ k _ (hhg.below bn) (sub_len _ _ _ (by omega)) hk)
    have hkb : k < 65536 := by
      rw [← hk]
      have := va_lt (sub b 6 2)
      rw [sub_len _ _ _ (by omega)] at this
      exact this
    have hhs' : ∀ W, (Instr.slice 25 (.slice ha 16 hc') (some (.int .i64 6)) (some (.int .i64 8)) none).run Try.prog W = .ok (cutV ha hc' 6 2) W := hhs
    have HV := Lib.hid hv
    have HN := Lib.hid hn
    have HK := Lib.hid hk
    have HBn := Lib.hid bn
    have HX := Lib.hid (show Boxed (w.alloc (.cells #[.slice a n c] 25)) w.heap.size 25 (.slice a n c) from Boxed.new w _ _)
    unfold SeP
    rw [hk]
    clear hv hn hh he hhs hhg hk bn hbx
    go_enter Try.func31, Try.ntmps31
    go_wp2_with (first
      | (go_at_call 38; ((with_reducible refine (HP.out).mono ?_); rintro e w1 ⟨rfl, rfl⟩))
      | (go_at_call 39; ((with_reducible refine (HG.out).mono ?_); rintro e w1 ⟨rfl, rfl⟩)))
    clear hhs' HP HG
    go_loopw [7, 8, 9, 10, 11, 23] (fun lv _ _ _ _ q wr => ∃ (i : Nat) (ps : List (Int × Value)), i ≤ k ∧ q = .int .i64 (i : Int) ∧ Below w.heap.size w wr ∧ wr.ownsRow w.heap.size 50 2 lv i (fl ps) ∧ Boxed wr w.heap.size 25 (.slice a n c) ∧ Hid (Fits w ps (rdT b i) ∧ ∀ j, j < i → okR b j)) (fun _ _ _ _ _ q _ => k - (intOf q).toNat)
    case atStart => exact ⟨0, [], Nat.zero_le _, rfl, HBn.out, World.ownsRow_nil _ _ _ _, HX.out, Lib.hid ⟨Fits.nil w, fun j h => absurd h (by omega)⟩⟩
    case round =>
      clear HX HBn
      obtain ⟨i, ps, hi', rfl, hB, hown, hbx, hI⟩ := hrel
      obtain ⟨oa, oc, rfl⟩ := owns_slice hown
      have hcb := hbx.cell
      have hlb : w.heap.size < wr.heap.size := hbx.lt
      by_cases hlt : i < k
      · obtain ⟨R, hR⟩ : ∃ R, 16 + 12 * i = R := ⟨_, rfl⟩
        have RS := Lib.hid (fun W => rowS_at i (R : Int) W (by omega) (by rw [hR]))
        have hRb : R ≤ 1000000 := by omega
        by_cases hA : n < R + 12
        · have HNO := Lib.hid (show ¬ rdB b from fun h => by
            have h1 := (h.2 i (by rw [HK.out]; exact hlt)).1
            have h2 := HN.out
            omega)
          have HP := Lib.hid (part_no w.heap.size R 12 a n c wr hcb hA (by omega) (by omega) (R : Int) 12 rfl rfl)
          clear hI hown hR
          go_wp2_with (first
            | (go_at_call 37; ((with_reducible refine (RS.out _).mono ?_); rintro e w2 ⟨rfl, rfl⟩))
            | (go_at_call 38; ((with_reducible refine (HP.out).mono ?_); rintro e w3 ⟨rfl, rfl⟩)))
          refine bodyPost_ret (v := .tuple #[.slice none 0 0, .bool false]) (by simp [results, Try.results31, go_sem]) rfl ⟨.inl ⟨HNO.out, rfl⟩, hB⟩
        · have hn2 := HN.out
          have hrw := cut_rw HV.out R 12 (by omega)
          have HP := Lib.hid (part_yes w.heap.size R 12 a n c wr hcb hc (by omega) hb (R : Int) 12 rfl rfl)
          obtain ⟨ra, rc, he⟩ := cut_form a c R 12
          rw [he] at HP hrw
          have hcl := hrw.at.2.1
          have hsK : ∀ W, (Instr.slice 25 (.slice ra 12 rc) (some (.int .i64 0)) (some (.int .i64 4)) none).run Try.prog W = .ok (cutV ra rc 0 4) W := fun W => run_part und8 size8 ra 12 rc 0 4 (by omega) (by omega) hcl W
          have hsA : ∀ W, (Instr.slice 25 (.slice ra 12 rc) (some (.int .i64 4)) (some (.int .i64 8)) none).run Try.prog W = .ok (cutV ra rc 4 4) W := fun W => run_part und8 size8 ra 12 rc 4 8 (by omega) (by omega) hcl W
          have hsL : ∀ W, (Instr.slice 25 (.slice ra 12 rc) (some (.int .i64 8)) (some (.int .i64 12)) none).run Try.prog W = .ok (cutV ra rc 8 4) W := fun W => run_part und8 size8 ra 12 rc 8 12 (by omega) (by omega) hcl W
          have r0 := cut_rw hrw 0 4 (by omega)
          have r4 := cut_rw hrw 4 4 (by omega)
          have r8 := cut_rw hrw 8 4 (by omega)
          rw [sub_sub b R 12 0 4 (by omega)] at r0
          rw [sub_sub b R 12 4 4 (by omega)] at r4
          rw [sub_sub b R 12 8 4 (by omega)] at r8
          obtain ⟨K, hK⟩ : ∃ K, kiN b i = K := ⟨_, rfl⟩
          obtain ⟨A, hA'⟩ : ∃ A, atN b i = A := ⟨_, rfl⟩
          obtain ⟨L, hL⟩ : ∃ L, lnN b i = L := ⟨_, rfl⟩
          have G0 := Lib.hid (fun W (h : Below w.heap.size w W) => get4_at (cutV ra rc 0 4) _ K W (r0.below h) (sub_len _ _ _ (by omega)) (by rw [← hK, kiN, hR, Nat.add_zero]))
          have G4 := Lib.hid (fun W (h : Below w.heap.size w W) => get4_at (cutV ra rc 4 4) _ A W (r4.below h) (sub_len _ _ _ (by omega)) (by rw [← hA', atN, show 20 + 12 * i = R + 4 by omega]))
          have G8 := Lib.hid (fun W (h : Below w.heap.size w W) => get4_at (cutV ra rc 8 4) _ L W (r8.below h) (sub_len _ _ _ (by omega)) (by rw [← hL, lnN, show 24 + 12 * i = R + 8 by omega]))
          obtain ⟨v0, hv0⟩ : ∃ v, cutV ra rc 0 4 = v := ⟨_, rfl⟩
          obtain ⟨v4, hv4⟩ : ∃ v, cutV ra rc 4 4 = v := ⟨_, rfl⟩
          obtain ⟨v8, hv8⟩ : ∃ v, cutV ra rc 8 4 = v := ⟨_, rfl⟩
          rw [hv0] at G0
          rw [hv4] at G4
          rw [hv8] at G8
          simp only [hv0] at hsK
          simp only [hv4] at hsA
          simp only [hv8] at hsL
          clear hv0 hv4 hv8
          have b4 : ∀ j, j + 4 ≤ n → va (sub b j 4) < 4294967296 := fun j hj => by
            have := va_lt (sub b j 4)
            rw [sub_len _ _ _ (by omega)] at this
            exact this
          have hAb : A < 4294967296 := by rw [← hA']; exact b4 _ (by omega)
          have hLb : L < 4294967296 := by rw [← hL]; exact b4 _ (by omega)
          have hKb : K < 4294967296 := by rw [← hK]; exact b4 _ (by omega)
          have HBB := Lib.hid hB
          by_cases hC : n < A + L
          · have HNO := Lib.hid (show ¬ rdB b from fun h => by
              have h1 := (h.2 i (by rw [HK.out]; exact hlt)).2
              have h2 := HN.out
              omega)
            have PN := Lib.hid (fun W (h : W.cell? ⟨w.heap.size, 0, none⟩ = some (.slice a n c)) => part_no w.heap.size A L a n c W h hC (by omega) (by omega) (A : Int) (L : Int) rfl rfl)
            clear hI hown hR hrw hcl r0 r4 r8 he hn2 hK hA' hL b4 hsK G0
            go_wp2_with (first
              | (go_at_call 37; ((with_reducible refine (RS.out _).mono ?_); rintro e w2 ⟨rfl, rfl⟩))
              | (go_at_call 38; ((with_reducible refine (HP.out).mono ?_); rintro e w3 ⟨rfl, rfl⟩)))
            go_quiet ((first | (go_at_call 39; first | (with_reducible refine Calls.quiet_of_same ((G4.out _ ?_).mono fun e w' h => ⟨h.1, h.2.symm⟩); exact bdN HBB.out _) | (with_reducible refine Calls.quiet_of_same ((G8.out _ ?_).mono fun e w' h => ⟨h.1, h.2.symm⟩); exact bdN HBB.out _)) | (go_at_call 38; exact Calls.quiet_of_same ((PN.out _ (by exact hcb)).mono fun e w' h => ⟨h.1, h.2.symm⟩))))
            go_wp2
            refine bodyPost_ret (v := .tuple #[.slice none 0 0, .bool false]) (by simp [results, Try.results31, go_sem]) rfl ⟨.inl ⟨HNO.out, rfl⟩, bdN hB _⟩
          · have PY := Lib.hid (fun W (h : W.cell? ⟨w.heap.size, 0, none⟩ = some (.slice a n c)) => part_yes w.heap.size A L a n c W h hc (by omega) hb (A : Int) (L : Int) rfl rfl)
            obtain ⟨da, dc, hde⟩ := cut_form a c A L
            have hdr := cut_rw HV.out A L (by omega)
            rw [hde] at hdr PY
            have hfx := hI.out
            have hrd : rdT b (i + 1) = rdT b i ++ [((K : Int), sub b A L)] := by rw [rdT_snoc, rd1, hK, hA', hL]
            have hf2 := hfx.1.snoc (k := (K : Int)) (v := .slice da L dc) (s := ((K : Int), sub b A L)) rfl hdr
            rw [← hrd] at hf2
            have HF := Lib.hid (show Fits w (ps ++ [((K : Int), .slice da L dc)]) (rdT b (i + 1)) ∧ ∀ j, j < i + 1 → okR b j from ⟨hf2, fun j hj => by
              rcases Nat.lt_succ_iff_lt_or_eq.1 hj with h | rfl
              · exact hfx.2 j h
              · exact ⟨by omega, by rw [hA', hL]; omega⟩⟩)
            clear hI hR hrw hcl r0 r4 r8 he hn2 hK hA' hL b4 hde hdr hfx hrd hf2
            go_wp2_with (first
              | (go_at_call 37; ((with_reducible refine (RS.out _).mono ?_); rintro e w2 ⟨rfl, rfl⟩))
              | (go_at_call 38; ((with_reducible refine (HP.out).mono ?_); rintro e w3 ⟨rfl, rfl⟩)))
            go_quiet ((first | (go_at_call 39; first | (with_reducible refine Calls.quiet_of_same ((G4.out _ ?_).mono fun e w' h => ⟨h.1, h.2.symm⟩); exact bdN HBB.out _) | (with_reducible refine Calls.quiet_of_same ((G8.out _ ?_).mono fun e w' h => ⟨h.1, h.2.symm⟩); exact bdN HBB.out _)) | (go_at_call 38; exact Calls.quiet_of_same ((PY.out _ (by exact hcb)).mono fun e w' h => ⟨h.1, h.2.symm⟩))))
            have hown1 : (wr.drewN nq).ownsRow w.heap.size 50 2 (.slice oa i oc) i (fl ps) := hown
            have hbx1 : Boxed (wr.drewN nq) w.heap.size 25 (.slice a n c) := hbx
            have HB1 := bdN hB nq
            generalize wr.drewN nq = W1 at hown1 hbx1 HB1 ⊢
            have hsz1 := HB1.size
            clear hown hbx hcb hlb hsA hsL G4 G8 PY HP RS
            go_wp2_with (first
              | (go_at_call 39; ((with_reducible refine (G0.out _ HB1).mono ?_); rintro e w4 ⟨rfl, rfl⟩))
              | (at_builtin; refine wpList_append_own _ rfl _ _ 29 rfl w.heap.size 50 i0 (.agg #[.int .i64 0, .slice none 0 0]) 2 32 Try.underlying29 hi hz0 hz1 hz2 rfl (by decide) _ i _ rfl (hown1.alloc _) ⟨W1.heap.size, 0, none⟩ 1 1 [.int .i64 (K : Int), .slice da L dc] rfl rfl (World.news_of_block (cs := #[.int .i64 (K : Int), .slice da L dc]) (t := 50) (fr := (0, 0)) (heap_alloc_last W1 _)) (by simp [Value.oneCell']) (by unfold maxLen; omega) (by omega) (by simp; omega) ?_; intro v' w5 hown6 hgrow6 _; have B2 := (HB1.alloc hsz1 _).grown hgrow6 (by simp; omega) (own_base hown1); have bx2 := (hbx1.alloc (.cells #[.int .i64 (K : Int), .slice da L dc] 50)).kept hgrow6 (hbx1.not_row (by decide) hown1)))
            go_roundw
            case rel => exact ⟨i + 1, ps ++ [((K : Int), .slice da L dc)], hlt, by go_num, B2, by rw [fl_snoc]; exact hown6, bx2, HF⟩
            case measure => simp [intOf]; omega
      · obtain rfl : i = k := by omega
        have hfx := hI.out
        have HO := Lib.hid (And.intro hown hfx)
        have HB := Lib.hid hB
        clear hown hfx hI hB
        go_wp2
        refine bodyPost_ret (v := .tuple #[.slice oa i oc, .bool true]) (by simp [results, Try.results31, go_sem]) rfl ⟨.inr ⟨⟨by rw [HN.out]; exact h16, fun j hj => HO.out.2.2 j (by rw [HK.out] at hj; exact hj)⟩, oa, oc, ps, rfl, HO.out.1, HO.out.2.1⟩, HB.out⟩
  · have hno : ¬ rdB b := fun h => h16 (by rw [← hn]; exact h.1)
    have HP := Lib.hid (part_no w.heap.size 0 16 a n c _ hbx (by omega) (by omega) (by omega) 0 16 rfl rfl)
    have HNO := Lib.hid hno
    clear hno hv hn
    go_enter Try.func31, Try.ntmps31
    go_wp2_with (go_at_call 38; ((with_reducible refine (HP.out).mono ?_); rintro e w1 ⟨rfl, rfl⟩))
    refine bodyPost_ret (v := .tuple #[.slice none 0 0, .bool false]) (by simp [results, Try.results31, go_sem]) rfl ⟨.inl ⟨HNO.out, rfl⟩, bn⟩
end Go.Proofs.Ytdamijicombmkaa.L15
