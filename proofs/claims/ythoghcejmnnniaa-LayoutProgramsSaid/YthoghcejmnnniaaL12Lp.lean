/- The walk of the law on programs. Condition: memory holds the program. -/
import Derived.Test.YthoghcejmnnniaaL12Rrf
import Derived.Test.YthoghcejmnnniaaL12Al
namespace Go.Proofs.Ythoghcejmnnniaa.L12
open Go.RowKit Go.Shelf L3 L4
attribute [local go_sem] Oper.semAt_some

/-- A slice of relocations. -/
def RlAt (w : World) (v : Value) (l : List (Nat × Int)) : Prop :=
  (∃ b o cap, v = .slice (some ⟨b, o, none⟩) l.length cap ∧ b < w.heap.size ∧ ∀ j, (h : j < l.length) → w.cell? ⟨b, o + j * 2, none⟩ = some (.int .i64 (l[j].1 : Int)) ∧ w.cell? ⟨b, o + j * 2 + 1, none⟩ = some (.int .i64 l[j].2)) ∨ (l = [] ∧ ∃ a cap, v = .slice a 0 cap)
theorem RlAt.below {w w' : World} {v : Value} {l : List (Nat × Int)} (h : RlAt w v l) (hb : Below w.heap.size w w') : RlAt w' v l := by
  rcases h with ⟨b, o, cap, rfl, hlt, hc⟩ | h
  · exact .inl ⟨b, o, cap, rfl, Nat.lt_of_lt_of_le hlt hb.size, fun j hj => ⟨cell_up hb (hc j hj).1, cell_up hb (hc j hj).2⟩⟩
  · exact .inr h
theorem rl_form {w : World} {v : Value} {l : List (Nat × Int)} {n : Nat} (hn : l.length = n) (h : RlAt w v l) : ∃ a c, v = .slice a n c ∧ (0 < n → ∃ b o, a = some ⟨b, o, none⟩ ∧ b < w.heap.size ∧ ∀ j, (h : j < l.length) → w.cell? ⟨b, o + j * 2, none⟩ = some (.int .i64 (l[j].1 : Int)) ∧ w.cell? ⟨b, o + j * 2 + 1, none⟩ = some (.int .i64 l[j].2)) := by
  subst hn
  rcases h with ⟨b, o, cap, rfl, hb, hc⟩ | ⟨rfl, a, cap, rfl⟩
  · exact ⟨_, _, rfl, fun _ => ⟨b, o, rfl, hb, hc⟩⟩
  · exact ⟨a, cap, rfl, fun h => absurd h (by simp)⟩
theorem rlC_get : ∀ (l : List (Nat × Int)) (j : Nat) (h : j < l.length), (rlC l)[j * 2]? = some (.int .i64 (l[j].1 : Int)) ∧ (rlC l)[j * 2 + 1]? = some (.int .i64 l[j].2)
  | x :: r, 0, _ => by simp [rlC, rlL]
  | x :: r, j + 1, h => by
    have := rlC_get r j (by simpa using h)
    simp only [rlC, List.flatMap_cons] at this ⊢
    rw [List.getElem?_append_right (by simp [rlL]; omega), List.getElem?_append_right (by simp [rlL]; omega)]
    rw [show (j + 1) * 2 - (rlL x).length = j * 2 by simp [rlL]; omega, show (j + 1) * 2 + 1 - (rlL x).length = j * 2 + 1 by simp [rlL]; omega]
    exact this
theorem own_rl {W : World} {B e : TypeId} {v : Value} {xs : List (Nat × Int)} (h : W.ownsRow B e 2 v xs.length (rlC xs)) : RlAt W v xs := by
  rcases h.2 with ⟨rfl, h0⟩ | ⟨g, cap, cur, rfl, _, hh, _⟩
  · exact .inr ⟨List.eq_nil_of_length_eq_zero h0, none, 0, rfl⟩
  · refine .inl ⟨g, 0, cap, rfl, lt_of_block hh, fun j hj => ?_⟩
    have k1 := h.cells (g := g) rfl (j * 2) _ (rlC_get xs j hj).1
    have k2 := h.cells (g := g) rfl (j * 2 + 1) _ (rlC_get xs j hj).2
    rw [L8.add0] at k1 k2
    rw [Nat.zero_add]
    exact ⟨k1, k2⟩
theorem rl_is {w w' : World} {p : L10.Pg} {e : Ending} {n N : Nat} (hn : p.stmts.length = n) (hN : (rfT p n).length = N) (h : RfP w p e w') : ∃ a c, e = .returned (.slice a N c) ∧ RlAt w' (.slice a N c) (rfT p n) ∧ Below w.heap.size w w' := by
  subst hn hN
  obtain ⟨v, rfl, hr, hb⟩ := h
  obtain ⟨a, c, rfl⟩ := owns_slice hr
  exact ⟨a, c, rfl, own_rl hr, hb⟩
theorem rfT_len (p : L10.Pg) : ∀ k, (rfT p k).length ≤ k := by
  intro k
  induction k with
  | zero => simp [rfT, rfL]
  | succ k ih =>
    by_cases h : k < p.stmts.length
    · rw [rfT_snoc p k h, List.length_append]
      split <;> simp <;> omega
    · have : rfT p (k + 1) = rfT p k := by
        unfold rfT
        rw [List.take_of_length_le (by omega), List.take_of_length_le (by omega)]
      rw [this]; omega
/-- Two relocations compared. -/
theorem nq_rl (a b : Int) (w : World) : (binOp .neq 47 (.agg #[.int .i64 a, .int .i64 b]) (.agg #[.int .i64 a, .int .i64 b])).run Try.prog w = .ok (.bool false) w := by
  have hp : Try.prog.stoodInHeld 47 = false := by kernel_rfl
  have a3 : ∀ w, (isAgg 3).run Try.prog w = .ok false w := fun w => by kernel_rfl
  simp [go_sem, hp, Try.underlying47, Try.underlying3, part, a3]
theorem nq_in (op : Int) (reg : Bool) (dst src off imm : Int) (w : World) : (binOp .neq 34 (.agg #[.int .i64 op, .bool reg, .int .i64 dst, .int .i64 src, .int .i64 off, .int .i64 imm]) (.agg #[.int .i64 op, .bool reg, .int .i64 dst, .int .i64 src, .int .i64 off, .int .i64 imm])).run Try.prog w = .ok (.bool false) w := by
  have hp : Try.prog.stoodInHeld 34 = false := by kernel_rfl
  have a4 : ∀ w, (isAgg 4).run Try.prog w = .ok false w := fun w => by kernel_rfl
  have a3 : ∀ w, (isAgg 3).run Try.prog w = .ok false w := fun w => by kernel_rfl
  have a2 : ∀ w, (isAgg 2).run Try.prog w = .ok false w := fun w => by kernel_rfl
  simp [go_sem, hp, Try.underlying34, Try.underlying4, Try.underlying3, Try.underlying2, part, a4, a3, a2]

set_option maxHeartbeats 2000000 in
set_option maxRecDepth 100000 in
theorem equalR_at (v v' : Value) (l : List (Nat × Int)) (w : World) (hl : l.length ≤ 100000) (hv : RlAt w v l) (hv' : RlAt w v' l) :
    Calls Try.prog 22 #[v, v'] w fun e w' => e = .returned (.bool true) ∧ Below w.heap.size w w' := by
  obtain ⟨n, hn⟩ : ∃ n, l.length = n := ⟨_, rfl⟩
  obtain ⟨a, c, rfl, hc⟩ := rl_form hn hv
  obtain ⟨a', c', rfl, hc'⟩ := rl_form hn hv'
  rw [hn] at hl
  have HN := Lib.hid hn
  have HC := Lib.hid hc
  have HC' := Lib.hid hc'
  clear hn hc hc' hv hv'
  go_enter Try.func22, Try.ntmps22
  go_wp2
  go_loopw [5, 13] (fun _ i wr => ∃ (k q : Nat), k ≤ n ∧ i = .int .i64 (k : Int) ∧ wr = w.drewN q) (fun _ i _ => n - (intOf i).toNat)
  case atStart => exact ⟨0, 0, Nat.zero_le _, rfl, rfl⟩
  case round =>
    obtain ⟨k, q, hk, rfl, rfl⟩ := hrel
    by_cases hlt : k < n
    · have hk1 : k < l.length := by rw [HN.out]; exact hlt
      obtain ⟨b1, o1, rfl, hb1, hc1⟩ := HC.out (by omega)
      obtain ⟨b2, o2, rfl, hb2, hc2⟩ := HC'.out (by omega)
      obtain ⟨x0, x1⟩ := hc1 k hk1
      obtain ⟨y0, y1⟩ := hc2 k hk1
      have hlt' : (k : Int) < (n : Int) := by omega
      generalize (l[k].1 : Int) = u at x0 y0
      generalize l[k].2 = z at x1 y1
      have hq := nq_rl u z
      clear hc1 hc2
      go_wp2
      go_quiet (fail)
      go_wp2
      go_roundw
      case rel => exact ⟨k + 1, q + nq, by omega, by go_num, rfl⟩
      case measure => simp [intOf]; omega
    · obtain rfl : k = n := by omega
      go_wp2
      go_ret
      exact ⟨rfl, L8.bdN (Below.refl _ _) _⟩

set_option maxHeartbeats 2000000 in
set_option maxRecDepth 100000 in
theorem isame12_at (v v' : Value) (l : List L9.Ins) (w : World) (hl : l.length ≤ 100000) (hv : IsAt w v l) (hv' : IsAt w v' l) :
    Calls Try.prog 19 #[v, v'] w fun e w' => e = .returned (.bool true) ∧ Below w.heap.size w w' := by
  obtain ⟨n, hn⟩ : ∃ n, l.length = n := ⟨_, rfl⟩
  obtain ⟨a, c, rfl, hc⟩ := is_form hn hv
  obtain ⟨a', c', rfl, hc'⟩ := is_form hn hv'
  rw [hn] at hl
  have HN := Lib.hid hn
  have HC := Lib.hid hc
  have HC' := Lib.hid hc'
  clear hn hc hc' hv hv'
  go_enter Try.func19, Try.ntmps19
  go_wp2
  go_loopw [5] (fun i wr => ∃ (k q : Nat), k ≤ n ∧ i = .int .i64 (k : Int) ∧ wr = w.drewN q) (fun i _ => n - (intOf i).toNat)
  case atStart => exact ⟨0, 0, Nat.zero_le _, rfl, rfl⟩
  case round =>
    obtain ⟨k, q, hk, rfl, rfl⟩ := hrel
    by_cases hlt : k < n
    · have hk1 : k < l.length := by rw [HN.out]; exact hlt
      obtain ⟨b1, o1, rfl, hb1, hc1⟩ := HC.out (by omega)
      obtain ⟨b2, o2, rfl, hb2, hc2⟩ := HC'.out (by omega)
      obtain ⟨x0, x1, x2, x3, x4, x5⟩ := hc1 k hk1
      obtain ⟨y0, y1, y2, y3, y4, y5⟩ := hc2 k hk1
      have hlt' : (k : Int) < (n : Int) := by omega
      generalize l[k] = x at x0 x1 x2 x3 x4 x5 y0 y1 y2 y3 y4 y5
      obtain ⟨op, reg, dst, src, off, imm⟩ := x
      have hq := nq_in op reg dst src off imm
      clear hc1 hc2
      go_wp2
      go_quiet (fail)
      go_wp2
      go_roundw
      case rel => exact ⟨k + 1, q + nq, by omega, by go_num, rfl⟩
      case measure => simp [intOf]; omega
    · obtain rfl : k = n := by omega
      go_wp2
      go_ret
      exact ⟨rfl, L8.bdN (Below.refl _ _) _⟩

/-- What the law's region keeps: the program where it lies. -/
def PX (w0 W : World) (k : Nat) (vm vs : Value) : Prop := Below w0.heap.size w0 W ∧ W.heap[k]? = some (.cells #[vm, vs] 40)
theorem keepX {w0 W W' : World} {k : Nat} {vm vs : Value} (hb : Below W.heap.size W W') (h : PX w0 W k vm vs) : PX w0 W' k vm vs ∧ W'.cell? ⟨k, 0, none⟩ = some vm ∧ W'.cell? ⟨k, 1, none⟩ = some vs := by
  have h2 := L8.row_up h.2 hb
  exact ⟨⟨L2.bch h.1 hb, h2⟩, L10.cells2p h2⟩
theorem keepY {w0 W W' : World} {k : Nat} {vm vs : Value} (hb : Below W.heap.size W W') (h : PX w0 W k vm vs ∧ W.cell? ⟨k, 0, none⟩ = some vm ∧ W.cell? ⟨k, 1, none⟩ = some vs) : PX w0 W' k vm vs ∧ W'.cell? ⟨k, 0, none⟩ = some vm ∧ W'.cell? ⟨k, 1, none⟩ = some vs := keepX hb h.1

set_option maxHeartbeats 8000000 in
set_option maxRecDepth 100000 in
theorem progs_walk (vm vs : Value) (p : L10.Pg) (w : World) (hp : L10.PgAt w vm vs p) (hr : ∀ s ∈ p.stmts, L10.TxRoom s.labs) :
    Calls Try.prog 8 #[.agg #[vm, vs]] w fun e w' => e = .returned (.bool true) ∧ Below w.heap.size w w' := by
  obtain ⟨b, hbf, hF⟩ := L10.few_ex vm vs p w hp hr
  obtain ⟨n1, hn1⟩ : ∃ n, p.maps.length = n := ⟨_, rfl⟩
  obtain ⟨n2, hn2⟩ : ∃ n, p.stmts.length = n := ⟨_, rfl⟩
  obtain ⟨a1, c1, rfl, -⟩ := L10.df_form hn1 hp.1
  obtain ⟨a2, c2, rfl, -⟩ := L10.sm_form hn2 hp.2
  have HF := Lib.hid hF
  have HP := Lib.hid hp
  have HN := Lib.hid hn2
  have HBF := Lib.hid hbf
  have hb0 := L8.bnew w (.cells #[.slice a1 n1 c1, .slice a2 n2 c2] 40)
  have hx0 := heap_alloc_last w (.cells #[.slice a1 n1 c1, .slice a2 n2 c2] 40)
  clear hp hr hn1 hn2 hF hbf
  go_enter Try.func8, Try.ntmps8
  go_upto_region 1 with (fail)
  obtain ⟨x1, x2⟩ := L10.cells2p hx0
  have hlt1 := World.block_lt_of_cell? _ _ x1
  simp only at hlt1
  obtain ⟨k, hk⟩ : ∃ k, w.heap.size = k := ⟨_, rfl⟩
  rw [hk] at hx0 x1 x2 hlt1 ⊢
  generalize w.alloc (.cells #[.slice a1 n1 c1, .slice a2 n2 c2] 40) = W0 at hx0 x1 x2 hlt1 hb0 ⊢
  have HB0 := Lib.hid hb0
  have HX0 := Lib.hid hx0
  have HK := Lib.hid hk
  clear hb0 hx0 hk
  cases b
  · go_wp2_with (first | (go_at_call 18; ((with_reducible refine (HF.out _ HB0.out).mono ?_); rintro e w1 ⟨rfl, b1⟩)) | (go_at_call 9; ((with_reducible refine (alive12 _).mono ?_); rintro e w2 ⟨rfl, b2⟩)))
    go_ret
    have := HK.out
    subst this
    exact ⟨rfl, L2.bch (L2.bch HB0.out b1) b2⟩
  · go_upto_region 3 with (go_at_call 18; ((with_reducible refine (HF.out _ HB0.out).mono ?_); rintro e w1 ⟨rfl, b1⟩))
    have hsm := L10.sml_few (HBF.out (by trivial))
    have hm2 : n2 ≤ 60 := by have := (HBF.out (by trivial)).2.1; rw [HN.out] at this; exact this
    obtain ⟨N, hNN⟩ : ∃ N, (rfT p n2).length = N := ⟨_, rfl⟩
    have hNl := rfT_len p n2
    rw [hNN] at hNl
    have hx1 := L8.row_up HX0.out b1
    have HB1 := Lib.hid (L2.bch HB0.out b1)
    have hpg := HP.out.below HB1.out
    have X : PX w1 w1 k (.slice a1 n1 c1) (.slice a2 n2 c2) := ⟨Below.refl _ _, hx1⟩
    obtain ⟨u1, u2⟩ := L10.cells2p hx1
    have hlt2 : k < w1.heap.size := World.block_lt_of_cell? _ _ u1
    have HCo := Lib.hid (fun (W : World) (h : PX w1 W k (.slice a1 n1 c1) (.slice a2 n2 c2) ∧ W.cell? ⟨k, 0, none⟩ = some (.slice a1 n1 c1) ∧ W.cell? ⟨k, 1, none⟩ = some (.slice a2 n2 c2)) => code_at (.slice a1 n1 c1) (.slice a2 n2 c2) p W (hpg.below h.1.1) hsm)
    have HRc := Lib.hid (fun (W : World) (h : PX w1 W k (.slice a1 n1 c1) (.slice a2 n2 c2) ∧ W.cell? ⟨k, 0, none⟩ = some (.slice a1 n1 c1) ∧ W.cell? ⟨k, 1, none⟩ = some (.slice a2 n2 c2)) => rcode_at (.slice a1 n1 c1) (.slice a2 n2 c2) p W (hpg.below h.1.1) hsm)
    have HRf := Lib.hid (fun (W : World) (h : PX w1 W k (.slice a1 n1 c1) (.slice a2 n2 c2) ∧ W.cell? ⟨k, 0, none⟩ = some (.slice a1 n1 c1) ∧ W.cell? ⟨k, 1, none⟩ = some (.slice a2 n2 c2)) => (refs_at (.slice a1 n1 c1) (.slice a2 n2 c2) p W (hpg.below h.1.1) hsm).mono fun e w' h => rl_is HN.out hNN h)
    have HRr := Lib.hid (fun (W : World) (h : PX w1 W k (.slice a1 n1 c1) (.slice a2 n2 c2) ∧ W.cell? ⟨k, 0, none⟩ = some (.slice a1 n1 c1) ∧ W.cell? ⟨k, 1, none⟩ = some (.slice a2 n2 c2)) => (rrefs_at (.slice a1 n1 c1) (.slice a2 n2 c2) p W (hpg.below h.1.1) hsm).mono fun e w' h => rl_is HN.out hNN h)
    unfold CoP at HCo HRc
    rw [HN.out] at HCo HRc
    have HSm := Lib.hid (fun v v' W h h' => isame12_at v v' (cdL p.stmts) W (by rw [cdL_len, HN.out]; omega) h h')
    have HEq := Lib.hid (fun v v' W h h' => equalR_at v v' (rfT p n2) W (by omega) h h')
    clear hx1 hpg hsm hNN x1 x2 hlt1 b1
    go_region_held3 (fun W => PX w1 W k (.slice a1 n1 c1) (.slice a2 n2 c2) ∧ W.cell? ⟨k, 0, none⟩ = some (.slice a1 n1 c1) ∧ W.cell? ⟨k, 1, none⟩ = some (.slice a2 n2 c2))
      (first | exact keepX (Below.refl _ _).drew X | exact keepY hb9 (by assumption) | assumption)
      (first | (go_at_call 9; ((with_reducible refine (alive12 _).mono ?_); rintro e w9 ⟨rfl, hb9⟩)) | (go_at_call 20; ((with_reducible refine (HCo.out _ (by assumption)).mono ?_); rintro e w9 ⟨ca, cc, rfl, hci, hb9⟩)) | (go_at_call 21; ((with_reducible refine (HRc.out _ (by assumption)).mono ?_); rintro e w9 ⟨ra, rc, rfl, hri, hb9⟩; have hci2 := hci.below hb9)) | (go_at_call 19; ((with_reducible refine (HSm.out _ _ _ hci2 hri).mono ?_); rintro e w9 ⟨rfl, hb9⟩)) | (go_at_call 23; ((with_reducible refine (HRf.out _ (by assumption)).mono ?_); rintro e w9 ⟨fa, fc, rfl, hfi, hb9⟩)) | (go_at_call 24; ((with_reducible refine (HRr.out _ (by assumption)).mono ?_); rintro e w9 ⟨ga, gc, rfl, hgi, hb9⟩; have hfi2 := hfi.below hb9)) | (go_at_call 22; ((with_reducible refine (HEq.out _ _ _ hfi2 hgi).mono ?_); rintro e w9 ⟨rfl, hb9⟩)))
    all_goals
      rename_i hh
      go_wp2
      go_ret
      have := HK.out
      subst this
      exact ⟨rfl, L2.bch HB1.out hh.1.1⟩
end Go.Proofs.Ythoghcejmnnniaa.L12
