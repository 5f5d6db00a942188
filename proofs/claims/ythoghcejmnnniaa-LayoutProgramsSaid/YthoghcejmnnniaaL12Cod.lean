/- What Code returns, the program's and the reference's: the instructions. Condition: memory holds the program, whose lists are no longer than 100000. -/
import Derived.Test.YthoghcejmnnniaaL12Dis
namespace Go.Proofs.Ythoghcejmnnniaa.L12
open Go.RowKit Go.Shelf L3 L4
attribute [local go_sem] Oper.semAt_some

theorem infoIns : (Try.prog.info? 34).map (fun i => (i.zero, i.size, i.bytes)) = some (some (.agg #[.int .i64 0, .bool false, .int .i64 0, .int .i64 0, .int .i64 0, .int .i64 0]), 6, 48) := by kernel_rfl
/-- The instructions of some statements; the cells of some instructions. -/
def cdL (l : List L10.Stm) : List L9.Ins := l.map fun s => s.x
def inC (l : List L9.Ins) : List Value := l.flatMap L10.inL
theorem inC_snoc (l : List L9.Ins) (x : L9.Ins) : inC (l ++ [x]) = inC l ++ L10.inL x := by simp [inC]
theorem cdL_snoc (l : List L10.Stm) (k : Nat) (h : k < l.length) : cdL (l.take (k + 1)) = cdL (l.take k) ++ [l[k].x] := by
  unfold cdL
  rw [List.take_add_one, List.getElem?_eq_getElem h, Option.toList, List.map_append]
  rfl
theorem cdL_len (l : List L10.Stm) : (cdL l).length = l.length := by simp [cdL]
theorem cdL_get (l : List L10.Stm) (k : Nat) (h : k < l.length) : (cdL l)[k]'(by rw [cdL_len]; exact h) = l[k].x := by simp [cdL]
theorem inC_get : ∀ (l : List L9.Ins) (j : Nat) (h : j < l.length) (i : Nat) (u : Value), (L10.inL l[j])[i]? = some u → (inC l)[j * 6 + i]? = some u
  | x :: r, 0, _, i, u, hu => by
    have hu : (L10.inL x)[i]? = some u := hu
    have hi := (List.getElem?_eq_some_iff.1 hu).1
    simp only [inC, List.flatMap_cons, Nat.zero_mul, Nat.zero_add]
    rw [List.getElem?_append_left hi]
    exact hu
  | x :: r, j + 1, h, i, u, hu => by
    have := inC_get r j (by simpa using h) i u (by simpa using hu)
    simp only [inC, List.flatMap_cons] at this ⊢
    rw [List.getElem?_append_right (by simp; omega)]
    rw [show (j + 1) * 6 + i - (L10.inL x).length = j * 6 + i by simp; omega]
    exact this
/-- A row of instructions that is one's own reads as these. -/
theorem own_ins {W : World} {B e : TypeId} {v : Value} {xs : List L9.Ins} {n : Nat} (hn : xs.length = n) (h : W.ownsRow B e 6 v n (inC xs)) : IsAt W v xs := by
  subst hn
  rcases h.2 with ⟨rfl, h0⟩ | ⟨g, cap, cur, rfl, _, hh, _⟩
  · exact .inr ⟨List.eq_nil_of_length_eq_zero h0, none, 0, rfl⟩
  · refine .inl ⟨g, 0, cap, rfl, lt_of_block hh, fun j hj i u hu => ?_⟩
    have := h.cells (g := g) rfl (j * 6 + i) u (inC_get xs j hj i u hu)
    rw [Nat.zero_add]
    rwa [L8.add0] at this
theorem cl9 {w : World} {k : Nat} {a b c d e f g i j : Value} {t : TypeId} (hh : w.heap[k]? = some (.cells #[a, b, c, d, e, f, g, i, j] t)) :
    w.cell? ⟨k, 0, none⟩ = some a ∧ w.cell? ⟨k, 1, none⟩ = some b ∧ w.cell? ⟨k, 2, none⟩ = some c ∧ w.cell? ⟨k, 3, none⟩ = some d ∧ w.cell? ⟨k, 4, none⟩ = some e ∧ w.cell? ⟨k, 5, none⟩ = some f ∧ w.cell? ⟨k, 6, none⟩ = some g ∧ w.cell? ⟨k, 7, none⟩ = some i ∧ w.cell? ⟨k, 8, none⟩ = some j := by
  simp [World.cell?, hh]
/-- What both return. -/
def CoP (w : World) (p : L10.Pg) (e : Ending) (w' : World) : Prop := ∃ a c, e = .returned (.slice a p.stmts.length c) ∧ IsAt w' (.slice a p.stmts.length c) (cdL p.stmts) ∧ Below w.heap.size w w'

set_option maxHeartbeats 4000000 in
set_option maxRecDepth 100000 in
theorem code_at (vm vs : Value) (p : L10.Pg) (w : World) (hp : L10.PgAt w vm vs p) (hs : L10.Sml p) :
    Calls Try.prog 20 #[.agg #[vm, vs]] w fun e w' => CoP w p e w' := by
  obtain ⟨i0, hi, hz0, hz1, hz2⟩ := info_parts infoIns
  obtain ⟨n1, hn1⟩ : ∃ n, p.maps.length = n := ⟨_, rfl⟩
  obtain ⟨n2, hn2⟩ : ∃ n, p.stmts.length = n := ⟨_, rfl⟩
  obtain ⟨a1, c1, rfl, -⟩ := L10.df_form hn1 hp.1
  obtain ⟨a2, c2, rfl, hc⟩ := L10.sm_form hn2 hp.2
  have hm2 := hs.stmts
  rw [hn2] at hm2
  have HC := Lib.hid hc
  have HN := Lib.hid hn2
  have HB := Lib.hid (L8.bnew w (.cells #[.slice a1 n1 c1, .slice a2 n2 c2] 40))
  have K0 := Lib.hid (heap_alloc_last w (.cells #[.slice a1 n1 c1, .slice a2 n2 c2] 40))
  unfold CoP
  rw [hn2]
  clear hp hs hn1 hn2 hc
  go_enter Try.func20, Try.ntmps20
  go_upto_region 1 with (fail)
  have x1 := (L10.cells2p K0.out).2
  have hlt1 := World.block_lt_of_cell? _ _ x1
  simp only at hlt1
  generalize w.alloc (.cells #[.slice a1 n1 c1, .slice a2 n2 c2] 40) = W0 at K0 x1 hlt1 HB ⊢
  have HI : Hid (W0.ownsRow W0.heap.size 34 6 (.slice none 0 0) 0 (inC (cdL (p.stmts.take 0))) ∧ Below W0.heap.size W0 W0) := Lib.hid ⟨World.ownsRow_nil _ _ _ _, Below.refl _ _⟩
  go_wp2
  go_loopw [3, 9] (fun vn i wr => ∃ k : Nat, k ≤ n2 ∧ i = .int .i64 (k : Int) ∧ Hid (wr.ownsRow W0.heap.size 34 6 vn k (inC (cdL (p.stmts.take k))) ∧ Below W0.heap.size W0 wr)) (fun _ i _ => n2 - (intOf i).toNat)
  case atStart => exact ⟨0, Nat.zero_le _, rfl, HI⟩
  case round =>
    obtain ⟨k, hk, rfl, hI⟩ := hrel
    clear HI x1 hlt1
    by_cases hlt : k < n2
    · have hkl : k < p.stmts.length := by rw [HN.out]; exact hlt
      obtain ⟨b, o, rfl, hbl, hc⟩ := HC.out (by omega)
      obtain ⟨lv, hst, hx⟩ := hc k hkl
      have hBw := L2.bch HB.out hI.out.2
      have up : ∀ i u, (L10.smL lv p.stmts[k])[i]? = some u → wr.cell? ⟨b, o + k * 9 + i, none⟩ = some u := fun i u hu => (hBw.cell (by exact hbl)).trans (hx i u hu)
      have hsn := cdL_snoc p.stmts k hkl
      obtain ⟨s, hs⟩ : ∃ s, p.stmts[k] = s := ⟨_, rfl⟩
      rw [hs] at hst up hsn
      obtain ⟨ln, hln⟩ : ∃ ln, s.labs.length = ln := ⟨_, rfl⟩
      obtain ⟨la, lc, rfl, -⟩ := L10.st_form hln hst
      obtain ⟨labs, ⟨op, reg, dst, src, off, imm⟩, tg, mp⟩ := s
      have y0 := up 0 _ rfl
      have y1 := up 1 _ rfl
      have y2 := up 2 _ rfl
      have y3 := up 3 _ rfl
      have y4 := up 4 _ rfl
      have y5 := up 5 _ rfl
      have y6 := up 6 _ rfl
      have y7 := up 7 _ rfl
      have y8 := up 8 _ rfl
      rw [Nat.add_zero] at y0
      have hw1 := World.block_lt_of_cell? _ _ y0
      simp only at hw1
      have HSN := Lib.hid hsn
      have HBl := Lib.hid hI.out.2
      have hown := hI.out.1
      have hszW := HBl.out.size
      have hkI : (k : Int) < (n2 : Int) := by omega
      clear hx hc hst hs hln up hsn hI hBw
      go_upto_region 5 with (fail)
      have hx := heap_alloc_last wr (.cells #[.slice la ln lc, .int .i64 op, .bool reg, .int .i64 dst, .int .i64 src, .int .i64 off, .int .i64 imm, .string tg, .string mp] 56)
      have B1 := L2.bch HBl.out (L8.bnew wr (.cells #[.slice la ln lc, .int .i64 op, .bool reg, .int .i64 dst, .int .i64 src, .int .i64 off, .int .i64 imm, .string tg, .string mp] 56))
      have hown1 := L8.own_below hown (L8.bnew wr (.cells #[.slice la ln lc, .int .i64 op, .bool reg, .int .i64 dst, .int .i64 src, .int .i64 off, .int .i64 imm, .string tg, .string mp] 56))
      obtain ⟨g, hg⟩ : ∃ g, g = wr.heap.size := ⟨_, rfl⟩
      rw [← hg] at hx ⊢
      generalize wr.alloc (.cells _ 56) = W1 at hx B1 hown1 ⊢
      clear hg hown
      obtain ⟨z0, z1, z2, z3, z4, z5, z6, z7, z8⟩ := cl9 hx
      have hs1 := B1.size
      go_wp2_with (at_builtin; refine wpList_append_own _ rfl _ _ 22 rfl W0.heap.size 34 i0 (.agg #[.int .i64 0, .bool false, .int .i64 0, .int .i64 0, .int .i64 0, .int .i64 0]) 6 48 Try.underlying22 hi hz0 hz1 hz2 rfl (by decide) _ k _ rfl (hown1.alloc _) ⟨W1.heap.size, 0, none⟩ 1 1 [.int .i64 op, .bool reg, .int .i64 dst, .int .i64 src, .int .i64 off, .int .i64 imm] rfl rfl (World.news_of_block (cs := #[.int .i64 op, .bool reg, .int .i64 dst, .int .i64 src, .int .i64 off, .int .i64 imm]) (t := 34) (fr := (0, 0)) (heap_alloc_last W1 _)) (by simp [Value.oneCell']) (by unfold maxLen; omega) (by omega) (by simp; omega) ?_; intro v' w3 hown3 hgrow3 _)
      go_roundw
      case rel =>
        refine ⟨k + 1, by omega, by go_num, Lib.hid ⟨?_, ?_⟩⟩
        · rw [HSN.out, inC_snoc]; exact hown3
        · exact (B1.alloc hs1 _).grown hgrow3 (by simp; omega) (L8.own_base hown1)
      case measure => simp [intOf]; omega
    · obtain rfl : k = n2 := by omega
      have hJ := hI.out
      rw [List.take_of_length_le (by rw [HN.out]; exact Nat.le_refl _)] at hJ
      obtain ⟨va, vc, rfl⟩ := owns_slice hJ.1
      have HJ2 := Lib.hid hJ
      clear hI hJ
      go_wp2
      go_ret
      exact ⟨_, _, rfl, own_ins (by rw [cdL_len, HN.out]) HJ2.out.1, L2.bch HB.out HJ2.out.2⟩

set_option maxHeartbeats 4000000 in
set_option maxRecDepth 100000 in
theorem rcode_at (vm vs : Value) (p : L10.Pg) (w : World) (hp : L10.PgAt w vm vs p) (hs : L10.Sml p) :
    Calls Try.prog 21 #[.agg #[vm, vs]] w fun e w' => CoP w p e w' := by
  obtain ⟨i0, hi, hz0, hz1, hz2⟩ := info_parts infoIns
  obtain ⟨n1, hn1⟩ : ∃ n, p.maps.length = n := ⟨_, rfl⟩
  obtain ⟨n2, hn2⟩ : ∃ n, p.stmts.length = n := ⟨_, rfl⟩
  obtain ⟨a1, c1, rfl, -⟩ := L10.df_form hn1 hp.1
  obtain ⟨a2, c2, rfl, hc⟩ := L10.sm_form hn2 hp.2
  have hm2 := hs.stmts
  rw [hn2] at hm2
  have HC := Lib.hid hc
  have HN := Lib.hid hn2
  have HB := Lib.hid (L8.bnew w (.cells #[.slice a1 n1 c1, .slice a2 n2 c2] 40))
  have K0 := Lib.hid (heap_alloc_last w (.cells #[.slice a1 n1 c1, .slice a2 n2 c2] 40))
  unfold CoP
  rw [hn2]
  clear hp hs hn1 hn2 hc
  go_enter Try.func21, Try.ntmps21
  go_upto_region 1 with (fail)
  have x1 := (L10.cells2p K0.out).2
  have hlt1 := World.block_lt_of_cell? _ _ x1
  simp only at hlt1
  generalize w.alloc (.cells #[.slice a1 n1 c1, .slice a2 n2 c2] 40) = W0 at K0 x1 hlt1 HB ⊢
  have HI : Hid (W0.ownsRow W0.heap.size 34 6 (.slice none 0 0) 0 (inC (cdL (p.stmts.take 0))) ∧ Below W0.heap.size W0 W0) := Lib.hid ⟨World.ownsRow_nil _ _ _ _, Below.refl _ _⟩
  go_wp2
  go_loopw [3, 4] (fun vn i wr => ∃ k : Nat, k ≤ n2 ∧ i = .int .i64 (k : Int) ∧ Hid (wr.ownsRow W0.heap.size 34 6 vn k (inC (cdL (p.stmts.take k))) ∧ Below W0.heap.size W0 wr)) (fun _ i _ => n2 - (intOf i).toNat)
  case atStart => exact ⟨0, Nat.zero_le _, rfl, HI⟩
  case round =>
    obtain ⟨k, hk, rfl, hI⟩ := hrel
    clear HI x1 hlt1
    have x1 := (L10.cells2p (L8.row_up K0.out hI.out.2)).2
    have hlt1 := World.block_lt_of_cell? _ _ x1
    simp only at hlt1
    by_cases hlt : k < n2
    · have hkl : k < p.stmts.length := by rw [HN.out]; exact hlt
      obtain ⟨b, o, rfl, hbl, hc⟩ := HC.out (by omega)
      obtain ⟨lv, hst, hx⟩ := hc k hkl
      have hBw := L2.bch HB.out hI.out.2
      have up : ∀ i u, (L10.smL lv p.stmts[k])[i]? = some u → wr.cell? ⟨b, o + k * 9 + i, none⟩ = some u := fun i u hu => (hBw.cell (by exact hbl)).trans (hx i u hu)
      have hsn := cdL_snoc p.stmts k hkl
      obtain ⟨s, hs⟩ : ∃ s, p.stmts[k] = s := ⟨_, rfl⟩
      rw [hs] at up hsn
      obtain ⟨labs, ⟨op, reg, dst, src, off, imm⟩, tg, mp⟩ := s
      have y1 := up 1 _ rfl
      have y2 := up 2 _ rfl
      have y3 := up 3 _ rfl
      have y4 := up 4 _ rfl
      have y5 := up 5 _ rfl
      have y6 := up 6 _ rfl
      have HSN := Lib.hid hsn
      have HBl := Lib.hid hI.out.2
      have hown1 := hI.out.1
      have hs1 := HBl.out.size
      have hkI : (k : Int) < (n2 : Int) := by omega
      obtain ⟨W1, hW1⟩ : ∃ W1, wr = W1 := ⟨_, rfl⟩
      subst hW1
      clear hx hc hst hs up hsn hI hBw
      go_wp2_with (at_builtin; refine wpList_append_own _ rfl _ _ 22 rfl W0.heap.size 34 i0 (.agg #[.int .i64 0, .bool false, .int .i64 0, .int .i64 0, .int .i64 0, .int .i64 0]) 6 48 Try.underlying22 hi hz0 hz1 hz2 rfl (by decide) _ k _ rfl (hown1.alloc _) ⟨wr.heap.size, 0, none⟩ 1 1 [.int .i64 op, .bool reg, .int .i64 dst, .int .i64 src, .int .i64 off, .int .i64 imm] rfl rfl (World.news_of_block (cs := #[.int .i64 op, .bool reg, .int .i64 dst, .int .i64 src, .int .i64 off, .int .i64 imm]) (t := 34) (fr := (0, 0)) (heap_alloc_last wr _)) (by simp [Value.oneCell']) (by unfold maxLen; omega) (by omega) (by simp; omega) ?_; intro v' w3 hown3 hgrow3 _)
      go_roundw
      case rel =>
        refine ⟨k + 1, by omega, by go_num, Lib.hid ⟨?_, ?_⟩⟩
        · rw [HSN.out, inC_snoc]; exact hown3
        · exact (HBl.out.alloc hs1 _).grown hgrow3 (by simp; omega) (L8.own_base hown1)
      case measure => simp [intOf]; omega
    · obtain rfl : k = n2 := by omega
      have hJ := hI.out
      rw [List.take_of_length_le (by rw [HN.out]; exact Nat.le_refl _)] at hJ
      obtain ⟨va, vc, rfl⟩ := owns_slice hJ.1
      have HJ2 := Lib.hid hJ
      clear hI hJ
      go_wp2
      go_ret
      exact ⟨_, _, rfl, own_ins (by rw [cdL_len, HN.out]) HJ2.out.1, L2.bch HB.out HJ2.out.2⟩
end Go.Proofs.Ythoghcejmnnniaa.L12
