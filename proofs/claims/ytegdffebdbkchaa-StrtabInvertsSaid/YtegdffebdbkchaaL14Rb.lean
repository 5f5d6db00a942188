/- What the reference's Build returns: the table of some texts and their offsets. Conditions: memory holds the texts (no more than 100000, of no more than 1000000 bytes in all). -/
import Derived.Test.YtegdffebdbkchaaL14Rf
namespace Go.Proofs.Ytegdffebdbkchaa.L14
open Go.RowKit
attribute [local go_sem] Oper.semAt_some

theorem owns_slice {w : World} {base e : TypeId} {size : Nat} {v : Value} {n : Nat} {xs : List Value} (h : w.ownsRow base e size v n xs) : ∃ a c, v = .slice a n c := by
  rcases h.2 with ⟨rfl, rfl⟩ | ⟨g, cap, cur, rfl, _⟩
  · exact ⟨_, _, rfl⟩
  · exact ⟨_, _, rfl⟩
theorem own_base {w : World} {base : Nat} {e : TypeId} {size : Nat} {v : Value} {n : Nat} {xs : List Value} (h : w.ownsRow base e size v n xs) : ∀ k, v.ownBlock = some k → base ≤ k := by
  intro k hk
  rcases h.2 with ⟨rfl, _⟩ | ⟨g, cap, cur, rfl, hb, _⟩
  · cases hk
  · simp [Value.ownBlock] at hk
    omega
theorem own_ty {w : World} {base e : TypeId} {size : Nat} {v : Value} {n : Nat} {xs : List Value} {g : Nat} (h : w.ownsRow base e size v n xs) (hg : v.ownBlock = some g) : ∃ cur, w.heap[g]? = some (.cells cur e (0, 0)) := by
  rcases h.2 with ⟨rfl, _⟩ | ⟨g', cap, cur, rfl, _, hh, _⟩
  · cases hg
  · obtain rfl : g' = g := by simpa [Value.ownBlock] using hg
    exact ⟨cur, hh⟩
/-- Of two rows of different types one grows: the other stays. -/
theorem own_two {W W' : World} {B B' eA eB n m : Nat} {vA vB : Value} {xs ys : List Value} (hA : W.ownsRow B eA 1 vA n xs) (hB : W.ownsRow B' eB 1 vB m ys) (he : eA ≠ eB) (hg : W.grownBy W' vB.ownBlock) : W'.ownsRow B eA 1 vA n xs := by
  refine hA.kept hg ?_
  cases hv : vA.ownBlock with
  | none => exact .inl rfl
  | some g =>
    refine .inr fun e => ?_
    obtain ⟨c1, h1⟩ := own_ty hA hv
    obtain ⟨c2, h2⟩ := own_ty hB e.symm
    rw [h1] at h2
    cases h2
    exact he rfl
theorem infoInt : (Try.prog.info? 3).map (fun i => (i.zero, i.size, i.bytes)) = some (some (.int .i64 0), 1, 8) := by kernel_rfl
theorem infoByte : (Try.prog.info? 5).map (fun i => (i.zero, i.size, i.bytes)) = some (some (.int .u8 0), 1, 1) := by kernel_rfl
theorem infoText : (Try.prog.info? 9).map (fun i => (i.zero, i.size, i.bytes)) = some (some (.string ⟨#[]⟩), 1, 16) := by kernel_rfl
theorem ofs_snoc : ∀ (l : List (List UInt8)) (st : Nat) (t : List UInt8), ofs st (l ++ [t]) = ofs st l ++ [st + (bd l).length]
  | [], st, t => by simp [ofs, bd]
  | x :: r, st, t => by
    rw [List.cons_append, ofs, ofs, ofs_snoc r, bd_cons, List.cons_append]
    congr 3
    simp only [List.length_append, List.length_cons]; omega
theorem take_snoc {α : Type} (l : List α) (k : Nat) (h : k < l.length) : l.take (k + 1) = l.take k ++ [l[k]] := by
  rw [List.take_add_one, List.getElem?_eq_getElem h]; rfl
theorem tb_snoc (l : List (List UInt8)) (t : List UInt8) : tb (l ++ [t]) = tb l ++ t ++ [0] := by
  unfold tb
  rw [bd_snoc]; simp
theorem strCells_is (t : List UInt8) : Lib.strCells (mkB t) = t.map eB := by
  unfold Lib.strCells
  rw [mkB_list]

set_option maxHeartbeats 4000000 in
set_option maxRecDepth 100000 in
theorem rbuild_at (v : Value) (l : List (List UInt8)) (w : World) (h : Rw eT w v l) (hl : l.length ≤ 100000) (ht : tot l ≤ 1000000) :
    Calls Try.prog 13 #[v] w fun e w' => (∃ a1 c1 a2 c2, e = .returned (.tuple #[.slice a1 (tb l).length c1, .slice a2 l.length c2]) ∧ Rw eB w' (.slice a1 (tb l).length c1) (tb l) ∧ Rw eN w' (.slice a2 l.length c2) (ofs 1 l)) ∧ Below w.heap.size w w' := by
  obtain ⟨ii, hi, hz0, hz1, hz2⟩ := info_parts infoInt
  obtain ⟨ib, ki, kz0, kz1, kz2⟩ := info_parts infoByte
  obtain ⟨n, hn⟩ : ∃ n, l.length = n := ⟨_, rfl⟩
  obtain ⟨a, c, rfl, -, -, hc⟩ := h.form hn
  rw [hn] at hl
  have HN := Lib.hid hn
  have HC := Lib.hid hc
  have HT := Lib.hid ht
  have hr0 : (w.alloc (.cells #[.int .u8 0] 5)).ownsRow w.heap.size 5 1 (.slice (some ⟨w.heap.size, 0, none⟩) 1 1) 1 [.int .u8 0] := World.ownsRow_lit w #[.int .u8 0] 1 (Nat.le_refl _) (by unfold maxLen; omega) rfl
  have HR0 := Lib.hid hr0
  have b0 := Lib.hid (bnew w (.cells #[.int .u8 0] 5))
  clear hn hc h ht hr0
  go_enter Try.func13, Try.ntmps13
  go_wp2
  go_loopw [4, 5, 6] (fun b f i wr => ∃ (k L : Nat), k ≤ n ∧ L ≤ 1 + 1000000 + k ∧ i = .int .i64 (k : Int) ∧ wr.ownsRow w.heap.size 5 1 b L ((tb (l.take k)).map eB) ∧ wr.ownsRow w.heap.size 3 1 f k ((ofs 1 (l.take k)).map eN) ∧ Hid ((tb (l.take k)).length = L) ∧ Below w.heap.size w wr) (fun _ _ i _ => n - (intOf i).toNat)
  case atStart => exact ⟨0, 1, Nat.zero_le _, by omega, rfl, by rw [List.take_zero]; exact HR0.out, by rw [List.take_zero]; exact World.ownsRow_nil _ _ _ _, Lib.hid (by simp [tb, bd]), b0.out⟩
  case round =>
    obtain ⟨k, L, hk, hL, rfl, hb, hf, hLen, hBw⟩ := hrel
    have hsz := hBw.size
    by_cases hlt : k < n
    · have hkl : k < l.length := by rw [HN.out]; exact hlt
      obtain ⟨bb, o, rfl, hbb, hcc⟩ := HC.out (by omega)
      have hx0 := hcc k hkl
      unfold eT at hx0
      have hTs := mkB_size l[k]
      have hst := tot_step l k hkl
      have hto := tot_le l (k + 1)
      have ht := HT.out
      have hLk := hLen.out
      rw [tb_len, List.length_take, HN.out, Nat.min_eq_left hk] at hLk
      have hsn := take_snoc l k hkl
      have htb := tb_snoc (l.take k) l[k]
      have hof := ofs_snoc (l.take k) 1 l[k]
      rw [← hsn] at htb hof
      have hbl : 1 + (bd (l.take k)).length = L := by rw [← hLen.out, tb, List.length_cons]; omega
      rw [hbl] at hof
      have hsc := strCells_is l[k]
      obtain ⟨T, hT⟩ : ∃ T, mkB l[k] = T := ⟨_, rfl⟩
      rw [hT] at hx0 hTs hsc
      have hLL : L + T.size + 1 ≤ 1 + 1000000 + (k + 1) := by omega
      have hLen2 : (tb (l.take (k + 1))).length = L + T.size + 1 := by
        rw [htb, List.length_append, List.length_append, hLen.out, hTs]; rfl
      have hc1 : (tb (l.take k)).map eB ++ Lib.strCells T ++ [.int .u8 0] = (tb (l.take (k + 1))).map eB := by
        rw [htb, hsc]; simp [eB]
      have hc2 : (ofs 1 (l.take k)).map eN ++ [.int .i64 (L : Int)] = (ofs 1 (l.take (k + 1))).map eN := by
        rw [hof]; simp [eN]
      have H1 := Lib.hid hLen2
      have H2 := Lib.hid hc1
      have H3 := Lib.hid hc2
      have hxW : wr.cell? ⟨bb, o + k, none⟩ = some (.string T) := (hBw.cell (by exact hbb)).trans hx0
      have hx1 : (wr.alloc (.cells #[.int .i64 (L : Int)] 3)).cell? ⟨bb, o + k, none⟩ = some (.string T) := ((bnew wr _).cell (by exact Nat.lt_of_lt_of_le hbb hsz)).trans hxW
      obtain ⟨ba, bc, rfl⟩ := owns_slice hb
      have hbbw : bb < w.heap.size := hbb
      have HXc := Lib.hid hx0
      clear hcc hx0 hTs hst hto ht hLk hsn htb hof hbl hsc hT hLen2 hc1 hc2 hxW hx1
      go_wp2_with (first
        | (at_builtin; refine wpList_append_own _ rfl _ _ 26 rfl w.heap.size 3 ii (.int .i64 0) 1 8 Try.underlying26 hi hz0 hz1 hz2 rfl (by decide) _ k _ rfl (hf.alloc _) ⟨wr.heap.size, 0, none⟩ 1 1 [.int .i64 (L : Int)] rfl rfl (World.news_of_block (cs := #[.int .i64 (L : Int)]) (t := 3) (fr := (0, 0)) (heap_alloc_last wr _)) (by simp [Value.oneCell']) (by unfold maxLen; omega) (by omega) (by simp; omega) ?_; intro v1 w1 h1 g1 _; have hb1 := own_two (hb.alloc _) (hf.alloc _) (by decide) g1; have z1 : wr.heap.size ≤ w1.heap.size := (Nat.le_trans (by simp) g1.size); have B1 := (hBw.alloc hsz _).grown g1 (by simp; omega) (own_base hf); have hx := (B1.cell (p := ⟨bb, o + k, none⟩) (by exact hbbw)).trans HXc.out)
        | (at_builtin; refine Lib.wpList_append_own_string _ rfl _ _ 25 9 rfl w.heap.size 5 ib Try.underlying25 Try.underlying9 ki kz0 kz1 kz2 _ L _ rfl hb1 T rfl (by unfold maxLen; omega) (by omega) (by omega) ?_; intro v2 w2 h2 g2 _; have hn2 := own_two h1 hb1 (by decide) g2; have z2 : w1.heap.size ≤ w2.heap.size := g2.size; have B2 := B1.grown g2 (by omega) (own_base hb1))
        | (at_builtin; refine wpList_append_own _ rfl _ _ 25 rfl w.heap.size 5 ib (.int .u8 0) 1 1 Try.underlying25 ki kz0 kz1 kz2 rfl (by decide) _ (L + T.size) _ rfl (h2.alloc _) ⟨w2.heap.size, 0, none⟩ 1 1 [.int .u8 0] rfl rfl (World.news_of_block (cs := #[.int .u8 0]) (t := 5) (fr := (0, 0)) (heap_alloc_last w2 _)) (by simp [Value.oneCell']) (by unfold maxLen; omega) (by omega) (by simp; omega) ?_; intro v3 w3 h3 g3 _; have hn3 := own_two (hn2.alloc _) (h2.alloc _) (by decide) g3; have B3 := (B2.alloc B2.size _).grown g3 (by simp; omega) (own_base h2)))
      go_roundw
      case rel =>
        rw [H2.out] at h3
        rw [H3.out] at hn3
        exact ⟨k + 1, L + T.size + 1, by omega, hLL, by go_num, h3, hn3, H1, B3⟩
      case measure => simp [intOf]; omega
    · obtain rfl : k = n := by omega
      obtain ⟨ba, bc, rfl⟩ := owns_slice hb
      obtain ⟨fa, fc, rfl⟩ := owns_slice hf
      have e : l.take k = l := List.take_of_length_le (by rw [HN.out]; exact Nat.le_refl _)
      rw [e] at hb hf hLen
      have hlen := hLen.out
      have hk2 := HN.out
      have HB := Lib.hid (show Rw eB wr (.slice ba (tb l).length bc) (tb l) by rw [hlen]; subst hlen; exact Rw.own hb)
      have HF := Lib.hid (show Rw eN wr (.slice fa l.length fc) (ofs 1 l) by rw [hk2]; have := ofs_len l 1; rw [hk2] at this; subst this; exact Rw.own hf)
      have HQ := Lib.hid (And.intro hlen hk2)
      clear e hlen hk2 hb hf
      go_wp2
      refine bodyPost_ret (v := .tuple #[.slice ba L bc, .slice fa k fc]) (by simp [results, Try.results13, go_sem]) rfl ⟨⟨ba, bc, fa, fc, by rw [HQ.out.1, HQ.out.2], HB.out, HF.out⟩, hBw⟩
end Go.Proofs.Ytegdffebdbkchaa.L14
