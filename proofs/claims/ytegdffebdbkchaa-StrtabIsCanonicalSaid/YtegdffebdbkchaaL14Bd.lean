/- What the program's Build returns: the table of some texts and their offsets, or the error. Conditions: memory holds the texts (no more than 10000, of no more than 100000 bytes in all). -/
import Derived.Test.YtegdffebdbkchaaL14Rf
import Derived.Test.YtegdffebdbkchaaL14Rb
import Derived.Lib.BufferWrite
import Derived.Laws.CopyOwn
import Derived.Deep.OwnRows
namespace Go.Proofs.Ytegdffebdbkchaa.L14
open Go.RowKit
attribute [local go_sem] Oper.semAt_some

/-- A copy of a text into a row that is known whole. -/
theorem wpList_copy_str {P : Program} {w : World} {ops : Array Oper} {rest : List Oper} {o : Oper} {a : Act} {Q : Exit → Act → World → Prop} (hgd : o.guard = none) (d s : Operand) (dT sT : TypeId)
    (ho : o.op = .call { callee := .builtin .copy, args := #[d, s], argTypes := #[dT, sT] }) (elem : TypeId) (hu : P.underlying dT = some (.slice elem)) (hsz : (P.info? elem).map (·.size) = some 1)
    (g off dLen dCap : Nat) (S : ByteArray) (hd : a.eval d = .slice (some ⟨g, off, none⟩) dLen dCap) (hs : a.eval s = .string S)
    (cur : Array Value) (t : TypeId) (hg : w.heap[g]? = some (.cells cur t (0, 0))) (hle : S.size ≤ dLen) (hfit : off + S.size ≤ cur.size)
    (h : ∀ w', w' = w.setRow g (cur.toList.take off ++ Lib.byteCells S.data.toList ++ cur.toList.drop (off + S.size)).toArray → wpList P ops Q rest (a.put o.dst (goInt S.size)) w') : wpList P ops Q (o :: rest) a w := by
  refine wpList_plain hgd fun K hK => ?_
  have hrun := Lib.run_copy_row_string (P := P) w dT sT o.type elem g off dLen dCap S cur t hu hsz hg hle hfit
  unfold Oper.wp
  simp [execOp, ho, resolve, invoke, builtin, hd, hs, hrun, Result.andThen]
  exact hK _ _ (h _ (by simp))

/-- A row of N cells, of which the first are known and the others zero. -/
def rowZ {α : Type} (enc : α → Value) (z : Value) (xs : List α) (N : Nat) : Array Value := (xs.map enc ++ List.replicate (N - xs.length) z).toArray
theorem rowZ_size {α : Type} (enc : α → Value) (z : Value) (xs : List α) (N : Nat) (h : xs.length ≤ N) : (rowZ enc z xs N).size = N := by
  simp [rowZ]; omega
theorem rowZ_made {α : Type} (enc : α → Value) (z : Value) (N : Nat) : madeCells #[z] N = rowZ enc z [] N := by
  apply Array.ext
  · simp [size_madeCells, rowZ]
  · intro i h1 h2
    simp [madeCells, rowZ, Nat.mod_one]
theorem rowZ_zero {α : Type} (enc : α → Value) (z : Value) (xs : List α) (x : α) (N : Nat) (hx : enc x = z) (h : xs.length < N) : rowZ enc z xs N = rowZ enc z (xs ++ [x]) N := by
  unfold rowZ
  obtain ⟨m, hm⟩ : ∃ m, N - xs.length = m + 1 := ⟨N - xs.length - 1, by omega⟩
  rw [hm, List.length_append, List.length_cons, List.length_nil, show N - (xs.length + (0 + 1)) = m by omega, List.replicate_succ, List.map_append, List.map_cons, List.map_nil, hx]
  simp
theorem rowZ_set {α : Type} (enc : α → Value) (z : Value) (xs : List α) (x : α) (N : Nat) (h : xs.length < N) : (rowZ enc z xs N).setIfInBounds xs.length (enc x) = rowZ enc z (xs ++ [x]) N := by
  unfold rowZ
  rw [List.setIfInBounds_toArray]
  congr 1
  rw [List.set_append_right _ _ (by simp)]
  simp only [List.length_map, Nat.sub_self, List.map_append, List.map_cons, List.map_nil, List.length_append, List.length_cons, List.length_nil]
  obtain ⟨m, hm⟩ : ∃ m, N - xs.length = m + 1 := ⟨N - xs.length - 1, by omega⟩
  rw [hm, List.replicate_succ, List.set_cons_zero, show N - (xs.length + (0 + 1)) = m by omega]
  simp
theorem rowZ_copy {α : Type} (enc : α → Value) (z : Value) (xs ys : List α) (N : Nat) (h : xs.length + ys.length ≤ N) :
    ((rowZ enc z xs N).toList.take xs.length ++ ys.map enc ++ (rowZ enc z xs N).toList.drop (xs.length + ys.length)).toArray = rowZ enc z (xs ++ ys) N := by
  unfold rowZ
  congr 1
  rw [List.take_append_of_le_length (by simp), List.take_of_length_le (by simp), List.drop_append, List.drop_eq_nil_of_le (by simp), List.nil_append, List.length_map, List.drop_replicate, List.map_append, List.length_append]
  congr 2
  omega
theorem rowZ_at {α : Type} (enc : α → Value) (z : Value) (xs : List α) (N j : Nat) (h : j < xs.length) : (rowZ enc z xs N)[j]? = some (enc xs[j]) := by
  unfold rowZ
  rw [List.getElem?_toArray, List.getElem?_append_left (by simpa using h)]
  simp [h]
theorem rowZ_next {α : Type} (enc : α → Value) (z : Value) (xs : List α) (N : Nat) (h : xs.length < N) : (rowZ enc z xs N)[xs.length]? = some z := by
  unfold rowZ
  rw [List.getElem?_toArray, List.getElem?_append_right (by simp), List.length_map, Nat.sub_self, List.getElem?_replicate, if_pos (by omega)]
theorem Rw.rowZ {α : Type} {enc : α → Value} {z : Value} {w : World} {g N : Nat} {t : TypeId} {xs : List α} (hg : w.heap[g]? = some (.cells (rowZ enc z xs N) t (0, 0))) (hN : xs.length = N) : Rw enc w (.slice (some ⟨g, 0, none⟩) N N) xs := by
  subst hN
  refine ⟨_, _, rfl, Nat.le_refl _, fun e => (by cases e), fun _ => ⟨g, 0, rfl, lt_of_block hg, fun j hj => ?_⟩⟩
  rw [Nat.zero_add, ← rowZ_at enc z xs xs.length j hj]
  unfold World.cell?
  simp only [hg]
  rfl
theorem cells_set {w : World} {b k : Nat} {cs : Array Value} {v : Value} {t : TypeId} {fr : Nat × Nat} (h : w.heap[b]? = some (.cells cs t fr)) : (w.setCell ⟨b, k, none⟩ v).heap[b]? = some (.cells (cs.setIfInBounds k v) t fr) := by
  have hlt := lt_of_block h
  have h' : w.heap[b] = .cells cs t fr := by simpa [Array.getElem?_eq_getElem hlt] using h
  show (w.heap.modify b _)[b]? = _
  rw [Array.getElem?_eq_getElem (by simpa using hlt), Array.getElem_modify_self, h']
  rfl
theorem cell_in {w : World} {b k : Nat} {cs : Array Value} {t : TypeId} (h : w.heap[b]? = some (.cells cs t (0, 0))) : w.cell? ⟨b, k, none⟩ = cs[k]? ∧ w.frozen? ⟨b, k, none⟩ = false := by
  simp [World.cell?, World.frozen?, h]

/-- What Build leaves. -/
def BuP (l : List (List UInt8)) (e : Ending) (w' : World) : Prop :=
  ((∃ t ∈ l, rt t = false) ∧ e = .returned (.tuple #[.slice none 0 0, .slice none 0 0, .int .i64 7])) ∨
    ((∀ t ∈ l, rt t = true) ∧ ∃ a1 c1 a2 c2, e = .returned (.tuple #[.slice a1 (tb l).length c1, .slice a2 l.length c2, .int .i64 0]) ∧ Rw eB w' (.slice a1 (tb l).length c1) (tb l) ∧ Rw eN w' (.slice a2 l.length c2) (ofs 1 l))

set_option maxHeartbeats 4000000 in
set_option maxRecDepth 100000 in
theorem build_at (v : Value) (l : List (List UInt8)) (w : World) (h : Rw eT w v l) (hl : l.length ≤ 10000) (ht : tot l ≤ 100000) :
    Calls Try.prog 11 #[v] w fun e w' => BuP l e w' ∧ Below w.heap.size w w' := by
  obtain ⟨ii, hi, hz0, hz1, hz2⟩ := info_parts infoInt
  obtain ⟨ib, ki, kz0, kz1, kz2⟩ := info_parts infoByte
  obtain ⟨n, hn⟩ : ∃ n, l.length = n := ⟨_, rfl⟩
  obtain ⟨a, c, rfl, -, -, hc⟩ := h.form hn
  rw [hn] at hl
  have HN := Lib.hid hn
  have HC := Lib.hid hc
  have HT := Lib.hid ht
  clear hn hc h ht
  go_enter Try.func11, Try.ntmps11
  go_wp2
  go_loop [5, 7, 15] (fun z _ i => ∃ k : Nat, k ≤ n ∧ i = .int .i64 (k : Int) ∧ z = .int .i64 ((1 + tot (l.take k) + k : Nat) : Int) ∧ Hid (∀ t ∈ l.take k, rt t = true)) (fun _ _ i => n - (intOf i).toNat)
  case atStart => exact ⟨0, Nat.zero_le _, rfl, by simp [tot], Lib.hid (by simp)⟩
  case round =>
    obtain ⟨k, hk, rfl, rfl, hR⟩ := hrel
    by_cases hlt : k < n
    · have hkl : k < l.length := by rw [HN.out]; exact hlt
      obtain ⟨bb, o, rfl, hbb, hcc⟩ := HC.out (by omega)
      have hx := hcc k hkl
      unfold eT at hx
      have hTs := mkB_size l[k]
      have hst := tot_step l k hkl
      have hto := tot_le l (k + 1)
      have ht := HT.out
      have hsn := take_snoc l k hkl
      have hlt' : (k : Int) < (n : Int) := by omega
      by_cases hr : rt l[k] = true
      · obtain ⟨hne, hzz⟩ := rt_iff.1 hr
        have HSC := Lib.hid (fun w => scont_at l[k] (mkB l[k]) rfl false (by rw [fz_none.2 hzz]; rfl) w)
        have hR2 : ∀ t ∈ l.take (k + 1), rt t = true := by
          rw [hsn]
          intro t htm
          rcases List.mem_append.1 htm with h | h
          · exact hR.out t h
          · rw [List.mem_singleton.1 h]; exact hr
        have HR2 := Lib.hid hR2
        have hte : (mkB l[k]).toList.isEmpty = false := by
          rw [Lib.toList_data, mkB_list]
          cases h : l[k] with
          | nil => exact absurd h hne
          | cons _ _ => rfl
        have hz2' : ((1 + tot (l.take (k + 1)) + (k + 1) : Nat) : Int) = ((1 + tot (l.take k) + k : Nat) : Int) + (((mkB l[k]).size : Int) + 1) := by rw [hst, hTs]; omega
        have HZ := Lib.hid hz2'
        obtain ⟨T, hT⟩ : ∃ T, mkB l[k] = T := ⟨_, rfl⟩
        have hbd : 1 + tot (l.take k) + k + T.size ≤ 200000 := by rw [← hT, hTs]; omega
        rw [hT] at hx HSC hte HZ
        obtain ⟨z, hz⟩ : ∃ z, 1 + tot (l.take k) + k = z := ⟨_, rfl⟩
        rw [hz] at hbd HZ ⊢
        clear hcc hTs hst hto ht hsn hr hR hR2 hz2' hT hne hzz hz
        go_wp2_with (go_at_call 22; ((with_reducible refine (HSC.out _).mono ?_); rintro e w1 ⟨rfl, rfl⟩))
        go_round
        case rel => exact ⟨k + 1, by omega, by go_num, by rw [HZ.out], HR2⟩
        case measure => simp [intOf]; omega
      · have hrf : rt l[k] = false := by simpa using hr
        have HB := Lib.hid (show ∃ t ∈ l, rt t = false from ⟨l[k], List.getElem_mem hkl, hrf⟩)
        by_cases hne : l[k] = []
        · have hx2 : w.cell? ⟨bb, o + k, none⟩ = some (.string ⟨#[]⟩) := by rw [hx, hne]; rfl
          clear hcc hTs hst hto ht hsn hr hR hrf hne hx
          go_wp2
          refine bodyPost_ret (v := .tuple #[.slice none 0 0, .slice none 0 0, .int .i64 7]) (by simp [results, Try.results11, go_sem]) rfl ⟨.inl ⟨HB.out, rfl⟩, Below.refl _ _⟩
        · have hzz : (fz l[k]).isSome = true := by
            unfold rt at hrf
            have : l[k].isEmpty = false := by simpa using hne
            rw [this] at hrf
            cases hf : fz l[k] with
            | none => rw [hf] at hrf; cases hrf
            | some _ => rfl
          have HSC := Lib.hid (fun w => scont_at l[k] (mkB l[k]) rfl true hzz w)
          have hte : (mkB l[k]).toList.isEmpty = false := by
            rw [Lib.toList_data, mkB_list]
            cases h : l[k] with
            | nil => exact absurd h hne
            | cons _ _ => rfl
          obtain ⟨T, hT⟩ : ∃ T, mkB l[k] = T := ⟨_, rfl⟩
          rw [hT] at hx HSC hte
          clear hcc hTs hst hto ht hsn hr hR hrf hne hT hzz
          go_wp2_with (go_at_call 22; ((with_reducible refine (HSC.out _).mono ?_); rintro e w1 ⟨rfl, rfl⟩))
          refine bodyPost_ret (v := .tuple #[.slice none 0 0, .slice none 0 0, .int .i64 7]) (by simp [results, Try.results11, go_sem]) rfl ⟨.inl ⟨HB.out, rfl⟩, Below.refl _ _⟩
    · obtain rfl : k = n := by omega
      have e : l.take k = l := List.take_of_length_le (by rw [HN.out]; exact Nat.le_refl _)
      rw [e] at hR
      have hNN : 1 + tot (l.take k) + k = (tb l).length := by rw [e, tb_len, HN.out]
      have htl := tb_len l
      have ht := HT.out
      rw [HN.out] at htl
      rw [hNN]
      obtain ⟨N, hN⟩ : ∃ N, (tb l).length = N := ⟨_, rfl⟩
      rw [hN] at htl ⊢
      have HNN := Lib.hid hN
      have HTL := Lib.hid htl
      have hN1 : N ≤ 200000 := by omega
      clear e hNN htl ht hN
      go_wp2_with (first
        | (at_make; refine wpList_make_row _ rfl _ _ 25 rfl 5 ib (.int .u8 0) Try.underlying25 ki kz0 kz1 rfl .i64 .i64 N rfl rfl (by rw [kz2]; omega) (by omega) ?_)
        | (at_make; refine wpList_make_row _ rfl _ _ 26 rfl 3 ii (.int .i64 0) Try.underlying26 hi hz0 hz1 rfl .i64 .i64 k rfl rfl (by rw [hz2]; omega) (by omega) ?_))
      rw [rowZ_made eB, rowZ_made eN]
      have hsz8 : (Try.prog.info? 5).map (·.size) = some 1 := by rw [ki]; simp [kz1]
      go_loopw [10, 11, 12, 38] (fun off _ _ j wr => ∃ q L : Nat, q ≤ k ∧ j = .int .i64 (q : Int) ∧ off = .int .i64 (L : Int) ∧ Hid ((tb (l.take q)).length = L) ∧ wr.heap[w.heap.size]? = some (.cells (rowZ eB (.int .u8 0) (tb (l.take q)) N) 5 (0, 0)) ∧ wr.heap[w.heap.size + 1]? = some (.cells (rowZ eN (.int .i64 0) (ofs 1 (l.take q)) k) 3 (0, 0)) ∧ Below w.heap.size w wr) (fun _ _ _ j _ => k - (intOf j).toNat)
      case atStart =>
        refine ⟨0, 1, Nat.zero_le _, rfl, rfl, Lib.hid (by simp [tb, bd]), ?_, ?_, bch (bnew _ _) (bnew _ _)⟩
        · have h1 := ((bnew (w.alloc (.cells (rowZ eB (.int .u8 0) [] N) 5)) (.cells (rowZ eN (.int .i64 0) [] k) 3)).block w.heap.size (by simp)).trans (heap_alloc_new w (.cells (rowZ eB (.int .u8 0) [] N) 5))
          rw [h1, rowZ_zero eB (.int .u8 0) [] 0 N rfl (by rw [HTL.out]; simp; omega)]
          simp [tb, bd]
        · have h1 := heap_alloc_new (w.alloc (.cells (rowZ eB (.int .u8 0) [] N) 5)) (.cells (rowZ eN (.int .i64 0) [] k) 3)
          simp only [World.size_alloc] at h1
          rw [h1]; simp [ofs]
      case round =>
        obtain ⟨q, L, hq, rfl, rfl, hL, hG0, hG1, hBw⟩ := hrel
        have hsz := hBw.size
        by_cases hlt2 : q < k
        · have hkl : q < l.length := by rw [HN.out]; exact hlt2
          obtain ⟨bb, o, rfl, hbb, hcc⟩ := HC.out (by omega)
          have hx0 := hcc q hkl
          unfold eT at hx0
          have hTs := mkB_size l[q]
          have hst := tot_step l q hkl
          have hto := tot_le l (q + 1)
          have hLo := hL.out
          rw [tb_len, List.length_take, HN.out, Nat.min_eq_left hq] at hLo
          have htl := HTL.out
          have hsn := take_snoc l q hkl
          have htb := tb_snoc (l.take q) l[q]
          have hof := ofs_snoc (l.take q) 1 l[q]
          rw [← hsn] at htb hof
          have hbl : 1 + (bd (l.take q)).length = L := by rw [← hL.out, tb, List.length_cons]; omega
          rw [hbl] at hof
          have hol : (ofs 1 (l.take q)).length = q := by rw [ofs_len, List.length_take, HN.out]; omega
          have hLN : L + l[q].length + 1 ≤ N := by omega
          have hX : ((rowZ eB (.int .u8 0) (tb (l.take q)) N).toList.take L ++ Lib.byteCells (mkB l[q]).data.toList ++ (rowZ eB (.int .u8 0) (tb (l.take q)) N).toList.drop (L + (mkB l[q]).size)).toArray = rowZ eB (.int .u8 0) (tb (l.take (q + 1))) N := by
            have h1 := rowZ_copy eB (.int .u8 0) (tb (l.take q)) l[q] N (by rw [hL.out]; omega)
            rw [hL.out] at h1
            rw [mkB_list, hTs, htb, ← rowZ_zero eB (.int .u8 0) (tb (l.take q) ++ l[q]) 0 N rfl (by rw [List.length_append, hL.out]; omega), ← h1]
            rfl
          have hO : (rowZ eN (.int .i64 0) (ofs 1 (l.take q)) k).setIfInBounds q (.int .i64 (L : Int)) = rowZ eN (.int .i64 0) (ofs 1 (l.take (q + 1))) k := by
            have h1 := rowZ_set eN (.int .i64 0) (ofs 1 (l.take q)) L k (by rw [hol]; exact hlt2)
            rw [hol] at h1
            rw [h1, hof]
          have hLen2 : (tb (l.take (q + 1))).length = L + ((mkB l[q]).size + 1) := by
            rw [htb, List.length_append, List.length_append, hL.out, hTs]; rfl
          have hrs := rowZ_size eB (.int .u8 0) (tb (l.take q)) N (by rw [hL.out]; omega)
          obtain ⟨cB, fB⟩ := cell_in (k := q) hG1
          have hnx := rowZ_next eN (.int .i64 0) (ofs 1 (l.take q)) k (by rw [hol]; exact hlt2)
          rw [hol] at hnx
          rw [hnx] at cB
          have hx : wr.cell? ⟨bb, o + q, none⟩ = some (.string (mkB l[q])) := (hBw.cell (by exact hbb)).trans hx0
          obtain ⟨T, hT⟩ : ∃ T, mkB l[q] = T := ⟨_, rfl⟩
          rw [hT] at hx hX hLen2 hTs
          rw [← hTs] at hLN
          have hs : ∀ W, (Instr.slice 25 (.slice (some ⟨w.heap.size, 0, none⟩) N N) (some (.int .i64 (L : Int))) none none).run Try.prog W = .ok (.slice (some ⟨w.heap.size, L, none⟩) (N - L) (N - L)) W := fun W => by
            rw [run_from und8 size8 _ N N L (by omega) (Nat.le_refl _) W, if_neg (by omega)]
            simp [add0]
          have hG0' : (wr.setCell ⟨w.heap.size + 1, q, none⟩ (.int .i64 (L : Int))).heap[w.heap.size]? = some (.cells (rowZ eB (.int .u8 0) (tb (l.take q)) N) 5 (0, 0)) := (Below.heap_setCell _ _ _ _ (by simp)).trans hG0
          have hG1' : (wr.setCell ⟨w.heap.size + 1, q, none⟩ (.int .i64 (L : Int))).heap[w.heap.size + 1]? = some (.cells (rowZ eN (.int .i64 0) (ofs 1 (l.take (q + 1))) k) 3 (0, 0)) := by rw [← hO]; exact cells_set hG1
          have hB1 := hBw.setCell (p := ⟨w.heap.size + 1, q, none⟩) (Nat.le_succ _) (.int .i64 (L : Int))
          have HG := Lib.hid (And.intro hG0' (And.intro hG1' hB1))
          have HX := Lib.hid hX
          have H2 := Lib.hid hLen2
          have hlt2' : (q : Int) < (k : Int) := by omega
          have HRS := Lib.hid hrs
          obtain ⟨cur, hcur⟩ : ∃ cur, rowZ eB (.int .u8 0) (tb (l.take q)) N = cur := ⟨_, rfl⟩
          rw [hcur] at HG HX HRS
          clear hcc hx0 hTs hst hto hLo htl hsn htb hof hbl hol hX hO hLen2 hrs hnx hT hG0' hG1' hB1 hcur hL hG0 hG1
          go_wp2_with (with_reducible refine wpList_copy_str rfl _ _ 25 9 rfl 5 Try.underlying25 hsz8 w.heap.size L (N - L) (N - L) T rfl rfl cur 5 HG.out.1 (by omega) (by rw [HRS.out]; omega) ?_; intro w2 hw2; have H3 := Lib.hid hw2; clear hw2)
          have h0 : w2.heap[w.heap.size]? = some (.cells (rowZ eB (.int .u8 0) (tb (l.take (q + 1))) N) 5 (0, 0)) := by
            rw [H3.out, HX.out]
            exact setRow_heap _ _ cur _ _ _ HG.out.1
          have h1 : w2.heap[w.heap.size + 1]? = some (.cells (rowZ eN (.int .i64 0) (ofs 1 (l.take (q + 1))) k) 3 (0, 0)) := by
            rw [H3.out]
            exact (setRow_other _ _ _ _ (by omega)).trans HG.out.2.1
          have h2 : Below w.heap.size w w2 := by
            rw [H3.out]
            exact below_setRow HG.out.2.2 (Nat.le_refl _) _
          exact ⟨⟨q + 1, L + (T.size + 1), by omega, by go_num, by go_num, H2, h0, h1, h2⟩, by simp [intOf]; omega⟩
        · obtain rfl : q = k := by omega
          have e : l.take q = l := List.take_of_length_le (by rw [HN.out]; exact Nat.le_refl _)
          rw [e] at hG0 hG1
          have HB := Lib.hid (Rw.rowZ hG0 HNN.out)
          have HO := Lib.hid (Rw.rowZ hG1 (by rw [ofs_len, HN.out]))
          clear e hG0 hG1 hL
          go_wp2
          refine bodyPost_ret (v := .tuple #[.slice (some ⟨w.heap.size, 0, none⟩) N N, .slice (some ⟨w.heap.size + 1, 0, none⟩) q q, .int .i64 0]) (by simp [results, Try.results11, go_sem]) rfl ⟨.inr ⟨hR.out, some ⟨w.heap.size, 0, none⟩, N, some ⟨w.heap.size + 1, 0, none⟩, q, by rw [HNN.out, HN.out], by rw [HNN.out]; exact HB.out, by rw [HN.out]; exact HO.out⟩, hBw⟩
end Go.Proofs.Ytegdffebdbkchaa.L14
