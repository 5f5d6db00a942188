/- What the reference's join and split return: the joined texts of tokens, and the operands' texts. Conditions: there are at most 100000 tokens, whose texts have at most 100000 bytes together. -/
import Derived.Test.YtjcaonbejhdhkaaDoorL9Rsm
namespace Go.Proofs.YtjcaonbejhdhkaaDoor.L9
open Go.RowKit
attribute [local go_sem] Oper.semAt_some

def txs (xs : L8.Tks) : List ByteArray := xs.map (·.1)
/-- Memory holds tokens. -/
theorem tks_cell {w : World} {b o : Nat} {xs : L8.Tks} (h : L8.Tksat w b o xs) (j : Nat) (hj : j < xs.length) : ∃ T, xs[j].1 = T ∧ w.cell? ⟨b, o + j * 2, none⟩ = some (.string T) := ⟨_, rfl, (h j hj).1⟩
theorem txs_take (xs : L8.Tks) (j : Nat) (h : j < xs.length) : txs (xs.take (j + 1)) = txs (xs.take j) ++ [xs[j].1] := by
  rw [L8.take_snoc xs j h]; unfold txs; rw [List.map_append]; rfl
theorem joi_snoc (l : List ByteArray) (t : ByteArray) : joi (l ++ [t]) = joi l ++ t := by simp [joi]
theorem spF_snoc (l : List ByteArray) (t : ByteArray) : spF (l ++ [t]) = spS (spF l) t := by simp [spF]
/-- How long texts are together. -/
def sumT (l : List ByteArray) : Nat := (l.map (·.size)).sum
theorem sumT_snoc (l : List ByteArray) (t : ByteArray) : sumT (l ++ [t]) = sumT l + t.size := by simp [sumT]
theorem sumT_take (l : List ByteArray) (j : Nat) : sumT (l.take j) ≤ sumT l := by
  have e : sumT (l.take j ++ l.drop j) = sumT (l.take j) + sumT (l.drop j) := by simp only [sumT, List.map_append, List.sum_append]
  rw [List.take_append_drop] at e
  omega
theorem joi_size : ∀ l : List ByteArray, (joi l).size = sumT l := by
  intro l
  have h : ∀ (l : List ByteArray) (a : ByteArray), (l.foldl (· ++ ·) a).size = a.size + sumT l := by
    intro l
    induction l with
    | nil => intro a; simp [sumT]
    | cons t r ih => intro a; rw [List.foldl_cons, ih]; simp [sumT, ByteArray.size_append]; omega
  rw [joi, h]; simp [eB]; rfl
set_option maxHeartbeats 1000000 in
set_option maxRecDepth 100000 in
theorem rjoin_some (b o n cap : Nat) (xs : L8.Tks) (hn : xs.length = n) (hm : n ≤ 100000) (hz : sumT (txs xs) ≤ 100000) (w : World) (hc : L8.Tksat w b o xs) :
    Calls Tryd.prog 32 #[.slice (some ⟨b, o, none⟩) n cap] w fun e w' => e = .returned (.string (joi (txs xs))) ∧ w = w' := by
  have HC := Lib.hid hc
  have HN := Lib.hid hn
  have HZ := Lib.hid hz
  clear hc hn hz
  go_enter Tryd.func32, Tryd.ntmps32
  go_wp2
  go_loop [3, 4] (fun sv a => ∃ (j : Nat) (t : ByteArray), a = .int .i64 (j : Int) ∧ j ≤ n ∧ sv = .string t ∧ Hid (joi (txs (xs.take j)) = t)) (fun _ a => n - (intOf a).toNat)
  case atStart => exact ⟨0, ⟨#[]⟩, rfl, Nat.zero_le _, rfl, Lib.hid rfl⟩
  case round =>
    obtain ⟨j, t, rfl, hj, rfl, hR⟩ := hrel
    by_cases hlt : j < n
    · have hjx : j < xs.length := by rw [HN.out]; exact hlt
      obtain ⟨T, hT, c0⟩ := tks_cell HC.out j hjx
      have hst : joi (txs (xs.take (j + 1))) = t ++ T := by rw [txs_take xs j hjx, joi_snoc, hR.out, hT]
      have hsz : t.size + T.size ≤ 100000 := by
        have h1 := joi_size (txs (xs.take (j + 1)))
        have h2 := sumT_take (txs xs) (j + 1)
        have e : txs (xs.take (j + 1)) = (txs xs).take (j + 1) := by simp [txs, List.map_take]
        rw [hst, ByteArray.size_append, e] at h1
        have := HZ.out
        omega
      have HS := Lib.hid hst
      have h1 : t.size + T.size ≤ 9223372036854775807 := by omega
      have h2 : t.size + T.size ≤ maxLen := by unfold maxLen; omega
      clear hst hT hR
      go_wp2
      go_round
      case rel => exact ⟨j + 1, _, by go_num, by omega, rfl, HS⟩
      case measure => simp [intOf]; omega
    · obtain rfl : j = n := by omega
      have HS := Lib.hid (show joi (txs xs) = t by rw [← hR.out, List.take_of_length_le (by rw [HN.out]; exact Nat.le_refl _)])
      clear hR
      go_wp2
      go_ret
      exact ⟨by rw [HS.out] <;> rfl, rfl⟩
theorem rjoin_none (a : Option Addr) (cap : Nat) (w : World) : Calls Tryd.prog 32 #[.slice a 0 cap] w fun e w' => e = .returned (.string (joi (txs []))) ∧ w = w' := by
  go_enter Tryd.func32, Tryd.ntmps32
  go_wp2
  refine wp_loop_rounds 1 ?_
  rw [rounds_succ]
  go_wp2
  go_ret
  exact ⟨rfl, rfl⟩
theorem rjoin_at (v : Value) (xs : L8.Tks) (hm : xs.length ≤ 100000) (hz : sumT (txs xs) ≤ 100000) (w : World) (hv : L8.TksAt w v xs) : Calls Tryd.prog 32 #[v] w fun e w' => e = .returned (.string (joi (txs xs))) ∧ w = w' := by
  rcases hv with ⟨b, o, cap, rfl, _, hb, hc⟩ | ⟨rfl, a, cap, rfl⟩
  · exact rjoin_some b o _ cap xs rfl hm hz w hc
  · exact rjoin_none a cap w

theorem spF_size (l : List ByteArray) : (spF l).2.size ≤ sumT l := by
  have h : ∀ (l : List ByteArray) (st : List ByteArray × ByteArray), (l.foldl spS st).2.size ≤ st.2.size + sumT l := by
    intro l
    induction l with
    | nil => intro st; simp [sumT]
    | cons t r ih =>
      intro st
      rw [List.foldl_cons]
      have h1 := ih (spS st t)
      have h2 : (spS st t).2.size ≤ st.2.size + t.size := by
        unfold spS
        split
        · show (if t = tMin then tMin else eB).size ≤ _
          split
          · rename_i h; rw [h]; exact Nat.le_add_left _ _
          · exact Nat.zero_le _
        · show (st.2 ++ t).size ≤ _
          rw [ByteArray.size_append]; exact Nat.le_refl _
      have h3 : sumT (t :: r) = t.size + sumT r := by simp [sumT]
      omega
  have := h l ([], eB)
  have h0 : (([] : List ByteArray), eB).2.size = 0 := rfl
  unfold spF
  omega
theorem eqb {T : ByteArray} {l : List UInt8} (h : T = ⟨l.toArray⟩) : (T.toList == l) = true := by
  rw [h, Lib.toList_data]; simp
/-- What the tests ask of a token's text. -/
def Bits (T : ByteArray) (b1 b2 b3 b4 b5 : Bool) : Prop := (T.toList == [44]) = b1 ∧ (T.toList == [91]) = b2 ∧ (T.toList == [93]) = b3 ∧ (T.toList == [43]) = b4 ∧ (T.toList == [45]) = b5
theorem brk_bits (T : ByteArray) : (brk T = true ∧ ((T ≠ tMin ∧ (Bits T true false false false false ∨ Bits T false true false false false ∨ Bits T false false true false false ∨ Bits T false false false true false)) ∨ (T = tMin ∧ Bits T false false false false true))) ∨ (brk T = false ∧ Bits T false false false false false) := by
  by_cases h : T = tCom
  · exact .inl ⟨by rw [h]; decide, .inl ⟨by rw [h]; decide, .inl ⟨by rw [h, Lib.toList_data]; rfl, by rw [h, Lib.toList_data]; rfl, by rw [h, Lib.toList_data]; rfl, by rw [h, Lib.toList_data]; rfl, by rw [h, Lib.toList_data]; rfl⟩⟩⟩
  have n0 := h
  clear h
  by_cases h : T = tOpn
  · exact .inl ⟨by rw [h]; decide, .inl ⟨by rw [h]; decide, .inr (.inl ⟨by rw [h, Lib.toList_data]; rfl, by rw [h, Lib.toList_data]; rfl, by rw [h, Lib.toList_data]; rfl, by rw [h, Lib.toList_data]; rfl, by rw [h, Lib.toList_data]; rfl⟩)⟩⟩
  have n1 := h
  clear h
  by_cases h : T = tShu
  · exact .inl ⟨by rw [h]; decide, .inl ⟨by rw [h]; decide, .inr (.inr (.inl ⟨by rw [h, Lib.toList_data]; rfl, by rw [h, Lib.toList_data]; rfl, by rw [h, Lib.toList_data]; rfl, by rw [h, Lib.toList_data]; rfl, by rw [h, Lib.toList_data]; rfl⟩))⟩⟩
  have n2 := h
  clear h
  by_cases h : T = tPlu
  · exact .inl ⟨by rw [h]; decide, .inl ⟨by rw [h]; decide, .inr (.inr (.inr ⟨by rw [h, Lib.toList_data]; rfl, by rw [h, Lib.toList_data]; rfl, by rw [h, Lib.toList_data]; rfl, by rw [h, Lib.toList_data]; rfl, by rw [h, Lib.toList_data]; rfl⟩))⟩⟩
  have n3 := h
  clear h
  by_cases h : T = tMin
  · exact .inl ⟨by rw [h]; decide, .inr ⟨h, by rw [h, Lib.toList_data]; rfl, by rw [h, Lib.toList_data]; rfl, by rw [h, Lib.toList_data]; rfl, by rw [h, Lib.toList_data]; rfl, by rw [h, Lib.toList_data]; rfl⟩⟩
  have n4 := h
  clear h
  exact .inr ⟨by simp [brk, n0, n1, n2, n3, n4], beqt_ne n0, beqt_ne n1, beqt_ne n2, beqt_ne n3, beqt_ne n4⟩
theorem Tryd.info9 : (Tryd.prog.info? 9).map (fun i => (i.zero, i.size, i.bytes)) = some (some (.string ⟨#[]⟩), 1, 16) := by kernel_rfl
set_option maxHeartbeats 4000000 in
set_option maxRecDepth 100000 in
theorem rsplit_some (b o n cap : Nat) (xs : L8.Tks) (hn : xs.length = n) (hm : n ≤ 100000) (hz : sumT (txs xs) ≤ 100000) (w : World) (hb : b < w.heap.size) (hc : L8.Tksat w b o xs) :
    Calls Tryd.prog 34 #[.slice (some ⟨b, o, none⟩) n cap] w fun e w' => L8.StP w (spl (txs xs)) e w' := by
  obtain ⟨i0, hi, hz0, hz1, hz2⟩ := info_parts Tryd.info9
  have HC := Lib.hid hc
  have HN := Lib.hid hn
  have HZ := Lib.hid hz
  clear hc hn hz
  go_enter Tryd.func34, Tryd.ntmps34
  go_wp2
  go_loopw [3, 4, 5] (fun sv nv a wr => ∃ (j m : Nat) (l : List ByteArray) (t : ByteArray), a = .int .i64 (j : Int) ∧ j ≤ n ∧ m ≤ j ∧ nv = .string t ∧ t.size ≤ 100000 ∧ wr.ownsRow w.heap.size 9 1 sv m (L8.stC l) ∧ Hid (l.length = m) ∧ Hid (spF (txs (xs.take j)) = (l, t)) ∧ Below w.heap.size w wr) (fun _ _ a _ => n - (intOf a).toNat)
  case atStart => exact ⟨0, 0, [], ⟨#[]⟩, rfl, Nat.zero_le _, Nat.le_refl _, rfl, by decide, World.ownsRow_nil _ _ _ _, Lib.hid rfl, Lib.hid rfl, Below.refl _ _⟩
  case round =>
    obtain ⟨j, m, l, t, rfl, hj, hmj, rfl, hts, hown, hL, hR, hB⟩ := hrel
    have hsz := hB.size
    by_cases hlt : j < n
    · have hjx : j < xs.length := by rw [HN.out]; exact hlt
      obtain ⟨T, hT, c0⟩ := tks_cell (HC.out.below hb hB) j hjx
      obtain ⟨st, hst0⟩ : ∃ st, (l, t) = st := ⟨_, rfl⟩
      have hst : spF (txs (xs.take (j + 1))) = spS st T := by rw [txs_take xs j hjx, spF_snoc, hR.out, hT, hst0]
      have hbd : (spF (txs (xs.take (j + 1)))).2.size ≤ 100000 := by
        have h1 := spF_size (txs (xs.take (j + 1)))
        have h2 := sumT_take (txs xs) (j + 1)
        have e : txs (xs.take (j + 1)) = (txs xs).take (j + 1) := by simp [txs, List.map_take]
        rw [e] at h1
        have := HZ.out
        rw [e]
        omega
      obtain ⟨rfl, rfl⟩ : l = st.1 ∧ t = st.2 := by rw [← hst0]; exact ⟨rfl, rfl⟩
      clear hst0 hT hR
      obtain ⟨t, ht⟩ : ∃ t, st.2 = t := ⟨_, rfl⟩
      rw [ht] at hts
      rw [hst] at hbd
      by_cases he : t.size = 0
      · have te : t.toList.isEmpty = true := by
          rw [Lib.toList_data, List.isEmpty_iff]
          exact List.eq_nil_of_length_eq_zero (by rw [L8.size_list]; exact he)
        have h0 : fls st = st.1 := by unfold fls; rw [ht, if_pos he]
        rcases brk_bits T with ⟨hk, ⟨hne, hbits⟩ | ⟨hmn, hbits⟩⟩ | ⟨hk, hbits⟩
        · have hs0 : spS st T = (st.1, ⟨#[]⟩) := by unfold spS; rw [if_pos hk, if_neg hne, h0]; rfl
          have HS := Lib.hid (hst.trans hs0)
          clear hbd hst hk he
          rw [ht] at *
          rcases hbits with ⟨t1, t2, t3, t4, t5⟩ | ⟨t1, t2, t3, t4, t5⟩ | ⟨t1, t2, t3, t4, t5⟩ | ⟨t1, t2, t3, t4, t5⟩
          all_goals
            clear hs0 h0
            go_wp2
            go_roundw
            case rel => exact ⟨j + 1, m, st.1, ⟨#[]⟩, by go_num, by omega, by omega, rfl, by decide, hown, hL, HS, hB⟩
            case measure => simp [intOf]; omega
        · have hs0 : spS st T = (st.1, ⟨#[45]⟩) := by unfold spS; rw [if_pos hk, if_pos hmn, h0]; rfl
          have HS := Lib.hid (hst.trans hs0)
          clear hbd hst hk he hmn
          rw [ht] at *
          obtain ⟨t1, t2, t3, t4, t5⟩ := hbits
          clear hs0 h0
          go_wp2
          go_roundw
          case rel => exact ⟨j + 1, m, st.1, ⟨#[45]⟩, by go_num, by omega, by omega, rfl, by decide, hown, hL, HS, hB⟩
          case measure => simp [intOf]; omega
        · have hs0 : spS st T = (st.1, t ++ T) := by unfold spS; rw [if_neg (by rw [hk]; exact Bool.false_ne_true), ht]
          rw [hs0] at hbd
          have HS := Lib.hid (hst.trans hs0)
          have hTs : t.size + T.size ≤ 100000 := by simpa [ByteArray.size_append] using hbd
          have q1 : t.size + T.size ≤ 9223372036854775807 := by omega
          have q2 : t.size + T.size ≤ maxLen := by unfold maxLen; omega
          clear hst hk he hs0 h0
          rw [ht] at *
          obtain ⟨t1, t2, t3, t4, t5⟩ := hbits
          go_wp2
          go_roundw
          case rel => exact ⟨j + 1, m, st.1, t ++ T, by go_num, by omega, by omega, rfl, hbd, hown, hL, HS, hB⟩
          case measure => simp [intOf]; omega
      · have te : t.toList.isEmpty = false := by
          rw [Lib.toList_data]
          cases h : t.data.toList with
          | nil => exact absurd (by rw [← L8.size_list, h]; rfl) he
          | cons _ _ => rfl
        have h0 : fls st = st.1 ++ [t] := by unfold fls; rw [ht, if_neg he]
        rcases brk_bits T with ⟨hk, ⟨hne, hbits⟩ | ⟨hmn, hbits⟩⟩ | ⟨hk, hbits⟩
        · have hs0 : spS st T = (st.1 ++ [t], ⟨#[]⟩) := by unfold spS; rw [if_pos hk, if_neg hne, h0]; rfl
          have HS := Lib.hid (hst.trans hs0)
          clear hbd hst hk he hs0 h0
          rw [ht] at *
          rcases hbits with ⟨t1, t2, t3, t4, t5⟩ | ⟨t1, t2, t3, t4, t5⟩ | ⟨t1, t2, t3, t4, t5⟩ | ⟨t1, t2, t3, t4, t5⟩
          all_goals
            go_wp2_with (at_builtin; refine wpList_append_own _ rfl _ _ 27 rfl w.heap.size 9 i0 (.string ⟨#[]⟩) 1 16 Tryd.underlying27 hi hz0 hz1 hz2 rfl (by decide) _ m _ rfl (hown.alloc _) ⟨wr.heap.size, 0, none⟩ 1 1 [.string t] rfl rfl (World.news_of_block (cs := #[.string t]) (t := 9) (fr := (0, 0)) (heap_alloc_last wr _)) (by simp [Value.oneCell']) (by unfold maxLen; omega) (by omega) (by simp; omega) ?_; intro v' w3 hown3 hgrow3 _)
            go_roundw
            case rel =>
              refine ⟨j + 1, m + 1, st.1 ++ [t], ⟨#[]⟩, by go_num, by omega, by omega, rfl, by decide, ?_, Lib.hid ?_, HS, (L2.bch hB (L8.bnew _ _)).grown hgrow3 (by simp; omega) (L8.own_base hown)⟩
              · rw [L8.stC_snoc]; exact hown3
              · rw [List.length_append, hL.out]; rfl
            case measure => simp [intOf]; omega
        · have hs0 : spS st T = (st.1 ++ [t], ⟨#[45]⟩) := by unfold spS; rw [if_pos hk, if_pos hmn, h0]; rfl
          have HS := Lib.hid (hst.trans hs0)
          clear hbd hst hk he hmn hs0 h0
          rw [ht] at *
          obtain ⟨t1, t2, t3, t4, t5⟩ := hbits
          go_wp2_with (at_builtin; refine wpList_append_own _ rfl _ _ 27 rfl w.heap.size 9 i0 (.string ⟨#[]⟩) 1 16 Tryd.underlying27 hi hz0 hz1 hz2 rfl (by decide) _ m _ rfl (hown.alloc _) ⟨wr.heap.size, 0, none⟩ 1 1 [.string t] rfl rfl (World.news_of_block (cs := #[.string t]) (t := 9) (fr := (0, 0)) (heap_alloc_last wr _)) (by simp [Value.oneCell']) (by unfold maxLen; omega) (by omega) (by simp; omega) ?_; intro v' w3 hown3 hgrow3 _)
          go_roundw
          case rel =>
            refine ⟨j + 1, m + 1, st.1 ++ [t], ⟨#[45]⟩, by go_num, by omega, by omega, rfl, by decide, ?_, Lib.hid ?_, HS, (L2.bch hB (L8.bnew _ _)).grown hgrow3 (by simp; omega) (L8.own_base hown)⟩
            · rw [L8.stC_snoc]; exact hown3
            · rw [List.length_append, hL.out]; rfl
          case measure => simp [intOf]; omega
        · have hs0 : spS st T = (st.1, t ++ T) := by unfold spS; rw [if_neg (by rw [hk]; exact Bool.false_ne_true), ht]
          rw [hs0] at hbd
          have HS := Lib.hid (hst.trans hs0)
          have hTs : t.size + T.size ≤ 100000 := by simpa [ByteArray.size_append] using hbd
          have q1 : t.size + T.size ≤ 9223372036854775807 := by omega
          have q2 : t.size + T.size ≤ maxLen := by unfold maxLen; omega
          clear hst hk he hs0 h0
          rw [ht] at *
          obtain ⟨t1, t2, t3, t4, t5⟩ := hbits
          go_wp2
          go_roundw
          case rel => exact ⟨j + 1, m, st.1, t ++ T, by go_num, by omega, by omega, rfl, hbd, hown, hL, HS, hB⟩
          case measure => simp [intOf]; omega
    · obtain rfl : j = n := by omega
      have hE : spF (txs xs) = (l, t) := by rw [← hR.out, List.take_of_length_le (by rw [HN.out]; exact Nat.le_refl _)]
      clear hR
      by_cases he : t.size = 0
      · have te : t.toList.isEmpty = true := by
          rw [Lib.toList_data, List.isEmpty_iff]
          exact List.eq_nil_of_length_eq_zero (by rw [L8.size_list]; exact he)
        have HS := Lib.hid (show spl (txs xs) = l by unfold spl fls; rw [hE, if_pos he])
        clear hE he
        obtain ⟨va, vc, rfl⟩ := L8.owns_slice hown
        go_wp2
        go_ret
        refine ⟨⟨_, rfl, ?_⟩, hB⟩
        rw [HS.out, hL.out]; exact hown
      · have te : t.toList.isEmpty = false := by
          rw [Lib.toList_data]
          cases h : t.data.toList with
          | nil => exact absurd (by rw [← L8.size_list, h]; rfl) he
          | cons _ _ => rfl
        have HS := Lib.hid (show spl (txs xs) = l ++ [t] by unfold spl fls; rw [hE, if_neg he])
        clear hE he
        go_wp2_with (at_builtin; refine wpList_append_own _ rfl _ _ 27 rfl w.heap.size 9 i0 (.string ⟨#[]⟩) 1 16 Tryd.underlying27 hi hz0 hz1 hz2 rfl (by decide) _ m _ rfl (hown.alloc _) ⟨wr.heap.size, 0, none⟩ 1 1 [.string t] rfl rfl (World.news_of_block (cs := #[.string t]) (t := 9) (fr := (0, 0)) (heap_alloc_last wr _)) (by simp [Value.oneCell']) (by unfold maxLen; omega) (by omega) (by simp; omega) ?_; intro v' w3 hown3 hgrow3 _)
        go_ret
        refine ⟨⟨_, rfl, ?_⟩, (L2.bch hB (L8.bnew _ _)).grown hgrow3 (by simp; omega) (L8.own_base hown)⟩
        rw [HS.out, List.length_append, hL.out, L8.stC_snoc]; exact hown3
theorem rsplit_none (a : Option Addr) (cap : Nat) (w : World) : Calls Tryd.prog 34 #[.slice a 0 cap] w fun e w' => L8.StP w (spl (txs [])) e w' := by
  go_enter Tryd.func34, Tryd.ntmps34
  go_wp2
  refine wp_loop_rounds 1 ?_
  rw [rounds_succ]
  go_wp2
  go_ret
  exact ⟨⟨_, rfl, World.ownsRow_nil _ _ _ _⟩, Below.refl _ _⟩
theorem rsplit_at (v : Value) (xs : L8.Tks) (hm : xs.length ≤ 100000) (hz : sumT (txs xs) ≤ 100000) (w : World) (hv : L8.TksAt w v xs) : Calls Tryd.prog 34 #[v] w fun e w' => L8.StP w (spl (txs xs)) e w' := by
  rcases hv with ⟨b, o, cap, rfl, _, hb, hc⟩ | ⟨rfl, a, cap, rfl⟩
  · exact rsplit_some b o _ cap xs rfl hm hz w hb hc
  · exact rsplit_none a cap w
end Go.Proofs.YtjcaonbejhdhkaaDoor.L9
