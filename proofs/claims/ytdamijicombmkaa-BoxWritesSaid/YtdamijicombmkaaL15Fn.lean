/- The small functions of the layer on containers: rounding up, offsets; the numbers that put writes and get reads. Conditions: numbers are no more than 1000000000000; memory holds the bytes. -/
import Derived.Test.YtdamijicombmkaaL15Sm
import Derived.Test.YtdamijicombmkaaL14Bd
import Derived.Lib.EndianBits
namespace Go.Proofs.Ytdamijicombmkaa.L15
open Go.RowKit L14
attribute [local go_sem] Oper.semAt_some

set_option maxHeartbeats 1000000 in
theorem padded_at (n N : Nat) (w : World) (hn : n ≤ 1000000000000) (hN : up n = N) :
    Calls Try.prog 27 #[.int .i64 (n : Int)] w fun e w' => e = .returned (.int .i64 (N : Int)) ∧ w = w' := by
  have e1 : ((n : Int) + 8 - 1).tdiv 8 * 8 = (N : Int) := by
    rw [← hN, Int.tdiv_eq_ediv_of_nonneg (by omega)]; unfold up; omega
  have b1 := up_le n
  have HE := Lib.hid e1
  go_enter Try.func27, Try.ntmps27
  go_wp2
  go_ret
  exact ⟨rfl, rfl⟩
set_option maxHeartbeats 1000000 in
theorem rup_at (n N : Nat) (w : World) (hn : n ≤ 1000000000000) (hN : up n = N) :
    Calls Try.prog 28 #[.int .i64 (n : Int)] w fun e w' => e = .returned (.int .i64 (N : Int)) ∧ w = w' := by
  have e1 : ((n : Int) + 7).tdiv 8 * 8 = (N : Int) := by
    rw [← hN, Int.tdiv_eq_ediv_of_nonneg (by omega)]; unfold up; omega
  have b1 := up_le n
  have HE := Lib.hid e1
  go_enter Try.func28, Try.ntmps28
  go_wp2
  go_ret
  exact ⟨rfl, rfl⟩
set_option maxHeartbeats 1000000 in
theorem rowS_at (n : Nat) (N : Int) (w : World) (hn : n ≤ 1000000000000) (hN : N = ((16 + 12 * n : Nat) : Int)) :
    Calls Try.prog 37 #[.int .i64 (n : Int)] w fun e w' => e = .returned (.int .i64 N) ∧ w = w' := by
  have e1 : 16 + 12 * (n : Int) = N := by rw [hN]; omega
  have HE := Lib.hid e1
  clear hN
  go_enter Try.func37, Try.ntmps37
  go_wp2
  go_ret
  exact ⟨rfl, rfl⟩
set_option maxHeartbeats 1000000 in
theorem dataS_at (n N : Nat) (w : World) (hn : n ≤ 10000000000) (hN : hd n = N) :
    Calls Try.prog 26 #[.int .i64 (n : Int)] w fun e w' => e = .returned (.int .i64 (N : Int)) ∧ w = w' := by
  have HR := Lib.hid (fun w => rowS_at n _ w (by omega) rfl)
  have HP := Lib.hid (fun w => padded_at (16 + 12 * n) N w (by omega) hN)
  generalize 16 + 12 * n = m at HR HP
  clear hN
  go_enter Try.func26, Try.ntmps26
  go_wp2_with (first
    | (go_at_call 37; ((with_reducible refine (HR.out _).mono ?_); rintro e w1 ⟨rfl, rfl⟩))
    | (go_at_call 27; ((with_reducible refine (HP.out _).mono ?_); rintro e w2 ⟨rfl, rfl⟩)))
  go_ret
  exact ⟨rfl, rfl⟩

/-! ### numbers in bytes -/
theorem i64_or (i : Nat) (y x : Int) (hy : 0 ≤ y) (hy1 : y < 2 ^ i) (hx : 0 ≤ x) (hx1 : x % 2 ^ i = 0) (hy2 : y < 9223372036854775808) (hx2 : x < 9223372036854775808) : bits .or .i64 y x = y + x :=
  bits_join_low .i64 63 (by decide) (fun n h0 h1 => by simp [IntKind.wrap, IntKind.bits, IntKind.signed]; omega) i y x hy hy1 hy2 hx hx1 hx2
theorem or1 (a : UInt8) : bits .or .i64 0 (a.toNat : Int) = (a.toNat : Int) := by
  have ha := a.toNat_lt
  rw [i64_or 0 0 _ (by omega) (by omega) (by omega) (by omega) (by omega) (by omega)]; omega
theorem or2 (a b : UInt8) : bits .or .i64 (a.toNat : Int) ((b.toNat : Int) * 256) = (a.toNat : Int) + (b.toNat : Int) * 256 := by
  have ha := a.toNat_lt
  have hb := b.toNat_lt
  exact i64_or 8 _ _ (by omega) (by omega) (by omega) (by omega) (by omega) (by omega)
theorem or3 (a b c : UInt8) : bits .or .i64 ((a.toNat : Int) + (b.toNat : Int) * 256) ((c.toNat : Int) * 65536) = (a.toNat : Int) + (b.toNat : Int) * 256 + (c.toNat : Int) * 65536 := by
  have ha := a.toNat_lt
  have hb := b.toNat_lt
  have hc := c.toNat_lt
  exact i64_or 16 _ _ (by omega) (by omega) (by omega) (by omega) (by omega) (by omega)
theorem or4 (a b c d : UInt8) : bits .or .i64 ((a.toNat : Int) + (b.toNat : Int) * 256 + (c.toNat : Int) * 65536) ((d.toNat : Int) * 16777216) = (a.toNat : Int) + (b.toNat : Int) * 256 + (c.toNat : Int) * 65536 + (d.toNat : Int) * 16777216 := by
  have ha := a.toNat_lt
  have hb := b.toNat_lt
  have hc := c.toNat_lt
  have hd := d.toNat_lt
  exact i64_or 24 _ _ (by omega) (by omega) (by omega) (by omega) (by omega) (by omega)

set_option maxHeartbeats 2000000 in
set_option maxRecDepth 100000 in
theorem get2_at (v : Value) (l : List UInt8) (V : Nat) (w : World) (h : Rw eB w v l) (hl : l.length = 2) (hV : va l = V) :
    Calls Try.prog 39 #[v] w fun e w' => e = .returned (.int .i64 (V : Int)) ∧ w = w' := by
  obtain ⟨a, c, rfl, h1, h2, h3⟩ := h
  obtain ⟨b, o, rfl, hb, hc⟩ := h3 (by omega)
  match l, hl with
  | [x, y], _ =>
    have c0 := hc 0 (by simp)
    have c1 := hc 1 (by simp)
    have o1 := or1 x
    have o2 := or2 x y
    have b1 := x.toNat_lt
    have b2 := y.toNat_lt
    have e : (x.toNat : Int) + (y.toNat : Int) * 256 = (V : Int) := by rw [← hV]; simp [va]; omega
    have HV := Lib.hid e
    simp only [List.length_cons, List.length_nil, Nat.zero_add, Nat.reduceAdd, Nat.add_zero, List.getElem_cons_zero, List.getElem_cons_succ, eB] at c0 c1 ⊢
    clear hc h1 h2 h3 hV hb e
    go_enter Try.func39, Try.ntmps39
    go_wp2
    refine wp_loop_rounds 3 ?_
    repeat (rw [rounds_succ]; go_wp2)
    go_ret
    exact ⟨congrArg (fun z => Ending.returned (.int .i64 z)) HV.out, rfl⟩
set_option maxHeartbeats 2000000 in
set_option maxRecDepth 100000 in
theorem get4_at (v : Value) (l : List UInt8) (V : Nat) (w : World) (h : Rw eB w v l) (hl : l.length = 4) (hV : va l = V) :
    Calls Try.prog 39 #[v] w fun e w' => e = .returned (.int .i64 (V : Int)) ∧ w = w' := by
  obtain ⟨a, c, rfl, h1, h2, h3⟩ := h
  obtain ⟨b, o, rfl, hb, hc⟩ := h3 (by omega)
  match l, hl with
  | [x, y, z, u], _ =>
    have c0 := hc 0 (by simp)
    have c1 := hc 1 (by simp)
    have c2 := hc 2 (by simp)
    have c3 := hc 3 (by simp)
    have o1 := or1 x
    have o2 := or2 x y
    have o3 := or3 x y z
    have o4 := or4 x y z u
    have b1 := x.toNat_lt
    have b2 := y.toNat_lt
    have b3 := z.toNat_lt
    have b4 := u.toNat_lt
    have e : (x.toNat : Int) + (y.toNat : Int) * 256 + (z.toNat : Int) * 65536 + (u.toNat : Int) * 16777216 = (V : Int) := by rw [← hV]; simp [va]; omega
    have HV := Lib.hid e
    simp only [List.length_cons, List.length_nil, Nat.zero_add, Nat.reduceAdd, Nat.add_zero, List.getElem_cons_zero, List.getElem_cons_succ, eB] at c0 c1 c2 c3 ⊢
    clear hc h1 h2 h3 hV hb e
    go_enter Try.func39, Try.ntmps39
    go_wp2
    refine wp_loop_rounds 5 ?_
    repeat (rw [rounds_succ]; go_wp2)
    go_ret
    exact ⟨congrArg (fun z => Ending.returned (.int .i64 z)) HV.out, rfl⟩

theorem va_drop (l : List UInt8) (j : Nat) (h : j < l.length) : va (l.drop j) = l[j].toNat + 256 * va (l.drop (j + 1)) := by
  rw [List.drop_eq_getElem_cons h, va]
theorem sub_get (b : List UInt8) (i n j : Nat) (h : j < n) (h2 : i + n ≤ b.length) : ∃ (k1 : j < (sub b i n).length) (k2 : i + j < b.length), (sub b i n)[j] = b[i + j] := by
  refine ⟨by rw [sub_len _ _ _ h2]; exact h, by omega, ?_⟩
  unfold sub
  rw [List.getElem_take, List.getElem_drop]
set_option maxHeartbeats 2000000 in
set_option maxRecDepth 100000 in
theorem rget_at (v : Value) (b : List UInt8) (i n V : Nat) (w : World) (h : Rw eB w v b) (hn : n ≤ 4) (hl : i + n ≤ b.length) (hb : b.length ≤ 1000000000) (hV : va (sub b i n) = V) :
    Calls Try.prog 34 #[v, .int .i64 (i : Int), .int .i64 (n : Int)] w fun e w' => e = .returned (.int .u64 (V : Int)) ∧ w = w' := by
  obtain ⟨N, hN⟩ : ∃ N, b.length = N := ⟨_, rfl⟩
  obtain ⟨a, c, rfl, -, -, hc⟩ := h.form hN
  rw [hN] at hl hb
  have HN := Lib.hid hN
  have HC := Lib.hid hc
  have HV : Hid (va ((sub b i n).drop 0) = V) := Lib.hid (by simpa using hV)
  have HL := Lib.hid hl
  have HS : Hid ((sub b i n).length = n) := Lib.hid (sub_len b i n (by omega))
  clear hN hc hV h
  go_enter Try.func34, Try.ntmps34
  go_wp2
  go_loop [7, 8] (fun x q => ∃ j : Nat, j ≤ n ∧ q = .int .i64 ((j : Int) - 1) ∧ ∃ X : Nat, x = .int .u64 (X : Int) ∧ X < 4294967296 ∧ Hid (va ((sub b i n).drop j) = X)) (fun _ q => (intOf q + 1).toNat)
  case atStart => exact ⟨n, Nat.le_refl _, by go_num, 0, rfl, by decide, Lib.hid (by rw [List.drop_eq_nil_of_le (by rw [HS.out]; exact Nat.le_refl _)]; rfl)⟩
  case round =>
    obtain ⟨j, hj, rfl, X, rfl, hX, hE⟩ := hrel
    cases j with
    | zero =>
      have e0 : ((0 : Nat) : Int) - 1 = -1 := rfl
      rw [e0]
      have hr : X = V := hE.out.symm.trans HV.out
      subst hr
      go_wp2
      go_ret
      exact ⟨rfl, rfl⟩
    | succ j =>
      have e1 : ((j + 1 : Nat) : Int) - 1 = (j : Int) := by omega
      rw [e1]
      obtain ⟨k1, k2, hg⟩ := sub_get b i n j (by omega) (by rw [HN.out]; exact HL.out)
      obtain ⟨bb, o, rfl, hbb, hcc⟩ := HC.out (by omega)
      have hx := hcc (i + j) k2
      have hst := va_drop (sub b i n) j k1
      rw [hg, hE.out] at hst
      have hlt := va_lt ((sub b i n).drop j)
      have hln : ((sub b i n).drop j).length ≤ 4 := by rw [List.length_drop, HS.out]; omega
      have h4 : (256 : Nat) ^ ((sub b i n).drop j).length ≤ 256 ^ 4 := Nat.pow_le_pow_right (by decide) hln
      rw [hst] at hlt
      obtain ⟨d, hd⟩ : ∃ d, b[i + j].toNat = d := ⟨_, rfl⟩
      unfold eB at hx
      rw [hd] at hx hst hlt
      have hb4 : d + 256 * X < 4294967296 := by omega
      have hb3 : d < 256 := by rw [← hd]; exact UInt8.toNat_lt _
      have HST := Lib.hid hst
      have hin : i + j < N := by have := HL.out; omega
      have hx' : w.cell? ⟨bb, o + (i + j), none⟩ = some (.int .u8 (d : Int)) := hx
      have hx2 : w.cell? ⟨bb, o + (i + j : Int).toNat, none⟩ = some (.int .u8 (d : Int)) := by
        rw [show (i + j : Int).toNat = i + j by omega]; exact hx
      clear hcc hd hst hlt hln h4 hg hE k1 k2 e1 hx
      go_wp2
      go_round
      case rel => exact ⟨j, by omega, by go_num, d + 256 * X, by go_num, hb4, HST⟩
      case measure => simp [intOf]

/-! ### numbers written into a row -/
theorem le_snoc : ∀ (n z : Nat), le (n + 1) z = le n z ++ [UInt8.ofNat (z / 256 ^ n % 256)]
  | 0, z => by simp [le]
  | n + 1, z => by
    rw [le, le_snoc n (z / 256), le, List.cons_append, Nat.div_div_eq_div_mul, show 256 * 256 ^ n = 256 ^ (n + 1) by rw [Nat.pow_succ, Nat.mul_comm]]
theorem run_three {t : TypeId} (ht : Try.prog.underlying t = some (.slice (Try.prog.elem t))) (hz : ∀ w, (Go.sizeOf (Try.prog.elem t)).run Try.prog w = .ok 1 w) (g o n c k m : Nat) (hk : k < m) (hm : m ≤ c) (W : World) :
    (Instr.slice t (.slice (some ⟨g, o, none⟩) n c) (some (.int .i64 (k : Int))) (some (.int .i64 (m : Int))) (some (.int .i64 (m : Int)))).run Try.prog W = .ok (.slice (some ⟨g, o + k, none⟩) (m - k) (m - k)) W := by
  rw [run_slice_lhm W t _ n c ht .i64 .i64 .i64 (k : Int) (m : Int) (m : Int) (by omega) (by omega) (by omega) (by omega)]
  simp [hz, Result.andThen, sliced, add0, show ¬ m = k by omega]
/-- No block but g has changed. -/
structure Oth (g : Nat) (w w' : World) : Prop where
  b : Below g w w'
  o : ∀ k, k ≠ g → w'.heap[k]? = w.heap[k]?
theorem Oth.refl (g : Nat) (w : World) : Oth g w w := ⟨Below.refl _ _, fun _ _ => rfl⟩
theorem Oth.setCell {g : Nat} {w w' : World} (h : Oth g w w') (k : Nat) (v : Value) : Oth g w (w'.setCell ⟨g, k, none⟩ v) :=
  ⟨h.b.setCell (p := ⟨g, k, none⟩) (Nat.le_refl _) v, fun j hj => (Below.heap_setCell _ _ _ _ (by exact hj)).trans (h.o j hj)⟩
theorem Oth.cell {g : Nat} {w w' : World} (h : Oth g w w') {k j : Nat} (hk : k ≠ g) : w'.cell? ⟨k, j, none⟩ = w.cell? ⟨k, j, none⟩ := by
  unfold World.cell?
  simp only [h.o k hk]
set_option maxHeartbeats 2000000 in
set_option maxRecDepth 100000 in
theorem put_at (g m N x : Nat) (xs : List UInt8) (o : Nat) (w : World) (ho : xs.length = o) (hm : m ≤ 4) (hN : o + m ≤ N) (hNN : N ≤ 1000000000) (hx : x < 4294967296) (hg : w.heap[g]? = some (.cells (rowZ eB (.int .u8 0) xs N) 5 (0, 0))) :
    Calls Try.prog 41 #[.slice (some ⟨g, o, none⟩) m m, .int .i64 (x : Int)] w fun e w' => e = .returned (.tuple #[]) ∧ w'.heap[g]? = some (.cells (rowZ eB (.int .u8 0) (xs ++ le m x) N) 5 (0, 0)) ∧ Oth g w w' := by
  have HO := Lib.hid ho
  have HG := Lib.hid hg
  clear ho hg
  go_enter Try.func41, Try.ntmps41
  go_wp2
  go_loopw [1, 4, 7] (fun y _ q wr => ∃ j : Nat, j ≤ m ∧ q = .int .i64 (j : Int) ∧ y = .int .i64 ((x / 256 ^ j : Nat) : Int) ∧ Hid (wr.heap[g]? = some (.cells (rowZ eB (.int .u8 0) (xs ++ le j x) N) 5 (0, 0)) ∧ Oth g w wr)) (fun _ _ q _ => m - (intOf q).toNat)
  case atStart => exact ⟨0, Nat.zero_le _, rfl, by simp, Lib.hid ⟨by simpa [le] using HG.out, Oth.refl _ _⟩⟩
  case round =>
    obtain ⟨j, hj, rfl, rfl, hI⟩ := hrel
    obtain ⟨hG, hB⟩ := hI.out
    by_cases hlt : j < m
    · have hlen : (xs ++ le j x).length = o + j := by rw [List.length_append, HO.out, le_len]
      have hnx := rowZ_next eB (.int .u8 0) (xs ++ le j x) N (by omega)
      have hst := rowZ_set eB (.int .u8 0) (xs ++ le j x) (UInt8.ofNat (x / 256 ^ j % 256)) N (by omega)
      rw [hlen] at hnx hst
      rw [List.append_assoc, ← le_snoc] at hst
      obtain ⟨hc, hf⟩ := cell_in (k := o + j) hG
      rw [hnx] at hc
      have hdv : x / 256 ^ j ≤ x := Nat.div_le_self _ _
      have hnext : x / 256 ^ (j + 1) = x / 256 ^ j / 256 := by rw [Nat.div_div_eq_div_mul, Nat.pow_succ]
      have hbv : eB (UInt8.ofNat (x / 256 ^ j % 256)) = .int .u8 ((x / 256 ^ j % 256 : Nat) : Int) := by
        unfold eB
        rw [UInt8.toNat_ofNat']
        congr 2
        omega
      rw [hbv] at hst
      obtain ⟨y, hy⟩ : ∃ y, x / 256 ^ j = y := ⟨_, rfl⟩
      rw [hy] at hdv hnext hst ⊢
      have HS := Lib.hid (And.intro hG (And.intro hst hB))
      have HY := Lib.hid hnext
      have hy4 : y < 4294967296 := by omega
      clear hI hG hB hlen hnx hst hnext hbv hy hdv
      go_wp2
      refine ⟨⟨j + 1, hlt, by go_num, by rw [HY.out]; go_num, Lib.hid ⟨?_, HS.out.2.2.setCell _ _⟩⟩, by simp [intOf]; omega⟩
      rw [← HS.out.2.1]
      exact cells_set HS.out.1
    · obtain rfl : j = m := by omega
      have HS := Lib.hid (And.intro hG hB)
      clear hI hG hB
      go_wp2
      go_end0
      exact ⟨rfl, HS.out.1, HS.out.2⟩
end Go.Proofs.Ytdamijicombmkaa.L15
