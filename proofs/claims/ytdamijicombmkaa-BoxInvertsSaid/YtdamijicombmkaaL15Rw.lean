/- What the reference's Write returns: the container of correct sections. Condition: memory holds the sections, which are no more than 16 of no more than 1000000 bytes each. -/
import Derived.Test.YtdamijicombmkaaL15Mv
import Derived.Lib.SlBytesConst
namespace Go.Proofs.Ytdamijicombmkaa.L15
open Go.RowKit L14
attribute [local go_sem] Oper.semAt_some

theorem byte_val (z : Nat) : eB (UInt8.ofNat (z % 256)) = .int .u8 ((z % 256 : Nat) : Int) := by
  unfold eB
  rw [UInt8.toNat_ofNat']
  congr 2
  omega
/-- A slice of bytes to which one may append: it is the call's own; or (f) it is full, so that appending copies it. -/
def Gr (f : Prop) (w : World) (B : Nat) (v : Value) (n : Nat) (xs : List Value) : Prop :=
  w.ownsRow B 5 1 v n xs ∨ (f ∧ ∃ g, v = .slice (some ⟨g, 0, none⟩) n n ∧ B ≤ g ∧ g < w.heap.size ∧ xs.length = n ∧ ∀ j u, xs[j]? = some u → w.cell? ⟨g, j, none⟩ = some u)
theorem Gr.slice {f : Prop} {w : World} {B : Nat} {v : Value} {n : Nat} {xs : List Value} (h : Gr f w B v n xs) : ∃ a c, v = .slice a n c := by
  rcases h with h | ⟨-, g, rfl, -⟩
  · exact owns_slice h
  · exact ⟨_, _, rfl⟩
theorem Gr.base {f : Prop} {w : World} {B : Nat} {v : Value} {n : Nat} {xs : List Value} (h : Gr f w B v n xs) : ∀ k, v.ownBlock = some k → B ≤ k := by
  rcases h with h | ⟨-, g, rfl, hb, -⟩
  · exact own_base h
  · intro k hk
    simp [Value.ownBlock] at hk
    omega
theorem Gr.alloc {f : Prop} {w : World} {B : Nat} {v : Value} {n : Nat} {xs : List Value} (h : Gr f w B v n xs) (o : Obj) : Gr f (w.alloc o) B v n xs := by
  rcases h with h | ⟨hf, g, rfl, hb, hl, hx, hc⟩
  · exact .inl (h.alloc o)
  · exact .inr ⟨hf, g, rfl, hb, Nat.lt_of_lt_of_le hl (by simp), hx, fun j u hu => ((bnew w o).cell (by exact hl)).trans (hc j u hu)⟩
theorem run_append_full {w : World} (B : Nat) (ty : TypeId) (g n : Nat) (xs : List Value) (hxs : xs.length = n) (hc : ∀ j u, xs[j]? = some u → w.cell? ⟨g, j, none⟩ = some u) (ad : Addr) (c : Nat) (x : Value) (hx : w.cell? (ad.add 0) = some x) (hn : n ≤ 2000000000) (hB : B ≤ w.heap.size) :
    ∃ v' w', (Builtin.append_ #[25, 25] ty #[.slice (some ⟨g, 0, none⟩) n n, .slice (some ad) 1 c]).run Try.prog w = .ok v' w' ∧ w'.ownsRow B 5 1 v' (n + 1) (xs ++ [x]) ∧ ∀ row, w.grownBy w' row := by
  obtain ⟨ib, ki, kz0, kz1, kz2⟩ := info_parts infoByte
  have hr := run_append_grow (P := Try.prog) w 25 ty 5 ib (.int .u8 0) Try.underlying25 ki kz0 ⟨g, 0, none⟩ n n xs (by rw [kz1, hxs]; omega) (fun j u hu => by rw [add0, Nat.zero_add]; exact hc j u hu) ad 1 c [x] (by rw [kz1]; rfl)
    (fun j u hu => by
      cases j with
      | zero => simp only [List.getElem?_cons_zero, Option.some.injEq] at hu; rw [← hu]; exact hx
      | succ j => simp at hu) (by omega) (by omega) (growslice_fits (by omega) (by rw [kz2]; omega))
  refine ⟨_, _, hr, ⟨by simp [hxs], .inr ⟨w.heap.size, _, _, rfl, hB, heap_alloc_new w.drew _, grownCap_ge w (n + 1) n 5, grownCap_le_maxLen w (n + 1) n 5 (by unfold maxLen; omega), ?_, ?_⟩⟩, fun row => ⟨rfl, rfl, rfl, by simp, fun k hk _ => heap_alloc_old w.drew _ hk⟩⟩
  · have hge := grownCap_ge w (n + 1) n 5
    simp [size_zeroCells, hxs, Value.cells]
    omega
  · simp only [Array.toList_append]
    rw [List.take_append_of_le_length (by simp [hxs]), List.take_of_length_le (by simp [hxs])]
theorem wpList_append_gr {f : Prop} {w : World} {ops : Array Oper} {rest : List Oper} {o : Oper} {a : Act} {Q : Exit → Act → World → Prop} (hgd : o.guard = none) (s x : Operand)
    (ho : o.op = .call { callee := .builtin .append, args := #[s, x], argTypes := #[25, 25] }) (base : Nat)
    (v : Value) (n : Nat) (xs : List Value) (hs : a.eval s = v) (hown : Gr f w base v n xs) (g : Nat) (y : Value) (hx : a.eval x = .slice (some ⟨g, 0, none⟩) 1 1) (hy : w.cell? ⟨g, 0, none⟩ = some y) (h1 : y.oneCell' = true) (hn : n ≤ 2000000000) (hbase : base ≤ w.heap.size)
    (h : ∀ v' w', w'.ownsRow base 5 1 v' (n + 1) (xs ++ [y]) → w.grownBy w' v.ownBlock → wpList Try.prog ops Q rest (a.put o.dst v') w') : wpList Try.prog ops Q (o :: rest) a w := by
  obtain ⟨ib, ki, kz0, kz1, kz2⟩ := info_parts infoByte
  rcases hown with hown | ⟨-, g', rfl, -, -, hxs, hc⟩
  · refine wpList_append_own w hgd s x 25 ho base 5 ib (.int .u8 0) 1 1 Try.underlying25 ki kz0 kz1 kz2 rfl (by decide) v n xs hs hown ⟨g, 0, none⟩ 1 1 [y] hx (by simp) (fun j u hu => ?_) (by simpa using h1) (by unfold maxLen; omega) (by omega) hbase (fun v' w' q1 q2 _ => h v' w' q1 q2)
    cases j with
    | zero => simp only [List.getElem?_cons_zero, Option.some.injEq] at hu; rw [← hu]; exact hy
    | succ j => simp at hu
  · obtain ⟨v', w', hr, q1, q2⟩ := run_append_full (w := w) base o.type g' n xs hxs hc ⟨g, 0, none⟩ 1 y hy hn hbase
    refine wpList_plain hgd fun K hK => ?_
    unfold Oper.wp execOp
    simp only [ho, resolve, invoke, builtin, Sem.run_bind, Sem.run_pure, Result.andThen_ok, List.map_toArray, List.map_cons, List.map_nil, hs, hx, hr]
    exact hK _ _ (h v' w' q1 (q2 _))

set_option maxHeartbeats 4000000 in
set_option maxRecDepth 100000 in
theorem number_at (v : Value) (xs : List UInt8) (B N x m : Nat) (w : World) (hB : B ≤ w.heap.size) (hv : Gr True w B v N (xs.map eB)) (hN : N ≤ 1000000000) (hm : m ≤ 4) (hm0 : 0 < m) (hx : x < 4294967296) :
    Calls Try.prog 29 #[v, .int .i64 (x : Int), .int .i64 (m : Int)] w fun e w' => (∃ v', e = .returned v' ∧ w'.ownsRow B 5 1 v' (N + m) ((xs ++ le m x).map eB)) ∧ Below B w w' := by
  obtain ⟨a, c, rfl⟩ := hv.slice
  have HV := Lib.hid hv
  clear hv
  go_enter Try.func29, Try.ntmps29
  go_wp2
  go_loopw [0, 1, 7] (fun ov y q wr => ∃ j : Nat, j ≤ m ∧ q = .int .i64 (j : Int) ∧ y = .int .i64 ((x / 256 ^ j : Nat) : Int) ∧ Gr (j = 0) wr B ov (N + j) ((xs ++ le j x).map eB) ∧ B ≤ wr.heap.size ∧ Below B w wr) (fun _ _ q _ => m - (intOf q).toNat)
  case atStart => exact ⟨0, Nat.zero_le _, rfl, by simp, by simpa [le, Gr] using HV.out, hB, Below.refl _ _⟩
  case round =>
    obtain ⟨j, hj, rfl, rfl, hown, hBw, hBe⟩ := hrel
    obtain ⟨oa, oc, rfl⟩ := hown.slice
    by_cases hlt : j < m
    · have hdv : x / 256 ^ j ≤ x := Nat.div_le_self _ _
      have hnext : x / 256 ^ (j + 1) = x / 256 ^ j / 256 := by rw [Nat.div_div_eq_div_mul, Nat.pow_succ]
      have hcs : (xs ++ le j x).map eB ++ [.int .u8 ((x / 256 ^ j % 256 : Nat) : Int)] = (xs ++ le (j + 1) x).map eB := by
        rw [le_snoc, ← List.append_assoc, List.map_append (l₁ := xs ++ le j x), ← byte_val]; rfl
      obtain ⟨y, hy⟩ : ∃ y, x / 256 ^ j = y := ⟨_, rfl⟩
      rw [hy] at hdv hnext hcs ⊢
      have HC := Lib.hid hcs
      have HY := Lib.hid hnext
      have hy4 : y < 4294967296 := by omega
      have e1 : ((y % 256 : Nat) : Int) = (y : Int) % 256 := by omega
      rw [e1] at HC
      clear hdv hnext hcs hy e1
      go_wp2_with (at_builtin; refine wpList_append_gr rfl _ _ rfl B _ (N + j) _ rfl (hown.alloc _) wr.heap.size (.int .u8 ((y : Int) % 256)) rfl (cell_new wr _ _) rfl (by omega) (by simp; omega) ?_; intro v' w5 hown6 hgrow6; have B2 := (hBe.alloc hBw _).grown hgrow6 (by simp; omega) hown.base; have z5 : B ≤ w5.heap.size := Nat.le_trans hBw (Nat.le_trans (by simp) hgrow6.size))
      go_roundw
      case rel => exact ⟨j + 1, hlt, by go_num, by rw [HY.out]; go_num, .inl (by rw [← HC.out]; exact hown6), z5, B2⟩
      case measure => simp [intOf]; omega
    · obtain rfl : j = m := by omega
      have hown2 : wr.ownsRow B 5 1 (.slice oa (N + j) oc) (N + j) ((xs ++ le j x).map eB) := by
        rcases hown with h | ⟨h, -⟩
        · exact h
        · omega
      have HO := Lib.hid hown2
      clear hown hown2
      go_wp2
      go_ret
      exact ⟨⟨_, rfl, HO.out⟩, hBe⟩
set_option maxHeartbeats 4000000 in
set_option maxRecDepth 100000 in
theorem pad_at (v : Value) (xs : List UInt8) (B N : Nat) (w : World) (hB : B ≤ w.heap.size) (hv : w.ownsRow B 5 1 v N (xs.map eB)) (hN : N ≤ 1000000000) :
    Calls Try.prog 30 #[v] w fun e w' => (∃ v', e = .returned v' ∧ w'.ownsRow B 5 1 v' (up N) ((xs ++ zs N).map eB)) ∧ Below B w w' := by
  obtain ⟨ib, ki, kz0, kz1, kz2⟩ := info_parts infoByte
  obtain ⟨a, c, rfl⟩ := owns_slice hv
  obtain ⟨U, hU⟩ : ∃ U, up N = U := ⟨_, rfl⟩
  have hU1 := up_ge N
  have hU2 := up_le N
  have hU3 : U % 8 = 0 := by rw [← hU]; unfold up; omega
  unfold zs
  rw [hU] at hU1 hU2 ⊢
  have HV := Lib.hid hv
  clear hv hU
  go_enter Try.func30, Try.ntmps30
  go_wp2
  go_loopw [0] (fun ov wr => ∃ j : Nat, N + j ≤ U ∧ wr.ownsRow B 5 1 ov (N + j) ((xs ++ List.replicate j 0).map eB) ∧ B ≤ wr.heap.size ∧ Below B w wr) (fun ov _ => U - (match ov with | .slice _ n _ => n | _ => 0))
  case atStart => exact ⟨0, by omega, by simpa using HV.out, hB, Below.refl _ _⟩
  case round =>
    obtain ⟨j, hj, hown, hBw, hBe⟩ := hrel
    obtain ⟨oa, oc, rfl⟩ := owns_slice hown
    by_cases hlt : N + j < U
    · have hne : (((N + j : Nat) : Int) % 8 != 0) = true := by
        simp only [bne_iff_ne, ne_eq]; omega
      have hcs : (xs ++ List.replicate j 0).map eB ++ [.int .u8 0] = (xs ++ List.replicate (j + 1) 0).map eB := by
        rw [List.replicate_succ', ← List.append_assoc, List.map_append (l₁ := xs ++ List.replicate j 0)]; rfl
      obtain ⟨M, hM⟩ : ∃ M, N + j = M := ⟨_, rfl⟩
      have HC := Lib.hid hcs
      have HM := Lib.hid hM
      rw [hM] at hown hne ⊢
      have hMb : M ≤ 2000000000 := by omega
      have hMU : M < U := by omega
      clear hcs hM
      go_wp2_with (at_builtin; refine wpList_append_own _ rfl _ _ 25 rfl B 5 ib (.int .u8 0) 1 1 Try.underlying25 ki kz0 kz1 kz2 rfl (by decide) _ M _ rfl (hown.alloc _) ⟨wr.heap.size, 0, none⟩ 1 1 [.int .u8 0] rfl rfl (World.news_of_block (cs := #[.int .u8 0]) (t := 5) (fr := (0, 0)) (heap_alloc_last wr _)) (by simp [Value.oneCell']) (by unfold maxLen; omega) (by omega) (by simp; omega) ?_; intro v' w5 hown6 hgrow6 _; have B2 := (hBe.alloc hBw _).grown hgrow6 (by simp; omega) (own_base hown); have z5 : B ≤ w5.heap.size := Nat.le_trans hBw (Nat.le_trans (by simp) hgrow6.size); obtain ⟨na, nc, hvs⟩ := owns_slice hown6; subst hvs)
      go_roundw
      case rel => exact ⟨j + 1, by have := HM.out; omega, by rw [← HC.out, ← Nat.add_assoc, HM.out]; exact hown6, z5, B2⟩
      case measure => simp; omega
    · obtain ⟨M, hM⟩ : ∃ M, N + j = M := ⟨_, rfl⟩
      obtain rfl : M = U := by omega
      have hej : j = M - N := by omega
      have hz : (((N + j : Nat) : Int) % 8 != 0) = false := by
        simp only [bne_eq_false_iff_eq]; omega
      subst hej
      rw [hM] at hown hz ⊢
      have HO := Lib.hid hown
      clear hown hM
      go_wp2
      go_ret
      exact ⟨⟨_, rfl, HO.out⟩, hBe⟩

/-- Sections that are few: no more than 16, of no more than 1000000 bytes each. -/
structure Fw (l : List Sc) : Prop where
  n : l.length ≤ 16
  d : ∀ s ∈ l, s.2.length ≤ 1000000
theorem Fw.sml {l : List Sc} (h : Fw l) : Sml l := ⟨by have := h.n; omega, h.d⟩
theorem Fw.tot {l : List Sc} (h : Fw l) : tot l ≤ 16000112 := by
  have h1 := tot_bound l 1000000 h.d
  have h2 := h.n
  have h3 : l.length * (1000000 + 7) ≤ 16 * (1000000 + 7) := Nat.mul_le_mul_right _ h2
  omega
theorem Fw.sz {l : List Sc} (h : Fw l) : szL l ≤ 16001000 := by
  have h1 := h.tot
  have h2 := up_le (16 + 12 * l.length)
  have h3 := h.n
  unfold szL L15.hd; omega
theorem rows_snoc (l : List Sc) (k a : Nat) (h : k < l.length) : rows a (l.take (k + 1)) = rows a (l.take k) ++ row l[k] (a + tot (l.take k)) := by
  rw [take_snoc l k h, rows_app, rows, rows, List.append_nil]
theorem body_snoc (l : List Sc) (k : Nat) (h : k < l.length) : body (l.take (k + 1)) = body (l.take k) ++ l[k].2 ++ zs l[k].2.length := by
  rw [take_snoc l k h, body_app, body, body, List.append_nil, List.append_assoc]
theorem tot_8 : ∀ l : List Sc, tot l % 8 = 0
  | [] => rfl
  | s :: r => by
    have := tot_8 r
    rw [tot]; unfold up; omega
/-- A number appended: as the walks ask for it. -/
def NuP (B : Nat) (xs : List UInt8) (N : Nat) (e : Ending) (w' : World) (w : World) : Prop := (∃ a c, e = .returned (.slice a N c) ∧ w'.ownsRow B 5 1 (.slice a N c) N (xs.map eB)) ∧ Below B w w' ∧ w.heap.size ≤ w'.heap.size
theorem number_is (v : Value) (xs ys : List UInt8) (B N M x m : Nat) (X Mi : Int) (w : World) (hB : B ≤ w.heap.size) (hv : Gr True w B v N (xs.map eB)) (hN : N ≤ 1000000000) (hm : m ≤ 4 ∧ 0 < m) (hx : x < 4294967296) (hX : X = (x : Int)) (hM : Mi = (m : Int)) (hys : ys = xs ++ le m x) (hNM : M = N + m) :
    Calls Try.prog 29 #[v, .int .i64 X, .int .i64 Mi] w fun e w' => NuP B ys M e w' w := by
  subst hX hM hys hNM
  refine (number_at v xs B N x m w hB hv hN hm.1 hm.2 hx).mono fun e w' h => ?_
  obtain ⟨⟨v', he, ho⟩, hb⟩ := h
  obtain ⟨a, c, rfl⟩ := owns_slice ho
  exact ⟨⟨a, c, he, ho⟩, hb, hb.size⟩
theorem pad_is (v : Value) (xs ys : List UInt8) (B N M : Nat) (w : World) (hB : B ≤ w.heap.size) (hv : w.ownsRow B 5 1 v N (xs.map eB)) (hN : N ≤ 1000000000) (hys : ys = xs ++ zs N) (hNM : M = up N) :
    Calls Try.prog 30 #[v] w fun e w' => NuP B ys M e w' w := by
  subst hys hNM
  refine (pad_at v xs B N w hB hv hN).mono fun e w' h => ?_
  obtain ⟨⟨v', he, ho⟩, hb⟩ := h
  obtain ⟨a, c, rfl⟩ := owns_slice ho
  exact ⟨⟨a, c, he, ho⟩, hb, hb.size⟩

set_option maxHeartbeats 4000000 in
set_option maxRecDepth 100000 in
theorem rwrite_at (v : Value) (l : List Sc) (w : World) (hv : Ss w v l) (hs : Fw l) (hk : asc 0 l = true) (S : Nat) (hS : szL l = S) :
    Calls Try.prog 17 #[v] w fun e w' => NuP w.heap.size (wr l) S e w' w := by
  obtain ⟨n, hn⟩ : ∃ n, l.length = n := ⟨_, rfl⟩
  obtain ⟨a, c, rfl, -, -, hc⟩ := hv.form hn
  have hnl := hs.n
  have htt := hs.tot
  have hsz := hs.sz
  rw [hn] at hnl
  rw [hS] at hsz
  have hS2 : S = hd n + tot l := by rw [← hS, ← hn]; rfl
  obtain ⟨H, hH⟩ : ∃ H, hd n = H := ⟨_, rfl⟩
  have hHb : H ≤ 300 := by
    have := up_le (16 + 12 * n)
    rw [← hH]; unfold hd; omega
  rw [hH] at hS2
  have HZ := Lib.hid (fun W (hb : Below w.heap.size w W) => rsize_at (.slice a n c) l S W (hv.below hb) hs.sml hS)
  have HU := Lib.hid (show ∀ W, Calls Try.prog 28 #[.int .i64 (16 + 12 * (n : Int))] W fun e w' => e = .returned (.int .i64 (H : Int)) ∧ W = w' from fun W => rup_at (16 + 12 * n) H W (by omega) hH)
  have hkc := Lib.run_convert_bytes_const (P := Try.prog) w 25 5 #[.int .u8 83, .int .u8 76, .int .u8 67, .int .u8 49] 4 4 Try.underlying25 Try.underlying5
  have hr0 : Gr True (w.alloc (.cells #[.int .u8 83, .int .u8 76, .int .u8 67, .int .u8 49] 5 (4, 5))) w.heap.size (.slice (some ⟨w.heap.size, 0, none⟩) 4 4) 4 (([83, 76, 67, 49] : List UInt8).map eB) := by
    refine .inr ⟨trivial, w.heap.size, rfl, Nat.le_refl _, by simp, rfl, fun j u hu => ?_⟩
    have hn : (w.alloc (.cells #[.int .u8 83, .int .u8 76, .int .u8 67, .int .u8 49] 5 (4, 5))).heap[w.heap.size]? = some (.cells #[.int .u8 83, .int .u8 76, .int .u8 67, .int .u8 49] 5 (4, 5)) := heap_alloc_new w _
    unfold World.cell?
    simp only [hn]
    rw [← hu]
    simp [eB]
  have HR0 := Lib.hid hr0
  have b0 := Lib.hid (bnew w (.cells #[.int .u8 83, .int .u8 76, .int .u8 67, .int .u8 49] 5 (4, 5)))
  have HN1 := Lib.hid (fun W v (hB : w.heap.size ≤ W.heap.size) (h : Gr True W w.heap.size v 4 (([83, 76, 67, 49] : List UInt8).map eB)) => number_is v _ ([83, 76, 67, 49] ++ le 2 1) w.heap.size 4 6 1 2 1 2 W hB h (by omega) (by omega) (by omega) rfl rfl rfl rfl)
  have HN2 := Lib.hid (fun W v (hB : w.heap.size ≤ W.heap.size) (h : W.ownsRow w.heap.size 5 1 v 6 (([83, 76, 67, 49] ++ le 2 1 : List UInt8).map eB)) => number_is v _ ([83, 76, 67, 49] ++ le 2 1 ++ le 2 n) w.heap.size 6 8 n 2 (n : Int) 2 W hB (.inl h) (by omega) (by omega) (by omega) rfl rfl rfl rfl)
  have HN3 := Lib.hid (fun W v (hB : w.heap.size ≤ W.heap.size) (h : W.ownsRow w.heap.size 5 1 v 8 (([83, 76, 67, 49] ++ le 2 1 ++ le 2 n : List UInt8).map eB)) => number_is v _ ([83, 76, 67, 49] ++ le 2 1 ++ le 2 n ++ le 4 S) w.heap.size 8 12 S 4 (S : Int) 4 W hB (.inl h) (by omega) (by omega) (by omega) rfl rfl rfl rfl)
  have HN4 := Lib.hid (fun W v (hB : w.heap.size ≤ W.heap.size) (h : W.ownsRow w.heap.size 5 1 v 12 (([83, 76, 67, 49] ++ le 2 1 ++ le 2 n ++ le 4 S : List UInt8).map eB)) => number_is v _ (hea l) w.heap.size 12 16 0 4 0 4 W hB (.inl h) (by omega) (by omega) (by omega) rfl rfl (by rw [hea, hn, hS]) rfl)
  have HC := Lib.hid hc
  have HN := Lib.hid hn
  have HS2 := Lib.hid hS2
  have HT := Lib.hid htt
  have HH := Lib.hid hH
  have HM := Lib.hid hs.d
  have HK := Lib.hid hk
  clear hn hc hv hs hk hS hS2 htt hr0 hH
  go_enter Try.func17, Try.ntmps17
  go_wp2_with (first
    | (go_at_call 29; ((with_reducible refine (HN1.out _ _ (by simp) HR0.out).mono ?_); rintro e w1 ⟨⟨a1, c1, rfl, o1⟩, b1, z1⟩; have B1 := b0.out.trans b1))
    | (go_at_call 29; ((with_reducible refine (HN2.out _ _ B1.size o1).mono ?_); rintro e w2 ⟨⟨a2, c2, rfl, o2⟩, b2, z2⟩; have B2 := B1.trans b2))
    | (go_at_call 14; ((with_reducible refine (HZ.out _ B2).mono ?_); rintro e w3 ⟨rfl, rfl⟩))
    | (go_at_call 29; ((with_reducible refine (HN3.out _ _ B2.size o2).mono ?_); rintro e w4 ⟨⟨a4, c4, rfl, o4⟩, b4, z4⟩; have B4 := B2.trans b4))
    | (go_at_call 29; ((with_reducible refine (HN4.out _ _ B4.size o4).mono ?_); rintro e w5 ⟨⟨a5, c5, rfl, o5⟩, b5, z5⟩; have B5 := B4.trans b5))
    | (go_at_call 28; ((with_reducible refine (HU.out _).mono ?_); rintro e w6 ⟨rfl, rfl⟩)))
  have H5 := Lib.hid (And.intro o5 B5)
  clear o1 o2 o4 o5 b1 b2 b4 b5 B1 B2 B4 B5 z1 z2 z4 z5 HN1 HN2 HN3 HN4
  go_loopw [3, 4, 5] (fun ov at' q wr => ∃ j : Nat, j ≤ n ∧ q = .int .i64 (j : Int) ∧ at' = .int .i64 ((H + tot (l.take j) : Nat) : Int) ∧ wr.ownsRow w.heap.size 5 1 ov (16 + 12 * j) ((hea l ++ rows H (l.take j)).map eB) ∧ Below w.heap.size w wr) (fun _ _ q _ => n - (intOf q).toNat)
  case atStart => exact ⟨0, Nat.zero_le _, rfl, by simp [tot], by simpa [rows] using H5.out.1, H5.out.2⟩
  case round =>
    clear H5
    obtain ⟨j, hj, rfl, rfl, hown, hB⟩ := hrel
    obtain ⟨oa, oc, rfl⟩ := owns_slice hown
    by_cases hlt : j < n
    · have hjl : j < l.length := by rw [HN.out]; exact hlt
      obtain ⟨bb, o, rfl, hbl, hcc⟩ := HC.out (by omega)
      obtain ⟨x0, dv, x1, hr⟩ := hcc j hjl
      obtain ⟨m, hm⟩ : ∃ m, l[j].2.length = m := ⟨_, rfl⟩
      obtain ⟨da, dc, rfl, -⟩ := hr.form hm
      have hk := asc_lt l 0 l[j] HK.out (List.getElem_mem hjl)
      obtain ⟨kn, hkn⟩ : ∃ kn : Nat, l[j].1 = (kn : Int) := ⟨l[j].1.toNat, by omega⟩
      rw [hkn] at x0 hk
      have hml := HM.out _ (List.getElem_mem hjl)
      rw [hm] at hml
      have hst := tot_step l j hjl
      have hle := tot_le l (j + 1)
      have htt := HT.out
      rw [hm] at hst
      obtain ⟨u, hu⟩ : ∃ u, up m = u := ⟨_, rfl⟩
      have HP := Lib.hid (fun W => rup_at m u W (by omega) hu)
      rw [hu] at hst
      have hrw := rows_snoc l j H hjl
      have hro : row l[j] (H + tot (l.take j)) = le 4 kn ++ le 4 (H + tot (l.take j)) ++ le 4 m := by
        unfold row
        rw [hkn, hm, Int.toNat_natCast]
      rw [hro] at hrw
      obtain ⟨t, ht⟩ : ∃ t, tot (l.take j) = t := ⟨_, rfl⟩
      rw [ht] at hst hrw ⊢
      have htb : t ≤ 17000000 := by omega
      have hub : u ≤ 17000000 := by omega
      obtain ⟨A, hA⟩ : ∃ A, H + t = A := ⟨_, rfl⟩
      rw [hA] at hrw ⊢
      have hAb : A ≤ 17000300 := by omega
      have HA1 := Lib.hid (show H + tot (l.take (j + 1)) = A + u by omega)
      have hap : hea l ++ rows H (l.take (j + 1)) = hea l ++ rows H (l.take j) ++ le 4 kn ++ le 4 A ++ le 4 m := by
        rw [hrw]; simp only [List.append_assoc]
      have HAP := Lib.hid hap
      have HOwn := Lib.hid hown
      have M1 := Lib.hid (fun W v (hB : w.heap.size ≤ W.heap.size) (h : W.ownsRow w.heap.size 5 1 v (16 + 12 * j) ((hea l ++ rows H (l.take j)).map eB)) => number_is v _ (hea l ++ rows H (l.take j) ++ le 4 kn) w.heap.size (16 + 12 * j) (16 + 12 * j + 4) kn 4 (kn : Int) 4 W hB (.inl h) (by omega) (by omega) (by omega) rfl rfl rfl rfl)
      have M2 := Lib.hid (fun W v (hB : w.heap.size ≤ W.heap.size) (h : W.ownsRow w.heap.size 5 1 v (16 + 12 * j + 4) ((hea l ++ rows H (l.take j) ++ le 4 kn).map eB)) => number_is v _ (hea l ++ rows H (l.take j) ++ le 4 kn ++ le 4 A) w.heap.size (16 + 12 * j + 4) (16 + 12 * j + 8) A 4 (A : Int) 4 W hB (.inl h) (by omega) (by omega) (by omega) rfl rfl rfl (by omega))
      have M3 := Lib.hid (fun W v (hB : w.heap.size ≤ W.heap.size) (h : W.ownsRow w.heap.size 5 1 v (16 + 12 * j + 8) ((hea l ++ rows H (l.take j) ++ le 4 kn ++ le 4 A).map eB)) => number_is v _ (hea l ++ rows H (l.take j) ++ le 4 kn ++ le 4 A ++ le 4 m) w.heap.size (16 + 12 * j + 8) (16 + 12 * (j + 1)) m 4 (m : Int) 4 W hB (.inl h) (by omega) (by omega) (by omega) rfl rfl rfl (by omega))
      have y0 := (hB.cell (p := ⟨bb, o + j * 2, none⟩) (by exact hbl)).trans x0
      have y1 := (hB.cell (p := ⟨bb, o + j * 2 + 1, none⟩) (by exact hbl)).trans x1
      have HX1 := Lib.hid x1
      have HBL := Lib.hid hbl
      have hsz1 := hB.size
      clear hcc x0 x1 hr hm hkn hk hst hle htt hu hrw hro ht hA hap hown
      go_wp2_with (first
        | (go_at_call 29; ((with_reducible refine (M1.out _ _ hB.size HOwn.out).mono ?_); rintro e w1 ⟨⟨a1, c1, rfl, o1⟩, b1, z1⟩; have B1 := hB.trans b1))
        | (go_at_call 29; ((with_reducible refine (M2.out _ _ B1.size o1).mono ?_); rintro e w2 ⟨⟨a2, c2, rfl, o2⟩, b2, z2⟩; have B2 := B1.trans b2; have y2 := (B2.cell (p := ⟨bb, o + j * 2 + 1, none⟩) (by exact HBL.out)).trans HX1.out; have hs2 := B2.size))
        | (go_at_call 29; ((with_reducible refine (M3.out _ _ B2.size o2).mono ?_); rintro e w3 ⟨⟨a3, c3, rfl, o3⟩, b3, z3⟩; have B3 := B2.trans b3; have y3 := (B3.cell (p := ⟨bb, o + j * 2 + 1, none⟩) (by exact HBL.out)).trans HX1.out; have hs3 := B3.size))
        | (go_at_call 28; ((with_reducible refine (HP.out _).mono ?_); rintro e w6 ⟨rfl, rfl⟩)))
      go_roundw
      case rel => exact ⟨j + 1, hlt, by go_num, by rw [HA1.out]; go_num, by rw [HAP.out]; exact o3, B3⟩
      case measure => simp [intOf]; omega
    · obtain rfl : j = n := by omega
      have hto : l.take j = l := List.take_of_length_le (by rw [HN.out]; exact Nat.le_refl _)
      rw [hto] at hown
      have HP := Lib.hid (fun W v (hB : w.heap.size ≤ W.heap.size) (h : W.ownsRow w.heap.size 5 1 v (16 + 12 * j) ((hea l ++ rows H l).map eB)) => pad_is v _ (frt l ++ body (l.take 0)) w.heap.size (16 + 12 * j) (H + tot (l.take 0)) W hB h (by omega) (by rw [List.take_zero, body, List.append_nil, frt, tab, HN.out, HH.out]) (by rw [List.take_zero, tot, ← HH.out]; rfl))
      have HOwn := Lib.hid hown
      have HBB := Lib.hid hB
      clear hown hto hB
      go_wp2_with (go_at_call 30; ((with_reducible refine (HP.out _ _ HBB.out.size HOwn.out).mono ?_); rintro e w1 ⟨⟨a1, c1, rfl, o1⟩, b1, z1⟩; have B1 := HBB.out.trans b1))
      have H6 := Lib.hid (And.intro o1 B1)
      clear o1 b1 z1 B1 HBB HOwn HP
      go_loopw [3, 6] (fun ov q wr => ∃ i : Nat, i ≤ j ∧ q = .int .i64 (i : Int) ∧ wr.ownsRow w.heap.size 5 1 ov (H + tot (l.take i)) ((frt l ++ body (l.take i)).map eB) ∧ Below w.heap.size w wr) (fun _ q _ => j - (intOf q).toNat)
      case atStart => exact ⟨0, Nat.zero_le _, rfl, H6.out.1, H6.out.2⟩
      case round =>
        clear H6
        obtain ⟨i, hi, rfl, hown, hB⟩ := hrel
        obtain ⟨oa, oc, rfl⟩ := owns_slice hown
        by_cases hlt2 : i < j
        · have hjl : i < l.length := by rw [HN.out]; exact hlt2
          obtain ⟨bb, o, rfl, hbl, hcc⟩ := HC.out (by omega)
          obtain ⟨x0, dv, x1, hr⟩ := hcc i hjl
          obtain ⟨m, hm⟩ : ∃ m, l[i].2.length = m := ⟨_, rfl⟩
          have hml := HM.out _ (List.getElem_mem hjl)
          rw [hm] at hml
          have hst := tot_step l i hjl
          have hle := tot_le l (i + 1)
          have htt := HT.out
          rw [hm] at hst
          have hbs := body_snoc l i hjl
          rw [hm] at hbs
          have hrb := hr.below hB
          obtain ⟨da, dc, rfl, -⟩ := hr.form hm
          have y0 := (hB.cell (p := ⟨bb, o + i * 2, none⟩) (by exact hbl)).trans x0
          have y1 := (hB.cell (p := ⟨bb, o + i * 2 + 1, none⟩) (by exact hbl)).trans x1
          obtain ⟨t, ht⟩ : ∃ t, tot (l.take i) = t := ⟨_, rfl⟩
          rw [ht] at hst hown ⊢
          have hH8 : H % 8 = 0 := by rw [← HH.out]; unfold hd up; omega
          have ht8 : t % 8 = 0 := by rw [← ht]; exact tot_8 _
          have hup : H + tot (l.take (i + 1)) = up (H + t + m) := by
            rw [hst]; unfold up; omega
          have hzs : zs (H + t + m) = zs m := by
            unfold zs
            congr 1
            unfold up; omega
          have hbd : H + t + m ≤ 20000000 := by omega
          have hap : frt l ++ body (l.take (i + 1)) = frt l ++ body (l.take i) ++ l[i].2 ++ zs (H + t + m) := by
            rw [hbs, hzs]; simp only [List.append_assoc]
          have HR := Lib.hid hrb
          have HM2 := Lib.hid hm
          have HP := Lib.hid (fun W v (hB : w.heap.size ≤ W.heap.size) (h : W.ownsRow w.heap.size 5 1 v (H + t + m) ((frt l ++ body (l.take i)).map eB ++ l[i].2.map eB)) => pad_is v _ (frt l ++ body (l.take (i + 1))) w.heap.size (H + t + m) (H + tot (l.take (i + 1))) W hB (by rw [← List.map_append] at h; exact h) (by omega) hap hup)
          have hsz1 := hB.size
          obtain ⟨N, hNN⟩ : ∃ N, H + t = N := ⟨_, rfl⟩
          have hNb : N ≤ 20000000 := by omega
          rw [hNN] at hown HP ⊢
          generalize l[i].1 = kk at y0
          obtain ⟨D, hD⟩ : ∃ D, l[i].2 = D := ⟨_, rfl⟩
          rw [hD] at HR HP HM2
          clear hcc x0 x1 hr hm hst hle htt hbs hrb hup hzs hap hD hH8 ht8
          go_wp2_with (first
            | (at_builtin; refine wpList_append_rw rfl _ _ rfl w.heap.size _ _ _ rfl hown _ D rfl HR.out (by have := HM2.out; omega) hB.size ?_; intro v' w5 hown6 hgrow6; rw [HM2.out] at hown6; have B2 := hB.grown hgrow6 hB.size (own_base hown); obtain ⟨na, nc, hvs⟩ := owns_slice hown6; subst hvs)
            | (go_at_call 30; ((with_reducible refine (HP.out _ _ B2.size hown6).mono ?_); rintro e w1 ⟨⟨a1, c1, rfl, o1⟩, b1, z1⟩; have B3 := B2.trans b1)))
          go_roundw
          case rel => exact ⟨i + 1, hlt2, by go_num, o1, B3⟩
          case measure => simp [intOf]; omega
        · obtain rfl : i = j := by omega
          have hto : l.take i = l := List.take_of_length_le (by rw [HN.out]; exact Nat.le_refl _)
          rw [hto, ← HS2.out] at hown
          rw [hto, ← HS2.out]
          have HO := Lib.hid hown
          clear hown hto
          go_wp2
          go_ret
          exact ⟨⟨_, _, rfl, HO.out⟩, hB, hB.size⟩
end Go.Proofs.Ytdamijicombmkaa.L15
