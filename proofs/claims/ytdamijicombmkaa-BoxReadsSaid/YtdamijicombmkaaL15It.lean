/- The parts of a container: what their iterator hands to a loop's body. Condition: memory holds the sections, which are no more than 16 of no more than 1000000 bytes each, with ascending kinds. -/
import Derived.Test.YtdamijicombmkaaL15Fr
namespace Go.Proofs.Ytdamijicombmkaa.L15
open Go.RowKit Go.Shelf L14
attribute [local go_sem] Oper.semAt_some

/-- The parts, in their order. -/
def dps (l : List Sc) : List (List UInt8) := l.flatMap fun s => [s.2, zs s.2.length]
def prt (l : List Sc) : List (List UInt8) := frt l :: dps l
theorem dps_snoc (l : List Sc) (k : Nat) (h : k < l.length) : dps (l.take (k + 1)) = dps (l.take k) ++ [l[k].2, zs l[k].2.length] := by
  unfold dps
  rw [take_snoc l k h]
  simp only [List.flatMap_append, List.flatMap_cons, List.flatMap_nil, List.append_nil]
theorem dps_pre (l : List Sc) (k : Nat) : dps (l.take k) <+: dps l := by
  refine ⟨dps (l.drop k), ?_⟩
  unfold dps
  rw [← List.flatMap_append, List.take_append_drop]
theorem dps_body : ∀ l : List Sc, (dps l).flatten = body l
  | [] => rfl
  | s :: r => by
    have := dps_body r
    unfold dps at this ⊢
    rw [List.flatMap_cons, body, ← this]
    simp [List.append_assoc]
theorem prt_wr (l : List Sc) : (prt l).flatten = wr l := by
  unfold prt wr
  rw [List.flatten_cons, dps_body]
/-- A part as it is handed over: the slice and its bytes. -/
abbrev Pa := Value × List UInt8
abbrev byt (xs : List Pa) : List (List UInt8) := xs.map (·.2)
def RelP (x : Pa) (W : World) : Prop := Rw eB W x.1 x.2
theorem rw_grown {A B : World} {row : Option Nat} {v : Value} {d : List UInt8} (h : Rw eB A v d) (hg : A.grownBy B row) (hr : ∀ r, row = some r → ∃ o : Obj, A.heap[r]? = some o ∧ o.isCells = false) : Rw eB B v d := by
  obtain ⟨a, c, hv, h1, h2, h3⟩ := h
  refine ⟨a, c, hv, h1, h2, fun hp => ?_⟩
  obtain ⟨b, o, e, hb, hc⟩ := h3 hp
  refine ⟨b, o, e, Nat.lt_of_lt_of_le hb hg.size, fun j hj => ?_⟩
  have hcj := hc j hj
  rw [← hcj]
  have hbl : B.heap[b]? = A.heap[b]? := by
    refine hg.block b hb fun e => ?_
    obtain ⟨o', ho, hf⟩ := hr b e.symm
    unfold World.cell? at hcj
    rw [ho] at hcj
    cases o' <;> simp_all [Obj.isCells]
  unfold World.cell?
  simp only [hbl]
theorem relP_own (d : Nat) : OwnFrom d RelP := fun _ _ _ _ h hg hr => rw_grown h hg fun r e => (hr r e).2

/-- What a round keeps: what lay below n, the boxes of slices of sections, and the arrays of eight bytes. -/
structure KP (n : Nat) (A B : World) : Prop where
  b : Below n A B
  s : ∀ (k : Nat) (cs : Array Value) (fr : Nat × Nat), A.heap[k]? = some (Obj.cells cs 29 fr) → B.heap[k]? = some (Obj.cells cs 29 fr)
  z : ∀ (k : Nat) (cs : Array Value) (fr : Nat × Nat), A.heap[k]? = some (Obj.cells cs 63 fr) → B.heap[k]? = some (Obj.cells cs 63 fr)
theorem KP.t {n : Nat} {A B C : World} (h : KP n A B) (k : KP n B C) : KP n A C := ⟨h.b.trans k.b, fun j cs fr x => k.s j cs fr (h.s j cs fr x), fun j cs fr x => k.z j cs fr (h.z j cs fr x)⟩
theorem KP.p {n : Nat} {w : World} (hn : n ≤ w.heap.size) (W : World) (l : Nat) (o o' : Obj) (hl : w.heap.size ≤ l) (h : W.heap[l]? = some o) (ho : o.isCells = false) (hw : o.isWalk = false) : KP n W (W.putObj l o') := by
  refine ⟨belowK_b hn W l o o' hl h ho hw, fun k cs fr x => ?_, fun k cs fr x => ?_⟩
  all_goals
    rw [World.putObj_heap_other ?_]
    · exact x
    · rintro rfl
      rw [h] at x
      cases x
      cases ho
theorem KP.refl (n : Nat) (A : World) : KP n A A := ⟨Below.refl _ _, fun _ _ _ x => x, fun _ _ _ x => x⟩

theorem parts_fn (v : Value) (a : Option Addr) (n c : Nat) (hv : v = .slice a n c) (w : World) : Calls Try.prog 25 #[v] w fun e w' => e = .returned (.func (.func 35) #[] #[.pointer (some ⟨w.heap.size, 0, none⟩)]) ∧ w' = w.alloc (.cells #[v] 29) := by
  subst hv
  have hmf : (Instr.makeFunc (.func 35) #[] #[.pointer (some ⟨w.heap.size, 0, none⟩)]).run Try.prog (w.alloc (.cells #[.slice a n c] 29)) = .ok (.func (.func 35) #[] #[.pointer (some ⟨w.heap.size, 0, none⟩)]) (w.alloc (.cells #[.slice a n c] 29)) := by rfl
  go_enter Try.func25, Try.ntmps25
  go_wp2
  go_ret
  exact ⟨rfl, rfl⟩

/-- Of an array of eight zero bytes at block g the first k. -/
theorem rw_zeros {W : World} {g k m : Nat} {cs : Array Value} {t : TypeId} {fr : Nat × Nat} (h : W.heap[g]? = some (.cells cs t fr)) (hcs : ∀ j, j < 8 → cs[j]? = some (.int .u8 0)) (hm : up m - m = k) : Rw eB W (.slice (some ⟨g, 0, none⟩) k 8) (zs m) := by
  have hk : k ≤ 7 := by have := up_le m; omega
  refine ⟨_, _, by rw [zs_len, hm], by rw [zs_len, hm]; omega, fun e => (by cases e), fun _ => ⟨g, 0, rfl, lt_of_block h, fun j hj => ?_⟩⟩
  rw [zs_len, hm] at hj
  have e : eB (zs m)[j] = .int .u8 0 := by simp [zs, eB]
  rw [Nat.zero_add, e]
  unfold World.cell?
  simp only [h]
  exact hcs j (by omega)
theorem Ss.form' {w : World} {a : Option Addr} {n c : Nat} {l : List Sc} (h : Ss w (.slice a n c) l) (hn : l.length = n) : l.length = n ∧ n ≤ c ∧ (a = none → c = 0) ∧ (0 < n → ∃ b o, a = some ⟨b, o, none⟩ ∧ b < w.heap.size ∧ ∀ j, (h : j < l.length) → w.cell? ⟨b, o + j * 2, none⟩ = some (.int .i64 l[j].1) ∧ ∃ dv, w.cell? ⟨b, o + j * 2 + 1, none⟩ = some dv ∧ Rw eB w dv l[j].2) := by
  obtain ⟨a', c', e, h1, h2, h3⟩ := h.form hn
  cases e
  exact ⟨hn, h1, h2, h3⟩
set_option maxRecDepth 100000 in
set_option maxHeartbeats 4000000 in
theorem parts_in (n : Nat) (hn : 2 ≤ n) (lp Bn n₀ : Nat) (a : Option Addr) (N c : Nat) (l : List Sc) (hN : l.length = N) (hs : Fw l) (hk : asc 0 l = true) (J X : List Pa → World → Prop) (W : World) (hJ : AbidesFrom W.heap.size J)
    (hY : ∀ pre x A, J pre A → RelP x A → byt (pre ++ [x]) <+: prt l → YieldAt Fence.wide (n - 1) Try.prog lp #[x.1] A fun e B => (e = .returned (.bool true) ∧ J (pre ++ [x]) B ∧ KP n₀ A B) ∨ (e = .returned (.bool false) ∧ X (pre ++ [x]) B))
    (hBn : Boxed W Bn 29 (.slice a N c)) (hn₀ : n₀ ≤ W.heap.size) (hd : ∀ A, Below n₀ W A → Ss A (.slice a N c) l) (h0 : J [] W) :
    CallsIn Fence.wide n Try.prog 35 #[.func (.yield lp) #[] #[], .pointer (some ⟨Bn, 0, none⟩)] W fun e B => (∃ v, e = .returned v) ∧ ((∃ xs, byt xs = prt l ∧ J xs B) ∨ ∃ pre, byt pre <+: prt l ∧ X pre B) := by
  have hNl := hs.n
  rw [hN] at hNl
  obtain ⟨H, hH⟩ : ∃ H, L15.hd l.length = H := ⟨_, rfl⟩
  have HF := Lib.hid (callsIn_wide (n := n - 1).2 (front_at (.slice a N c) l H W (hd W (Below.refl _ _)) hs hk hH))
  have HD := Lib.hid hd
  have HY := Lib.hid hY
  have HJ := Lib.hid hJ
  have HM := Lib.hid hs.d
  have HN := Lib.hid hN
  have h0' := Lib.hid h0
  have hc0 := hBn.cell
  have HB := Lib.hid hBn
  have h1n : 1 ≤ n := by omega
  clear hd hY hJ hs hN hk hH h0
  refine callsIn_of_wp Try.func35 rfl trivial ?_ rfl
  simp only [Try.ntmps35, List.size_toArray, List.length_cons, List.length_nil, Nat.reduceAdd, Nat.reduceSub, Array.replicate_succ, Array.replicate_zero, List.push_toArray, List.append_toArray, List.nil_append, List.cons_append]
  gi_wp2_with (refine ⟨trivial, ?_⟩; gi_at_call 36; ((with_reducible refine (HF.out).mono ?_); rintro e w1 ⟨⟨g, rfl, r1⟩, b1⟩; obtain ⟨fn, tmps, assign, body, hy, hYR⟩ := HY.out [] (.slice (some ⟨g, 0, none⟩) H H, frt l) w1 (HJ.out [] W w1 none h0'.out (grown_of_below b1) (fun r e => by cases e)) r1 ⟨dps l, rfl⟩))
  refine hYR.mono ?_
  rintro e W3 (⟨rfl, hJ3, hk3⟩ | ⟨rfl, hX3⟩)
  case inr =>
    have HX := Lib.hid hX3
    clear hy hYR HF hX3
    gi_wp2
    refine bodyPost_ret (results_none rfl _ _ _) rfl ?_
    exact ⟨⟨_, rfl⟩, .inr ⟨_, ⟨dps l, rfl⟩, HX.out⟩⟩
  have hbx3 : Boxed W3 Bn 29 (.slice a N c) := hk3.s Bn _ _ (L14.Boxed.below HB.out b1)
  have hB3 := (b1.mono hn₀).trans hk3.b
  have hz3 : W.heap.size ≤ W3.heap.size := Nat.le_trans b1.size hk3.b.size
  have HJ3 := Lib.hid hJ3
  have c3 := hbx3.cell
  have HBX3 := Lib.hid hbx3
  have HB3 := Lib.hid hB3
  have HZ3 := Lib.hid hz3
  have hl3 : Bn < W3.heap.size := lt_of_block hbx3
  clear hy hYR HF hJ3 hk3 hbx3 b1 r1 hc0 hB3 hz3
  gi_wp2
  have hz0 : (W3.alloc (.cells #[.int .u8 0, .int .u8 0, .int .u8 0, .int .u8 0, .int .u8 0, .int .u8 0, .int .u8 0, .int .u8 0] 63)).heap[W3.heap.size]? = some (.cells #[.int .u8 0, .int .u8 0, .int .u8 0, .int .u8 0, .int .u8 0, .int .u8 0, .int .u8 0, .int .u8 0] 63 (0, 0)) := heap_alloc_new W3 _
  have bz := bnew W3 (.cells #[.int .u8 0, .int .u8 0, .int .u8 0, .int .u8 0, .int .u8 0, .int .u8 0, .int .u8 0, .int .u8 0] 63)
  have H5 := Lib.hid (show byt [((.slice (some ⟨g, 0, none⟩) H H, frt l) : Pa)] = frt l :: dps (l.take 0) ∧ J [(.slice (some ⟨g, 0, none⟩) H H, frt l)] (W3.alloc (.cells #[.int .u8 0, .int .u8 0, .int .u8 0, .int .u8 0, .int .u8 0, .int .u8 0, .int .u8 0, .int .u8 0] 63)) ∧ (W3.alloc (.cells #[.int .u8 0, .int .u8 0, .int .u8 0, .int .u8 0, .int .u8 0, .int .u8 0, .int .u8 0, .int .u8 0] 63)).heap[W3.heap.size]? = some (Obj.cells #[.int .u8 0, .int .u8 0, .int .u8 0, .int .u8 0, .int .u8 0, .int .u8 0, .int .u8 0, .int .u8 0] 63 (0, 0)) ∧ Below n₀ W (W3.alloc (.cells #[.int .u8 0, .int .u8 0, .int .u8 0, .int .u8 0, .int .u8 0, .int .u8 0, .int .u8 0, .int .u8 0] 63)) ∧ W.heap.size ≤ (W3.alloc (.cells #[.int .u8 0, .int .u8 0, .int .u8 0, .int .u8 0, .int .u8 0, .int .u8 0, .int .u8 0, .int .u8 0] 63)).heap.size from
    ⟨by simp [byt, dps], HJ.out _ _ _ none HJ3.out (grown_of_below bz) (fun r e => by cases e), hz0, HB3.out.trans (bz.mono (Nat.le_trans hn₀ HZ3.out)), Nat.le_trans HZ3.out (by simp)⟩)
  obtain ⟨Z, hZ⟩ : ∃ Z, W3.heap.size = Z := ⟨_, rfl⟩
  rw [hZ] at H5 ⊢
  obtain ⟨W4, hW4⟩ : ∃ W4, W3.alloc (.cells #[.int .u8 0, .int .u8 0, .int .u8 0, .int .u8 0, .int .u8 0, .int .u8 0, .int .u8 0, .int .u8 0] 63) = W4 := ⟨_, rfl⟩
  simp only [hW4] at H5 ⊢
  clear hZ hW4 hz0 bz c3 hl3 HJ3 HBX3 HB3 HZ3
  gi_loopw [5, 6, 14] (fun _ _ q wr => ∃ (j : Nat) (pre : List Pa), j ≤ N ∧ q = .int .i64 (j : Int) ∧ Hid (byt pre = frt l :: dps (l.take j) ∧ J pre wr ∧ wr.heap[Z]? = some (Obj.cells #[.int .u8 0, .int .u8 0, .int .u8 0, .int .u8 0, .int .u8 0, .int .u8 0, .int .u8 0, .int .u8 0] 63 (0, 0)) ∧ Below n₀ W wr ∧ W.heap.size ≤ wr.heap.size)) (fun _ _ q _ => N - (intOf q).toNat)
  case atStart => exact ⟨0, _, Nat.zero_le _, rfl, H5⟩
  case round =>
    clear H5
    obtain ⟨j, pre, hj, rfl, hI⟩ := hrel
    obtain ⟨hpre, hJr, hzr, hBr, hsr⟩ := hI.out
    by_cases hlt : j < N
    · have hjl : j < l.length := by rw [HN.out]; exact hlt
      obtain ⟨-, h1, h2, h3⟩ := (HD.out wr hBr).form' HN.out
      obtain ⟨bb, o, rfl, hbl, hcc⟩ := h3 (by omega)
      obtain ⟨y0, dv, y1, hr⟩ := hcc j hjl
      obtain ⟨m, hm⟩ : ∃ m, l[j].2.length = m := ⟨_, rfl⟩
      obtain ⟨da, dc, rfl, -⟩ := hr.form hm
      have hml := HM.out _ (List.getElem_mem hjl)
      rw [hm] at hml
      obtain ⟨kk, hkk⟩ : ∃ kk, l[j].1 = kk := ⟨_, rfl⟩
      rw [hkk] at y0
      have bn := bnew wr (.cells #[.int .i64 kk, .slice da m dc] 50)
      have hds := dps_snoc l j hjl
      rw [hm] at hds
      have hpl := dps_pre l (j + 1)
      obtain ⟨D, hD⟩ : ∃ D, l[j].2 = D := ⟨_, rfl⟩
      rw [hD] at hr hds
      obtain ⟨u, hu⟩ : ∃ u, up m = u := ⟨_, rfl⟩
      have hu1 := up_ge m
      have hu2 := up_le m
      rw [hu] at hu1 hu2
      have HPd := Lib.hid (fun W => callsIn_wide (n := n - 1).2 (padded_at m u W (by omega) hu))
      have hp1 : byt (pre ++ [((.slice da m dc, D) : Pa)]) <+: prt l := by
        obtain ⟨r, hr'⟩ := hpl
        refine ⟨zs m :: r, ?_⟩
        unfold byt at hpre ⊢
        rw [List.map_append, hpre, prt, ← hr', hds]
        simp
      have hp2 : ∀ v2, byt (pre ++ [((.slice da m dc, D) : Pa)] ++ [((v2, zs m) : Pa)]) <+: prt l := fun v2 => by
        obtain ⟨r, hr'⟩ := hpl
        refine ⟨r, ?_⟩
        unfold byt at hpre ⊢
        rw [List.map_append, List.map_append, hpre, prt, ← hr', hds]
        simp
      have hp3 : ∀ v2, byt (pre ++ [((.slice da m dc, D) : Pa)] ++ [((v2, zs m) : Pa)]) = frt l :: dps (l.take (j + 1)) := fun v2 => by
        unfold byt at hpre ⊢
        rw [List.map_append, List.map_append, hpre, hds]
        simp
      obtain ⟨fn, tmps, assign, body, hy, hYR⟩ := HY.out pre (.slice da m dc, D) _ (HJ.out pre wr (wr.alloc (.cells #[.int .i64 kk, .slice da m dc] 50)) none hJr (grown_of_below bn) (fun r e => by cases e)) (hr.below bn) hp1
      have HP1 := Lib.hid hp1
      have HP2 := Lib.hid hp2
      have HP3 := Lib.hid hp3
      have HZr := Lib.hid ((bn.block _ (lt_of_block hzr)).trans hzr)
      have HBr := Lib.hid (hBr.trans (bn.mono (Nat.le_trans hn₀ hsr)))
      have HSr := Lib.hid hsr
      have HU := Lib.hid hu
      clear hcc hr hm hkk hds hpl hD hp1 hp2 hp3 bn hpre hJr hzr hBr hI h1 h2 h3 hu
      gi_wp2
      refine hYR.mono ?_
      rintro e W5 (⟨rfl, hJ5, hk5⟩ | ⟨rfl, hX5⟩)
      case inr =>
        have HX := Lib.hid hX5
        clear hy hYR hX5
        gi_wp2
        refine ⟨trivial, ?_⟩
        gi_wp2
        refine ⟨fun f h => (by cases h), ?_⟩
        gi_wp2
        refine bodyPost_ret (results_none rfl _ _ _) rfl ?_
        exact ⟨⟨_, rfl⟩, .inr ⟨_, HP1.out, HX.out⟩⟩
      have hz5 := hk5.z _ _ _ HZr.out
      have HB5 := Lib.hid (HBr.out.trans hk5.b)
      have hs5 : W.heap.size ≤ W5.heap.size := Nat.le_trans HSr.out (Nat.le_trans (by simp) hk5.b.size)
      have hzr5 : Rw eB W5 (.slice (some ⟨Z, 0, none⟩) (u - m) 8) (zs m) := rw_zeros hz5 (by
        intro i hi
        match i, hi with
        | 0, _ => rfl
        | 1, _ => rfl
        | 2, _ => rfl
        | 3, _ => rfl
        | 4, _ => rfl
        | 5, _ => rfl
        | 6, _ => rfl
        | 7, _ => rfl) (by rw [HU.out])
      clear hy hYR
      obtain ⟨fn, tmps, assign, body, hy, hYR⟩ := HY.out _ (.slice (some ⟨Z, 0, none⟩) (u - m) 8, zs m) W5 hJ5 hzr5 (HP2.out _)
      have hsl : ∀ A, (Instr.sliceAt 63 (.pointer (some ⟨Z, 0, none⟩)) none (some (.int .i64 ((u : Int) - (m : Int)))) none).run Try.prog A = .ok (.slice (some ⟨Z, 0, none⟩) (u - m) 8) A := fun A => by
        have hal : Try.prog.arrayLen 63 = 8 := by kernel_rfl
        have hsz : ∀ w, (Go.sizeOf (Try.prog.elem 63)).run Try.prog w = .ok 1 w := fun w => by kernel_rfl
        rw [run_sliceAt_array_h A 63 ⟨Z, 0, none⟩ Try.underlying63 .i64 ((u : Int) - (m : Int)) (by omega) (by rw [hal]; omega), hsz]
        simp only [Result.andThen, slicedAt, hal]
        have e1 : ((u : Int) - (m : Int)).toNat = u - m := by omega
        simp [e1, Addr.add]
      have HS5 := Lib.hid hs5
      have HZ5 := Lib.hid hz5
      have hwr : IntKind.i64.wrap ((u : Int) - (m : Int)) = (u : Int) - (m : Int) := by rw [IntKind.wrap_i64]; omega
      clear hJ5 hk5 hz5 hs5 hzr5
      gi_wp2_with (refine ⟨trivial, ?_⟩; gi_at_call 27; ((with_reducible refine (HPd.out _).mono ?_); rintro e w6 ⟨rfl, rfl⟩))
      refine hYR.mono ?_
      rintro e W7 (⟨rfl, hJ7, hk7⟩ | ⟨rfl, hX7⟩)
      case inr =>
        have HX := Lib.hid hX7
        clear hy hYR hX7 hsl
        gi_wp2
        refine bodyPost_ret (results_none rfl _ _ _) rfl ?_
        exact ⟨⟨_, rfl⟩, .inr ⟨_, HP2.out _, HX.out⟩⟩
      have H7 := Lib.hid (show byt _ = frt l :: dps (l.take (j + 1)) ∧ J _ W7 ∧ W7.heap[Z]? = some (Obj.cells #[.int .u8 0, .int .u8 0, .int .u8 0, .int .u8 0, .int .u8 0, .int .u8 0, .int .u8 0, .int .u8 0] 63 (0, 0)) ∧ Below n₀ W W7 ∧ W.heap.size ≤ W7.heap.size from
        ⟨HP3.out (.slice (some ⟨Z, 0, none⟩) (u - m) 8), hJ7, hk7.z _ _ _ HZ5.out, HB5.out.trans hk7.b, Nat.le_trans HS5.out hk7.b.size⟩)
      clear hy hYR hsl hJ7 hk7
      gi_wp2
      go_roundw
      case rel => exact ⟨j + 1, _, hlt, by go_num, H7⟩
      case measure => simp [intOf]; omega
    · obtain rfl : j = N := by omega
      have hto : l.take j = l := List.take_of_length_le (by rw [HN.out]; exact Nat.le_refl _)
      rw [hto] at hpre
      have HE := Lib.hid (And.intro hpre hJr)
      clear hto hpre hJr hzr hBr hsr hI
      gi_wp2
      go_end0
      exact ⟨⟨_, rfl⟩, .inl ⟨_, HE.out.1, HE.out.2⟩⟩

theorem tells_at (n : Nat) (hn : 2 ≤ n) (Bn n₀ : Nat) (a : Option Addr) (N c : Nat) (l : List Sc) (hN : l.length = N) (hs : Fw l) (hk : asc 0 l = true) (w : World) (hn₀ : n₀ ≤ w.heap.size) (hBn : Boxed w Bn 29 (.slice a N c)) (hv : ∀ A, Below n₀ w A → Ss A (.slice a N c) l) :
    Told Fence.wide n Try.prog 35 #[.pointer (some ⟨Bn, 0, none⟩)] (fun x : Pa => #[x.1]) RelP (KP n₀) (fun xs => byt xs = prt l) (fun pre => byt pre <+: prt l) w := fun lp J X W hW hJ _ hj hY =>
  parts_in n hn lp Bn n₀ a N c l hN hs hk J X W hJ hY (L14.Boxed.below hBn hW) (Nat.le_trans hn₀ hW.size) (fun A hA => hv A ((hW.mono hn₀).trans hA)) hj
end Go.Proofs.Ytdamijicombmkaa.L15
