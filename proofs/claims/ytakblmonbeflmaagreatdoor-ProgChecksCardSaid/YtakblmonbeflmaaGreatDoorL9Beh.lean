/- What the program's behindLabels returns: the declaration or the instruction that a line's other tokens are. Condition: memory holds the tokens, and the tables read as the program's text lays them. -/
import Derived.Test.YtakblmonbeflmaaGreatDoorL9Run
import Derived.Test.YtakblmonbeflmaaGreatDoorL9Dcl
import Derived.Test.YtakblmonbeflmaaGreatDoorL9Lab
import Derived.Deep.RegionWith
namespace Go.Proofs.YtakblmonbeflmaaGreatDoor.L9
open Go.RowKit
attribute [local go_sem] Oper.semAt_some

theorem inst_at (t : ByteArray) (b o n cap : Nat) (xs : L8.Tks) (w : World) (hT : Tab w) (hs : t.size ≤ maxLen) (hb : b < w.heap.size) (hc : L8.Tksat w b o xs) (hn : xs.length = n) (hcp : n ≤ cap) (hm : n ≤ 100000) (hz : ∀ t ∈ txs xs, t.size ≤ 100000) (hxt : ∀ t ∈ L8.txt xs, L8.TokT t) (c : Cod) (er : Int) (h : inV t (txs xs) = (c, er)) :
    Calls Tryz.prog 112 #[.string t, .slice (some ⟨b, o, none⟩) n cap] w fun e w' => e = .returned (.tuple #[.agg (codA c.x c.tg c.mp), .int .i64 er]) ∧ Below w.heap.size w w' := by
  unfold inV at h
  by_cases h1 : fiV t < 0
  · rw [if_pos h1] at h
    cases h
    exact inst_no t _ w hs h1
  rw [if_neg h1] at h
  cases hk : (shV (L3.frm (L3.ix (fiV t)))).any (fun x => decide (x = shpB (txs xs)))
  · rw [if_pos hk] at h
    cases h
    exact inst_bad t b o n cap xs w hs hb hc hn hcp hm hz hxt h1 hk
  · rw [if_neg (by rw [hk]; simp)] at h
    obtain ⟨k, hk86, e, f1, f2, hf⟩ := kin_f h1
    have ht : ∀ t ∈ txs xs, L8.TokT t.data.toList := fun t h => hxt _ (by unfold L8.txt; unfold txs at h; rw [List.mem_map] at h ⊢; obtain ⟨x, hx, rfl⟩ := h; exact ⟨x, hx, rfl⟩)
    have hmem : shpB (txs xs) ∈ shV (L3.frm (L3.ix (fiV t))) := by
      rw [List.any_eq_true] at hk
      obtain ⟨x, hx, hx2⟩ := hk
      rw [← (by simpa using hx2 : x = shpB (txs xs))]; exact hx
    have hO := ops_of hf ht hmem
    exact inst_run t b o n cap xs w hT hs hb hc hn hcp hm hz hxt h1 hk (runs_ops (op := fiV t) hO).1 c er h

/-- What stands behind the labels, as an item. -/
def itB (t : ByteArray) (q : List ByteArray) : Value × Int :=
  if t = mapT then (.iface 103 (.agg (dfA (dcV q).1)), (dcV q).2)
  else (.iface 106 (.agg (codA (inV t q).1.x (inV t q).1.tg (inV t q).1.mp)), (inV t q).2)
theorem one_shape {x : ByteArray × Int} (hx : L8.TokT x.1.data.toList) : ((L8.shB [x]).toList == ([119] : List UInt8)) = wdB x.1 := by
  have e : (L8.shB [x]).toList = [L8.shl1 x.1.data.toList] := by rw [Lib.toList_data]; rfl
  rw [e]
  have h1 := L8.shl1_w hx
  show (L8.shl1 x.1.data.toList == 119 && true) = _
  rw [h1, Bool.and_true]; rfl
theorem sub_one (k o n cap : Nat) (h : 1 ≤ n) (hc : n ≤ cap) (w : World) :
    (Instr.slice 126 (.slice (some ⟨k, o, none⟩) n cap) none (some (.int .i64 1)) none).run Tryz.prog w = .ok (.slice (some ⟨k, o, none⟩) 1 cap) w := by
  have h3 : ¬ cap = 0 := by omega
  simp [go_sem, Tryz.underlying126, h3]
  intro hh; omega
set_option maxHeartbeats 2000000 in
set_option maxRecDepth 100000 in
theorem behind_no (b o n cap : Nat) (x : ByteArray × Int) (r : L8.Tks) (hn : r.length + 1 = n) (hcp : n ≤ cap) (w : World) (hb : b < w.heap.size) (hc : L8.Tksat w b o (x :: r)) (hx : L8.TokT x.1.data.toList) (hw : wdB x.1 = false) :
    Calls Tryz.prog 89 #[.slice (some ⟨b, o, none⟩) n cap] w fun e w' => e = .returned (.tuple #[.nilIface, .int .i64 2]) ∧ Below w.heap.size w w' := by
  have hsub := sub_one b o n cap (by omega) hcp
  have HSH0 := L8.shape8 [x] (.slice (some ⟨b, o, none⟩) 1 cap) w (by simp) (fun t ht => by simp only [L8.txt, List.map_cons, List.map_nil, List.mem_cons, List.not_mem_nil, or_false] at ht; rw [ht]; exact hx) (.inl ⟨b, o, cap, rfl, by simp; omega, hb, fun j hj => by match j, hj with | 0, _ => (have := hc 0 (by simp); simpa using this)⟩)
  obtain ⟨S, hS⟩ : ∃ S, L8.shB [x] = S := ⟨_, rfl⟩
  have t1 := one_shape hx
  rw [hS, hw] at t1
  rw [hS] at HSH0
  have HSH := Lib.hid HSH0
  clear HSH0 hS hc hn hx hw
  go_enter Tryz.func89, Tryz.ntmps89
  go_wp2_with (go_at_call 109; ((with_reducible refine (HSH.out).mono ?_); rintro e w1 ⟨rfl, b1⟩))
  go_ret2
  exact ⟨rfl, b1⟩
set_option maxHeartbeats 4000000 in
set_option maxRecDepth 100000 in
theorem behind_yes (b o n cap : Nat) (x : ByteArray × Int) (r : L8.Tks) (hn : r.length + 1 = n) (hm : n ≤ 100000) (hcp : n ≤ cap) (w : World) (hT : Tab w) (hb : b < w.heap.size) (hc : L8.Tksat w b o (x :: r)) (hz : ∀ t ∈ txs (x :: r), t.size ≤ 100000) (hxt : ∀ t ∈ L8.txt (x :: r), L8.TokT t) (hw : wdB x.1 = true) (v : Value) (er : Int) (hR : itB x.1 (txs r) = (v, er)) :
    Calls Tryz.prog 89 #[.slice (some ⟨b, o, none⟩) n cap] w fun e w' => e = .returned (.tuple #[v, .int .i64 er]) ∧ Below w.heap.size w w' := by
  have tk0 := tok_head hxt
  have h2 := hT.lt
  obtain ⟨T, hTe⟩ : ∃ T, x.1 = T := ⟨_, rfl⟩
  have hsub := sub_one b o n cap (by omega) hcp
  have hsl : ∀ W, (Instr.slice 126 (.slice (some ⟨b, o, none⟩) n cap) (some (.int .i64 1)) none none).run Tryz.prog W = .ok (.slice (some ⟨b, if cap = 1 then o else o + 1 * 2, none⟩) (n - 1) (cap - 1)) W := sub_from b o n cap 1 (by omega) hcp
  obtain ⟨o2, ho2⟩ : ∃ o2, (if cap = 1 then o else o + 1 * 2) = o2 := ⟨_, rfl⟩
  have hc2 : L8.Tksat w b o2 r := by rw [← ho2]; exact tks_from (a := 1) hc (by simpa using hn) hcp (by omega)
  rw [ho2] at hsl
  have c0 : w.cell? ⟨b, o, none⟩ = some (.string T) := by
    have := (hc 0 (by simp)).1
    rw [← hTe]; simpa using this
  have HSH0 := L8.shape8 [x] (.slice (some ⟨b, o, none⟩) 1 cap) w (by simp) (fun t ht => by simp only [L8.txt, List.map_cons, List.map_nil, List.mem_cons, List.not_mem_nil, or_false] at ht; rw [ht]; exact tk0.1) (.inl ⟨b, o, cap, rfl, by simp; omega, hb, fun j hj => by match j, hj with | 0, _ => (have := hc 0 (by simp); simpa using this)⟩)
  obtain ⟨S, hS⟩ : ∃ S, L8.shB [x] = S := ⟨_, rfl⟩
  have t1 := one_shape tk0.1
  rw [hS, hw] at t1
  rw [hS] at HSH0
  have HSH := Lib.hid HSH0
  have hTs : T.size ≤ maxLen := by have := hz x.1 (by simp [txs]); rw [hTe] at this; unfold maxLen; omega
  have hzr : ∀ t ∈ txs r, t.size ≤ 100000 := fun t ht => hz t (by unfold txs at ht ⊢; rw [List.map_cons]; exact List.mem_cons_of_mem _ ht)
  unfold itB at hR
  rw [hTe] at hR
  by_cases hM : T = mapT
  · rw [if_pos hM] at hR
    obtain ⟨d, hd⟩ : ∃ d, (dcV (txs r)).1 = d := ⟨_, rfl⟩
    rw [hd] at hR
    obtain ⟨rfl, he⟩ : v = .iface 103 (.agg (dfA d)) ∧ (dcV (txs r)).2 = er := by cases hR; exact ⟨rfl, rfl⟩
    have HD := Lib.hid (fun (W : World) (hB : Below w.heap.size w W) => decl_at b o2 (n - 1) (cap - 1) r (by omega) (by omega) tk0.2 W (hT.below hB h2) (Nat.lt_of_lt_of_le hb hB.size) (by omega) (hc2.below hb hB) d er (by rw [← hd, ← he]))
    have t2 : (T.toList == ([109, 97, 112] : List UInt8)) = true := eqb hM
    have hn0 : 0 < n := by omega
    clear HSH0 hS hc hn hw hR hd he hM hzr hz hxt tk0 hTe ho2 hc2 hT
    go_enter Tryz.func89, Tryz.ntmps89
    go_wp2_with (first | (go_at_call 109; ((with_reducible refine (HSH.out).mono ?_); rintro e w1 ⟨rfl, b1⟩; have c1 := (b1.cell (p := ⟨b, o, none⟩) hb).trans c0; clear c0)) | (go_at_call 111; ((with_reducible refine (HD.out _ b1).mono ?_); rintro e w2 ⟨rfl, b2⟩)))
    go_ret2
    exact ⟨rfl, L2.bch b1 b2⟩
  · rw [if_neg hM] at hR
    obtain ⟨c, hc'⟩ : ∃ c, (inV T (txs r)).1 = c := ⟨_, rfl⟩
    rw [hc'] at hR
    obtain ⟨rfl, he⟩ : v = .iface 106 (.agg (codA c.x c.tg c.mp)) ∧ (inV T (txs r)).2 = er := by cases hR; exact ⟨rfl, rfl⟩
    have HI := Lib.hid (fun (W : World) (hB : Below w.heap.size w W) => inst_at T b o2 (n - 1) (cap - 1) r W (hT.below hB h2) hTs (Nat.lt_of_lt_of_le hb hB.size) (hc2.below hb hB) (by omega) (by omega) (by omega) hzr tk0.2 c er (by rw [← hc', ← he]))
    have t2 : (T.toList == ([109, 97, 112] : List UInt8)) = false := beqt_ne hM
    have hn0 : 0 < n := by omega
    clear HSH0 hS hc hn hw hR hc' he hM hzr hz hxt tk0 hTe ho2 hc2 hT
    go_enter Tryz.func89, Tryz.ntmps89
    go_upto_region 5 with (go_at_call 109; ((with_reducible refine (HSH.out).mono ?_); rintro e w1 ⟨rfl, b1⟩; have c1 := (b1.cell (p := ⟨b, o, none⟩) hb).trans c0; clear c0))
    have hb1 : b < w1.heap.size := Nat.lt_of_lt_of_le hb b1.size
    go_region_with (go_at_call 112; ((with_reducible refine (HI.out _ b1.drew).mono ?_); rintro e w2 ⟨rfl, b2⟩))
    go_wp2
    go_ret2
    exact ⟨rfl, L2.bch b1.drew b2⟩
end Go.Proofs.YtakblmonbeflmaaGreatDoor.L9
