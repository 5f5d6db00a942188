/- What the law's differs returns where the items are those of the reference's result: 0. Condition: memory holds both. -/
import Derived.Test.YtjcaonbejhdhkaaDoorL9Itm
import Derived.Test.YtjcaonbejhdhkaaDoorL9Rla
import Derived.Deep.RegionWith
import Derived.BigRegion
import Derived.BigQuiet
namespace Go.Proofs.YtjcaonbejhdhkaaDoor.L9
open Go.RowKit
attribute [local go_sem] Oper.semAt_some

theorem en_iface (t : TypeId) (v : Value) (w : World) : (binOp .eql 43 (.iface t v) .nilIface).run Tryd.prog w = .ok (.bool false) w := by
  simp [go_sem]
theorem nq_def (a : ByteArray) (k v n : Int) (w : World) : (binOp .neq 29 (.agg #[.string a, .int .i64 k, .int .i64 v, .int .i64 n]) (.agg #[.string a, .int .i64 k, .int .i64 v, .int .i64 n])).run Tryd.prog w = .ok (.bool false) w := by
  simp [go_sem]
theorem nq_code (x : Ins) (tg mp : ByteArray) (w : World) : (binOp .neq 39 (.agg (codA x tg mp)) (.agg (codA x tg mp))).run Tryd.prog w = .ok (.bool false) w := by
  simp [go_sem]
theorem km_label (T : ByteArray) (w : World) : (method 185 73 (.agg #[.string T]) "Kind").run Tryd.prog w = .ok (144, .agg #[.string T]) w := by kernel_rfl
theorem kind_label (T : ByteArray) (w : World) : Calls Tryd.prog 144 #[.agg #[.string T]] w fun e w' => e = .returned (.int .i64 0) ∧ Below w.heap.size w w' := by
  have b0 := L8.bnew w (.cells #[.string T] 73)
  go_enter Tryd.func144, Tryd.ntmps144
  go_wp2
  go_ret
  exact ⟨rfl, b0⟩
theorem km_map (a : ByteArray) (k v n : Int) (w : World) : (method 185 76 (.agg #[.string a, .int .i64 k, .int .i64 v, .int .i64 n]) "Kind").run Tryd.prog w = .ok (145, .agg #[.string a, .int .i64 k, .int .i64 v, .int .i64 n]) w := by kernel_rfl
theorem km_code (x : Ins) (tg mp : ByteArray) (w : World) : (method 185 39 (.agg (codA x tg mp)) "Kind").run Tryd.prog w = .ok (143, .agg (codA x tg mp)) w := by kernel_rfl
theorem kind_map (a : ByteArray) (k v n : Int) (w : World) : Calls Tryd.prog 145 #[.agg #[.string a, .int .i64 k, .int .i64 v, .int .i64 n]] w fun e w' => e = .returned (.int .i64 1) ∧ Below w.heap.size w w' := by
  have b0 := L8.bnew w (.cells #[.string a, .int .i64 k, .int .i64 v, .int .i64 n] 76)
  go_enter Tryd.func145, Tryd.ntmps145
  go_wp2
  go_ret
  exact ⟨rfl, b0⟩
theorem kind_code (x : Ins) (tg mp : ByteArray) (w : World) : Calls Tryd.prog 143 #[.agg (codA x tg mp)] w fun e w' => e = .returned (.int .i64 2) ∧ Below w.heap.size w w' := by
  have b0 := L8.bnew w (.cells (codA x tg mp) 39)
  go_enter Tryd.func143, Tryd.ntmps143
  go_wp2
  go_ret
  exact ⟨rfl, b0⟩
theorem it_form {w : World} {v : Value} {l : List Value} {n : Nat} (hn : l.length = n) (h : ItAt w v l) : ∃ a c, v = .slice a n c ∧ (0 < n → ∃ b o, a = some ⟨b, o, none⟩ ∧ b < w.heap.size ∧ ∀ j, (h : j < l.length) → w.cell? ⟨b, o + j, none⟩ = some l[j]) := by
  subst hn
  rcases h with ⟨b, o, cap, rfl, hb, hc⟩ | ⟨rfl, a, cap, rfl⟩
  · exact ⟨_, _, rfl, fun _ => ⟨b, o, rfl, hb, hc⟩⟩
  · exact ⟨a, cap, rfl, fun h => absurd h (by simp)⟩
theorem st_form {w : World} {v : Value} {l : List ByteArray} {n : Nat} (hn : l.length = n) (h : L8.StAt w v l) : ∃ a c, v = .slice a n c ∧ (0 < n → ∃ b o, a = some ⟨b, o, none⟩ ∧ b < w.heap.size ∧ ∀ j, (h : j < l.length) → w.cell? ⟨b, o + j, none⟩ = some (.string l[j])) := by
  subst hn
  rcases h with ⟨b, o, cap, rfl, hb, hc⟩ | ⟨rfl, a, cap, rfl⟩
  · exact ⟨_, _, rfl, fun _ => ⟨b, o, rfl, hb, fun j hj => by have := hc j hj; simpa [List.getD, List.getElem?_eq_getElem hj] using this⟩⟩
  · exact ⟨a, cap, rfl, fun h => absurd h (by simp)⟩
theorem cell1 {w : World} {k : Nat} {a : Value} {t : TypeId} (h : w.heap[k]? = some (.cells #[a] t)) : w.cell? ⟨k, 0, none⟩ = some a := by simp [World.cell?, h]
theorem kinds_len (labs : List ByteArray) (r : Rs) (hk : r.kind = 0 ∨ r.kind = 1 ∨ r.kind = 2) : (itemsOf labs r).length = if r.kind = 0 then labs.length else labs.length + 1 := by
  unfold itemsOf
  rcases hk with h | h | h <;> simp [h]
theorem items_lab {labs : List ByteArray} {r : Rs} {j : Nat} (h : j < labs.length) (h2 : j < (itemsOf labs r).length) : (itemsOf labs r)[j] = .iface 73 (.agg #[.string labs[j]]) := by
  have h3 : (itemsOf labs r)[j]? = some (.iface 73 (.agg #[.string labs[j]])) := by
    unfold itemsOf
    rw [List.getElem?_append_left (by simpa using h), List.getElem?_map, List.getElem?_eq_getElem h]; rfl
  exact (List.getElem?_eq_some_iff.1 h3).2
theorem items_last {labs : List ByteArray} {r : Rs} {n : Nat} (hn : labs.length = n) (h2 : n < (itemsOf labs r).length) : (r.kind = 1 → (itemsOf labs r)[n] = .iface 76 (.agg (dfA r.d))) ∧ (r.kind = 2 → (itemsOf labs r)[n] = .iface 39 (.agg (codA r.x r.tg r.mp))) := by
  have e : (itemsOf labs r)[n]? = (if r.kind = 1 then [Value.iface 76 (.agg (dfA r.d))] else if r.kind = 2 then [.iface 39 (.agg (codA r.x r.tg r.mp))] else [])[0]? := by
    unfold itemsOf
    rw [List.getElem?_append_right (by rw [List.length_map, hn]; exact Nat.le_refl _), List.length_map, hn, Nat.sub_self]
  refine ⟨fun h => ?_, fun h => ?_⟩
  · rw [if_pos h] at e
    exact (List.getElem?_eq_some_iff.1 e).2
  · rw [if_neg (by rw [h]; decide), if_pos h] at e
    exact (List.getElem?_eq_some_iff.1 e).2
set_option maxHeartbeats 8000000 in
set_option maxRecDepth 100000 in
theorem differs_0 (v lv : Value) (labs : List ByteArray) (r : Rs) (w : World) (hv : ItAt w v (itemsOf labs r)) (hl : L8.StAt w lv labs) (hk : r.kind = 0) (hn : labs.length ≤ 100000) :
    Calls Tryd.prog 12 #[v, .agg (rsA lv r)] w fun e w' => e = .returned (.int .i64 0) ∧ Below w.heap.size w w' := by
  obtain ⟨n, hn'⟩ : ∃ n, labs.length = n := ⟨_, rfl⟩
  have hN : (itemsOf labs r).length = n := by rw [kinds_len labs r (.inl hk), if_pos hk, hn']
  obtain ⟨a, c, rfl, hA⟩ := it_form hN hv
  obtain ⟨a2, c2, rfl, hB⟩ := st_form hn' hl
  rw [hn'] at hn
  have HA := Lib.hid hA
  have HB := Lib.hid hB
  have HN := Lib.hid hN
  have HN2 := Lib.hid hn'
  obtain ⟨kd, hkd⟩ : ∃ kd, r.kind = kd := ⟨_, rfl⟩
  have hk0 : kd = 0 := hkd ▸ hk
  have hS := heap_alloc_last w (.cells (rsA (.slice a2 n c2) r) 33)
  have hlt0 : w.heap.size < (w.alloc (.cells (rsA (.slice a2 n c2) r) 33)).heap.size := by simp
  have b0 := L8.bnew w (.cells (rsA (.slice a2 n c2) r) 33)
  unfold rsA at *
  rw [hkd] at *
  subst hk0
  clear hv hl hk hA hB hN hn' hkd
  go_enter Tryd.func12, Tryd.ntmps12
  go_wp2
  generalize w.alloc _ = w0 at hS hlt0 b0 ⊢
  go_loopw [28] (fun iv wr => ∃ i : Nat, iv = .int .i64 (i : Int) ∧ i ≤ n ∧ Below w0.heap.size w0 wr) (fun iv _ => n - (intOf iv).toNat)
  case atStart => exact ⟨0, rfl, Nat.zero_le _, Below.refl _ _⟩
  case round =>
    obtain ⟨i, rfl, hi, hBr⟩ := hrel
    have hbs := hBr.size
    have BB := L2.bch b0 hBr
    have hSr := (hBr.block _ hlt0).trans hS
    by_cases hlt : i < n
    · obtain ⟨b, o, rfl, hb, hcs⟩ := HA.out (by omega)
      obtain ⟨b', o', rfl, hb', hcs'⟩ := HB.out (by omega)
      have hj1 : i < (itemsOf labs r).length := by rw [HN.out]; omega
      have hj2 : i < labs.length := by rw [HN2.out]; exact hlt
      obtain ⟨T, hT⟩ : ∃ T, labs[i] = T := ⟨_, rfl⟩
      have c0 : wr.cell? ⟨b, o + i, none⟩ = some (.iface 73 (.agg #[.string T])) := by
        have := (BB.cell (p := ⟨b, o + i, none⟩) hb).trans (hcs i hj1)
        rw [items_lab hj2, hT] at this; exact this
      have c1 : wr.cell? ⟨b', o' + i, none⟩ = some (.string T) := by
        have := (BB.cell (p := ⟨b', o' + i, none⟩) hb').trans (hcs' i hj2)
        rw [hT] at this; exact this
      obtain ⟨z0, z1, -⟩ := cells14 hSr
      have hg1 := lt_of_block hSr
      have hb1 : b' < wr.heap.size := by have := BB.size; omega
      have tl := tl_label (.agg #[.string T])
      have en := en_iface 73 (.agg #[.string T])
      clear hT hcs hcs' HA HB
      go_upto_region 16 with (fail)
      have hSa := row_up hSr (L8.bnew wr (.cells #[.string T] 73))
      have hTa := heap_alloc_last wr (.cells #[.string T] 73)
      have y0 : (wr.alloc (.cells #[.string T] 73)).cell? ⟨wr.heap.size, 0, none⟩ = some (.string T) := cell1 hTa
      obtain ⟨y1, -⟩ := cells14 hSa
      have y2 := ((L8.bnew wr (.cells #[.string T] 73)).cell (p := ⟨b', o' + i, none⟩) hb1).trans c1
      have hBa := L2.bch hBr (L8.bnew wr (.cells #[.string T] 73))
      have hBr' : Below wr.heap.size wr (wr.alloc (.cells #[.string T] 73)) := L8.bnew wr _
      have i0 : (0 : Int) ≤ (i : Int) := by omega
      have i1 : (i : Int) < (n : Int) := by omega
      generalize hW : wr.alloc (.cells #[.string T] 73) = W2 at hSa hTa y0 y1 y2 hBa hBr' ⊢
      clear hW
      generalize wr.heap.size = g8 at *
      clear c0 c1 z0 z1 hSr hBr hbs
      have km := km_label T
      go_region_with (go_at_call 144; ((with_reducible refine (kind_label T _).mono ?_); rintro e w9 ⟨rfl, b9⟩))
      all_goals
        go_wp2
        go_roundw
        case rel => exact ⟨i + 1, by go_num, by omega, L2.bch hBa.drew b9⟩
        case measure => simp [intOf]; omega
    · obtain rfl : i = n := by omega
      go_wp2
      go_ret
      exact ⟨rfl, BB⟩
set_option maxHeartbeats 8000000 in
set_option maxRecDepth 100000 in
theorem differs_1 (v lv : Value) (labs : List ByteArray) (r : Rs) (w : World) (hv : ItAt w v (itemsOf labs r)) (hl : L8.StAt w lv labs) (hk : r.kind = 1) (hn : labs.length ≤ 100000) :
    Calls Tryd.prog 12 #[v, .agg (rsA lv r)] w fun e w' => e = .returned (.int .i64 0) ∧ Below w.heap.size w w' := by
  obtain ⟨n, hn'⟩ : ∃ n, labs.length = n := ⟨_, rfl⟩
  obtain ⟨N, hNe⟩ : ∃ N, n + 1 = N := ⟨_, rfl⟩
  have hN : (itemsOf labs r).length = N := by rw [kinds_len labs r (by rw [hk]; simp), if_neg (by rw [hk]; decide), hn', hNe]
  obtain ⟨a, c, rfl, hA⟩ := it_form hN hv
  obtain ⟨a2, c2, rfl, hB⟩ := st_form hn' hl
  rw [hn'] at hn
  have HA := Lib.hid hA
  have HB := Lib.hid hB
  have HN := Lib.hid hN
  have HN2 := Lib.hid hn'
  obtain ⟨kd, hkd⟩ : ∃ kd, r.kind = kd := ⟨_, rfl⟩
  have hk0 : kd = 1 := hkd ▸ hk
  have HIL := Lib.hid (fun (h2 : n < (itemsOf labs r).length) => (items_last hn' h2).1 hk)
  have tN : ((N : Int) != (n : Int) + 1) = false := by rw [← hNe]; simp
  have lN1 : n < N := by omega
  have lN2 : N ≤ n + 1 := by omega
  have hS := heap_alloc_last w (.cells (rsA (.slice a2 n c2) r) 33)
  have hlt0 : w.heap.size < (w.alloc (.cells (rsA (.slice a2 n c2) r) 33)).heap.size := by simp
  have b0 := L8.bnew w (.cells (rsA (.slice a2 n c2) r) 33)
  unfold rsA at *
  rw [hkd] at *
  subst hk0
  clear hv hl hk hA hB hN hn' hkd hNe
  go_enter Tryd.func12, Tryd.ntmps12
  go_wp2
  generalize w.alloc _ = w0 at hS hlt0 b0 ⊢
  go_loopw [28] (fun iv wr => ∃ i : Nat, iv = .int .i64 (i : Int) ∧ i ≤ N ∧ Below w0.heap.size w0 wr) (fun iv _ => N - (intOf iv).toNat)
  case atStart => exact ⟨0, rfl, Nat.zero_le _, Below.refl _ _⟩
  case round =>
    obtain ⟨i, rfl, hi, hBr⟩ := hrel
    have hbs := hBr.size
    have BB := L2.bch b0 hBr
    have hSr := (hBr.block _ hlt0).trans hS
    by_cases hlt : i < n
    · obtain ⟨b, o, rfl, hb, hcs⟩ := HA.out (by omega)
      obtain ⟨b', o', rfl, hb', hcs'⟩ := HB.out (by omega)
      have hj1 : i < (itemsOf labs r).length := by rw [HN.out]; omega
      have hj2 : i < labs.length := by rw [HN2.out]; exact hlt
      obtain ⟨T, hT⟩ : ∃ T, labs[i] = T := ⟨_, rfl⟩
      have c0 : wr.cell? ⟨b, o + i, none⟩ = some (.iface 73 (.agg #[.string T])) := by
        have := (BB.cell (p := ⟨b, o + i, none⟩) hb).trans (hcs i hj1)
        rw [items_lab hj2, hT] at this; exact this
      have c1 : wr.cell? ⟨b', o' + i, none⟩ = some (.string T) := by
        have := (BB.cell (p := ⟨b', o' + i, none⟩) hb').trans (hcs' i hj2)
        rw [hT] at this; exact this
      obtain ⟨z0, z1, -⟩ := cells14 hSr
      have hg1 := lt_of_block hSr
      have hb1 : b' < wr.heap.size := by have := BB.size; omega
      have tl := tl_label (.agg #[.string T])
      have en := en_iface 73 (.agg #[.string T])
      clear hT hcs hcs' HA HB
      go_upto_region 16 with (fail)
      have hSa := row_up hSr (L8.bnew wr (.cells #[.string T] 73))
      have hTa := heap_alloc_last wr (.cells #[.string T] 73)
      have y0 : (wr.alloc (.cells #[.string T] 73)).cell? ⟨wr.heap.size, 0, none⟩ = some (.string T) := cell1 hTa
      obtain ⟨y1, -⟩ := cells14 hSa
      have y2 := ((L8.bnew wr (.cells #[.string T] 73)).cell (p := ⟨b', o' + i, none⟩) hb1).trans c1
      have hBa := L2.bch hBr (L8.bnew wr (.cells #[.string T] 73))
      have hBr' : Below wr.heap.size wr (wr.alloc (.cells #[.string T] 73)) := L8.bnew wr _
      have i0 : (0 : Int) ≤ (i : Int) := by omega
      have i1 : (i : Int) < (n : Int) := by omega
      generalize hW : wr.alloc (.cells #[.string T] 73) = W2 at hSa hTa y0 y1 y2 hBa hBr' ⊢
      clear hW
      generalize wr.heap.size = g8 at *
      clear c0 c1 z0 z1 hSr hBr hbs
      have km := km_label T
      go_region_with (go_at_call 144; ((with_reducible refine (kind_label T _).mono ?_); rintro e w9 ⟨rfl, b9⟩))
      all_goals
        go_wp2
        go_roundw
        case rel => exact ⟨i + 1, by go_num, by omega, L2.bch hBa.drew b9⟩
        case measure => simp [intOf]; omega
    by_cases hlt2 : i < N
    · obtain rfl : i = n := by omega
      obtain ⟨b, o, rfl, hb, hcs⟩ := HA.out (by omega)
      have hj1 : i < (itemsOf labs r).length := by rw [HN.out]; exact hlt2
      have c0 : wr.cell? ⟨b, o + i, none⟩ = some (.iface 76 (.agg #[.string r.d.nm, .int .i64 r.d.key, .int .i64 r.d.val, .int .i64 r.d.ent])) := by
        have := (BB.cell (p := ⟨b, o + i, none⟩) hb).trans (hcs i hj1)
        rw [HIL.out hj1] at this; exact this
      obtain ⟨z0, z1, z2, z3, z4, z5, z6, z7, z8, z9, z10, z11, z12, z13⟩ := cells14 hSr
      have hg1 := lt_of_block hSr
      have en := en_iface 76 (.agg #[.string r.d.nm, .int .i64 r.d.key, .int .i64 r.d.val, .int .i64 r.d.ent])
      have tl := tm_map (.agg #[.string r.d.nm, .int .i64 r.d.key, .int .i64 r.d.val, .int .i64 r.d.ent])
      have nq := nq_def r.d.nm r.d.key r.d.val r.d.ent
      have km := km_map r.d.nm r.d.key r.d.val r.d.ent
      have i0 : (0 : Int) ≤ (i : Int) := by omega
      clear hcs HA HB hSr
      go_wp2_with (go_at_call 145; ((with_reducible refine (kind_map _ _ _ _ _).mono ?_); rintro e w9 ⟨rfl, b9⟩))
      go_roundw
      case rel => exact ⟨i + 1, by go_num, by omega, L2.bch (L2.bch hBr (L8.bnew _ _)) b9⟩
      case measure => simp [intOf]; omega
    · obtain rfl : i = N := by omega
      go_wp2
      go_ret
      exact ⟨rfl, BB⟩
set_option maxHeartbeats 8000000 in
set_option maxRecDepth 100000 in
theorem differs_2 (v lv : Value) (labs : List ByteArray) (r : Rs) (w : World) (hv : ItAt w v (itemsOf labs r)) (hl : L8.StAt w lv labs) (hk : r.kind = 2) (hn : labs.length ≤ 100000) :
    Calls Tryd.prog 12 #[v, .agg (rsA lv r)] w fun e w' => e = .returned (.int .i64 0) ∧ Below w.heap.size w w' := by
  obtain ⟨n, hn'⟩ : ∃ n, labs.length = n := ⟨_, rfl⟩
  obtain ⟨N, hNe⟩ : ∃ N, n + 1 = N := ⟨_, rfl⟩
  have hN : (itemsOf labs r).length = N := by rw [kinds_len labs r (by rw [hk]; simp), if_neg (by rw [hk]; decide), hn', hNe]
  obtain ⟨a, c, rfl, hA⟩ := it_form hN hv
  obtain ⟨a2, c2, rfl, hB⟩ := st_form hn' hl
  rw [hn'] at hn
  have HA := Lib.hid hA
  have HB := Lib.hid hB
  have HN := Lib.hid hN
  have HN2 := Lib.hid hn'
  obtain ⟨kd, hkd⟩ : ∃ kd, r.kind = kd := ⟨_, rfl⟩
  have hk0 : kd = 2 := hkd ▸ hk
  have HIL := Lib.hid (fun (h2 : n < (itemsOf labs r).length) => (items_last hn' h2).2 hk)
  have tN : ((N : Int) != (n : Int) + 1) = false := by rw [← hNe]; simp
  have lN1 : n < N := by omega
  have lN2 : N ≤ n + 1 := by omega
  have hS := heap_alloc_last w (.cells (rsA (.slice a2 n c2) r) 33)
  have hlt0 : w.heap.size < (w.alloc (.cells (rsA (.slice a2 n c2) r) 33)).heap.size := by simp
  have b0 := L8.bnew w (.cells (rsA (.slice a2 n c2) r) 33)
  unfold rsA at *
  rw [hkd] at *
  subst hk0
  clear hv hl hk hA hB hN hn' hkd hNe
  go_enter Tryd.func12, Tryd.ntmps12
  go_wp2
  generalize w.alloc _ = w0 at hS hlt0 b0 ⊢
  go_loopw [28] (fun iv wr => ∃ i : Nat, iv = .int .i64 (i : Int) ∧ i ≤ N ∧ Below w0.heap.size w0 wr) (fun iv _ => N - (intOf iv).toNat)
  case atStart => exact ⟨0, rfl, Nat.zero_le _, Below.refl _ _⟩
  case round =>
    obtain ⟨i, rfl, hi, hBr⟩ := hrel
    have hbs := hBr.size
    have BB := L2.bch b0 hBr
    have hSr := (hBr.block _ hlt0).trans hS
    by_cases hlt : i < n
    · obtain ⟨b, o, rfl, hb, hcs⟩ := HA.out (by omega)
      obtain ⟨b', o', rfl, hb', hcs'⟩ := HB.out (by omega)
      have hj1 : i < (itemsOf labs r).length := by rw [HN.out]; omega
      have hj2 : i < labs.length := by rw [HN2.out]; exact hlt
      obtain ⟨T, hT⟩ : ∃ T, labs[i] = T := ⟨_, rfl⟩
      have c0 : wr.cell? ⟨b, o + i, none⟩ = some (.iface 73 (.agg #[.string T])) := by
        have := (BB.cell (p := ⟨b, o + i, none⟩) hb).trans (hcs i hj1)
        rw [items_lab hj2, hT] at this; exact this
      have c1 : wr.cell? ⟨b', o' + i, none⟩ = some (.string T) := by
        have := (BB.cell (p := ⟨b', o' + i, none⟩) hb').trans (hcs' i hj2)
        rw [hT] at this; exact this
      obtain ⟨z0, z1, -⟩ := cells14 hSr
      have hg1 := lt_of_block hSr
      have hb1 : b' < wr.heap.size := by have := BB.size; omega
      have tl := tl_label (.agg #[.string T])
      have en := en_iface 73 (.agg #[.string T])
      clear hT hcs hcs' HA HB
      go_upto_region 16 with (fail)
      have hSa := row_up hSr (L8.bnew wr (.cells #[.string T] 73))
      have hTa := heap_alloc_last wr (.cells #[.string T] 73)
      have y0 : (wr.alloc (.cells #[.string T] 73)).cell? ⟨wr.heap.size, 0, none⟩ = some (.string T) := cell1 hTa
      obtain ⟨y1, -⟩ := cells14 hSa
      have y2 := ((L8.bnew wr (.cells #[.string T] 73)).cell (p := ⟨b', o' + i, none⟩) hb1).trans c1
      have hBa := L2.bch hBr (L8.bnew wr (.cells #[.string T] 73))
      have hBr' : Below wr.heap.size wr (wr.alloc (.cells #[.string T] 73)) := L8.bnew wr _
      have i0 : (0 : Int) ≤ (i : Int) := by omega
      have i1 : (i : Int) < (n : Int) := by omega
      generalize hW : wr.alloc (.cells #[.string T] 73) = W2 at hSa hTa y0 y1 y2 hBa hBr' ⊢
      clear hW
      generalize wr.heap.size = g8 at *
      clear c0 c1 z0 z1 hSr hBr hbs
      have km := km_label T
      go_region_with (go_at_call 144; ((with_reducible refine (kind_label T _).mono ?_); rintro e w9 ⟨rfl, b9⟩))
      all_goals
        go_wp2
        go_roundw
        case rel => exact ⟨i + 1, by go_num, by omega, L2.bch hBa.drew b9⟩
        case measure => simp [intOf]; omega
    by_cases hlt2 : i < N
    · obtain rfl : i = n := by omega
      obtain ⟨b, o, rfl, hb, hcs⟩ := HA.out (by omega)
      have hj1 : i < (itemsOf labs r).length := by rw [HN.out]; exact hlt2
      have c0 : wr.cell? ⟨b, o + i, none⟩ = some (.iface 39 (.agg (codA r.x r.tg r.mp))) := by
        have := (BB.cell (p := ⟨b, o + i, none⟩) hb).trans (hcs i hj1)
        rw [HIL.out hj1] at this; exact this
      obtain ⟨z0, z1, z2, z3, z4, z5, z6, z7, z8, z9, z10, z11, z12, z13⟩ := cells14 hSr
      have hg1 := lt_of_block hSr
      have en := en_iface 39 (.agg (codA r.x r.tg r.mp))
      have tl := ta_code (.agg (codA r.x r.tg r.mp))
      have nq := nq_code r.x r.tg r.mp
      have km := km_code r.x r.tg r.mp
      have i0 : (0 : Int) ≤ (i : Int) := by omega
      clear hcs HA HB hSr
      go_wp2_with (go_at_call 143; ((with_reducible refine (kind_code r.x r.tg r.mp _).mono ?_); rintro e w9 ⟨rfl, b9⟩))
      go_roundw
      case rel => exact ⟨i + 1, by go_num, by omega, L2.bch (L2.bch hBr (L8.bnew _ _)) b9⟩
      case measure => simp [intOf]; omega
    · obtain rfl : i = N := by omega
      go_wp2
      go_ret
      exact ⟨rfl, BB⟩
theorem differs_at (v lv : Value) (labs : List ByteArray) (r : Rs) (w : World) (hv : ItAt w v (itemsOf labs r)) (hl : L8.StAt w lv labs) (hk : r.kind = 0 ∨ r.kind = 1 ∨ r.kind = 2) (hn : labs.length ≤ 100000) :
    Calls Tryd.prog 12 #[v, .agg (rsA lv r)] w fun e w' => e = .returned (.int .i64 0) ∧ Below w.heap.size w w' := by
  rcases hk with hk | hk | hk
  · exact differs_0 v lv labs r w hv hl hk hn
  · exact differs_1 v lv labs r w hv hl hk hn
  · exact differs_2 v lv labs r w hv hl hk hn
end Go.Proofs.YtjcaonbejhdhkaaDoor.L9
