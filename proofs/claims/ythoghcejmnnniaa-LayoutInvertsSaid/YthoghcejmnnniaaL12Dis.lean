/- What Distance and Target return. Condition: memory holds the instructions, which are no more than 1000000. -/
import Derived.Test.YthoghcejmnnniaaL12At
import Derived.Deep.RegionHeld3
namespace Go.Proofs.Ythoghcejmnnniaa.L12
open Go.RowKit Go.Shelf L3 L4
attribute [local go_sem] Oper.semAt_some

/-- A row of numbers that is one's own: its cells. -/
theorem own_nums {W : World} {B e : TypeId} {v : Value} {xs : List Nat} (h : W.ownsRow B e 1 v xs.length (xs.map fun (a : Nat) => Value.int .i64 (a : Int))) : L10.InAt W v (xs.map fun (a : Nat) => (a : Int)) := by
  rcases h.2 with ⟨rfl, h0⟩ | ⟨g, cap, cur, rfl, _, hh, _⟩
  · exact .inr ⟨by rw [List.eq_nil_of_length_eq_zero h0]; rfl, none, 0, rfl⟩
  · refine .inl ⟨g, 0, cap, by rw [List.length_map], lt_of_block hh, fun k hk => ?_⟩
    rw [List.length_map] at hk
    have := h.cells (g := g) rfl k (.int .i64 ((xs[k] : Nat) : Int)) (by simp [List.getElem?_eq_getElem hk])
    rw [Nat.zero_add, List.getElem_map]
    rwa [L8.add0] at this
/-- What Starts returns. -/
theorem starts_is (v : Value) (l : List L9.Ins) (n : Nat) (hn : l.length = n) (hl : n ≤ 1000000) (w : World) (hv : IsAt w v l) :
    Calls Try.prog 10 #[v] w fun e w' => (∃ a c, e = .returned (.tuple #[.slice a n c, .int .i64 (smN l : Int)]) ∧ L10.InAt w' (.slice a n c) ((stL 0 l).map fun (a : Nat) => (a : Int))) ∧ Below w.heap.size w w' := by
  refine (starts_at v l (by omega) w hv).mono fun e w' h => ?_
  obtain ⟨⟨u, rfl, hr⟩, hb⟩ := h
  rw [← stL_len l 0] at hr
  obtain ⟨a, c, rfl⟩ := owns_slice hr
  have hi := own_nums hr
  rw [stL_len, hn] at hi
  exact ⟨⟨a, c, by rw [stL_len, hn], hi⟩, hb⟩
theorem st_cell {w : World} {a : Option Addr} {l : List L9.Ins} {n c i : Nat} (hn : l.length = n) (h : L10.InAt w (.slice a n c) ((stL 0 l).map fun (a : Nat) => (a : Int))) (hi : i < n) : ∃ b o, a = some ⟨b, o, none⟩ ∧ b < w.heap.size ∧ ∀ j, j < n → w.cell? ⟨b, o + j, none⟩ = some (.int .i64 (stN l j : Int)) := by
  obtain ⟨a', c', hv, hc⟩ := L10.in_form (n := n) (by rw [List.length_map, stL_len, hn]) h
  cases hv
  obtain ⟨b, o, rfl, hb, hx⟩ := hc (by omega)
  refine ⟨b, o, rfl, hb, fun j hj => ?_⟩
  have := hx j (by rw [List.length_map, stL_len, hn]; exact hj)
  rw [List.getElem_map] at this
  have e := stL_get l 0 j (by omega)
  rw [List.getElem?_eq_getElem (by rw [stL_len]; omega), Option.some.injEq, Nat.zero_add] at e
  rwa [e] at this
theorem cell_up {w w' : World} {p : Addr} {v : Value} (hb : Below w.heap.size w w') (h : w.cell? p = some v) : w'.cell? p = some v := (hb.cell (World.block_lt_of_cell? _ _ h)).trans h
/-- What the two regions keep. -/
theorem keepK {w W W' : World} {b p q k o : Nat} {s t : Int} {op dst src off imm : Int} {reg : Bool} (hb : Below W.heap.size W W') (h : Below w.heap.size w W ∧ W.cell? ⟨b, p, none⟩ = some (.int .i64 s) ∧ W.cell? ⟨b, q, none⟩ = some (.int .i64 t) ∧ W.cell? ⟨k, o, none⟩ = some (.int .i64 op) ∧ W.cell? ⟨k, o + 1, none⟩ = some (.bool reg) ∧ W.cell? ⟨k, o + 2, none⟩ = some (.int .i64 dst) ∧ W.cell? ⟨k, o + 3, none⟩ = some (.int .i64 src) ∧ W.cell? ⟨k, o + 4, none⟩ = some (.int .i64 off) ∧ W.cell? ⟨k, o + 5, none⟩ = some (.int .i64 imm)) :
    Below w.heap.size w W' ∧ W'.cell? ⟨b, p, none⟩ = some (.int .i64 s) ∧ W'.cell? ⟨b, q, none⟩ = some (.int .i64 t) ∧ W'.cell? ⟨k, o, none⟩ = some (.int .i64 op) ∧ W'.cell? ⟨k, o + 1, none⟩ = some (.bool reg) ∧ W'.cell? ⟨k, o + 2, none⟩ = some (.int .i64 dst) ∧ W'.cell? ⟨k, o + 3, none⟩ = some (.int .i64 src) ∧ W'.cell? ⟨k, o + 4, none⟩ = some (.int .i64 off) ∧ W'.cell? ⟨k, o + 5, none⟩ = some (.int .i64 imm) := by
  obtain ⟨h0, h1, h2, x0, x1, x2, x3, x4, x5⟩ := h
  exact ⟨L2.bch h0 hb, cell_up hb h1, cell_up hb h2, cell_up hb x0, cell_up hb x1, cell_up hb x2, cell_up hb x3, cell_up hb x4, cell_up hb x5⟩
theorem inB_nat {n : Nat} {i : Int} (h : inB n i = true) : ∃ k : Nat, i = (k : Int) ∧ k < n := by
  unfold inB at h
  simp only [Bool.and_eq_true, decide_eq_true_eq] at h
  exact ⟨i.toNat, by omega, by omega⟩

set_option maxHeartbeats 2000000 in
theorem distance_no (v : Value) (l : List L9.Ins) (i j : Int) (w : World) (hv : IsAt w v l) (h : (inB l.length i && inB l.length j) = false) :
    Calls Try.prog 14 #[v, .int .i64 i, .int .i64 j] w fun e w' => e = .returned (.tuple #[.int .i64 0, .bool false]) ∧ Below w.heap.size w w' := by
  obtain ⟨n, hn⟩ : ∃ n, l.length = n := ⟨_, rfl⟩
  obtain ⟨ad, cap, rfl, -⟩ := is_form hn hv
  rw [hn] at h
  obtain ⟨b1, h1⟩ : ∃ b, inB n i = b := ⟨_, rfl⟩
  obtain ⟨b2, h2⟩ : ∃ b, inB n j = b := ⟨_, rfl⟩
  have H1 := Lib.hid (fun w => isIndex_at ad n cap i b1 w h1)
  have H2 := Lib.hid (fun w => isIndex_at ad n cap j b2 w h2)
  rw [h1, h2] at h
  clear hv hn h1 h2
  cases b1
  · go_enter Try.func14, Try.ntmps14
    go_wp2_with (go_at_call 28; ((with_reducible refine (H1.out _).mono ?_); rintro e w1 ⟨rfl, rfl⟩))
    exact bodyPost_ret (v := .tuple #[.int .i64 0, .bool false]) (by simp [results, Try.results14, go_sem]) rfl ⟨rfl, Below.refl _ _⟩
  · cases b2
    · go_enter Try.func14, Try.ntmps14
      go_wp2_with (first | (go_at_call 28; ((with_reducible refine (H1.out _).mono ?_); rintro e w1 ⟨rfl, rfl⟩)) | (go_at_call 28; ((with_reducible refine (H2.out _).mono ?_); rintro e w1 ⟨rfl, rfl⟩)))
      exact bodyPost_ret (v := .tuple #[.int .i64 0, .bool false]) (by simp [results, Try.results14, go_sem]) rfl ⟨rfl, Below.refl _ _⟩
    · cases h

set_option maxHeartbeats 4000000 in
theorem distance_in (v : Value) (l : List L9.Ins) (i j : Nat) (w : World) (hv : IsAt w v l) (hl : l.length ≤ 1000000) (hi : i < l.length) (hj : j < l.length) :
    Calls Try.prog 14 #[v, .int .i64 (i : Int), .int .i64 (j : Int)] w fun e w' => e = .returned (.tuple #[.int .i64 ((stN l j : Int) - (stN l (i + 1) : Int)), .bool true]) ∧ Below w.heap.size w w' := by
  obtain ⟨n, hn⟩ : ∃ n, l.length = n := ⟨_, rfl⟩
  have HV := Lib.hid hv
  obtain ⟨ad, cap, rfl, hc⟩ := is_form hn hv
  have hil := hi
  rw [hn] at hl hi hj
  have H1 := Lib.hid (fun w => isIndex_at ad n cap (i : Int) true w (by unfold inB; simp; omega))
  have H2 := Lib.hid (fun w => isIndex_at ad n cap (j : Int) true w (by unfold inB; simp; omega))
  have HS := Lib.hid (starts_is (.slice ad n cap) l n hn hl w hv)
  obtain ⟨kb, ko, rfl, hkb, hx⟩ := hc (by omega)
  have hX := hx i hil
  have hle := stN_le l i
  have hle2 := stN_le l j
  have hsu := stN_succ l i hil
  obtain ⟨x, hxx⟩ : ∃ x, l[i] = x := ⟨_, rfl⟩
  rw [hxx] at hX hsu
  have hs2 := slN_le x
  rw [hn] at hle hle2
  have HBe := Lib.hid (fun W => behind_at (stN l i) x (stN l (i + 1) : Int) W (by omega) (by rw [hsu]; omega))
  have HN := Lib.hid hn
  have HX := Lib.hid hX
  obtain ⟨t, ht⟩ : ∃ t, stN l i = t := ⟨_, rfl⟩
  obtain ⟨u, hu⟩ : ∃ u, stN l j = u := ⟨_, rfl⟩
  obtain ⟨z, hz⟩ : ∃ z, stN l (i + 1) = z := ⟨_, rfl⟩
  have HT := Lib.hid ht
  have HU := Lib.hid hu
  rw [ht] at hle hsu HBe
  rw [hz] at hsu HBe ⊢
  rw [hu] at hle2 ⊢
  have hzl : z ≤ 3000000 := by omega
  clear hv hn hx hxx hsu ht hu hz hX hc
  go_enter Try.func14, Try.ntmps14
  go_upto_region 4 with (first | (go_at_call 28; ((with_reducible refine (H1.out _).mono ?_); rintro e w1 ⟨rfl, rfl⟩)) | (go_at_call 28; ((with_reducible refine (H2.out _).mono ?_); rintro e w1 ⟨rfl, rfl⟩)) | (go_at_call 10; ((with_reducible refine (HS.out).mono ?_); rintro e w1 ⟨⟨sa, sc, rfl, hin⟩, b1⟩)))
  obtain ⟨sb, so, rfl, hsb, hcl⟩ := st_cell HN.out hin hi
  have c1 := hcl i hi
  have c2 := hcl j hj
  rw [HT.out] at c1
  rw [HU.out] at c2
  have X := HX.out.below hkb b1
  have hkb1 := Nat.lt_of_lt_of_le hkb b1.size
  have HB1 := Lib.hid b1
  clear hcl hin b1
  obtain ⟨op, reg, dst, src, off, imm⟩ := x
  obtain ⟨x0, x1, x2, x3, x4, x5⟩ := X
  have Y := And.intro (Below.refl w1.heap.size w1) (And.intro c1 (And.intro c2 (And.intro x0 (And.intro x1 (And.intro x2 (And.intro x3 (And.intro x4 x5)))))))
  have hwr : IntKind.i64.wrap ((u : Int) - (z : Int)) = (u : Int) - (z : Int) := IntWalk.i64_in _ (by omega)
  go_region_held3 (fun W => Below w1.heap.size w1 W ∧ W.cell? ⟨sb, so + i, none⟩ = some (.int .i64 (t : Int)) ∧ W.cell? ⟨sb, so + j, none⟩ = some (.int .i64 (u : Int)) ∧ W.cell? ⟨kb, ko + i * 6, none⟩ = some (.int .i64 op) ∧ W.cell? ⟨kb, ko + i * 6 + 1, none⟩ = some (.bool reg) ∧ W.cell? ⟨kb, ko + i * 6 + 2, none⟩ = some (.int .i64 dst) ∧ W.cell? ⟨kb, ko + i * 6 + 3, none⟩ = some (.int .i64 src) ∧ W.cell? ⟨kb, ko + i * 6 + 4, none⟩ = some (.int .i64 off) ∧ W.cell? ⟨kb, ko + i * 6 + 5, none⟩ = some (.int .i64 imm))
    (first | exact keepK (Below.refl _ _).drew Y | exact keepK hb9 (keepK (Below.refl _ _).drew Y) | exact keepK hb9 (by assumption) | assumption)
    (first | (go_at_call 27; ((with_reducible refine (HBe.out _).mono ?_); rintro e w9 ⟨rfl, hb9⟩)))
  all_goals
    rename_i hh
    go_wp2
    refine bodyPost_ret (v := .tuple #[.int .i64 ((u : Int) - (z : Int)), .bool true]) (by simp [results, Try.results14, go_sem]) rfl ⟨rfl, ?_⟩
    exact L2.bch HB1.out hh.1
theorem distance_at (v : Value) (l : List L9.Ins) (i j : Int) (d : Int) (b : Bool) (w : World) (hv : IsAt w v l) (hl : l.length ≤ 1000000) (hR : diV l i j = (d, b)) :
    Calls Try.prog 14 #[v, .int .i64 i, .int .i64 j] w fun e w' => e = .returned (.tuple #[.int .i64 d, .bool b]) ∧ Below w.heap.size w w' := by
  unfold diV at hR
  by_cases h : (inB l.length i && inB l.length j) = true
  · rw [if_pos h] at hR
    cases hR
    rw [Bool.and_eq_true] at h
    obtain ⟨i', rfl, hi⟩ := inB_nat h.1
    obtain ⟨j', rfl, hj⟩ := inB_nat h.2
    exact distance_in v l i' j' w hv hl hi hj
  · rw [if_neg h] at hR
    cases hR
    exact distance_no v l i j w hv (by simpa using h)

theorem target_no (v : Value) (l : List L9.Ins) (i o : Int) (w : World) (hv : IsAt w v l) (h : inB l.length i = false) :
    Calls Try.prog 16 #[v, .int .i64 i, .int .i64 o] w fun e w' => e = .returned (.tuple #[.int .i64 0, .bool false]) ∧ Below w.heap.size w w' := by
  obtain ⟨n, hn⟩ : ∃ n, l.length = n := ⟨_, rfl⟩
  obtain ⟨ad, cap, rfl, -⟩ := is_form hn hv
  rw [hn] at h
  have H1 := Lib.hid (fun w => isIndex_at ad n cap i false w h)
  clear hv hn h
  go_enter Try.func16, Try.ntmps16
  go_wp2_with (go_at_call 28; ((with_reducible refine (H1.out _).mono ?_); rintro e w1 ⟨rfl, rfl⟩))
  exact bodyPost_ret (v := .tuple #[.int .i64 0, .bool false]) (by simp [results, Try.results16, go_sem]) rfl ⟨rfl, Below.refl _ _⟩

set_option maxHeartbeats 4000000 in
theorem target_in (v : Value) (l : List L9.Ins) (i : Nat) (o d : Int) (b : Bool) (w : World) (hv : IsAt w v l) (hl : l.length ≤ 1000000) (hi : i < l.length) (hR : (if taI l (i : Int) o < 0 then (0, false) else (taI l (i : Int) o, true)) = (d, b)) :
    Calls Try.prog 16 #[v, .int .i64 (i : Int), .int .i64 o] w fun e w' => e = .returned (.tuple #[.int .i64 d, .bool b]) ∧ Below w.heap.size w w' := by
  obtain ⟨n, hn⟩ : ∃ n, l.length = n := ⟨_, rfl⟩
  have HV := Lib.hid hv
  obtain ⟨ad, cap, rfl, hc⟩ := is_form hn hv
  have hil := hi
  rw [hn] at hl hi
  have H1 := Lib.hid (fun w => isIndex_at ad n cap (i : Int) true w (by unfold inB; simp; omega))
  have HS := Lib.hid (starts_is (.slice ad n cap) l n hn hl w hv)
  obtain ⟨kb, ko, rfl, hkb, hx⟩ := hc (by omega)
  have hX := hx i hil
  have hle := stN_le l i
  have hsu := stN_succ l i hil
  obtain ⟨x, hxx⟩ : ∃ x, l[i] = x := ⟨_, rfl⟩
  rw [hxx] at hX hsu
  have hs2 := slN_le x
  rw [hn] at hle
  have HBe := Lib.hid (fun W => behind_at (stN l i) x (stN l (i + 1) : Int) W (by omega) (by rw [hsu]; omega))
  obtain ⟨r, hr⟩ : ∃ r, taI l (i : Int) o = r := ⟨_, rfl⟩
  rw [hr] at hR
  unfold taI at hr
  rw [Int.toNat_natCast] at hr
  obtain ⟨y, hy⟩ : ∃ y, IntKind.i64.wrap ((stN l (i + 1) : Int) + o) = y := ⟨_, rfl⟩
  rw [hy] at hr
  have HAt := Lib.hid (fun (W : World) (hb : Below w.heap.size w W) => at_at (.slice (some ⟨kb, ko, none⟩) n cap) l y r (by omega) W (hv.below hb) hr)
  have HN := Lib.hid hn
  have HX := Lib.hid hX
  obtain ⟨t, ht⟩ : ∃ t, stN l i = t := ⟨_, rfl⟩
  obtain ⟨z, hz⟩ : ∃ z, stN l (i + 1) = z := ⟨_, rfl⟩
  have HT := Lib.hid ht
  rw [ht] at hle hsu HBe
  rw [hz] at hsu HBe hy
  have HR := Lib.hid hR
  clear hv hn hx hxx hsu ht hz hX hc hr hR
  go_enter Try.func16, Try.ntmps16
  go_upto_region 4 with (first | (go_at_call 28; ((with_reducible refine (H1.out _).mono ?_); rintro e w1 ⟨rfl, rfl⟩)) | (go_at_call 10; ((with_reducible refine (HS.out).mono ?_); rintro e w1 ⟨⟨sa, sc, rfl, hin⟩, b1⟩)))
  obtain ⟨sb, so, rfl, hsb, hcl⟩ := st_cell HN.out hin hi
  have c1 := hcl i hi
  rw [HT.out] at c1
  have X := HX.out.below hkb b1
  have hkb1 := Nat.lt_of_lt_of_le hkb b1.size
  have HB1 := Lib.hid b1
  clear hcl hin b1
  obtain ⟨op, reg, dst, src, off, imm⟩ := x
  obtain ⟨x0, x1, x2, x3, x4, x5⟩ := X
  have Y := And.intro (Below.refl w1.heap.size w1) (And.intro c1 (And.intro c1 (And.intro x0 (And.intro x1 (And.intro x2 (And.intro x3 (And.intro x4 x5)))))))
  go_region_held3 (fun W => Below w1.heap.size w1 W ∧ W.cell? ⟨sb, so + i, none⟩ = some (.int .i64 (t : Int)) ∧ W.cell? ⟨sb, so + i, none⟩ = some (.int .i64 (t : Int)) ∧ W.cell? ⟨kb, ko + i * 6, none⟩ = some (.int .i64 op) ∧ W.cell? ⟨kb, ko + i * 6 + 1, none⟩ = some (.bool reg) ∧ W.cell? ⟨kb, ko + i * 6 + 2, none⟩ = some (.int .i64 dst) ∧ W.cell? ⟨kb, ko + i * 6 + 3, none⟩ = some (.int .i64 src) ∧ W.cell? ⟨kb, ko + i * 6 + 4, none⟩ = some (.int .i64 off) ∧ W.cell? ⟨kb, ko + i * 6 + 5, none⟩ = some (.int .i64 imm))
    (first | exact keepK (Below.refl _ _).drew Y | exact keepK hb9 (keepK (Below.refl _ _).drew Y) | exact keepK hb9 (by assumption) | assumption)
    (first | (go_at_call 27; ((with_reducible refine (HBe.out _).mono ?_); rintro e w9 ⟨rfl, hb9⟩)) | (go_at_call 12; ((with_reducible refine (HAt.out _ (L2.bch HB1.out (And.left (by assumption)))).mono ?_); rintro e w9 ⟨rfl, hb9⟩)))
  all_goals
    rename_i hh
    by_cases hr0 : r < 0
    · have hr := HR.out
      rw [if_pos hr0] at hr
      cases hr
      have hr1 : ¬ 0 ≤ r := by omega
      go_wp2
      exact bodyPost_ret (v := .tuple #[.int .i64 0, .bool false]) (by simp [results, Try.results16, go_sem]) rfl ⟨rfl, L2.bch HB1.out hh.1⟩
    · have hr := HR.out
      rw [if_neg hr0] at hr
      cases hr
      go_wp2
      exact bodyPost_ret (v := .tuple #[.int .i64 d, .bool true]) (by simp [results, Try.results16, go_sem]) rfl ⟨rfl, L2.bch HB1.out hh.1⟩
theorem target_at (v : Value) (l : List L9.Ins) (i o : Int) (d : Int) (b : Bool) (w : World) (hv : IsAt w v l) (hl : l.length ≤ 1000000) (hR : taV l i o = (d, b)) :
    Calls Try.prog 16 #[v, .int .i64 i, .int .i64 o] w fun e w' => e = .returned (.tuple #[.int .i64 d, .bool b]) ∧ Below w.heap.size w w' := by
  unfold taV at hR
  by_cases h : inB l.length i = true
  · rw [if_pos h] at hR
    obtain ⟨i', rfl, hi⟩ := inB_nat h
    exact target_in v l i' o d b w hv hl hi hR
  · rw [if_neg h] at hR
    cases hR
    exact target_no v l i o w hv (by simpa using h)
end Go.Proofs.Ythoghcejmnnniaa.L12
