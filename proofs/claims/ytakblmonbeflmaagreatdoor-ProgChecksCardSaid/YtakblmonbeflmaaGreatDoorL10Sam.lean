/- What slices.Equal returns at lists of declarations, texts and numbers, and what the program's Same returns: whether the two are equal. Condition: memory holds them, and they are not too long. -/
import Derived.Test.YtakblmonbeflmaaGreatDoorL10Opn
import Derived.Test.YtakblmonbeflmaaGreatDoorL10Cn
import Derived.Deep.QuietTactic
import Derived.BigQuiet
namespace Go.Proofs.YtakblmonbeflmaaGreatDoor.L10
open Go.RowKit Go.Maps
attribute [local go_sem] Oper.semAt_some

theorem bx (P : Prop) : ∃ b : Bool, b = true ↔ P := by
  by_cases h : P
  · exact ⟨true, by simp [h]⟩
  · exact ⟨false, by simp [h]⟩
theorem tl_iff {a b : ByteArray} : a.toList = b.toList ↔ a = b :=
  ⟨fun h => Classical.byContradiction fun hn => by have := L2.txt_ne hn; rw [h] at this; simp at this, fun h => by rw [h]⟩
theorem tl_beq {a b : ByteArray} {x : Bool} (h : x = true ↔ a = b) : (a.toList == b.toList) = x := by
  by_cases e : a = b
  · rw [L2.txt_eq e, (h.2 e)]
  · rw [L2.txt_ne e]
    cases x
    · rfl
    · exact absurd (h.1 rfl) e
/-- Two declarations compared; two instructions. -/
theorem nq_df (d e : L9.Df) (b : Bool) (h : b = true ↔ d = e) (w : World) : (binOp .neq 36 (.agg #[.string d.nm, .int .i64 d.key, .int .i64 d.val, .int .i64 d.ent]) (.agg #[.string e.nm, .int .i64 e.key, .int .i64 e.val, .int .i64 e.ent])).run Tryz.prog w = .ok (.bool (!b)) w := by
  have hp : Tryz.prog.stoodInHeld 36 = false := by kernel_rfl
  have a9 : ∀ w, (isAgg 9).run Tryz.prog w = .ok false w := fun w => by kernel_rfl
  have a3 : ∀ w, (isAgg 3).run Tryz.prog w = .ok false w := fun w => by kernel_rfl
  obtain ⟨x1, x2, x3, x4⟩ := d
  obtain ⟨y1, y2, y3, y4⟩ := e
  simp only [L9.Df.mk.injEq] at h ⊢
  simp [go_sem, hp, Tryz.underlying36, Tryz.underlying9, Tryz.underlying3, part, a9, a3]
  simp only [tl_iff]
  by_cases e1 : x1 = y1 <;> by_cases e2 : x2 = y2 <;> by_cases e3 : x3 = y3 <;> by_cases e4 : x4 = y4 <;> cases b <;> simp_all
theorem eq_ins (x y : L9.Ins) (b : Bool) (h : b = true ↔ x = y) (w : World) : (binOp .eql 38 (.agg #[.int .i64 x.op, .bool x.reg, .int .i64 x.dst, .int .i64 x.src, .int .i64 x.off, .int .i64 x.imm]) (.agg #[.int .i64 y.op, .bool y.reg, .int .i64 y.dst, .int .i64 y.src, .int .i64 y.off, .int .i64 y.imm])).run Tryz.prog w = .ok (.bool b) w := by
  have hp : Tryz.prog.stoodInHeld 38 = false := by kernel_rfl
  have a4 : ∀ w, (isAgg 4).run Tryz.prog w = .ok false w := fun w => by kernel_rfl
  have a3 : ∀ w, (isAgg 3).run Tryz.prog w = .ok false w := fun w => by kernel_rfl
  have a2 : ∀ w, (isAgg 2).run Tryz.prog w = .ok false w := fun w => by kernel_rfl
  obtain ⟨x1, x2, x3, x4, x5, x6⟩ := x
  obtain ⟨y1, y2, y3, y4, y5, y6⟩ := y
  simp only [L9.Ins.mk.injEq] at h ⊢
  simp [go_sem, hp, Tryz.underlying38, Tryz.underlying4, Tryz.underlying3, Tryz.underlying2, part, a4, a3, a2]
  by_cases e1 : x1 = y1 <;> by_cases e2 : x2 = y2 <;> by_cases e3 : x3 = y3 <;> by_cases e4 : x4 = y4 <;> by_cases e5 : x5 = y5 <;> by_cases e6 : x6 = y6 <;> cases b <;> simp_all
theorem nq_ins (x y : L9.Ins) (b : Bool) (h : b = true ↔ x = y) (w : World) : (binOp .neq 38 (.agg #[.int .i64 x.op, .bool x.reg, .int .i64 x.dst, .int .i64 x.src, .int .i64 x.off, .int .i64 x.imm]) (.agg #[.int .i64 y.op, .bool y.reg, .int .i64 y.dst, .int .i64 y.src, .int .i64 y.off, .int .i64 y.imm])).run Tryz.prog w = .ok (.bool (!b)) w := by
  have hp : Tryz.prog.stoodInHeld 38 = false := by kernel_rfl
  have a4 : ∀ w, (isAgg 4).run Tryz.prog w = .ok false w := fun w => by kernel_rfl
  have a3 : ∀ w, (isAgg 3).run Tryz.prog w = .ok false w := fun w => by kernel_rfl
  have a2 : ∀ w, (isAgg 2).run Tryz.prog w = .ok false w := fun w => by kernel_rfl
  obtain ⟨x1, x2, x3, x4, x5, x6⟩ := x
  obtain ⟨y1, y2, y3, y4, y5, y6⟩ := y
  simp only [L9.Ins.mk.injEq] at h ⊢
  simp [go_sem, hp, Tryz.underlying38, Tryz.underlying4, Tryz.underlying3, Tryz.underlying2, part, a4, a3, a2]
  by_cases e1 : x1 = y1 <;> by_cases e2 : x2 = y2 <;> by_cases e3 : x3 = y3 <;> by_cases e4 : x4 = y4 <;> by_cases e5 : x5 = y5 <;> by_cases e6 : x6 = y6 <;> cases b <;> simp_all
theorem take_eq {α : Type} {l m : List α} {k : Nat} (h1 : k < l.length) (h2 : k < m.length) (h : l.take k = m.take k) (e : l[k] = m[k]) : l.take (k + 1) = m.take (k + 1) := by
  rw [List.take_add_one, List.take_add_one, h, List.getElem?_eq_getElem h1, List.getElem?_eq_getElem h2, e]
theorem take_all {α : Type} {l m : List α} {n : Nat} (h1 : l.length = n) (h2 : m.length = n) (h : l.take n = m.take n) : l = m := by
  rwa [List.take_of_length_le (by omega), List.take_of_length_le (by omega)] at h
theorem get_ne {α : Type} {l m : List α} {k : Nat} (h1 : k < l.length) (h2 : k < m.length) (h : l[k] ≠ m[k]) : l ≠ m := by
  rintro rfl; exact h rfl
theorem df_form4 {w : World} {v : Value} {l : List L9.Df} {n : Nat} (hn : l.length = n) (h : DfAt w v l) : ∃ a c, v = .slice a n c ∧ (0 < n → ∃ b o, a = some ⟨b, o, none⟩ ∧ b < w.heap.size ∧ ∀ j, (h : j < l.length) → w.cell? ⟨b, o + j * 4, none⟩ = some (.string l[j].nm) ∧ w.cell? ⟨b, o + j * 4 + 1, none⟩ = some (.int .i64 l[j].key) ∧ w.cell? ⟨b, o + j * 4 + 2, none⟩ = some (.int .i64 l[j].val) ∧ w.cell? ⟨b, o + j * 4 + 3, none⟩ = some (.int .i64 l[j].ent)) := by
  obtain ⟨a, c, rfl, hc⟩ := df_form hn h
  refine ⟨a, c, rfl, fun h0 => ?_⟩
  obtain ⟨b, o, rfl, hb, hc⟩ := hc h0
  exact ⟨b, o, rfl, hb, fun j hj => ⟨hc j hj 0 _ rfl, hc j hj 1 _ rfl, hc j hj 2 _ rfl, hc j hj 3 _ rfl⟩⟩

set_option maxHeartbeats 2000000 in
set_option maxRecDepth 100000 in
theorem equalD_at (v v' : Value) (l m : List L9.Df) (b : Bool) (w : World) (hl : l.length ≤ 100000) (hm : m.length ≤ 100000) (hv : DfAt w v l) (hv' : DfAt w v' m) (hb : b = true ↔ l = m) :
    Calls Tryz.prog 31 #[v, v'] w fun e w' => e = .returned (.bool b) ∧ Below w.heap.size w w' := by
  obtain ⟨n, hn⟩ : ∃ n, l.length = n := ⟨_, rfl⟩
  obtain ⟨n', hn'⟩ : ∃ n, m.length = n := ⟨_, rfl⟩
  obtain ⟨a, c, rfl, hc⟩ := df_form4 hn hv
  obtain ⟨a', c', rfl, hc'⟩ := df_form4 hn' hv'
  rw [hn] at hl
  rw [hn'] at hm
  by_cases hne : n = n'
  · subst hne
    have HN := Lib.hid hn
    have HM := Lib.hid hn'
    have HC := Lib.hid hc
    have HC' := Lib.hid hc'
    have HB := Lib.hid hb
    clear hn hn' hc hc' hb hv hv'
    go_enter Tryz.func31, Tryz.ntmps31
    go_wp2
    go_loopw [5, 13] (fun _ i wr => ∃ (k q : Nat), k ≤ n ∧ i = .int .i64 (k : Int) ∧ wr = w.drewN q ∧ Hid (l.take k = m.take k)) (fun _ i _ => n - (intOf i).toNat)
    case atStart => exact ⟨0, 0, Nat.zero_le _, rfl, rfl, Lib.hid rfl⟩
    case round =>
      obtain ⟨k, q, hk, rfl, rfl, hT⟩ := hrel
      by_cases hlt : k < n
      · have hk1 : k < l.length := by rw [HN.out]; exact hlt
        have hk2 : k < m.length := by rw [HM.out]; exact hlt
        obtain ⟨b1, o1, rfl, hb1, hc1⟩ := HC.out (by omega)
        obtain ⟨b2, o2, rfl, hb2, hc2⟩ := HC'.out (by omega)
        have hx := hc1 k hk1
        have hy := hc2 k hk2
        clear hc1 hc2
        have hlt' : (k : Int) < (n : Int) := by omega
        by_cases he : l[k] = m[k]
        · have HT := Lib.hid (take_eq hk1 hk2 hT.out he)
          rw [← he] at hy
          obtain ⟨d, hd⟩ : ∃ d, l[k] = d := ⟨_, rfl⟩
          rw [hd] at hx hy
          clear he hd hT
          obtain ⟨x0, x1, x2, x3⟩ := hx
          obtain ⟨y0, y1, y2, y3⟩ := hy
          have hq := nq_df d d true (by simp)
          simp only [Bool.not_true] at hq
          go_wp2
          go_quiet (fail)
          go_wp2
          go_roundw
          case rel => exact ⟨k + 1, q + nq, by omega, by go_num, rfl, HT⟩
          case measure => simp [intOf]; omega
        · have HB2 : Hid (b = false) := Lib.hid (by
            cases b with
            | false => rfl
            | true => exact absurd (HB.out.1 rfl) (get_ne hk1 hk2 he))
          obtain ⟨d, hd⟩ : ∃ d, l[k] = d := ⟨_, rfl⟩
          obtain ⟨d', hd'⟩ : ∃ d, m[k] = d := ⟨_, rfl⟩
          rw [hd] at hx
          rw [hd'] at hy
          rw [hd, hd'] at he
          obtain ⟨x0, x1, x2, x3⟩ := hx
          obtain ⟨y0, y1, y2, y3⟩ := hy
          have hq := nq_df d d' false (by simp [he])
          simp only [Bool.not_false] at hq
          clear he
          clear hd hd' hT
          go_wp2
          go_quiet (fail)
          go_wp2
          go_ret
          rw [HB2.out]
          exact ⟨rfl, L8.bdN (L8.bdN (Below.refl _ _) _) _⟩
      · obtain rfl : k = n := by omega
        have HB2 : Hid (b = true) := Lib.hid (HB.out.2 (take_all HN.out HM.out hT.out))
        clear hT
        go_wp2
        go_ret
        rw [HB2.out]
        exact ⟨rfl, L8.bdN (Below.refl _ _) _⟩
  · have hbf : b = false := by
      cases b with
      | false => rfl
      | true =>
        have := hb.1 rfl
        subst this
        omega
    subst hbf
    have h1 : ¬ (n : Int) = (n' : Int) := by omega
    have h2 : ((n : Int) == (n' : Int)) = false := by simpa using h1
    clear hn hn' hc hc' hb hv hv'
    go_enter Tryz.func31, Tryz.ntmps31
    go_wp2
    go_ret
    exact ⟨rfl, Below.refl _ _⟩

set_option maxHeartbeats 2000000 in
set_option maxRecDepth 100000 in
theorem equalT_at (v v' : Value) (l m : List ByteArray) (b : Bool) (w : World) (hl : l.length ≤ 100000) (hm : m.length ≤ 100000) (hv : L8.StAt w v l) (hv' : L8.StAt w v' m) (hb : b = true ↔ l = m) :
    Calls Tryz.prog 49 #[v, v'] w fun e w' => e = .returned (.bool b) ∧ Below w.heap.size w w' := by
  obtain ⟨n, hn⟩ : ∃ n, l.length = n := ⟨_, rfl⟩
  obtain ⟨n', hn'⟩ : ∃ n, m.length = n := ⟨_, rfl⟩
  obtain ⟨a, c, rfl, hc⟩ := st_form hn hv
  obtain ⟨a', c', rfl, hc'⟩ := st_form hn' hv'
  rw [hn] at hl
  rw [hn'] at hm
  by_cases hne : n = n'
  · subst hne
    have HN := Lib.hid hn
    have HM := Lib.hid hn'
    have HC := Lib.hid hc
    have HC' := Lib.hid hc'
    have HB := Lib.hid hb
    clear hn hn' hc hc' hb hv hv'
    go_enter Tryz.func49, Tryz.ntmps49
    go_wp2
    go_loopw [5, 13] (fun _ i wr => ∃ (k q : Nat), k ≤ n ∧ i = .int .i64 (k : Int) ∧ wr = w.drewN q ∧ Hid (l.take k = m.take k)) (fun _ i _ => n - (intOf i).toNat)
    case atStart => exact ⟨0, 0, Nat.zero_le _, rfl, rfl, Lib.hid rfl⟩
    case round =>
      obtain ⟨k, q, hk, rfl, rfl, hT⟩ := hrel
      by_cases hlt : k < n
      · have hk1 : k < l.length := by rw [HN.out]; exact hlt
        have hk2 : k < m.length := by rw [HM.out]; exact hlt
        obtain ⟨b1, o1, rfl, hb1, hc1⟩ := HC.out (by omega)
        obtain ⟨b2, o2, rfl, hb2, hc2⟩ := HC'.out (by omega)
        have hx := hc1 k hk1
        have hy := hc2 k hk2
        clear hc1 hc2
        have hlt' : (k : Int) < (n : Int) := by omega
        by_cases he : l[k] = m[k]
        · have HT := Lib.hid (take_eq hk1 hk2 hT.out he)
          rw [← he] at hy
          obtain ⟨d, hd⟩ : ∃ d, l[k] = d := ⟨_, rfl⟩
          rw [hd] at hx hy
          clear he hd hT
          have ht : (d.toList == d.toList) = true := by simp
          go_wp2
          go_quiet (fail)
          go_wp2
          go_roundw
          case rel => exact ⟨k + 1, q + nq, by omega, by go_num, rfl, HT⟩
          case measure => simp [intOf]; omega
        · have HB2 : Hid (b = false) := Lib.hid (by
            cases b with
            | false => rfl
            | true => exact absurd (HB.out.1 rfl) (get_ne hk1 hk2 he))
          obtain ⟨d, hd⟩ : ∃ d, l[k] = d := ⟨_, rfl⟩
          obtain ⟨d', hd'⟩ : ∃ d, m[k] = d := ⟨_, rfl⟩
          rw [hd] at hx
          rw [hd'] at hy
          rw [hd, hd'] at he
          have ht : (d.toList == d'.toList) = false := L2.txt_ne he
          clear he
          clear hd hd' hT
          go_wp2
          go_quiet (fail)
          go_wp2
          go_ret
          rw [HB2.out]
          exact ⟨rfl, L8.bdN (L8.bdN (Below.refl _ _) _) _⟩
      · obtain rfl : k = n := by omega
        have HB2 : Hid (b = true) := Lib.hid (HB.out.2 (take_all HN.out HM.out hT.out))
        clear hT
        go_wp2
        go_ret
        rw [HB2.out]
        exact ⟨rfl, L8.bdN (Below.refl _ _) _⟩
  · have hbf : b = false := by
      cases b with
      | false => rfl
      | true =>
        have := hb.1 rfl
        subst this
        omega
    subst hbf
    have h1 : ¬ (n : Int) = (n' : Int) := by omega
    have h2 : ((n : Int) == (n' : Int)) = false := by simpa using h1
    clear hn hn' hc hc' hb hv hv'
    go_enter Tryz.func49, Tryz.ntmps49
    go_wp2
    go_ret
    exact ⟨rfl, Below.refl _ _⟩

set_option maxHeartbeats 2000000 in
set_option maxRecDepth 100000 in
theorem equalI_at (v v' : Value) (l m : List Int) (b : Bool) (w : World) (hl : l.length ≤ 100000) (hm : m.length ≤ 100000) (hv : InAt w v l) (hv' : InAt w v' m) (hb : b = true ↔ l = m) :
    Calls Tryz.prog 21 #[v, v'] w fun e w' => e = .returned (.bool b) ∧ Below w.heap.size w w' := by
  obtain ⟨n, hn⟩ : ∃ n, l.length = n := ⟨_, rfl⟩
  obtain ⟨n', hn'⟩ : ∃ n, m.length = n := ⟨_, rfl⟩
  obtain ⟨a, c, rfl, hc⟩ := in_form hn hv
  obtain ⟨a', c', rfl, hc'⟩ := in_form hn' hv'
  rw [hn] at hl
  rw [hn'] at hm
  by_cases hne : n = n'
  · subst hne
    have HN := Lib.hid hn
    have HM := Lib.hid hn'
    have HC := Lib.hid hc
    have HC' := Lib.hid hc'
    have HB := Lib.hid hb
    clear hn hn' hc hc' hb hv hv'
    go_enter Tryz.func21, Tryz.ntmps21
    go_wp2
    go_loopw [5, 13] (fun _ i wr => ∃ (k q : Nat), k ≤ n ∧ i = .int .i64 (k : Int) ∧ wr = w.drewN q ∧ Hid (l.take k = m.take k)) (fun _ i _ => n - (intOf i).toNat)
    case atStart => exact ⟨0, 0, Nat.zero_le _, rfl, rfl, Lib.hid rfl⟩
    case round =>
      obtain ⟨k, q, hk, rfl, rfl, hT⟩ := hrel
      by_cases hlt : k < n
      · have hk1 : k < l.length := by rw [HN.out]; exact hlt
        have hk2 : k < m.length := by rw [HM.out]; exact hlt
        obtain ⟨b1, o1, rfl, hb1, hc1⟩ := HC.out (by omega)
        obtain ⟨b2, o2, rfl, hb2, hc2⟩ := HC'.out (by omega)
        have hx := hc1 k hk1
        have hy := hc2 k hk2
        clear hc1 hc2
        have hlt' : (k : Int) < (n : Int) := by omega
        by_cases he : l[k] = m[k]
        · have HT := Lib.hid (take_eq hk1 hk2 hT.out he)
          rw [← he] at hy
          obtain ⟨d, hd⟩ : ∃ d, l[k] = d := ⟨_, rfl⟩
          rw [hd] at hx hy
          clear he hd hT
          go_wp2
          go_quiet (fail)
          go_wp2
          go_roundw
          case rel => exact ⟨k + 1, q + nq, by omega, by go_num, rfl, HT⟩
          case measure => simp [intOf]; omega
        · have HB2 : Hid (b = false) := Lib.hid (by
            cases b with
            | false => rfl
            | true => exact absurd (HB.out.1 rfl) (get_ne hk1 hk2 he))
          obtain ⟨d, hd⟩ : ∃ d, l[k] = d := ⟨_, rfl⟩
          obtain ⟨d', hd'⟩ : ∃ d, m[k] = d := ⟨_, rfl⟩
          rw [hd] at hx
          rw [hd'] at hy
          rw [hd, hd'] at he
          have ht : (d == d') = false := by simpa using he
          clear hd hd' hT
          go_wp2
          go_quiet (fail)
          go_wp2
          go_ret
          rw [HB2.out]
          exact ⟨rfl, L8.bdN (L8.bdN (Below.refl _ _) _) _⟩
      · obtain rfl : k = n := by omega
        have HB2 : Hid (b = true) := Lib.hid (HB.out.2 (take_all HN.out HM.out hT.out))
        clear hT
        go_wp2
        go_ret
        rw [HB2.out]
        exact ⟨rfl, L8.bdN (Below.refl _ _) _⟩
  · have hbf : b = false := by
      cases b with
      | false => rfl
      | true =>
        have := hb.1 rfl
        subst this
        omega
    subst hbf
    have h1 : ¬ (n : Int) = (n' : Int) := by omega
    have h2 : ((n : Int) == (n' : Int)) = false := by simpa using h1
    clear hn hn' hc hc' hb hv hv'
    go_enter Tryz.func21, Tryz.ntmps21
    go_wp2
    go_ret
    exact ⟨rfl, Below.refl _ _⟩

/-! ### statements -/
theorem stm_iff {s t : Stm} {b1 b2 b3 b4 b : Bool} (h1 : b1 = true ↔ s.labs = t.labs) (h2 : b2 = true ↔ s.x = t.x) (h3 : b3 = true ↔ s.tg = t.tg) (h4 : b4 = true ↔ s.mp = t.mp) (h : b = true ↔ s = t) : b = (((b1 && b2) && b3) && b4) := by
  obtain ⟨l, x, g, m⟩ := s
  obtain ⟨l', x', g', m'⟩ := t
  simp only [Stm.mk.injEq] at h h1 h2 h3 h4
  rw [Bool.eq_iff_iff, h]
  simp only [Bool.and_eq_true, h1, h2, h3, h4, and_assoc]
set_option maxHeartbeats 4000000 in
set_option maxRecDepth 100000 in
theorem sameStmt_at (lv lv' : Value) (s t : Stm) (b : Bool) (w : World) (hl : s.labs.length ≤ 100000) (hm : t.labs.length ≤ 100000) (hv : L8.StAt w lv s.labs) (hv' : L8.StAt w lv' t.labs) (hb : b = true ↔ s = t) :
    Calls Tryz.prog 33 #[.agg #[lv, .int .i64 s.x.op, .bool s.x.reg, .int .i64 s.x.dst, .int .i64 s.x.src, .int .i64 s.x.off, .int .i64 s.x.imm, .string s.tg, .string s.mp], .agg #[lv', .int .i64 t.x.op, .bool t.x.reg, .int .i64 t.x.dst, .int .i64 t.x.src, .int .i64 t.x.off, .int .i64 t.x.imm, .string t.tg, .string t.mp]] w fun e w' => e = .returned (.bool b) ∧ Below w.heap.size w w' := by
  obtain ⟨b1, h1⟩ := bx (s.labs = t.labs)
  obtain ⟨b2, h2⟩ := bx (s.x = t.x)
  obtain ⟨b3, h3⟩ := bx (s.tg = t.tg)
  obtain ⟨b4, h4⟩ := bx (s.mp = t.mp)
  have HBB := Lib.hid (stm_iff h1 h2 h3 h4 hb)
  have HE := Lib.hid (fun W hb => equalT_at lv lv' s.labs t.labs b1 W hl hm (hv.below hb) (hv'.below hb) h1)
  obtain ⟨n, hn⟩ : ∃ n, s.labs.length = n := ⟨_, rfl⟩
  obtain ⟨n', hn'⟩ : ∃ n, t.labs.length = n := ⟨_, rfl⟩
  obtain ⟨a, c, rfl, -⟩ := st_form hn hv
  obtain ⟨a', c', rfl, -⟩ := st_form hn' hv'
  have hq := eq_ins s.x t.x b2 h2
  have t3 := tl_beq h3
  have t4 := tl_beq h4
  clear hv hv' hb hl hm h1 h2 h3 h4 hn hn'
  cases b1
  all_goals
    go_enter Tryz.func33, Tryz.ntmps33
  · go_wp2_with (go_at_call 49; ((with_reducible refine (HE.out _ (L2.bch (L8.bnew w _) (L8.bnew _ _))).mono ?_); rintro e w1 ⟨rfl, k1⟩))
    go_ret
    exact ⟨by rw [HBB.out]; rfl, L2.bch (L2.bch (L8.bnew w _) (L8.bnew _ _)) k1⟩
  · cases b2 <;> cases b3 <;> cases b4
    all_goals
      go_wp2_with (go_at_call 49; ((with_reducible refine (HE.out _ (L2.bch (L8.bnew w _) (L8.bnew _ _))).mono ?_); rintro e w1 ⟨rfl, k1⟩; obtain ⟨x0, x1, x2, x3, x4, x5, x6, x7, x8⟩ := cells9 (L8.row_up (L8.row_up (heap_alloc_last w (.cells #[(.slice a n c), .int .i64 s.x.op, .bool s.x.reg, .int .i64 s.x.dst, .int .i64 s.x.src, .int .i64 s.x.off, .int .i64 s.x.imm, .string s.tg, .string s.mp] 41)) (L8.bnew _ _)) k1); obtain ⟨y0, y1, y2, y3, y4, y5, y6, y7, y8⟩ := cells9 (L8.row_up (heap_alloc_last (w.alloc (.cells #[(.slice a n c), .int .i64 s.x.op, .bool s.x.reg, .int .i64 s.x.dst, .int .i64 s.x.src, .int .i64 s.x.off, .int .i64 s.x.imm, .string s.tg, .string s.mp] 41)) (.cells #[(.slice a' n' c'), .int .i64 t.x.op, .bool t.x.reg, .int .i64 t.x.dst, .int .i64 t.x.src, .int .i64 t.x.off, .int .i64 t.x.imm, .string t.tg, .string t.mp] 41)) k1); simp only [World.size_alloc] at y0 y1 y2 y3 y4 y5 y6 y7 y8))
      go_ret
      exact ⟨by rw [HBB.out]; rfl, L2.bch (L2.bch (L8.bnew w _) (L8.bnew _ _)) k1⟩

set_option maxHeartbeats 4000000 in
set_option maxRecDepth 100000 in
theorem equalM_at (v v' : Value) (l m : List Stm) (b : Bool) (w : World) (hl : l.length ≤ 100000) (hm : m.length ≤ 100000) (hv : SmAt w v l) (hv' : SmAt w v' m) (hz : ∀ s ∈ l, s.labs.length ≤ 100000) (hz' : ∀ s ∈ m, s.labs.length ≤ 100000) (hb : b = true ↔ l = m) :
    Calls Tryz.prog 32 #[v, v', .func (.func 33) #[] #[]] w fun e w' => e = .returned (.bool b) ∧ Below w.heap.size w w' := by
  obtain ⟨n, hn⟩ : ∃ n, l.length = n := ⟨_, rfl⟩
  obtain ⟨n', hn'⟩ : ∃ n, m.length = n := ⟨_, rfl⟩
  obtain ⟨a, c, rfl, hc⟩ := sm_form hn hv
  obtain ⟨a', c', rfl, hc'⟩ := sm_form hn' hv'
  rw [hn] at hl
  rw [hn'] at hm
  by_cases hne : n = n'
  · subst hne
    have HN := Lib.hid hn
    have HM := Lib.hid hn'
    have HC := Lib.hid hc
    have HC' := Lib.hid hc'
    have HB := Lib.hid hb
    have HZ := Lib.hid hz
    have HZ' := Lib.hid hz'
    have HI := Lib.hid (Below.refl w.heap.size w)
    clear hn hn' hc hc' hb hv hv' hz hz'
    go_enter Tryz.func32, Tryz.ntmps32
    go_wp2
    go_loopw [7, 8, 9, 17] (fun _ _ _ i wr => ∃ k : Nat, k ≤ n ∧ i = .int .i64 (k : Int) ∧ Hid (Below w.heap.size w wr) ∧ Hid (l.take k = m.take k)) (fun _ _ _ i _ => n - (intOf i).toNat)
    case atStart => exact ⟨0, Nat.zero_le _, rfl, HI, Lib.hid rfl⟩
    case round =>
      obtain ⟨k, hk, rfl, hB, hT⟩ := hrel
      by_cases hlt : k < n
      · have hk1 : k < l.length := by rw [HN.out]; exact hlt
        have hk2 : k < m.length := by rw [HM.out]; exact hlt
        obtain ⟨b1, o1, rfl, hb1, hc1⟩ := HC.out (by omega)
        obtain ⟨b2, o2, rfl, hb2, hc2⟩ := HC'.out (by omega)
        obtain ⟨lv, hst, hx⟩ := hc1 k hk1
        obtain ⟨lv', hst', hy⟩ := hc2 k hk2
        have hz := HZ.out _ (List.getElem_mem hk1)
        have hz' := HZ'.out _ (List.getElem_mem hk2)
        clear hc1 hc2
        have hlt' : (k : Int) < (n : Int) := by omega
        have hX := fun i u hu => (hB.out.cell (by exact hb1)).trans (hx i u hu)
        have hY := fun i u hu => (hB.out.cell (by exact hb2)).trans (hy i u hu)
        have x0 := hX 0 _ rfl
        have x1 := hX 1 _ rfl
        have x2 := hX 2 _ rfl
        have x3 := hX 3 _ rfl
        have x4 := hX 4 _ rfl
        have x5 := hX 5 _ rfl
        have x6 := hX 6 _ rfl
        have x7 := hX 7 _ rfl
        have x8 := hX 8 _ rfl
        have y0 := hY 0 _ rfl
        have y1 := hY 1 _ rfl
        have y2 := hY 2 _ rfl
        have y3 := hY 3 _ rfl
        have y4 := hY 4 _ rfl
        have y5 := hY 5 _ rfl
        have y6 := hY 6 _ rfl
        have y7 := hY 7 _ rfl
        have y8 := hY 8 _ rfl
        rw [Nat.add_zero] at x0 y0
        have hw1 := World.block_lt_of_cell? wr _ x0
        have hw2 := World.block_lt_of_cell? wr _ y0
        simp only at hw1 hw2
        obtain ⟨bb, hbb⟩ := bx (l[k] = m[k])
        have HT := Lib.hid (fun he => take_eq hk1 hk2 hT.out he)
        have HF : Hid (bb = false → b = false) := Lib.hid fun h => by
          cases b with
          | false => rfl
          | true =>
            have := HB.out.1 rfl
            subst this
            rw [hbb.2 rfl] at h
            cases h
        obtain ⟨s, hs⟩ : ∃ s, l[k] = s := ⟨_, rfl⟩
        obtain ⟨t, ht⟩ : ∃ t, m[k] = t := ⟨_, rfl⟩
        rw [hs] at x1 x2 x3 x4 x5 x6 x7 x8 hst hz hbb HT
        rw [ht] at y1 y2 y3 y4 y5 y6 y7 y8 hst' hz' hbb HT
        have HS := Lib.hid (fun W hb => sameStmt_at lv lv' s t bb W hz hz' (hst.below (hB.out.trans hb)) (hst'.below (hB.out.trans hb)) hbb)
        have HBB := Lib.hid hbb
        obtain ⟨ln, hln⟩ : ∃ ln, s.labs.length = ln := ⟨_, rfl⟩
        obtain ⟨ln', hln'⟩ : ∃ ln, t.labs.length = ln := ⟨_, rfl⟩
        obtain ⟨la, lc, rfl, -⟩ := st_form hln hst
        obtain ⟨la', lc', rfl, -⟩ := st_form hln' hst'
        have hbw : Below w.heap.size wr (wr.alloc (.cells #[(.slice la ln lc), .int .i64 s.x.op, .bool s.x.reg, .int .i64 s.x.dst, .int .i64 s.x.src, .int .i64 s.x.off, .int .i64 s.x.imm, .string s.tg, .string s.mp] 41)) := (L8.bnew wr _).mono hB.out.size
        have HBW := Lib.hid (hbw.trans ((L8.bnew (wr.alloc (.cells #[(.slice la ln lc), .int .i64 s.x.op, .bool s.x.reg, .int .i64 s.x.dst, .int .i64 s.x.src, .int .i64 s.x.off, .int .i64 s.x.imm, .string s.tg, .string s.mp] 41)) (.cells #[(.slice la' ln' lc'), .int .i64 t.x.op, .bool t.x.reg, .int .i64 t.x.dst, .int .i64 t.x.src, .int .i64 t.x.off, .int .i64 t.x.imm, .string t.tg, .string t.mp] 41)).mono (by have := hB.out.size; simp; omega)))
        clear hX hY hx hy hst hst' hz hz' hs ht hbb hln hln' hT hbw
        cases bb
        · go_wp2_with (go_at_call 33; ((with_reducible refine (HS.out _ HBW.out).mono ?_); rintro e w1 ⟨rfl, k1⟩))
          go_ret
          rw [HF.out (by trivial)]
          exact ⟨rfl, hB.out.trans (HBW.out.trans (k1.mono (Nat.le_trans hB.out.size (by simp; omega))))⟩
        · go_wp2_with (go_at_call 33; ((with_reducible refine (HS.out _ HBW.out).mono ?_); rintro e w1 ⟨rfl, k1⟩))
          go_roundw
          case rel => exact ⟨k + 1, by omega, by go_num, Lib.hid (hB.out.trans (HBW.out.trans (k1.mono (Nat.le_trans hB.out.size (by simp; omega))))), Lib.hid (HT.out (HBB.out.1 (by trivial)))⟩
          case measure => simp [intOf]; omega
      · obtain rfl : k = n := by omega
        have HB2 : Hid (b = true) := Lib.hid (HB.out.2 (take_all HN.out HM.out hT.out))
        clear hT
        go_wp2
        go_ret
        rw [HB2.out]
        exact ⟨rfl, hB.out⟩
  · have hbf : b = false := by
      cases b with
      | false => rfl
      | true =>
        have := hb.1 rfl
        subst this
        omega
    subst hbf
    have h1 : ¬ (n : Int) = (n' : Int) := by omega
    have h2 : ((n : Int) == (n' : Int)) = false := by simpa using h1
    clear hn hn' hc hc' hb hv hv'
    go_enter Tryz.func32, Tryz.ntmps32
    go_wp2
    go_ret
    exact ⟨rfl, Below.refl _ _⟩

theorem pg_iff {p q : Pg} {b1 b2 b : Bool} (h1 : b1 = true ↔ p.maps = q.maps) (h2 : b2 = true ↔ p.stmts = q.stmts) (h : b = true ↔ p = q) : b = (b1 && b2) := by
  obtain ⟨l, x⟩ := p
  obtain ⟨l', x'⟩ := q
  simp only [Pg.mk.injEq] at h h1 h2
  rw [Bool.eq_iff_iff, h]
  simp only [Bool.and_eq_true, h1, h2]
/-- No list of a program is too long. -/
structure Sml (p : Pg) : Prop where
  maps : p.maps.length ≤ 100000
  stmts : p.stmts.length ≤ 100000
  labs : ∀ s ∈ p.stmts, s.labs.length ≤ 100000
set_option maxHeartbeats 2000000 in
set_option maxRecDepth 100000 in
theorem same_at (vm vs vm' vs' : Value) (p q : Pg) (b : Bool) (w : World) (hp : PgAt w vm vs p) (hq : PgAt w vm' vs' q) (hs : Sml p) (hs' : Sml q) (hb : b = true ↔ p = q) :
    Calls Tryz.prog 12 #[.agg #[vm, vs], .agg #[vm', vs']] w fun e w' => e = .returned (.bool b) ∧ Below w.heap.size w w' := by
  obtain ⟨b1, h1⟩ := bx (p.maps = q.maps)
  obtain ⟨b2, h2⟩ := bx (p.stmts = q.stmts)
  have HBB := Lib.hid (pg_iff h1 h2 hb)
  have HD := Lib.hid (fun W hb => equalD_at vm vm' p.maps q.maps b1 W hs.maps hs'.maps (hp.1.below hb) (hq.1.below hb) h1)
  have HM := Lib.hid (fun W hb => equalM_at vs vs' p.stmts q.stmts b2 W hs.stmts hs'.stmts (hp.2.below hb) (hq.2.below hb) hs.labs hs'.labs h2)
  obtain ⟨n1, hn1⟩ : ∃ n, p.maps.length = n := ⟨_, rfl⟩
  obtain ⟨n2, hn2⟩ : ∃ n, p.stmts.length = n := ⟨_, rfl⟩
  obtain ⟨n3, hn3⟩ : ∃ n, q.maps.length = n := ⟨_, rfl⟩
  obtain ⟨n4, hn4⟩ : ∃ n, q.stmts.length = n := ⟨_, rfl⟩
  obtain ⟨a1, c1, rfl, -⟩ := df_form hn1 hp.1
  obtain ⟨a2, c2, rfl, -⟩ := sm_form hn2 hp.2
  obtain ⟨a3, c3, rfl, -⟩ := df_form hn3 hq.1
  obtain ⟨a4, c4, rfl, -⟩ := sm_form hn4 hq.2
  have hb0 : Below w.heap.size w ((w.alloc (.cells #[.slice a1 n1 c1, .slice a2 n2 c2] 25)).alloc (.cells #[.slice a3 n3 c3, .slice a4 n4 c4] 25)) := L2.bch (L8.bnew w _) (L8.bnew _ _)
  have HB := Lib.hid hb0
  clear hp hq hs hs' hb h1 h2 hn1 hn2 hn3 hn4 hb0
  cases b1
  all_goals
    go_enter Tryz.func12, Tryz.ntmps12
  · go_wp2_with (go_at_call 31; ((with_reducible refine (HD.out _ HB.out).mono ?_); rintro e w1 ⟨rfl, k1⟩))
    go_ret
    exact ⟨by rw [HBB.out]; rfl, L2.bch HB.out k1⟩
  · go_wp2_with (first
      | (go_at_call 31; ((with_reducible refine (HD.out _ HB.out).mono ?_); rintro e w1 ⟨rfl, k1⟩; obtain ⟨x0, x1⟩ := cells2p (L8.row_up (L8.row_up (heap_alloc_last w (.cells #[.slice a1 n1 c1, .slice a2 n2 c2] 25)) (L8.bnew _ _)) k1); obtain ⟨y0, y1⟩ := cells2p (L8.row_up (heap_alloc_last (w.alloc (.cells #[.slice a1 n1 c1, .slice a2 n2 c2] 25)) (.cells #[.slice a3 n3 c3, .slice a4 n4 c4] 25)) k1); simp only [World.size_alloc] at y0 y1))
      | (go_at_call 32; ((with_reducible refine (HM.out _ (L2.bch HB.out k1)).mono ?_); rintro e w2 ⟨rfl, k2⟩)))
    go_ret
    exact ⟨by rw [HBB.out]; rfl, L2.bch (L2.bch HB.out k1) k2⟩
end Go.Proofs.YtakblmonbeflmaaGreatDoor.L10
