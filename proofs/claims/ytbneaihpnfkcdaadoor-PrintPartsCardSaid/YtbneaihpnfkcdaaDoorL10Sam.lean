/- What slices.Equal returns at lists of declarations, texts and numbers, and what the program's Same returns: whether the two are equal. Condition: memory holds them, and they are not too long. -/
import Derived.Test.YtbneaihpnfkcdaaDoorL10Opn
import Derived.Test.YtbneaihpnfkcdaaDoorL10Cn
import Derived.Deep.QuietTactic
import Derived.BigQuiet
namespace Go.Proofs.YtbneaihpnfkcdaaDoor.L10
open Go.RowKit Go.Maps
attribute [local go_sem] Oper.semAt_some

theorem bx (P : Prop) : ∃ b : Bool, b = true ↔ P := by
  by_cases h : P
  · exact ⟨true, by simp [h]⟩
  · exact ⟨false, by simp [h]⟩
theorem tl_iff {a b : ByteArray} : a.toList = b.toList ↔ a = b :=
  ⟨fun h => Classical.byContradiction fun hn => by have := L2.txt_ne hn; rw [h] at this; simp at this, fun h => by rw [h]⟩
theorem tl_beq {a b : ByteArray} {x : Bool} (h : x = true ↔ a = b) : (a.toList == b.toList) = x := by
  by_cases e : a = b
  · rw [L2.txt_eq e, (h.2 e)]
  · rw [L2.txt_ne e]
    cases x
    · rfl
    · exact absurd (h.1 rfl) e
/-- Two declarations compared; two instructions. -/
theorem nq_df (d e : L9.Df) (b : Bool) (h : b = true ↔ d = e) (w : World) : (binOp .neq 34 (.agg #[.string d.nm, .int .i64 d.key, .int .i64 d.val, .int .i64 d.ent]) (.agg #[.string e.nm, .int .i64 e.key, .int .i64 e.val, .int .i64 e.ent])).run Tryd.prog w = .ok (.bool (!b)) w := by
  have hp : Tryd.prog.stoodInHeld 34 = false := by kernel_rfl
  have a9 : ∀ w, (isAgg 9).run Tryd.prog w = .ok false w := fun w => by kernel_rfl
  have a3 : ∀ w, (isAgg 3).run Tryd.prog w = .ok false w := fun w => by kernel_rfl
  obtain ⟨x1, x2, x3, x4⟩ := d
  obtain ⟨y1, y2, y3, y4⟩ := e
  simp only [L9.Df.mk.injEq] at h ⊢
  simp [go_sem, hp, Tryd.underlying34, Tryd.underlying9, Tryd.underlying3, part, a9, a3]
  simp only [tl_iff]
  by_cases e1 : x1 = y1 <;> by_cases e2 : x2 = y2 <;> by_cases e3 : x3 = y3 <;> by_cases e4 : x4 = y4 <;> cases b <;> simp_all
theorem eq_ins (x y : L9.Ins) (b : Bool) (h : b = true ↔ x = y) (w : World) : (binOp .eql 27 (.agg #[.int .i64 x.op, .bool x.reg, .int .i64 x.dst, .int .i64 x.src, .int .i64 x.off, .int .i64 x.imm]) (.agg #[.int .i64 y.op, .bool y.reg, .int .i64 y.dst, .int .i64 y.src, .int .i64 y.off, .int .i64 y.imm])).run Tryd.prog w = .ok (.bool b) w := by
  have hp : Tryd.prog.stoodInHeld 27 = false := by kernel_rfl
  have a4 : ∀ w, (isAgg 4).run Tryd.prog w = .ok false w := fun w => by kernel_rfl
  have a3 : ∀ w, (isAgg 3).run Tryd.prog w = .ok false w := fun w => by kernel_rfl
  have a2 : ∀ w, (isAgg 2).run Tryd.prog w = .ok false w := fun w => by kernel_rfl
  obtain ⟨x1, x2, x3, x4, x5, x6⟩ := x
  obtain ⟨y1, y2, y3, y4, y5, y6⟩ := y
  simp only [L9.Ins.mk.injEq] at h ⊢
  simp [go_sem, hp, Tryd.underlying27, Tryd.underlying4, Tryd.underlying3, Tryd.underlying2, part, a4, a3, a2]
  by_cases e1 : x1 = y1 <;> by_cases e2 : x2 = y2 <;> by_cases e3 : x3 = y3 <;> by_cases e4 : x4 = y4 <;> by_cases e5 : x5 = y5 <;> by_cases e6 : x6 = y6 <;> cases b <;> simp_all
theorem nq_ins (x y : L9.Ins) (b : Bool) (h : b = true ↔ x = y) (w : World) : (binOp .neq 27 (.agg #[.int .i64 x.op, .bool x.reg, .int .i64 x.dst, .int .i64 x.src, .int .i64 x.off, .int .i64 x.imm]) (.agg #[.int .i64 y.op, .bool y.reg, .int .i64 y.dst, .int .i64 y.src, .int .i64 y.off, .int .i64 y.imm])).run Tryd.prog w = .ok (.bool (!b)) w := by
  have hp : Tryd.prog.stoodInHeld 27 = false := by kernel_rfl
  have a4 : ∀ w, (isAgg 4).run Tryd.prog w = .ok false w := fun w => by kernel_rfl
  have a3 : ∀ w, (isAgg 3).run Tryd.prog w = .ok false w := fun w => by kernel_rfl
  have a2 : ∀ w, (isAgg 2).run Tryd.prog w = .ok false w := fun w => by kernel_rfl
  obtain ⟨x1, x2, x3, x4, x5, x6⟩ := x
  obtain ⟨y1, y2, y3, y4, y5, y6⟩ := y
  simp only [L9.Ins.mk.injEq] at h ⊢
  simp [go_sem, hp, Tryd.underlying27, Tryd.underlying4, Tryd.underlying3, Tryd.underlying2, part, a4, a3, a2]
  by_cases e1 : x1 = y1 <;> by_cases e2 : x2 = y2 <;> by_cases e3 : x3 = y3 <;> by_cases e4 : x4 = y4 <;> by_cases e5 : x5 = y5 <;> by_cases e6 : x6 = y6 <;> cases b <;> simp_all
theorem take_eq {α : Type} {l m : List α} {k : Nat} (h1 : k < l.length) (h2 : k < m.length) (h : l.take k = m.take k) (e : l[k] = m[k]) : l.take (k + 1) = m.take (k + 1) := by
  rw [List.take_add_one, List.take_add_one, h, List.getElem?_eq_getElem h1, List.getElem?_eq_getElem h2, e]
theorem take_all {α : Type} {l m : List α} {n : Nat} (h1 : l.length = n) (h2 : m.length = n) (h : l.take n = m.take n) : l = m := by
  rwa [List.take_of_length_le (by omega), List.take_of_length_le (by omega)] at h
theorem get_ne {α : Type} {l m : List α} {k : Nat} (h1 : k < l.length) (h2 : k < m.length) (h : l[k] ≠ m[k]) : l ≠ m := by
  rintro rfl; exact h rfl
theorem df_form4 {w : World} {v : Value} {l : List L9.Df} {n : Nat} (hn : l.length = n) (h : DfAt w v l) : ∃ a c, v = .slice a n c ∧ (0 < n → ∃ b o, a = some ⟨b, o, none⟩ ∧ b < w.heap.size ∧ ∀ j, (h : j < l.length) → w.cell? ⟨b, o + j * 4, none⟩ = some (.string l[j].nm) ∧ w.cell? ⟨b, o + j * 4 + 1, none⟩ = some (.int .i64 l[j].key) ∧ w.cell? ⟨b, o + j * 4 + 2, none⟩ = some (.int .i64 l[j].val) ∧ w.cell? ⟨b, o + j * 4 + 3, none⟩ = some (.int .i64 l[j].ent)) := by
  obtain ⟨a, c, rfl, hc⟩ := df_form hn h
  refine ⟨a, c, rfl, fun h0 => ?_⟩
  obtain ⟨b, o, rfl, hb, hc⟩ := hc h0
  exact ⟨b, o, rfl, hb, fun j hj => ⟨hc j hj 0 _ rfl, hc j hj 1 _ rfl, hc j hj 2 _ rfl, hc j hj 3 _ rfl⟩⟩

/-! ### statements -/
theorem stm_iff {s t : Stm} {b1 b2 b3 b4 b : Bool} (h1 : b1 = true ↔ s.labs = t.labs) (h2 : b2 = true ↔ s.x = t.x) (h3 : b3 = true ↔ s.tg = t.tg) (h4 : b4 = true ↔ s.mp = t.mp) (h : b = true ↔ s = t) : b = (((b1 && b2) && b3) && b4) := by
  obtain ⟨l, x, g, m⟩ := s
  obtain ⟨l', x', g', m'⟩ := t
  simp only [Stm.mk.injEq] at h h1 h2 h3 h4
  rw [Bool.eq_iff_iff, h]
  simp only [Bool.and_eq_true, h1, h2, h3, h4, and_assoc]
theorem pg_iff {p q : Pg} {b1 b2 b : Bool} (h1 : b1 = true ↔ p.maps = q.maps) (h2 : b2 = true ↔ p.stmts = q.stmts) (h : b = true ↔ p = q) : b = (b1 && b2) := by
  obtain ⟨l, x⟩ := p
  obtain ⟨l', x'⟩ := q
  simp only [Pg.mk.injEq] at h h1 h2
  rw [Bool.eq_iff_iff, h]
  simp only [Bool.and_eq_true, h1, h2]
/-- No list of a program is too long. -/
structure Sml (p : Pg) : Prop where
  maps : p.maps.length ≤ 100000
  stmts : p.stmts.length ≤ 100000
  labs : ∀ s ∈ p.stmts, s.labs.length ≤ 100000
end Go.Proofs.YtbneaihpnfkcdaaDoor.L10
