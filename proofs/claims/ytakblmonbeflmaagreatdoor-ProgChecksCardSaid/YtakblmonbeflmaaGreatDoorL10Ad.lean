/- What the reader's addLabel, addMap, addCode and lineOf do. Condition: memory holds the reader, whose rows are the call's own. -/
import Derived.Test.YtakblmonbeflmaaGreatDoorL10Rd
import Derived.Laws.Tables
namespace Go.Proofs.YtakblmonbeflmaaGreatDoor.L10
open Go.RowKit Go.Maps
attribute [local go_sem] Oper.semAt_some

abbrev rdA (vm vs mv sv lv : Value) (lbl line : Int) : Array Value := #[vm, vs, mv, sv, lv, .int .i64 lbl, .int .i64 line]
/-- The reader in memory. -/
def RdM (B kr : Nat) (W : World) (l : List (Value × Stm)) (s : Rd) : Prop := ∃ vm vs mv sv lv, W.heap[kr]? = some (.cells (rdA vm vs mv sv lv s.lbl s.line) 75) ∧ RdR B W vm vs mv sv lv l s
theorem cells7 {w : World} {k : Nat} {a b c d e f g : Value} {t : TypeId} (h : w.heap[k]? = some (.cells #[a, b, c, d, e, f, g] t)) : w.cell? ⟨k, 0, none⟩ = some a ∧ w.cell? ⟨k, 1, none⟩ = some b ∧ w.cell? ⟨k, 2, none⟩ = some c ∧ w.cell? ⟨k, 3, none⟩ = some d ∧ w.cell? ⟨k, 4, none⟩ = some e ∧ w.cell? ⟨k, 5, none⟩ = some f ∧ w.cell? ⟨k, 6, none⟩ = some g := by
  simp [World.cell?, h]
theorem frozen_all {w : World} {k : Nat} {cs : Array Value} {t : TypeId} (h : w.heap[k]? = some (.cells cs t)) (i : Nat) : w.frozen? ⟨k, i, none⟩ = false := by simp [World.frozen?, h]
theorem row_set {w : World} {k : Nat} {cs : Array Value} {t : TypeId} (h : w.heap[k]? = some (.cells cs t)) (i : Nat) (v : Value) : (w.setCell ⟨k, i, none⟩ v).heap[k]? = some (.cells (cs.setIfInBounds i v) t) := L4.heap_setCell_same h v
theorem gr_setCell (w : World) (k i : Nat) (v : Value) : w.grownBy (w.setCell ⟨k, i, none⟩ v) (some k) := ⟨rfl, rfl, rfl, by simp [World.setCell], fun x _ hne => Below.heap_setCell _ _ _ _ (fun e => hne (by rw [e]))⟩
/-- What stands below B is as it was, but for the reader. -/
structure Fk (kr B : Nat) (w w' : World) : Prop where
  os : w'.os = w.os
  tape : w'.tape = w.tape
  output : w'.output = w.output
  size : w.heap.size ≤ w'.heap.size
  block : ∀ k, k < B → k ≠ kr → w'.heap[k]? = w.heap[k]?
theorem Fk.refl (kr B : Nat) (w : World) : Fk kr B w w := ⟨rfl, rfl, rfl, Nat.le_refl _, fun _ _ _ => rfl⟩
theorem Fk.trans {kr B : Nat} {a b c : World} (h : Fk kr B a b) (k : Fk kr B b c) : Fk kr B a c := ⟨k.os.trans h.os, k.tape.trans h.tape, k.output.trans h.output, Nat.le_trans h.size k.size, fun x hx hn => (k.block x hx hn).trans (h.block x hx hn)⟩
theorem Fk.of {kr B : Nat} {a b : World} (h : Below a.heap.size a b) (hB : B ≤ a.heap.size) : Fk kr B a b := ⟨h.os, h.tape, h.output, h.size, fun k hk _ => h.block k (Nat.lt_of_lt_of_le hk hB)⟩
theorem Fk.drew {kr B : Nat} {a b : World} (h : Fk kr B a b) : Fk kr B a b.drew := ⟨h.os, h.tape, h.output, h.size, h.block⟩
theorem Fk.alloc {kr B : Nat} {a b : World} (h : Fk kr B a b) (hB : B ≤ b.heap.size) (o : Obj) : Fk kr B a (b.alloc o) := h.trans (Fk.of (L8.bnew b o) hB)
theorem Fk.grown {kr B : Nat} {a b c : World} {o : Option Nat} (h : Fk kr B a b) (hg : b.grownBy c o) (hB : B ≤ b.heap.size) (hr : ∀ k, o = some k → B ≤ k) : Fk kr B a c :=
  h.trans ⟨hg.os, hg.tape, hg.output, hg.size, fun k hk _ => hg.block k (Nat.lt_of_lt_of_le hk hB) (fun e => by have := hr k e.symm; omega)⟩
theorem Fk.set {kr B : Nat} {a b : World} (h : Fk kr B a b) (i : Nat) (v : Value) : Fk kr B a (b.setCell ⟨kr, i, none⟩ v) :=
  h.trans ⟨rfl, rfl, rfl, by simp [World.setCell], fun k _ hn => Below.heap_setCell _ _ _ _ hn⟩
theorem Fk.setRow {kr B : Nat} {a b : World} (h : Fk kr B a b) {k : Nat} (hk : B ≤ k) (cs : Array Value) : Fk kr B a (b.setRow k cs) :=
  h.trans ⟨rfl, rfl, rfl, by simp [World.setRow], fun x hx _ => setRow_other b k x cs (by omega)⟩
theorem Fk.bel {kr B C : Nat} {a b : World} (h : Fk kr B a b) (hB : C ≤ B) (hk : C ≤ kr) : Below C a b := ⟨h.os, h.tape, h.output, h.size, fun k hk' => h.block k (by omega) (by omega)⟩
theorem Fk.st {kr B : Nat} {a b : World} (h : Fk kr B a b) {v : Value} {l : List ByteArray} (hv : L8.StAt a v l) (hb : ∀ k, v.ownBlock = some k → k < B ∧ k ≠ kr) : L8.StAt b v l := by
  rcases hv with ⟨x, o, cap, rfl, hlt, hc⟩ | hv
  · obtain ⟨h1, h2⟩ := hb x rfl
    exact .inl ⟨x, o, cap, rfl, Nat.lt_of_lt_of_le hlt h.size, fun j hj => (World.cell?_of_block (h.block x h1 h2)).trans (hc j hj)⟩
  · exact .inr hv
theorem bel_set {B : Nat} {w W : World} (h : Below B w W) {k : Nat} (hk : B ≤ k) (i : Nat) (v : Value) : Below B w (W.setCell ⟨k, i, none⟩ v) := h.setCell (p := ⟨k, i, none⟩) hk v
theorem RdR.rd {B : Nat} {W W' : World} {vm vs mv sv lv : Value} {l : List (Value × Stm)} {s : Rd} {kr : Nat} {cs : Array Value} (h : RdR B W vm vs mv sv lv l s) (hg : W.grownBy W' (some kr)) (hk : W.heap[kr]? = some (.cells cs 75)) : RdR B W' vm vs mv sv lv l s :=
  h.other hg fun k e => by cases e; exact ⟨_, _, _, hk, by decide, by decide, by decide, by decide⟩
theorem RdR.lbl {B : Nat} {W : World} {vm vs mv sv lv : Value} {l : List (Value × Stm)} {s : Rd} (h : RdR B W vm vs mv sv lv l s) (i j : Int) : RdR B W vm vs mv sv lv l { s with lbl := i, line := j } := ⟨h.om, h.os, h.oml, h.osl, h.ol, h.lb, h.nl, h.ne, h.st⟩
theorem infoT : (Tryz.prog.info? 9).map (fun i => (i.zero, i.size, i.bytes)) = some (some (.string ⟨#[]⟩), 1, 16) := by kernel_rfl
theorem infoI : (Tryz.prog.info? 3).map (fun i => (i.zero, i.size, i.bytes)) = some (some (.int .i64 0), 1, 8) := by kernel_rfl
theorem infoD : (Tryz.prog.info? 36).map (fun i => (i.zero, i.size, i.bytes)) = some (some (.agg #[.string ⟨#[]⟩, .int .i64 0, .int .i64 0, .int .i64 0]), 4, 40) := by kernel_rfl
theorem infoS : (Tryz.prog.info? 41).map (fun i => (i.zero, i.size, i.bytes)) = some (some (.agg #[.slice none 0 0, .int .i64 0, .bool false, .int .i64 0, .int .i64 0, .int .i64 0, .int .i64 0, .string ⟨#[]⟩, .string ⟨#[]⟩]), 9, 104) := by kernel_rfl
theorem row_own {W W' : World} {kr : Nat} {cs : Array Value} {B e : TypeId} {size : Nat} {v : Value} {n : Nat} {xs : List Value} (hk : W.heap[kr]? = some (.cells cs 75)) (ho : W.ownsRow B e size v n xs) (hg : W.grownBy W' v.ownBlock) (he : e ≠ 75) : W'.heap[kr]? = some (.cells cs 75) := by
  refine (hg.block kr (lt_of_block hk) fun h => ?_).trans hk
  obtain ⟨c, hc⟩ := own_ty ho h.symm
  rw [hk] at hc
  cases hc
  exact he rfl
/-- Lists of items stay as they were. -/
def KT (w w' : World) : Prop := ∀ (k : Nat) (cs : Array Value) (fr : Nat × Nat), w.heap[k]? = some (.cells cs 98 fr) → w'.heap[k]? = some (.cells cs 98 fr)
theorem KT.trans {a b c : World} (h : KT a b) (k : KT b c) : KT a c := fun _ _ _ hx => k _ _ _ (h _ _ _ hx)
theorem KT.below {a b : World} (h : Below a.heap.size a b) : KT a b := fun k _ _ hx => (h.block k (Array.getElem?_eq_some_iff.1 hx).1).trans hx
theorem KT.gr {a b : World} {k : Nat} {cs : Array Value} {t : TypeId} {fr : Nat × Nat} (hg : a.grownBy b (some k)) (hk : a.heap[k]? = some (.cells cs t fr)) (ht : t ≠ 98) : KT a b := fun _ _ _ hx => (hg.block _ (Array.getElem?_eq_some_iff.1 hx).1 (ty_ne hx hk (Ne.symm ht))).trans hx
theorem KT.own {a b : World} {B e : TypeId} {size : Nat} {v : Value} {n : Nat} {xs : List Value} (ho : a.ownsRow B e size v n xs) (hg : a.grownBy b v.ownBlock) (he : e ≠ 98) : KT a b := fun k cs fr hx => (hg.block k (Array.getElem?_eq_some_iff.1 hx).1 (fun h => by
  obtain ⟨c, hc⟩ := own_ty ho h.symm
  rw [hx] at hc
  cases hc
  exact he rfl)).trans hx
theorem own_base2 {w : World} {base e : TypeId} {size : Nat} {v : Value} {n : Nat} {xs : List Value} (h : w.ownsRow base e size v n xs) : ∀ j, v.ownBlock = some j → base ≤ j := fun j hj => (h.lt j hj).1
theorem lab_first {vm vs mv sv v v' : Value} {s : Rd} {t : ByteArray} (h0 : s.labs = []) : ((rdA vm vs mv sv v s.lbl s.line).setIfInBounds 5 (.int .i64 s.line)).setIfInBounds 4 v' = rdA vm vs mv sv v' (s.lab t).lbl (s.lab t).line := by
  unfold Rd.lab
  rw [if_pos h0]
  rfl
theorem lab_next {vm vs mv sv v v' : Value} {s : Rd} {t : ByteArray} (h0 : ¬ s.labs = []) : (rdA vm vs mv sv v s.lbl s.line).setIfInBounds 4 v' = rdA vm vs mv sv v' (s.lab t).lbl (s.lab t).line := by
  unfold Rd.lab
  rw [if_neg h0]
  rfl
set_option maxHeartbeats 2000000 in
set_option maxRecDepth 100000 in
theorem addLabel_at (B kr : Nat) (t : ByteArray) (l : List (Value × Stm)) (s : Rd) (w : World) (h : RdM B kr w l s) (hB : B ≤ w.heap.size) (hm : s.labs.length ≤ 100000) :
    Calls Tryz.prog 55 #[.pointer (some ⟨kr, 0, none⟩), .string t] w fun e w' => e = .returned (.tuple #[]) ∧ RdM B kr w' l (s.lab t) ∧ Fk kr B w w' ∧ KT w w' := by
  obtain ⟨i0, hi, hz0, hz1, hz2⟩ := info_parts infoT
  obtain ⟨vm, vs, mv, sv, lv, hrow, hR⟩ := h
  obtain ⟨n, hn⟩ : ∃ n, s.labs.length = n := ⟨_, rfl⟩
  have hol := hR.ol
  obtain ⟨la, lc, rfl⟩ := L8.owns_slice hol
  have hkl := lt_of_block hrow
  rw [hn] at hol hrow hR hm
  obtain ⟨x0, x1, x2, x3, x4, x5, x6⟩ := cells7 hrow
  by_cases h0 : s.labs = []
  · have hn0 : n = 0 := by rw [← hn, h0]; rfl
    subst hn0
    have hR1 := hR.rd (gr_setCell w kr 5 (.int .i64 s.line)) hrow
    have hr1 := row_set hrow 5 (.int .i64 s.line)
    have fz := frozen_all hrow 5
    obtain ⟨y0, y1, y2, y3, y4, y5, y6⟩ := cells7 hr1
    have hb1 := Fk.set (Fk.refl kr B w) 5 (.int .i64 s.line)
    have hT1 := KT.gr (gr_setCell w kr 5 (.int .i64 s.line)) hrow (by decide)
    have w1_le : B ≤ (w.setCell ⟨kr, 5, none⟩ (.int .i64 s.line)).heap.size := by simpa [World.setCell] using hB
    have ho1 := hR1.ol
    rw [hn] at ho1
    obtain ⟨w1, hw1⟩ : ∃ w1, w.setCell ⟨kr, 5, none⟩ (.int .i64 s.line) = w1 := ⟨_, rfl⟩
    rw [hw1] at hr1 hR1 hb1 hT1 w1_le ho1 y0 y1 y2 y3 y4 y5 y6
    have hkl1 := lt_of_block hr1
    go_enter Tryz.func55, Tryz.ntmps55
    go_wp2_with (at_builtin; refine wpList_append_lies _ rfl _ _ 39 rfl B 9 i0 (.string ⟨#[]⟩) 1 16 Tryz.underlying39 hi hz0 hz1 hz2 rfl (by decide) _ 0 _ rfl (ho1.alloc _) ⟨_, 0, none⟩ 1 1 [.string t] rfl rfl (World.news_of_block (cs := #[.string t]) (t := 9) (fr := (0, 0)) (heap_alloc_last w1 _)) (by simp [Value.oneCell']) (by decide) (by unfold maxLen; omega) (by omega) (by have := w1_le; simp; omega) _ rfl ?_; intro g cap w2 hown2 hgrow2 hat2 hlt2; have row2 := row_own (L8.row_up hr1 (L8.bnew _ (.cells #[.string t] 9))) (ho1.alloc _) hgrow2 (by decide); obtain ⟨-, -, -, -, z4, -, -⟩ := cells7 row2; have fz2 := frozen_all row2 4; clear hr1)
    go_end0
    refine ⟨rfl, ⟨vm, vs, mv, sv, _, (row_set row2 4 _).trans (by rw [lab_first (t := t) h0]), ?_⟩, Fk.set (((hb1.alloc w1_le _).grown hgrow2 (by simp; omega) (own_base2 ho1))) 4 _, (hT1.trans (KT.below (L8.bnew w1 (.cells #[.string t] 9)))).trans ((KT.own (ho1.alloc _) hgrow2 (by decide)).trans (KT.gr (gr_setCell _ kr 4 _) row2 (by decide)))⟩
    have R2 := (hR1.below (L8.bnew w1 (.cells #[.string t] 9))).addLab t (by rw [hn]; exact hown2) hgrow2 hat2
    rw [hn] at R2
    exact R2.rd (gr_setCell _ kr 4 _) row2
  · have hn0 : 0 < n := by rcases Nat.eq_zero_or_pos n with h | h; · exact absurd (List.eq_nil_of_length_eq_zero (hn.trans h)) h0
                           · exact h
    have w_le : B ≤ w.heap.size := hB
    go_enter Tryz.func55, Tryz.ntmps55
    have hn1 : ¬ n = 0 := by omega
    have hn2 : ¬ (n : Int) = 0 := by omega
    go_wp2_with (at_builtin; refine wpList_append_lies _ rfl _ _ 39 rfl B 9 i0 (.string ⟨#[]⟩) 1 16 Tryz.underlying39 hi hz0 hz1 hz2 rfl (by decide) _ n _ rfl (hol.alloc _) ⟨_, 0, none⟩ 1 1 [.string t] rfl rfl (World.news_of_block (cs := #[.string t]) (t := 9) (fr := (0, 0)) (heap_alloc_last w _)) (by simp [Value.oneCell']) (by decide) (by unfold maxLen; omega) (by omega) (by have := w_le; simp; omega) _ rfl ?_; intro g cap w2 hown2 hgrow2 hat2 hlt2; have row2 := row_own (L8.row_up hrow (L8.bnew _ (.cells #[.string t] 9))) (hol.alloc _) hgrow2 (by decide); obtain ⟨-, -, -, -, z4, -, -⟩ := cells7 row2; have fz2 := frozen_all row2 4; clear hrow)
    go_end0
    refine ⟨rfl, ⟨vm, vs, mv, sv, _, (row_set row2 4 _).trans (by rw [lab_next (t := t) h0]), ?_⟩, Fk.set ((((Fk.refl kr B w).alloc w_le _).grown hgrow2 (by simp; omega) (own_base2 hol))) 4 _, (KT.below (L8.bnew w (.cells #[.string t] 9))).trans ((KT.own (hol.alloc _) hgrow2 (by decide)).trans (KT.gr (gr_setCell _ kr 4 _) row2 (by decide)))⟩
    have R2 := (hR.below (L8.bnew w (.cells #[.string t] 9))).addLab t (by rw [hn]; exact hown2) hgrow2 hat2
    rw [hn] at R2
    exact R2.rd (gr_setCell _ kr 4 _) row2
end Go.Proofs.YtakblmonbeflmaaGreatDoor.L10
