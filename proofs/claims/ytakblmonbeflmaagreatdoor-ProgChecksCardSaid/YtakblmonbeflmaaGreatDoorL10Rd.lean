/- The reader of programs: its state, plain and in memory, and what a step changes. It speaks of the program's types alone. No condition. -/
import Derived.Test.YtakblmonbeflmaaGreatDoorL10Fbw
import Derived.Test.YtakblmonbeflmaaGreatDoorL9Lin
import Derived.Deep.AppendLies
namespace Go.Proofs.YtakblmonbeflmaaGreatDoor.L10
open Go.RowKit Go.Maps
attribute [local go_sem] Oper.semAt_some

/-- An item of a line. -/
inductive It where
  | lb (t : ByteArray)
  | mp (d : L9.Df)
  | cd (x : L9.Ins) (tg m : ByteArray)
def It.toV : It → Value
  | .lb t => .iface 100 (.agg #[.string t])
  | .mp d => .iface 103 (.agg (L9.dfA d))
  | .cd x tg m => .iface 106 (.agg (L9.codA x tg m))
/-- The reader. -/
structure Rd where
  maps : List L9.Df
  stmts : List Stm
  ml : List Int
  sl : List Int
  labs : List ByteArray
  lbl : Int
  line : Int
def Rd.z : Rd := ⟨[], [], [], [], [], 0, 0⟩
def Rd.lab (s : Rd) (t : ByteArray) : Rd := { s with lbl := if s.labs = [] then s.line else s.lbl, labs := s.labs ++ [t] }
def Rd.map (s : Rd) (d : L9.Df) : Rd := { s with maps := s.maps ++ [d], ml := s.ml ++ [s.line] }
def Rd.cod (s : Rd) (x : L9.Ins) (tg mp : ByteArray) : Rd := { s with stmts := s.stmts ++ [⟨s.labs, x, tg, mp⟩], sl := s.sl ++ [s.line], labs := [] }

abbrev inI (l : List Int) : List Value := l.map (Value.int .i64)
abbrev smC (l : List (Value × Stm)) : List Value := l.flatMap fun x => smL x.1 x.2
/-- Labels that a statement keeps. -/
def LbAt (W : World) (v : Value) (l : List ByteArray) : Prop := L8.StAt W v l ∧ ∀ b, v.ownBlock = some b → ∃ cs fr, W.heap[b]? = some (.cells cs 9 fr)
/-- The reader's rows in memory. -/
structure RdR (B : Nat) (W : World) (vm vs mv sv lv : Value) (l : List (Value × Stm)) (s : Rd) : Prop where
  om : W.ownsRow B 36 4 vm s.maps.length (s.maps.flatMap dfL)
  os : W.ownsRow B 41 9 vs l.length (smC l)
  oml : W.ownsRow B 3 1 mv s.ml.length (inI s.ml)
  osl : W.ownsRow B 3 1 sv s.sl.length (inI s.sl)
  ol : W.ownsRow B 9 1 lv s.labs.length (L8.stC s.labs)
  lb : ∀ x ∈ l, LbAt W x.1 x.2.labs
  nl : ∀ x ∈ l, ∀ g, x.1.ownBlock = some g → lv.ownBlock ≠ some g
  ne : ∀ g, mv.ownBlock = some g → sv.ownBlock ≠ some g
  st : l.map (·.2) = s.stmts
theorem own_ty {w : World} {base e : TypeId} {size : Nat} {v : Value} {n : Nat} {xs : List Value} {g : Nat} (h : w.ownsRow base e size v n xs) (hg : v.ownBlock = some g) : ∃ cur, w.heap[g]? = some (.cells cur e (0, 0)) := by
  rcases h.2 with ⟨rfl, _⟩ | ⟨g', cap, cur, rfl, _, hh, _⟩
  · cases hg
  · obtain rfl : g' = g := by simpa [Value.ownBlock] using hg
    exact ⟨cur, hh⟩
theorem own_kept {w w' : World} {base e : TypeId} {size : Nat} {v : Value} {n : Nat} {xs : List Value} {o : Option Nat} (h : w.ownsRow base e size v n xs) (hg : w.grownBy w' o) (hne : ∀ g, v.ownBlock = some g → o ≠ some g) : w'.ownsRow base e size v n xs := by
  refine h.kept hg ?_
  cases hv : v.ownBlock with
  | none => exact .inl rfl
  | some g => exact .inr fun e => hne g hv e.symm
theorem LbAt.kept {W W' : World} {v : Value} {l : List ByteArray} {o : Option Nat} (h : LbAt W v l) (hg : W.grownBy W' o) (hne : ∀ g, v.ownBlock = some g → o ≠ some g) : LbAt W' v l := by
  refine ⟨?_, fun b hb => ?_⟩
  · rcases h.1 with ⟨b, i, cap, rfl, hlt, hc⟩ | h1
    · exact .inl ⟨b, i, cap, rfl, Nat.lt_of_lt_of_le hlt hg.size, fun j hj => hg.cell (hc j hj) (fun e => hne b rfl e.symm)⟩
    · exact .inr h1
  · obtain ⟨cs, fr, hh⟩ := h.2 b hb
    exact ⟨cs, fr, (hg.block b (Array.getElem?_eq_some_iff.1 hh).1 (fun e => hne b hb e.symm)).trans hh⟩
theorem ty_ne {w : World} {a b : Nat} {c1 c2 : Array Value} {t1 t2 : TypeId} {f1 f2 : Nat × Nat} (h1 : w.heap[a]? = some (.cells c1 t1 f1)) (h2 : w.heap[b]? = some (.cells c2 t2 f2)) (h : t1 ≠ t2) : (some a : Option Nat) ≠ some b := by
  intro e
  cases e
  rw [h1] at h2
  cases h2
  exact h rfl
section
variable {B : Nat} {W W' : World} {vm vs mv sv lv : Value} {l : List (Value × Stm)} {s : Rd}
/-- A change of a block of another type. -/
theorem RdR.other (h : RdR B W vm vs mv sv lv l s) {o : Option Nat} (hg : W.grownBy W' o) (ho : ∀ k, o = some k → ∃ cs t fr, W.heap[k]? = some (.cells cs t fr) ∧ t ≠ 36 ∧ t ≠ 41 ∧ t ≠ 3 ∧ t ≠ 9) : RdR B W' vm vs mv sv lv l s := by
  have key : ∀ {e : TypeId} {g : Nat} {cur : Array Value} {fr : Nat × Nat}, W.heap[g]? = some (.cells cur e fr) → (e = 36 ∨ e = 41 ∨ e = 3 ∨ e = 9) → o ≠ some g := by
    intro e g cur fr hh he ho'
    obtain ⟨cs, t, fr', hk, h1, h2, h3, h4⟩ := ho g ho'
    rw [hh] at hk
    cases hk
    rcases he with he | he | he | he
    · exact h1 he
    · exact h2 he
    · exact h3 he
    · exact h4 he
  refine ⟨own_kept h.om hg fun g hv => ?_, own_kept h.os hg fun g hv => ?_, own_kept h.oml hg fun g hv => ?_, own_kept h.osl hg fun g hv => ?_, own_kept h.ol hg fun g hv => ?_, fun x hx => (h.lb x hx).kept hg fun g hv => ?_, h.nl, h.ne, h.st⟩
  · obtain ⟨c, hc⟩ := own_ty h.om hv; exact key hc (.inl rfl)
  · obtain ⟨c, hc⟩ := own_ty h.os hv; exact key hc (.inr (.inl rfl))
  · obtain ⟨c, hc⟩ := own_ty h.oml hv; exact key hc (.inr (.inr (.inl rfl)))
  · obtain ⟨c, hc⟩ := own_ty h.osl hv; exact key hc (.inr (.inr (.inl rfl)))
  · obtain ⟨c, hc⟩ := own_ty h.ol hv; exact key hc (.inr (.inr (.inr rfl)))
  · obtain ⟨c, fr, hc⟩ := (h.lb x hx).2 g hv; exact key hc (.inr (.inr (.inr rfl)))
theorem RdR.below (h : RdR B W vm vs mv sv lv l s) (hb : Below W.heap.size W W') : RdR B W' vm vs mv sv lv l s := h.other (gr_of hb none) (fun k hk => by cases hk)
/-- A label more. -/
theorem RdR.addLab (h : RdR B W vm vs mv sv lv l s) (t : ByteArray) {g cap : Nat} (ho : W'.ownsRow B 9 1 (.slice (some ⟨g, 0, none⟩) (s.labs.length + 1) cap) (s.labs.length + 1) (L8.stC s.labs ++ [.string t])) (hg : W.grownBy W' lv.ownBlock) (hat : lv.ownBlock = some g ∨ g = W.heap.size) :
    RdR B W' vm vs mv sv (.slice (some ⟨g, 0, none⟩) (s.labs.length + 1) cap) l (s.lab t) := by
  have key : ∀ {e : TypeId} {k : Nat} {cur : Array Value} {fr : Nat × Nat}, W.heap[k]? = some (.cells cur e fr) → e ≠ 9 → lv.ownBlock ≠ some k := by
    intro e k cur fr hh he hl
    obtain ⟨c, hc⟩ := own_ty h.ol hl
    rw [hh] at hc
    cases hc
    exact he rfl
  refine ⟨own_kept h.om hg fun k hv => ?_, own_kept h.os hg fun k hv => ?_, own_kept h.oml hg fun k hv => ?_, own_kept h.osl hg fun k hv => ?_, ?_, fun x hx => (h.lb x hx).kept hg fun k hv => h.nl x hx k hv, fun x hx k hv => ?_, h.ne, h.st⟩
  · obtain ⟨c, hc⟩ := own_ty h.om hv; exact key hc (by decide)
  · obtain ⟨c, hc⟩ := own_ty h.os hv; exact key hc (by decide)
  · obtain ⟨c, hc⟩ := own_ty h.oml hv; exact key hc (by decide)
  · obtain ⟨c, hc⟩ := own_ty h.osl hv; exact key hc (by decide)
  · show W'.ownsRow B _ 1 _ (s.labs ++ [t]).length (L8.stC (s.labs ++ [t]))
    rw [L8.stC_snoc, List.length_append]
    exact ho
  · show (some g : Option Nat) ≠ some k
    rintro e
    cases e
    rcases hat with hat | rfl
    · exact h.nl x hx g hv hat
    · obtain ⟨c, fr, hc⟩ := (h.lb x hx).2 _ hv
      exact absurd (Array.getElem?_eq_some_iff.1 hc).1 (Nat.lt_irrefl _)
/-- A map's declaration more; its line. -/
theorem RdR.addDef (h : RdR B W vm vs mv sv lv l s) (d : L9.Df) {g cap : Nat} (ho : W'.ownsRow B 36 4 (.slice (some ⟨g, 0, none⟩) (s.maps.length + 1) cap) (s.maps.length + 1) (s.maps.flatMap dfL ++ dfL d)) (hg : W.grownBy W' vm.ownBlock) :
    RdR B W' (.slice (some ⟨g, 0, none⟩) (s.maps.length + 1) cap) vs mv sv lv l { s with maps := s.maps ++ [d] } := by
  have key : ∀ {e : TypeId} {k : Nat} {cur : Array Value} {fr : Nat × Nat}, W.heap[k]? = some (.cells cur e fr) → e ≠ 36 → vm.ownBlock ≠ some k := by
    intro e k cur fr hh he hl
    obtain ⟨c, hc⟩ := own_ty h.om hl
    rw [hh] at hc
    cases hc
    exact he rfl
  refine ⟨?_, own_kept h.os hg fun k hv => ?_, own_kept h.oml hg fun k hv => ?_, own_kept h.osl hg fun k hv => ?_, own_kept h.ol hg fun k hv => ?_, fun x hx => (h.lb x hx).kept hg fun k hv => ?_, h.nl, h.ne, h.st⟩
  · show W'.ownsRow B _ 4 _ (s.maps ++ [d]).length ((s.maps ++ [d]).flatMap dfL)
    rw [List.flatMap_append, List.length_append]
    simpa using ho
  · obtain ⟨c, hc⟩ := own_ty h.os hv; exact key hc (by decide)
  · obtain ⟨c, hc⟩ := own_ty h.oml hv; exact key hc (by decide)
  · obtain ⟨c, hc⟩ := own_ty h.osl hv; exact key hc (by decide)
  · obtain ⟨c, hc⟩ := own_ty h.ol hv; exact key hc (by decide)
  · obtain ⟨c, fr, hc⟩ := (h.lb x hx).2 k hv; exact key hc (by decide)
theorem RdR.addMl (h : RdR B W vm vs mv sv lv l s) (i : Int) {g cap : Nat} (ho : W'.ownsRow B 3 1 (.slice (some ⟨g, 0, none⟩) (s.ml.length + 1) cap) (s.ml.length + 1) (inI s.ml ++ [.int .i64 i])) (hg : W.grownBy W' mv.ownBlock) (hat : mv.ownBlock = some g ∨ g = W.heap.size) :
    RdR B W' vm vs (.slice (some ⟨g, 0, none⟩) (s.ml.length + 1) cap) sv lv l { s with ml := s.ml ++ [i] } := by
  have key : ∀ {e : TypeId} {k : Nat} {cur : Array Value} {fr : Nat × Nat}, W.heap[k]? = some (.cells cur e fr) → e ≠ 3 → mv.ownBlock ≠ some k := by
    intro e k cur fr hh he hl
    obtain ⟨c, hc⟩ := own_ty h.oml hl
    rw [hh] at hc
    cases hc
    exact he rfl
  refine ⟨own_kept h.om hg fun k hv => ?_, own_kept h.os hg fun k hv => ?_, ?_, own_kept h.osl hg fun k hv hm => h.ne k hm hv, own_kept h.ol hg fun k hv => ?_, fun x hx => (h.lb x hx).kept hg fun k hv => ?_, h.nl, fun k hk hv => ?_, h.st⟩
  · obtain ⟨c, hc⟩ := own_ty h.om hv; exact key hc (by decide)
  · obtain ⟨c, hc⟩ := own_ty h.os hv; exact key hc (by decide)
  · show W'.ownsRow B _ 1 _ (s.ml ++ [i]).length (inI (s.ml ++ [i]))
    unfold inI
    rw [List.map_append, List.length_append]
    exact ho
  · obtain ⟨c, hc⟩ := own_ty h.ol hv; exact key hc (by decide)
  · obtain ⟨c, fr, hc⟩ := (h.lb x hx).2 k hv; exact key hc (by decide)
  · cases hk
    rcases hat with hat | rfl
    · exact h.ne g hat hv
    · obtain ⟨c, hc⟩ := own_ty h.osl hv
      exact absurd (Array.getElem?_eq_some_iff.1 hc).1 (Nat.lt_irrefl _)
theorem RdR.addSl (h : RdR B W vm vs mv sv lv l s) (i : Int) {g cap : Nat} (ho : W'.ownsRow B 3 1 (.slice (some ⟨g, 0, none⟩) (s.sl.length + 1) cap) (s.sl.length + 1) (inI s.sl ++ [.int .i64 i])) (hg : W.grownBy W' sv.ownBlock) (hat : sv.ownBlock = some g ∨ g = W.heap.size) :
    RdR B W' vm vs mv (.slice (some ⟨g, 0, none⟩) (s.sl.length + 1) cap) lv l { s with sl := s.sl ++ [i] } := by
  have key : ∀ {e : TypeId} {k : Nat} {cur : Array Value} {fr : Nat × Nat}, W.heap[k]? = some (.cells cur e fr) → e ≠ 3 → sv.ownBlock ≠ some k := by
    intro e k cur fr hh he hl
    obtain ⟨c, hc⟩ := own_ty h.osl hl
    rw [hh] at hc
    cases hc
    exact he rfl
  refine ⟨own_kept h.om hg fun k hv => ?_, own_kept h.os hg fun k hv => ?_, own_kept h.oml hg fun k hv hm => h.ne k hv hm, ?_, own_kept h.ol hg fun k hv => ?_, fun x hx => (h.lb x hx).kept hg fun k hv => ?_, h.nl, fun k hk hv => ?_, h.st⟩
  · obtain ⟨c, hc⟩ := own_ty h.om hv; exact key hc (by decide)
  · obtain ⟨c, hc⟩ := own_ty h.os hv; exact key hc (by decide)
  · show W'.ownsRow B _ 1 _ (s.sl ++ [i]).length (inI (s.sl ++ [i]))
    unfold inI
    rw [List.map_append, List.length_append]
    exact ho
  · obtain ⟨c, hc⟩ := own_ty h.ol hv; exact key hc (by decide)
  · obtain ⟨c, fr, hc⟩ := (h.lb x hx).2 k hv; exact key hc (by decide)
  · cases hv
    rcases hat with hat | rfl
    · exact h.ne g hk hat
    · obtain ⟨c, hc⟩ := own_ty h.oml hk
      exact absurd (Array.getElem?_eq_some_iff.1 hc).1 (Nat.lt_irrefl _)
/-- A statement more; the labels are its own from now on. -/
theorem RdR.addStm (h : RdR B W vm vs mv sv lv l s) (x : L9.Ins) (tg mp : ByteArray) {g cap : Nat} (ho : W'.ownsRow B 41 9 (.slice (some ⟨g, 0, none⟩) (l.length + 1) cap) (l.length + 1) (smC l ++ smL lv ⟨s.labs, x, tg, mp⟩)) (hg : W.grownBy W' vs.ownBlock) :
    RdR B W' vm (.slice (some ⟨g, 0, none⟩) (l.length + 1) cap) mv sv (.slice none 0 0) (l ++ [(lv, ⟨s.labs, x, tg, mp⟩)]) { s with stmts := s.stmts ++ [⟨s.labs, x, tg, mp⟩], labs := [] } := by
  have key : ∀ {e : TypeId} {k : Nat} {cur : Array Value} {fr : Nat × Nat}, W.heap[k]? = some (.cells cur e fr) → e ≠ 41 → vs.ownBlock ≠ some k := by
    intro e k cur fr hh he hl
    obtain ⟨c, hc⟩ := own_ty h.os hl
    rw [hh] at hc
    cases hc
    exact he rfl
  refine ⟨own_kept h.om hg fun k hv => ?_, ?_, own_kept h.oml hg fun k hv => ?_, own_kept h.osl hg fun k hv => ?_, World.ownsRow_nil _ _ _ _, fun y hy => ?_, fun y hy k hv e => (by cases e), h.ne, ?_⟩
  · obtain ⟨c, hc⟩ := own_ty h.om hv; exact key hc (by decide)
  · rw [List.length_append]
    show W'.ownsRow B _ 9 _ (l.length + 1) (smC (l ++ [(lv, ⟨s.labs, x, tg, mp⟩)]))
    unfold smC
    rw [List.flatMap_append]
    simpa using ho
  · obtain ⟨c, hc⟩ := own_ty h.oml hv; exact key hc (by decide)
  · obtain ⟨c, hc⟩ := own_ty h.osl hv; exact key hc (by decide)
  · rcases List.mem_append.1 hy with hy | hy
    · refine (h.lb y hy).kept hg fun k hv => ?_
      obtain ⟨c, fr, hc⟩ := (h.lb y hy).2 k hv
      exact key hc (by decide)
    · obtain rfl : y = (lv, ⟨s.labs, x, tg, mp⟩) := by simpa using hy
      have hl : LbAt W lv s.labs := ⟨L8.own_st h.ol, fun b hb => by obtain ⟨c, hc⟩ := own_ty h.ol hb; exact ⟨c, _, hc⟩⟩
      refine hl.kept hg fun k hv => ?_
      obtain ⟨c, hc⟩ := own_ty h.ol hv
      exact key hc (by decide)
  · rw [List.map_append, h.st]
    rfl
end
end Go.Proofs.YtakblmonbeflmaaGreatDoor.L10
