/- What the program's Uses, Slots, Writes, Ends and Jumps return, form by form. No condition. -/
import Derived.Test.YthoghcejmnnniaaL3Form
namespace Go.Proofs.Ythoghcejmnnniaa.L4
open Go.RowKit L3

def uD (f : Int) : Bool := [0, 1, 2, 4, 7, 8, 9, 10, 11].contains f
def uS (f : Int) (reg : Bool) : Bool := [2, 7, 9].contains f || (reg && [0, 4].contains f)
def uO (f : Int) : Bool := [3, 4, 7, 8, 9].contains f
def uI (f : Int) (reg : Bool) : Bool := [5, 8, 10, 11].contains f || (!reg && [0, 4].contains f)
def slo (f : Int) : Int := if f < 0 then 0 else if 10 ≤ f then 2 else 1
def wri (f dst : Int) : Int := if [0, 1, 2, 7, 10, 11].contains f then dst else if f == 5 then 0 else -1

/-- A form, or that of a number of no operation. -/
def IsF (f : Int) : Prop := f = -1 ∨ f = 0 ∨ f = 1 ∨ f = 2 ∨ f = 3 ∨ f = 4 ∨ f = 5 ∨ f = 6 ∨ f = 7 ∨ f = 8 ∨ f = 9 ∨ f = 10 ∨ f = 11
theorem frm_isF (op : Int) : IsF (frm (ix op)) := by
  have h := ix_le op
  generalize ix op = k at h
  unfold IsF
  have : ∀ k, k < 87 → frm k = -1 ∨ frm k = 0 ∨ frm k = 1 ∨ frm k = 2 ∨ frm k = 3 ∨ frm k = 4 ∨ frm k = 5 ∨ frm k = 6 ∨ frm k = 7 ∨ frm k = 8 ∨ frm k = 9 ∨ frm k = 10 ∨ frm k = 11 := by decide +kernel
  exact this k (by omega)

theorem form_at (op v : Int) (w : World) (hv : frm (ix op) = v) : Calls Try.prog 30 #[.int .i64 op] w fun e w' => e = .returned (.int .i64 v) ∧ Below w.heap.size w w' := by
  subst hv
  exact form_any op w

theorem two_blocks {w w1 : World} {A B : Array Value} {t : TypeId} (h : Below ((w.alloc (.cells A t)).alloc (.cells B t)).heap.size ((w.alloc (.cells A t)).alloc (.cells B t)) w1) :
    w1.heap[w.heap.size]? = some (.cells A t) ∧ w1.heap[w.heap.size + 1]? = some (.cells B t) ∧ Below w.heap.size w w1 := by
  refine ⟨(h.block _ (by simp; omega)).trans ?_, (h.block _ (by simp)).trans ?_, bch (bch (bnew w _) (bnew _ _)) h⟩
  · rw [Below.heap_alloc _ _ _ (by simp), heap_alloc_last]
  · have := heap_alloc_last (w.alloc (.cells A t)) (.cells B t)
    simpa using this

theorem cells4 {w : World} {k : Nat} {a b c d : Value} {t : TypeId} (h : w.heap[k]? = some (.cells #[a, b, c, d] t)) :
    w.cell? ⟨k, 0, none⟩ = some a ∧ w.cell? ⟨k, 1, none⟩ = some b ∧ w.cell? ⟨k, 2, none⟩ = some c ∧ w.cell? ⟨k, 3, none⟩ = some d ∧
    w.frozen? ⟨k, 0, none⟩ = false ∧ w.frozen? ⟨k, 1, none⟩ = false ∧ w.frozen? ⟨k, 2, none⟩ = false ∧ w.frozen? ⟨k, 3, none⟩ = false := by
  simp [World.cell?, World.frozen?, h]

end Go.Proofs.Ythoghcejmnnniaa.L4
