/- What the statements of layer 8 share: the two sides' answers by cases, tokens at an index. No condition. -/
import Derived.Test.YtbneaihpnfkcdaaDoorL8Rshp
import Derived.Deep.DeepCutAuto
import Derived.BigQuiet
namespace Go.Proofs.YtbneaihpnfkcdaaDoor.L8
open Go.RowKit L2
attribute [local go_sem] Oper.semAt_some

theorem TksAt.form {w : World} {v : Value} {xs : Tks} (h : TksAt w v xs) : ∃ a cap, v = .slice a xs.length cap := by
  rcases h with ⟨b, o, cap, rfl, _⟩ | ⟨rfl, a, cap, rfl⟩
  · exact ⟨_, _, rfl⟩
  · exact ⟨_, _, rfl⟩
theorem TksAt.get {w : World} {a : Option Addr} {n cap : Nat} {xs : Tks} (h : TksAt w (.slice a n cap) xs) (hn : 0 < n) : ∃ b o, a = some ⟨b, o, none⟩ ∧ n ≤ cap ∧ b < w.heap.size ∧ xs.length = n ∧ Tksat w b o xs := by
  rcases h with ⟨b, o, c, hv, hcp, hb, hx⟩ | ⟨rfl, a', c, hv⟩
  · cases hv; exact ⟨b, o, rfl, hcp, hb, rfl, hx⟩
  · cases hv; omega
theorem PT_ok {w w' : World} {s : ByteArray} {e : Ending} (hb : bad s = -1) (h : PT w s e w') : ∃ a cap, e = .returned (.tuple #[.slice a (tks s).length cap, .int .i64 0, .int .i64 0]) ∧ TksAt w' (.slice a (tks s).length cap) (tkX s (tks s)) ∧ Below w.heap.size w w' := by
  obtain ⟨v, at_, er, rfl, hB, ⟨h0, _⟩ | ⟨_, rfl, rfl, hv⟩⟩ := h
  · omega
  · obtain ⟨a, cap, rfl⟩ := hv.form
    rw [tkX_len] at hv ⊢
    exact ⟨a, cap, rfl, hv, hB⟩
theorem PT_bad {w w' : World} {s : ByteArray} {e : Ending} (hb : 0 ≤ bad s) (h : PT w s e w') : ∃ a cap, e = .returned (.tuple #[.slice a 0 cap, .int .i64 (bad s), .int .i64 2]) ∧ Below w.heap.size w w' := by
  obtain ⟨v, at_, er, rfl, hB, ⟨_, rfl, rfl, a, cap, rfl⟩ | ⟨h0, _⟩⟩ := h
  · exact ⟨a, cap, rfl, hB⟩
  · omega
theorem TksAt.cells {w : World} {b o : Nat} {xs : Tks} (h : Tksat w b o xs) (j : Nat) (hj : j < xs.length) : ∃ T q, xs[j] = (T, q) ∧ w.cell? ⟨b, o + j * 2, none⟩ = some (.string T) ∧ w.cell? ⟨b, o + j * 2 + 1, none⟩ = some (.int .i64 q) := by
  obtain ⟨h1, h2⟩ := h j hj
  exact ⟨xs[j].1, xs[j].2, rfl, h1, h2⟩
theorem bdN {B : Nat} {w w' : World} (h : Below B w w') (m : Nat) : Below B w (w'.drewN m) := ⟨h.1, h.2, h.3, h.4, h.5⟩
theorem cells2 {w : World} {k : Nat} {a b : Value} {t : TypeId} (h : w.heap[k]? = some (.cells #[a, b] t)) : w.cell? ⟨k, 0, none⟩ = some a ∧ w.cell? ⟨k, 1, none⟩ = some b := by
  simp [World.cell?, h]
theorem row_up {w w' : World} {k : Nat} {cs : Array Value} {t : TypeId} (h : w.heap[k]? = some (.cells cs t)) (hb : Below w.heap.size w w') : w'.heap[k]? = some (.cells cs t) := (hb.block _ (lt_of_block h)).trans h
end Go.Proofs.YtbneaihpnfkcdaaDoor.L8
