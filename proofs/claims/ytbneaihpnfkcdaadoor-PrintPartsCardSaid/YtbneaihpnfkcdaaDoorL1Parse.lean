/- What Parse returns (num.Parse), for every text and number of bits, where the table of widths reads as the program's text lays it; it turns nothing that was there. -/
import Derived.Test.YtbneaihpnfkcdaaDoorL1Uns
namespace Go.Proofs.YtbneaihpnfkcdaaDoor.L1
open Go.RowKit

theorem Wid.lt {w : World} (h : Wid w) : 1 < w.heap.size := by
  obtain ⟨t, fr, h⟩ := h; exact lt_of_block h
theorem Wid.below {B : Nat} {w w' : World} (h : Wid w) (hb : Below B w w') (hB : 1 < B) : Wid w' := by
  obtain ⟨t, fr, h⟩ := h; exact ⟨t, fr, (hb.block 1 hB).trans h⟩
theorem Wid.alloc {w : World} (h : Wid w) (o : Obj) : Wid (w.alloc o) := h.below ((Below.refl _ _).alloc (Nat.le_refl _) o) h.lt
theorem Wid.drewN {w : World} (h : Wid w) (n : Nat) : Wid (w.drewN n) := h

theorem Calls.turn {P : Program} {f : FuncId} {args : Array Value} {w : World} {v : Value} (h : Calls P f args w fun e w' => e = .returned v ∧ w = w') : Calls P f args w fun e w' => e = .returned v ∧ w' = w :=
  h.mono fun _ _ h => ⟨h.1, h.2.symm⟩

/-- What Parse returns: the value and the error's number. -/
def ps (l : List UInt8) (b : Int) : Int × Int :=
  match us (Lib.trimPrefix l [45]) with
  | none => (0, 3)
  | some (v, o) => if isW b && (!o && decide ((v : Int) ≤ gr (Lib.hasPrefix l [45]) b)) then (sx b (if Lib.hasPrefix l [45] then -(v : Int) else v), 0) else (0, 4)

theorem ret_two {k k' : IntKind} {a b c : Int} (h : a = b) : Ending.returned (.tuple #[.int k a, .int k' c]) = .returned (.tuple #[.int k b, .int k' c]) := by rw [h]

theorem rd_lt (base : Nat) : ∀ (l : List UInt8) (v : Nat) (o : Bool) (v' : Nat) (o' : Bool), v < 18446744073709551616 → rd base l v o = some (v', o') → v' < 18446744073709551616
  | [], v, o, v', o', h, e => by
    simp only [rd, Option.some.injEq, Prod.mk.injEq] at e
    omega
  | c :: r, v, o, v', o', h, e => by
    simp only [rd] at e
    split at e
    · exact rd_lt base r _ _ _ _ (Nat.mod_lt _ (by decide)) e
    · cases e

theorem us_lt (l : List UInt8) {v : Nat} {o : Bool} (h : us l = some (v, o)) : v < 18446744073709551616 := by
  unfold us at h
  split at h
  · split at h
    · cases h
    · exact rd_lt _ _ _ _ _ _ (by decide) h
  · split at h
    · cases h
    · exact rd_lt _ _ _ _ _ _ (by decide) h

theorem isW_of {b : Int} (h : b = 8 ∨ b = 16 ∨ b = 32 ∨ b = 64) : isW b = true := by
  rcases h with rfl | rfl | rfl | rfl <;> rfl

end Go.Proofs.YtbneaihpnfkcdaaDoor.L1
