/- A part of a slice of tokens, the program's and the reference's. No condition but the part's bounds. -/
import Derived.Test.YtbneaihpnfkcdaaDoorL8Rshp
namespace Go.Proofs.YtbneaihpnfkcdaaDoor.L8
open Go.RowKit L2

/-- A part of tokens that lie in memory. -/
theorem tks_sub {w : World} {b o n cap : Nat} {xs : Tks} (hb : b < w.heap.size) (hx : Tksat w b o xs) (hn : xs.length = n) (f t : Nat) (h : f ≤ t) (h2 : t ≤ n) (hc : n ≤ cap) :
    TksAt w (.slice (some ⟨b, if cap = f then o else o + f * 2, none⟩) (t - f) (cap - f)) ((xs.drop f).take (t - f)) := by
  have hl : ((xs.drop f).take (t - f)).length = t - f := by rw [List.length_take, List.length_drop]; omega
  refine .inl ⟨b, _, _, by rw [hl], by rw [hl]; omega, hb, fun j hj => ?_⟩
  rw [hl] at hj
  rw [if_neg (by omega)]
  have := hx (f + j) (by omega)
  have e : o + f * 2 + j * 2 = o + (f + j) * 2 := by omega
  rw [e]
  simpa using this
end Go.Proofs.YtbneaihpnfkcdaaDoor.L8
