/- A part of a slice of tokens, the program's and the reference's. No condition but the part's bounds. -/
import Derived.Test.YtdpdeelnabomlaaL8Rshp
namespace Go.Proofs.Ytdpdeelnabomlaa.L8
open Go.RowKit L2

theorem sub_ref (b o n cap f t : Nat) (h : f ≤ t) (h2 : t ≤ n) (hc : n ≤ cap) (w : World) :
    (Instr.slice 27 (.slice (some ⟨b, o, none⟩) n cap) (some (.int .i64 (f : Int))) (some (.int .i64 (t : Int))) none).run Try.prog w = .ok (.slice (some ⟨b, if cap = f then o else o + f * 2, none⟩) (t - f) (cap - f)) w := by
  have h4 : t ≤ cap := by omega
  by_cases hq : cap = f
  · simp [go_sem, Try.underlying27, h, hq]
    intro hh; omega
  · simp [go_sem, Try.underlying27, h, h4, hq]
theorem sub_own (b o n cap f t : Nat) (h : f ≤ t) (h2 : t ≤ n) (hc : n ≤ cap) (w : World) :
    (Instr.slice 23 (.slice (some ⟨b, o, none⟩) n cap) (some (.int .i64 (f : Int))) (some (.int .i64 (t : Int))) none).run Try.prog w = .ok (.slice (some ⟨b, if cap = f then o else o + f * 2, none⟩) (t - f) (cap - f)) w := by
  have h4 : t ≤ cap := by omega
  by_cases hq : cap = f
  · simp [go_sem, Try.underlying23, h, hq]
    intro hh; omega
  · simp [go_sem, Try.underlying23, h, h4, hq]
/-- A part of tokens that lie in memory. -/
theorem tks_sub {w : World} {b o n cap : Nat} {xs : Tks} (hb : b < w.heap.size) (hx : Tksat w b o xs) (hn : xs.length = n) (f t : Nat) (h : f ≤ t) (h2 : t ≤ n) (hc : n ≤ cap) :
    TksAt w (.slice (some ⟨b, if cap = f then o else o + f * 2, none⟩) (t - f) (cap - f)) ((xs.drop f).take (t - f)) := by
  have hl : ((xs.drop f).take (t - f)).length = t - f := by rw [List.length_take, List.length_drop]; omega
  refine .inl ⟨b, _, _, by rw [hl], by rw [hl]; omega, hb, fun j hj => ?_⟩
  rw [hl] at hj
  rw [if_neg (by omega)]
  have := hx (f + j) (by omega)
  have e : o + f * 2 + j * 2 = o + (f + j) * 2 := by omega
  rw [e]
  simpa using this
end Go.Proofs.Ytdpdeelnabomlaa.L8
