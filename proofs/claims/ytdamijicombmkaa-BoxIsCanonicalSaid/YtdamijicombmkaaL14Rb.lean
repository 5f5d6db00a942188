/- What the reference's Build returns: the table of some texts and their offsets. Conditions: memory holds the texts (no more than 100000, of no more than 1000000 bytes in all). -/
import Derived.Test.YtdamijicombmkaaL14Rf
namespace Go.Proofs.Ytdamijicombmkaa.L14
open Go.RowKit
attribute [local go_sem] Oper.semAt_some

theorem owns_slice {w : World} {base e : TypeId} {size : Nat} {v : Value} {n : Nat} {xs : List Value} (h : w.ownsRow base e size v n xs) : ∃ a c, v = .slice a n c := by
  rcases h.2 with ⟨rfl, rfl⟩ | ⟨g, cap, cur, rfl, _⟩
  · exact ⟨_, _, rfl⟩
  · exact ⟨_, _, rfl⟩
theorem own_base {w : World} {base : Nat} {e : TypeId} {size : Nat} {v : Value} {n : Nat} {xs : List Value} (h : w.ownsRow base e size v n xs) : ∀ k, v.ownBlock = some k → base ≤ k := by
  intro k hk
  rcases h.2 with ⟨rfl, _⟩ | ⟨g, cap, cur, rfl, hb, _⟩
  · cases hk
  · simp [Value.ownBlock] at hk
    omega
theorem own_ty {w : World} {base e : TypeId} {size : Nat} {v : Value} {n : Nat} {xs : List Value} {g : Nat} (h : w.ownsRow base e size v n xs) (hg : v.ownBlock = some g) : ∃ cur, w.heap[g]? = some (.cells cur e (0, 0)) := by
  rcases h.2 with ⟨rfl, _⟩ | ⟨g', cap, cur, rfl, _, hh, _⟩
  · cases hg
  · obtain rfl : g' = g := by simpa [Value.ownBlock] using hg
    exact ⟨cur, hh⟩
/-- Of two rows of different types one grows: the other stays. -/
theorem own_two {W W' : World} {B B' eA eB n m : Nat} {vA vB : Value} {xs ys : List Value} (hA : W.ownsRow B eA 1 vA n xs) (hB : W.ownsRow B' eB 1 vB m ys) (he : eA ≠ eB) (hg : W.grownBy W' vB.ownBlock) : W'.ownsRow B eA 1 vA n xs := by
  refine hA.kept hg ?_
  cases hv : vA.ownBlock with
  | none => exact .inl rfl
  | some g =>
    refine .inr fun e => ?_
    obtain ⟨c1, h1⟩ := own_ty hA hv
    obtain ⟨c2, h2⟩ := own_ty hB e.symm
    rw [h1] at h2
    cases h2
    exact he rfl
theorem infoInt : (Try.prog.info? 3).map (fun i => (i.zero, i.size, i.bytes)) = some (some (.int .i64 0), 1, 8) := by kernel_rfl
theorem infoByte : (Try.prog.info? 5).map (fun i => (i.zero, i.size, i.bytes)) = some (some (.int .u8 0), 1, 1) := by kernel_rfl
theorem infoText : (Try.prog.info? 9).map (fun i => (i.zero, i.size, i.bytes)) = some (some (.string ⟨#[]⟩), 1, 16) := by kernel_rfl
theorem ofs_snoc : ∀ (l : List (List UInt8)) (st : Nat) (t : List UInt8), ofs st (l ++ [t]) = ofs st l ++ [st + (bd l).length]
  | [], st, t => by simp [ofs, bd]
  | x :: r, st, t => by
    rw [List.cons_append, ofs, ofs, ofs_snoc r, bd_cons, List.cons_append]
    congr 3
    simp only [List.length_append, List.length_cons]; omega
theorem take_snoc {α : Type} (l : List α) (k : Nat) (h : k < l.length) : l.take (k + 1) = l.take k ++ [l[k]] := by
  rw [List.take_add_one, List.getElem?_eq_getElem h]; rfl
theorem tb_snoc (l : List (List UInt8)) (t : List UInt8) : tb (l ++ [t]) = tb l ++ t ++ [0] := by
  unfold tb
  rw [bd_snoc]; simp
theorem strCells_is (t : List UInt8) : Lib.strCells (mkB t) = t.map eB := by
  unfold Lib.strCells
  rw [mkB_list]

end Go.Proofs.Ytdamijicombmkaa.L14
