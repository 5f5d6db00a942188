/- What the reference's punct and Tokens return: the tokens of a line, at their places, or the place of the first wrong byte. No condition but that the line has at most 100000 bytes. -/
import Derived.Test.YtbneaihpnfkcdaaDoorL8Tk
import Derived.Maps.AppendAt
import Derived.Deep.AppendLies
import Derived.Deep.WholeRow
import Derived.Deep.DeepCutAuto
namespace Go.Proofs.YtbneaihpnfkcdaaDoor.L8
open Go.RowKit L2
attribute [local go_sem] Oper.semAt_some

theorem bnew (w : World) (o : Obj) : Below w.heap.size w (w.alloc o) := (Below.refl _ _).alloc (Nat.le_refl _) _
theorem own_below {w w' : World} {base e : TypeId} {size : Nat} {v : Value} {n : Nat} {xs : List Value} (h : w.ownsRow base e size v n xs) (hb : Below w.heap.size w w') : w'.ownsRow base e size v n xs := by
  refine ⟨h.1, ?_⟩
  rcases h.2 with h | ⟨g, cap, cur, hv, hg, hh, r⟩
  · exact .inl h
  · exact .inr ⟨g, cap, cur, hv, hg, (hb.block _ (lt_of_block hh)).trans hh, r⟩
theorem own_base {w : World} {base : Nat} {e : TypeId} {size : Nat} {v : Value} {n : Nat} {xs : List Value} (h : w.ownsRow base e size v n xs) : ∀ k, v.ownBlock = some k → base ≤ k := by
  intro k hk
  rcases h.2 with ⟨rfl, _⟩ | ⟨g, cap, cur, rfl, hb, _⟩
  · cases hk
  · simp [Value.ownBlock] at hk
    omega
theorem owns_slice {w : World} {base e : TypeId} {size : Nat} {v : Value} {n : Nat} {xs : List Value} (h : w.ownsRow base e size v n xs) : ∃ a c, v = .slice a n c := by
  rcases h.2 with ⟨rfl, rfl⟩ | ⟨g, cap, cur, rfl, _⟩
  · exact ⟨_, _, rfl⟩
  · exact ⟨_, _, rfl⟩

/-- A byte's class, as the tests ask for it. -/
theorem cls (c : UInt8) : (cmt c = true ∧ (((c.toNat : Int) == 59) = true ∨ (((c.toNat : Int) == 59) = false ∧ ((c.toNat : Int) == 35) = true))) ∨
    (((c.toNat : Int) == 59) = false ∧ ((c.toNat : Int) == 35) = false ∧ cmt c = false ∧
      ((spc c = true ∧ (((c.toNat : Int) == 32) = true ∨ (((c.toNat : Int) == 32) = false ∧ ((c.toNat : Int) == 9) = true) ∨ (((c.toNat : Int) == 32) = false ∧ ((c.toNat : Int) == 9) = false ∧ ((c.toNat : Int) == 13) = true))) ∨
       (spc c = false ∧ ((c.toNat : Int) == 32) = false ∧ ((c.toNat : Int) == 9) = false ∧ ((c.toNat : Int) == 13) = false))) := by
  have h : ∀ n, n < 256 → (fun c : UInt8 => (cmt c = true ∧ (((c.toNat : Int) == 59) = true ∨ (((c.toNat : Int) == 59) = false ∧ ((c.toNat : Int) == 35) = true))) ∨
    (((c.toNat : Int) == 59) = false ∧ ((c.toNat : Int) == 35) = false ∧ cmt c = false ∧
      ((spc c = true ∧ (((c.toNat : Int) == 32) = true ∨ (((c.toNat : Int) == 32) = false ∧ ((c.toNat : Int) == 9) = true) ∨ (((c.toNat : Int) == 32) = false ∧ ((c.toNat : Int) == 9) = false ∧ ((c.toNat : Int) == 13) = true))) ∨
       (spc c = false ∧ ((c.toNat : Int) == 32) = false ∧ ((c.toNat : Int) == 9) = false ∧ ((c.toNat : Int) == 13) = false)))) (UInt8.ofNat n) := by decide +kernel
  have := h c.toNat c.toNat_lt
  simpa using this
def puI (r : Int) : Bool := r == 44 || r == 91 || r == 93 || r == 43 || r == 45 || r == 58
theorem puI_is (c : UInt8) : puI (c.toNat : Int) = pun c := by
  have h : ∀ n, n < 256 → (fun c : UInt8 => puI (c.toNat : Int) = pun c) (UInt8.ofNat n) := by decide +kernel
  have := h c.toNat c.toNat_lt
  simpa using this
/-- Tokens' cells. -/
def tkC (s : ByteArray) (ts : List (Nat × Nat)) : List Value := ts.flatMap fun p => [.string (s.extract p.1 p.2), .int .i64 (p.1 : Int)]
theorem tkC_snoc (s : ByteArray) (ts : List (Nat × Nat)) (p : Nat × Nat) : tkC s (ts ++ [p]) = tkC s ts ++ [.string (s.extract p.1 p.2), .int .i64 (p.1 : Int)] := by simp [tkC]
theorem ext_list (s : ByteArray) (i j : Nat) : (s.extract i j).data.toList = (s.data.toList.drop i).take (j - i) := by
  rw [ByteArray.data_extract, Array.toList_extract, List.extract_eq_take_drop]
theorem ext_rest (s : ByteArray) (i : Nat) : (s.extract i s.size).data.toList = s.data.toList.drop i := by
  rw [ext_list]
  exact List.take_of_length_le (by rw [List.length_drop, Array.length_toList]; exact Nat.le_refl _)
end Go.Proofs.YtbneaihpnfkcdaaDoor.L8
