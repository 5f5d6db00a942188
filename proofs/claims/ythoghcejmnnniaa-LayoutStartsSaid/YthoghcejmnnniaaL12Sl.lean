/- The slots of instructions, plain: where each starts, how many there are, which starts at a slot; distances and targets; the relocations of a program. It speaks of no program and has no condition. -/
import Derived.Test.YthoghcejmnnniaaL10Pm
namespace Go.Proofs.Ythoghcejmnnniaa.L12
open L3 L4

/-- How many slots an instruction takes. -/
def slN (x : L9.Ins) : Nat := (slo (frm (ix x.op))).toNat
theorem slN_int (x : L9.Ins) : slo (frm (ix x.op)) = (slN x : Int) := by
  unfold slN slo
  split
  · rfl
  · split <;> rfl
theorem slN_le (x : L9.Ins) : slN x ≤ 2 := by
  unfold slN slo
  split
  · decide
  · split <;> decide
/-- All slots of a list. -/
def smN : List L9.Ins → Nat
  | [] => 0
  | x :: r => slN x + smN r
/-- Where each starts. -/
def stL : Nat → List L9.Ins → List Nat
  | _, [] => []
  | a, x :: r => a :: stL (a + slN x) r
/-- Where the one with an index starts. -/
def stN (l : List L9.Ins) (i : Nat) : Nat := smN (l.take i)
/-- The first that starts at a slot. -/
def atN : Nat → Nat → List L9.Ins → Int → Int
  | _, _, [], _ => -1
  | k, a, x :: r, s => if (a : Int) = s then (k : Int) else atN (k + 1) (a + slN x) r s
def inB (n : Nat) (i : Int) : Bool := decide (0 ≤ i) && decide (i < (n : Int))
/-- Distance; Target. -/
def diV (l : List L9.Ins) (i j : Int) : Int × Bool :=
  if inB l.length i && inB l.length j then ((stN l j.toNat : Int) - (stN l (i.toNat + 1) : Int), true) else (0, false)
def taI (l : List L9.Ins) (i o : Int) : Int := atN 0 0 l (IntKind.i64.wrap ((stN l (i.toNat + 1) : Int) + o))
def taV (l : List L9.Ins) (i o : Int) : Int × Bool :=
  if inB l.length i then (if taI l i o < 0 then (0, false) else (taI l i o, true)) else (0, false)

theorem smN_app (l m : List L9.Ins) : smN (l ++ m) = smN l + smN m := by
  induction l with
  | nil => simp [smN]
  | cons x r ih => simp only [List.cons_append, smN, ih]; omega
theorem smN_le : ∀ l : List L9.Ins, smN l ≤ 2 * l.length
  | [] => by simp [smN]
  | x :: r => by
    have := smN_le r
    have := slN_le x
    simp only [smN, List.length_cons]; omega
theorem stN_succ (l : List L9.Ins) (i : Nat) (h : i < l.length) : stN l (i + 1) = stN l i + slN l[i] := by
  unfold stN
  rw [List.take_add_one, List.getElem?_eq_getElem h, Option.toList, smN_app]
  simp [smN]
theorem stN_le (l : List L9.Ins) (i : Nat) : stN l i ≤ 2 * l.length := by
  have := smN_le (l.take i)
  rw [List.length_take] at this
  unfold stN
  omega
theorem stN_all (l : List L9.Ins) : stN l l.length = smN l := by unfold stN; rw [List.take_length]
theorem stL_len : ∀ (l : List L9.Ins) (a : Nat), (stL a l).length = l.length
  | [], _ => rfl
  | x :: r, a => by rw [stL, List.length_cons, List.length_cons, stL_len r]
theorem stL_get : ∀ (l : List L9.Ins) (a i : Nat), i < l.length → (stL a l)[i]? = some (a + stN l i)
  | x :: r, a, 0, _ => by simp [stL, stN, smN]
  | x :: r, a, i + 1, h => by
    rw [stL, List.getElem?_cons_succ, stL_get r (a + slN x) i (by simpa using h)]
    unfold stN
    rw [List.take_succ_cons, smN, Nat.add_assoc]
/-- Nothing starts ahead of the first slot or behind all. -/
theorem atN_out : ∀ (l : List L9.Ins) (k a : Nat) (s : Int), (s < (a : Int) ∨ (a : Int) + (smN l : Int) < s) → atN k a l s = -1
  | [], _, _, _, _ => rfl
  | x :: r, k, a, s, h => by
    simp only [smN] at h
    rw [atN, if_neg (by omega)]
    exact atN_out r _ _ _ (by omega)
theorem atN_ge : ∀ (l : List L9.Ins) (k a : Nat) (s : Int), atN k a l s = -1 ∨ ((k : Int) ≤ atN k a l s ∧ atN k a l s < (k : Int) + l.length)
  | [], _, _, _ => .inl rfl
  | x :: r, k, a, s => by
    rw [atN]
    split
    · exact .inr ⟨by omega, by simp only [List.length_cons]; omega⟩
    · rcases atN_ge r (k + 1) (a + slN x) s with h | ⟨h1, h2⟩
      · exact .inl h
      · exact .inr ⟨by omega, by simp only [List.length_cons]; omega⟩
theorem atN_hit : ∀ (l : List L9.Ins) (k a i : Nat), (∀ x ∈ l, slN x ≠ 0) → i < l.length → atN k a l ((a + stN l i : Nat) : Int) = ((k + i : Nat) : Int)
  | x :: r, k, a, 0, _, _ => by
    rw [atN, if_pos (by simp [stN, smN])]
    rfl
  | x :: r, k, a, i + 1, h, hi => by
    have hx := h x (by simp)
    have e : a + stN (x :: r) (i + 1) = (a + slN x) + stN r i := by
      unfold stN
      rw [List.take_succ_cons, smN]; omega
    rw [e, atN, if_neg (by omega), atN_hit r (k + 1) (a + slN x) i (fun y hy => h y (by simp [hy])) (by simpa using hi)]
    omega
/-- Target inverts Distance, if every instruction takes slots. -/
theorem ta_di (l : List L9.Ins) (i j : Nat) (hi : i < l.length) (hj : j < l.length) (hm : l.length ≤ 1000000) (h : ∀ x ∈ l, slN x ≠ 0) :
    taV l (i : Int) (diV l (i : Int) (j : Int)).1 = ((j : Int), true) := by
  have b1 : inB l.length (i : Int) = true := by unfold inB; simp; omega
  have b2 : inB l.length (j : Int) = true := by unfold inB; simp; omega
  have h1 := stN_le l (i + 1)
  have h2 := stN_le l j
  have e : taI l (i : Int) (diV l (i : Int) (j : Int)).1 = (j : Int) := by
    unfold taI diV
    rw [b1, b2]
    simp only [Bool.and_self, if_true, Int.toNat_natCast]
    have : ((stN l (i + 1) : Int) + ((stN l j : Int) - (stN l (i + 1) : Int))) = ((0 + stN l j : Nat) : Int) := by omega
    rw [this]
    have w : IntKind.i64.wrap ((0 + stN l j : Nat) : Int) = ((0 + stN l j : Nat) : Int) := IntWalk.i64_in _ (by omega)
    rw [w, atN_hit l 0 0 j h hj]
    omega
  unfold taV
  rw [b1, e]
  simp
/-! ### relocations -/
/-- The relocations of some statements: slot and map. -/
def rfL (ms : List L9.Df) : Nat → List L10.Stm → List (Nat × Int)
  | _, [] => []
  | a, s :: r => (if frm (ix s.x.op) = 11 ∧ 0 ≤ L10.mpI 0 ms s.mp then [(a, L10.mpI 0 ms s.mp)] else []) ++ rfL ms (a + slN s.x) r
end Go.Proofs.Ythoghcejmnnniaa.L12
