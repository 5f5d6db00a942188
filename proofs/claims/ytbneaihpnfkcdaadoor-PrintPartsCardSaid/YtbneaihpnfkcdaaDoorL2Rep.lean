/- What Repeated returns, the program's and the reference's, for lists of up to 1000 texts: the least index of a text that stands before, or -1. -/
import Derived.Test.YtbneaihpnfkcdaaDoorL2Names
import Derived.Maps.OwnSet
namespace Go.Proofs.YtbneaihpnfkcdaaDoor.L2
open Go.RowKit Go.Maps

/-! ### a set of texts, asked for its bool -/
theorem bool_inv {H : Type} {P : Program} {e : TypeId} (he : P.underlying e = some .bool) {v : Value} {z : DataW H × List MemPlace} (h : plainElem P e v = some z) : ∃ x, v = .bool x ∧ z = (.lit (.bool x), []) := by
  unfold plainElem at h
  rw [he] at h
  cases v <;> simp at h
  exact ⟨_, rfl, h.symm⟩

/-- A look-up in a map of bools that the call made, where what stands at the key is known. -/
theorem wpList_look_bool {H : Type} {P : Program} (w : World) {ops : Array Oper} {rest : List Oper} {o : Oper} {a : Act} {Q : Exit → Act → World → Prop}
    (hg : o.guard = none) (m x : Operand) (t : TypeId) (hop : o.op = Op.lookup t m x false)
    (k e : TypeId) (K : Keyed P k) (ht : P.underlying t = some (.map k e)) (he : P.underlying e = some .bool) (hz : (zeroValue e).run P w = .ok (.bool false) w) (b n : Nat) (D : DataW H)
    (hm : a.eval m = .map (some b)) (hown : w.ownsMap P k (plainElem P e) b n D) (key : Value) (kl : Lit) (hx : a.eval x = key) (hkey : keyOf P k key = some kl)
    (c : Bool) (hat : D.atKey kl (.lit (.bool false)) = .lit (.bool c))
    (hK : wpList P ops Q rest (a.put o.dst (.bool c)) w) :
    wpList P ops Q (o :: rest) a w := by
  refine wpList_plain hg fun K' hK' => ?_
  obtain ⟨v, ps, hrun, hv⟩ := hown.lookup K ht hz (plainElem_bool he false) hkey
  rw [hat] at hv
  obtain ⟨y, rfl, hy⟩ := bool_inv he hv
  simp only [Prod.mk.injEq, DataW.lit.injEq, Lit.bool.injEq] at hy
  obtain ⟨rfl, _⟩ := hy
  unfold Oper.wp
  simp [execOp, hop, hm, hx, hrun, Result.andThen]
  exact hK' _ _ hK

section
variable {H : Type} (u z : DataW H) (k : Lit)

theorem fold_out : ∀ (acc : List Lit) (m : DataW H), ¬ k ∈ acc → (acc.foldl (fun m x => m.put x u) m).atKey k z = m.atKey k z
  | [], _, _ => rfl
  | x :: r, m, h => by
    rw [List.foldl_cons, fold_out r _ (fun h' => h (by simp [h'])), atKey_put_other (fun e => h (by simp [e]))]

theorem fold_in : ∀ (acc : List Lit) (m : DataW H), IsMap m → (∀ x ∈ acc, WideAt.IsKeyLit x) → k ∈ acc → (acc.foldl (fun m x => m.put x u) m).atKey k z = u
  | x :: r, m, hm, ha, h => by
    rw [List.foldl_cons]
    by_cases hr : k ∈ r
    · exact fold_in r _ (hm.put x u) (fun y hy => ha y (by simp [hy])) hr
    · obtain rfl : k = x := by
        rcases List.mem_cons.1 h with h | h
        · exact h
        · exact absurd h hr
      rw [fold_out _ _ _ r _ hr, atKey_put_same hm (ha k (by simp))]
end

def txt (s : ByteArray) : Lit := .string s.data.toList
def keys (ss : List ByteArray) (k : Nat) : List Lit := (ss.take k).map txt
/-- The set of the first k texts. -/
def Sn {H : Type} (ss : List ByteArray) (k : Nat) : DataW H := setOf (.lit (.bool true)) (keys ss k)

theorem txt_inj {a b : ByteArray} (h : txt a = txt b) : a = b := by
  cases a; cases b
  simp only [txt, Lit.string.injEq] at h
  rw [Array.toList_inj.1 h]

theorem keys_mem (ss : List ByteArray) (k : Nat) (x : ByteArray) : txt x ∈ keys ss k ↔ x ∈ ss.take k := by
  unfold keys
  rw [List.mem_map]
  constructor
  · rintro ⟨y, hy, e⟩
    rw [← txt_inj e]; exact hy
  · intro h; exact ⟨x, h, rfl⟩

theorem keys_key (ss : List ByteArray) (k : Nat) : ∀ y ∈ keys ss k, WideAt.IsKeyLit y := by
  intro y hy
  obtain ⟨s, _, rfl⟩ := List.mem_map.1 hy
  trivial

theorem keys_succ (ss : List ByteArray) (k : Nat) (hk : k < ss.length) : keys ss (k + 1) = keys ss k ++ [txt (ss.getD k ByteArray.empty)] := by
  unfold keys
  rw [List.take_add_one, List.map_append]
  simp [List.getD, List.getElem?_eq_getElem hk]
theorem Sn_succ {H : Type} (ss : List ByteArray) (k : Nat) (hk : k < ss.length) : Sn (H := H) ss (k + 1) = (Sn ss k).put (txt (ss.getD k ByteArray.empty)) (.lit (.bool true)) := by
  unfold Sn
  rw [keys_succ ss k hk, setOf_snoc]
theorem Sn_zero {H : Type} (ss : List ByteArray) : Sn (H := H) ss 0 = .map [] := by simp [Sn, keys, setOf]

theorem Sn_in {H : Type} (ss : List ByteArray) (k : Nat) (x : ByteArray) (h : x ∈ ss.take k) : (Sn (H := H) ss k).atKey (txt x) (.lit (.bool false)) = .lit (.bool true) :=
  fold_in _ _ _ _ _ isMap_empty (keys_key ss k) ((keys_mem ss k x).2 h)
theorem Sn_out {H : Type} (ss : List ByteArray) (k : Nat) (x : ByteArray) (h : ¬ x ∈ ss.take k) : (Sn (H := H) ss k).atKey (txt x) (.lit (.bool false)) = .lit (.bool false) := by
  rw [Sn, setOf, fold_out _ _ _ _ _ (fun h' => h ((keys_mem ss k x).1 h'))]
  rfl

/-! ### the list -/
/-- Does it stand on the list? -/
def on (l : List ByteArray) (x : ByteArray) : Bool := l.any fun s => decide (s = x)
theorem on_mem (l : List ByteArray) (x : ByteArray) : on l x = true ↔ x ∈ l := by simp [on]

/-- The least index, from k on, of a text that stands before, or -1. -/
def rpFrom : Nat → Nat → List ByteArray → Int
  | 0, _, _ => -1
  | n + 1, k, ss => if on (ss.take k) (ss.getD k ByteArray.empty) then (k : Int) else rpFrom n (k + 1) ss

def rp (ss : List ByteArray) : Int := rpFrom ss.length 0 ss

/-- v is a slice of the texts ss. -/
def TextsAt (w : World) (v : Value) (ss : List ByteArray) : Prop :=
  (∃ b off cap, v = .slice (some ⟨b, off, none⟩) ss.length cap ∧ b < w.heap.size ∧ ∀ j, j < ss.length → w.cell? ⟨b, off + j, none⟩ = some (.string (ss.getD j ByteArray.empty))) ∨ (ss = [] ∧ ∃ a cap, v = .slice a 0 cap)

theorem TextsAt.below {w w' : World} {v : Value} {ss : List ByteArray} (h : TextsAt w v ss) (hb : Below w.heap.size w w') : TextsAt w' v ss := by
  rcases h with ⟨b, off, cap, rfl, hlt, hc⟩ | h
  · exact Or.inl ⟨b, off, cap, rfl, Nat.lt_of_lt_of_le hlt hb.size, fun j hj => (hb.cell (by exact hlt)).trans (hc j hj)⟩
  · exact Or.inr h

theorem law9 : Keyed Tryd.prog 9 := string_keyed Tryd.underlying9

end Go.Proofs.YtbneaihpnfkcdaaDoor.L2
