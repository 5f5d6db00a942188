/- What the code's reading of digits comes to (num.unsigned): the number and whether it is too great, or none. No condition. -/
import Derived.Test.YtbneaihpnfkcdaaDoorL1Add
namespace Go.Proofs.YtbneaihpnfkcdaaDoor.L1
open Go.RowKit

/-- The value of a digit, as a natural number. -/
def dgn (c : UInt8) : Nat := (dg c.toNat).toNat

/-- The number that digits make behind a number, and whether one on the way needed more than 64 bits; none where one is no digit of the base. -/
def rd (base : Nat) : List UInt8 → Nat → Bool → Option (Nat × Bool)
  | [], v, o => some (v, o)
  | c :: r, v, o => if dgn c < base then rd base r ((v * base + dgn c) % 18446744073709551616) (o || decide (18446744073709551616 ≤ v * base + dgn c)) else none

theorem cell_of_two {w : World} {b : Nat} {u v : Value} {t : TypeId} (h : w.heap[b]? = some (.cells #[u, v] t (0, 0))) : w.cell? ⟨b, 0, none⟩ = some u ∧ w.cell? ⟨b, 1, none⟩ = some v ∧ w.frozen? ⟨b, 0, none⟩ = false ∧ w.frozen? ⟨b, 1, none⟩ = false := by
  simp [World.cell?, World.frozen?, h]

theorem set_two0 {w : World} {b : Nat} {u v x : Value} {t : TypeId} (h : w.heap[b]? = some (.cells #[u, v] t (0, 0))) : (w.setCell ⟨b, 0, none⟩ x).heap[b]? = some (.cells #[x, v] t (0, 0)) := by
  have hlt := lt_of_block h
  have h' : w.heap[b] = .cells #[u, v] t (0, 0) := by simpa [Array.getElem?_eq_getElem hlt] using h
  show (w.heap.modify b _)[b]? = _
  rw [Array.getElem?_eq_getElem (by simpa using hlt), Array.getElem_modify_self, h']
  rfl
theorem set_two1 {w : World} {b : Nat} {u v x : Value} {t : TypeId} (h : w.heap[b]? = some (.cells #[u, v] t (0, 0))) : (w.setCell ⟨b, 1, none⟩ x).heap[b]? = some (.cells #[u, x] t (0, 0)) := by
  have hlt := lt_of_block h
  have h' : w.heap[b] = .cells #[u, v] t (0, 0) := by simpa [Array.getElem?_eq_getElem hlt] using h
  show (w.heap.modify b _)[b]? = _
  rw [Array.getElem?_eq_getElem (by simpa using hlt), Array.getElem_modify_self, h']
  rfl

/-- What 'unsigned' returns for what its digits come to. -/
def unsV (r : Option (Nat × Bool)) : Value := match r with
  | some (v, o) => .tuple #[.agg #[.int .u64 (v : Int), .bool o], .bool true]
  | none => .tuple #[.agg #[.int .u64 0, .bool false], .bool false]

def unsR (e : Bool) (r : Option (Nat × Bool)) : Value := unsV (if e then none else r)

theorem heap5 (w : World) (a b c d e : Obj) : (((((w.alloc a).alloc b).alloc c).alloc d).alloc e).heap[w.heap.size]? = some a ∧ (((((w.alloc a).alloc b).alloc c).alloc d).alloc e).heap[w.heap.size + 1]? = some b ∧
    (((((w.alloc a).alloc b).alloc c).alloc d).alloc e).heap[w.heap.size + 2]? = some c ∧ (((((w.alloc a).alloc b).alloc c).alloc d).alloc e).heap[w.heap.size + 3]? = some d ∧ (((((w.alloc a).alloc b).alloc c).alloc d).alloc e).heap[w.heap.size + 4]? = some e := by
  simp only [World.alloc, Array.getElem?_push, Array.size_push]
  refine ⟨?_, ?_, ?_, ?_, ?_⟩ <;> (repeat rw [if_neg (by omega)]) <;> simp

theorem dg_high {r : Int} (h : 128 ≤ r) : dg r = 18446744073709551615 := by
  unfold dg
  rw [if_neg (by omega), if_neg (by omega), if_neg (by omega)]

theorem dg_nonneg (r : Int) : 0 ≤ dg r := by unfold dg; repeat' split <;> omega

theorem dgn_eq (c : UInt8) : dg c.toNat = (dgn c : Int) := by
  unfold dgn; have := dg_nonneg c.toNat; omega

/-- A rune of a text and the byte that it begins with are the same digit, or none. -/
theorem dg_decode (t : ByteArray) (pos : Nat) (h : pos < t.size) : dg (Utf8.decode t pos).1 = (dgn t[pos] : Int) := by
  by_cases ha : (t[pos]'h).toNat < 128
  · rw [decode_ascii t pos h ha, dgn_eq]
  · have := decode_high t pos h (by omega)
    rw [dg_high (by omega), ← dgn_eq, dg_high (by omega)]

theorem decode_one (t : ByteArray) (pos base : Nat) (h : pos < t.size) (hb : base ≤ 16) (hd : dgn t[pos] < base) : (Utf8.decode t pos).2 = 1 := by
  by_cases ha : (t[pos]'h).toNat < 128
  · rw [decode_ascii t pos h ha]
  · have h1 := dgn_eq t[pos]
    rw [dg_high (by omega)] at h1
    omega

theorem drop_at (t : ByteArray) (pos : Nat) (h : pos < t.size) : t.data.toList.drop pos = t[pos] :: t.data.toList.drop (pos + 1) := by
  rw [List.drop_eq_getElem_cons (by simpa using h)]; rfl

theorem heap4 (w : World) (a b c d : Obj) : ((((w.alloc a).alloc b).alloc c).alloc d).heap[w.heap.size]? = some a ∧ ((((w.alloc a).alloc b).alloc c).alloc d).heap[w.heap.size + 1]? = some b ∧
    ((((w.alloc a).alloc b).alloc c).alloc d).heap[w.heap.size + 2]? = some c ∧ ((((w.alloc a).alloc b).alloc c).alloc d).heap[w.heap.size + 3]? = some d := by
  simp only [World.alloc, Array.getElem?_push, Array.size_push]
  refine ⟨?_, ?_, ?_, ?_⟩ <;> (repeat rw [if_neg (by omega)]) <;> simp

/-- What the digits of a numeral without its sign come to: none where it is no numeral. -/
def us (l : List UInt8) : Option (Nat × Bool) :=
  if Lib.hasPrefix l [48, 120] then (if (l.drop 2).isEmpty then none else rd 16 (l.drop 2) 0 false) else if l.isEmpty then none else rd 10 l 0 false

end Go.Proofs.YtbneaihpnfkcdaaDoor.L1
