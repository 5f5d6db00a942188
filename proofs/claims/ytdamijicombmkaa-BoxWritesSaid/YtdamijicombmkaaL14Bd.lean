/- What the program's Build returns: the table of some texts and their offsets, or the error. Conditions: memory holds the texts (no more than 10000, of no more than 100000 bytes in all). -/
import Derived.Test.YtdamijicombmkaaL14Rf
import Derived.Test.YtdamijicombmkaaL14Rb
import Derived.Lib.BufferWrite
import Derived.Laws.CopyOwn
import Derived.Deep.OwnRows
namespace Go.Proofs.Ytdamijicombmkaa.L14
open Go.RowKit
attribute [local go_sem] Oper.semAt_some

/-- A copy of a text into a row that is known whole. -/
theorem wpList_copy_str {P : Program} {w : World} {ops : Array Oper} {rest : List Oper} {o : Oper} {a : Act} {Q : Exit → Act → World → Prop} (hgd : o.guard = none) (d s : Operand) (dT sT : TypeId)
    (ho : o.op = .call { callee := .builtin .copy, args := #[d, s], argTypes := #[dT, sT] }) (elem : TypeId) (hu : P.underlying dT = some (.slice elem)) (hsz : (P.info? elem).map (·.size) = some 1)
    (g off dLen dCap : Nat) (S : ByteArray) (hd : a.eval d = .slice (some ⟨g, off, none⟩) dLen dCap) (hs : a.eval s = .string S)
    (cur : Array Value) (t : TypeId) (hg : w.heap[g]? = some (.cells cur t (0, 0))) (hle : S.size ≤ dLen) (hfit : off + S.size ≤ cur.size)
    (h : ∀ w', w' = w.setRow g (cur.toList.take off ++ Lib.byteCells S.data.toList ++ cur.toList.drop (off + S.size)).toArray → wpList P ops Q rest (a.put o.dst (goInt S.size)) w') : wpList P ops Q (o :: rest) a w := by
  refine wpList_plain hgd fun K hK => ?_
  have hrun := Lib.run_copy_row_string (P := P) w dT sT o.type elem g off dLen dCap S cur t hu hsz hg hle hfit
  unfold Oper.wp
  simp [execOp, ho, resolve, invoke, builtin, hd, hs, hrun, Result.andThen]
  exact hK _ _ (h _ (by simp))

/-- A row of N cells, of which the first are known and the others zero. -/
def rowZ {α : Type} (enc : α → Value) (z : Value) (xs : List α) (N : Nat) : Array Value := (xs.map enc ++ List.replicate (N - xs.length) z).toArray
theorem rowZ_size {α : Type} (enc : α → Value) (z : Value) (xs : List α) (N : Nat) (h : xs.length ≤ N) : (rowZ enc z xs N).size = N := by
  simp [rowZ]; omega
theorem rowZ_made {α : Type} (enc : α → Value) (z : Value) (N : Nat) : madeCells #[z] N = rowZ enc z [] N := by
  apply Array.ext
  · simp [size_madeCells, rowZ]
  · intro i h1 h2
    simp [madeCells, rowZ, Nat.mod_one]
theorem rowZ_zero {α : Type} (enc : α → Value) (z : Value) (xs : List α) (x : α) (N : Nat) (hx : enc x = z) (h : xs.length < N) : rowZ enc z xs N = rowZ enc z (xs ++ [x]) N := by
  unfold rowZ
  obtain ⟨m, hm⟩ : ∃ m, N - xs.length = m + 1 := ⟨N - xs.length - 1, by omega⟩
  rw [hm, List.length_append, List.length_cons, List.length_nil, show N - (xs.length + (0 + 1)) = m by omega, List.replicate_succ, List.map_append, List.map_cons, List.map_nil, hx]
  simp
theorem rowZ_set {α : Type} (enc : α → Value) (z : Value) (xs : List α) (x : α) (N : Nat) (h : xs.length < N) : (rowZ enc z xs N).setIfInBounds xs.length (enc x) = rowZ enc z (xs ++ [x]) N := by
  unfold rowZ
  rw [List.setIfInBounds_toArray]
  congr 1
  rw [List.set_append_right _ _ (by simp)]
  simp only [List.length_map, Nat.sub_self, List.map_append, List.map_cons, List.map_nil, List.length_append, List.length_cons, List.length_nil]
  obtain ⟨m, hm⟩ : ∃ m, N - xs.length = m + 1 := ⟨N - xs.length - 1, by omega⟩
  rw [hm, List.replicate_succ, List.set_cons_zero, show N - (xs.length + (0 + 1)) = m by omega]
  simp
theorem rowZ_copy {α : Type} (enc : α → Value) (z : Value) (xs ys : List α) (N : Nat) (h : xs.length + ys.length ≤ N) :
    ((rowZ enc z xs N).toList.take xs.length ++ ys.map enc ++ (rowZ enc z xs N).toList.drop (xs.length + ys.length)).toArray = rowZ enc z (xs ++ ys) N := by
  unfold rowZ
  congr 1
  rw [List.take_append_of_le_length (by simp), List.take_of_length_le (by simp), List.drop_append, List.drop_eq_nil_of_le (by simp), List.nil_append, List.length_map, List.drop_replicate, List.map_append, List.length_append]
  congr 2
  omega
theorem rowZ_at {α : Type} (enc : α → Value) (z : Value) (xs : List α) (N j : Nat) (h : j < xs.length) : (rowZ enc z xs N)[j]? = some (enc xs[j]) := by
  unfold rowZ
  rw [List.getElem?_toArray, List.getElem?_append_left (by simpa using h)]
  simp [h]
theorem rowZ_next {α : Type} (enc : α → Value) (z : Value) (xs : List α) (N : Nat) (h : xs.length < N) : (rowZ enc z xs N)[xs.length]? = some z := by
  unfold rowZ
  rw [List.getElem?_toArray, List.getElem?_append_right (by simp), List.length_map, Nat.sub_self, List.getElem?_replicate, if_pos (by omega)]
theorem Rw.rowZ {α : Type} {enc : α → Value} {z : Value} {w : World} {g N : Nat} {t : TypeId} {xs : List α} (hg : w.heap[g]? = some (.cells (rowZ enc z xs N) t (0, 0))) (hN : xs.length = N) : Rw enc w (.slice (some ⟨g, 0, none⟩) N N) xs := by
  subst hN
  refine ⟨_, _, rfl, Nat.le_refl _, fun e => (by cases e), fun _ => ⟨g, 0, rfl, lt_of_block hg, fun j hj => ?_⟩⟩
  rw [Nat.zero_add, ← rowZ_at enc z xs xs.length j hj]
  unfold World.cell?
  simp only [hg]
  rfl
theorem cells_set {w : World} {b k : Nat} {cs : Array Value} {v : Value} {t : TypeId} {fr : Nat × Nat} (h : w.heap[b]? = some (.cells cs t fr)) : (w.setCell ⟨b, k, none⟩ v).heap[b]? = some (.cells (cs.setIfInBounds k v) t fr) := by
  have hlt := lt_of_block h
  have h' : w.heap[b] = .cells cs t fr := by simpa [Array.getElem?_eq_getElem hlt] using h
  show (w.heap.modify b _)[b]? = _
  rw [Array.getElem?_eq_getElem (by simpa using hlt), Array.getElem_modify_self, h']
  rfl
theorem cell_in {w : World} {b k : Nat} {cs : Array Value} {t : TypeId} (h : w.heap[b]? = some (.cells cs t (0, 0))) : w.cell? ⟨b, k, none⟩ = cs[k]? ∧ w.frozen? ⟨b, k, none⟩ = false := by
  simp [World.cell?, World.frozen?, h]

/-- What Build leaves. -/
def BuP (l : List (List UInt8)) (e : Ending) (w' : World) : Prop :=
  ((∃ t ∈ l, rt t = false) ∧ e = .returned (.tuple #[.slice none 0 0, .slice none 0 0, .int .i64 7])) ∨
    ((∀ t ∈ l, rt t = true) ∧ ∃ a1 c1 a2 c2, e = .returned (.tuple #[.slice a1 (tb l).length c1, .slice a2 l.length c2, .int .i64 0]) ∧ Rw eB w' (.slice a1 (tb l).length c1) (tb l) ∧ Rw eN w' (.slice a2 l.length c2) (ofs 1 l))

end Go.Proofs.Ytdamijicombmkaa.L14
