/- What the reference's Word, Shape and Words return for tokens that lie in memory. No condition but that there are at most 100000 tokens. -/
import Derived.Test.YtbneaihpnfkcdaaDoorL8Rtok
namespace Go.Proofs.YtbneaihpnfkcdaaDoor.L8
open Go.RowKit L2
attribute [local go_sem] Oper.semAt_some

/-- Tokens with their texts. -/
abbrev Tks := List (ByteArray × Int)
def tkX (s : ByteArray) (ts : List (Nat × Nat)) : Tks := ts.map fun p => (s.extract p.1 p.2, (p.1 : Int))
def xC (xs : Tks) : List Value := xs.flatMap fun x => [.string x.1, .int .i64 x.2]
theorem xC_tk (s : ByteArray) (ts : List (Nat × Nat)) : tkC s ts = xC (tkX s ts) := by simp [tkC, xC, tkX, List.flatMap_map]
/-- Memory holds tokens at a place. -/
def Tksat (w : World) (b o : Nat) (xs : Tks) : Prop := ∀ j, (h : j < xs.length) → w.cell? ⟨b, o + j * 2, none⟩ = some (.string xs[j].1) ∧ w.cell? ⟨b, o + j * 2 + 1, none⟩ = some (.int .i64 xs[j].2)
/-- v is a slice of tokens. -/
def TksAt (w : World) (v : Value) (xs : Tks) : Prop :=
  (∃ b o cap, v = .slice (some ⟨b, o, none⟩) xs.length cap ∧ xs.length ≤ cap ∧ b < w.heap.size ∧ Tksat w b o xs) ∨ (xs = [] ∧ ∃ a cap, v = .slice a 0 cap)
theorem Tksat.below {w w' : World} {b o : Nat} {xs : Tks} (h : Tksat w b o xs) (hlt : b < w.heap.size) (hb : Below w.heap.size w w') : Tksat w' b o xs :=
  fun j hj => ⟨(hb.cell (by exact hlt)).trans (h j hj).1, (hb.cell (by exact hlt)).trans (h j hj).2⟩
theorem TksAt.below {w w' : World} {v : Value} {xs : Tks} (h : TksAt w v xs) (hb : Below w.heap.size w w') : TksAt w' v xs := by
  rcases h with ⟨b, o, cap, rfl, hcp, hlt, hc⟩ | h
  · exact .inl ⟨b, o, cap, rfl, hcp, Nat.lt_of_lt_of_le hlt hb.size, hc.below hlt hb⟩
  · exact .inr h
theorem xC_get (xs : Tks) (j : Nat) (h : j < xs.length) : (xC xs)[j * 2]? = some (.string xs[j].1) ∧ (xC xs)[j * 2 + 1]? = some (.int .i64 xs[j].2) := by
  induction xs generalizing j with
  | nil => simp at h
  | cons x r ih =>
    cases j with
    | zero => simp [xC]
    | succ j =>
      have hj : j < r.length := by simpa using h
      have := ih j hj
      have e : xC (x :: r) = .string x.1 :: .int .i64 x.2 :: xC r := by simp [xC]
      rw [e, show (j + 1) * 2 = j * 2 + 2 by omega]
      simpa using this
theorem add0 (g j : Nat) : (⟨g, 0, none⟩ : Addr).add j = ⟨g, j, none⟩ := by
  unfold Addr.add; split <;> simp_all
/-- What the call owns lies in memory. -/
theorem own_tks {w : World} {base e : TypeId} {v : Value} {xs : Tks} (h : w.ownsRow base e 2 v xs.length (xC xs)) : TksAt w v xs := by
  rcases h.2 with ⟨rfl, h0⟩ | ⟨g, cap, cur, rfl, _, hh, hcp, _, _, _⟩
  · exact .inr ⟨List.eq_nil_of_length_eq_zero h0, _, _, rfl⟩
  · refine .inl ⟨g, 0, cap, rfl, hcp, lt_of_block hh, fun j hj => ?_⟩
    obtain ⟨g1, g2⟩ := xC_get xs j hj
    have k1 := h.cells (g := g) rfl _ _ g1
    have k2 := h.cells (g := g) rfl _ _ g2
    refine ⟨?_, ?_⟩
    · rw [Nat.zero_add]; rwa [add0] at k1
    · rw [Nat.zero_add]; rwa [add0] at k2

def txt (xs : Tks) : List (List UInt8) := xs.map fun x => x.1.data.toList
/-- The shape, as the text that is returned. -/
def shB (xs : Tks) : ByteArray := ⟨(shp (txt xs)).toArray⟩

theorem isW_one (T : ByteArray) : (T.size = 1 ∧ ∃ c, T.data.toList = [c]) ∨ (T.size ≠ 1 ∧ isW T.data.toList = true) := by
  have h : T.size = T.data.toList.length := by rw [Array.length_toList]; rfl
  match hl : T.data.toList with
  | [] => exact .inr ⟨by rw [h, hl]; simp, rfl⟩
  | [c] => exact .inl ⟨by rw [h, hl]; rfl, c, rfl⟩
  | _ :: _ :: _ => exact .inr ⟨by rw [h, hl]; simp, rfl⟩
theorem sh_len (xs : Tks) : (shB xs).size = xs.length := by
  show (shp (txt xs)).toArray.size = xs.length
  simp [shp, txt]
theorem sh_snoc (xs : Tks) (x : ByteArray × Int) : shB (xs ++ [x]) = shB xs ++ ⟨#[shl1 x.1.data.toList]⟩ := by
  apply ByteArray.ext
  apply Array.toList_inj.1
  simp [shB, shp, txt]
theorem sh_word {T : ByteArray} (h : isW T.data.toList = true) : (⟨#[shl1 T.data.toList]⟩ : ByteArray) = ⟨#[119]⟩ := by
  unfold shl1; rw [if_pos h]
theorem sh_char {T : ByteArray} (h : isW T.data.toList = false) : (⟨#[shl1 T.data.toList]⟩ : ByteArray) = T := by
  rcases isW_one T with ⟨_, c, hc⟩ | ⟨_, h2⟩
  · have e : shl1 T.data.toList = c := by
      unfold shl1
      rw [if_neg (by rw [h]; exact Bool.false_ne_true), hc]; rfl
    rw [e]
    apply ByteArray.ext
    apply Array.toList_inj.1
    rw [hc]
  · rw [h] at h2; cases h2
theorem take_snoc {α : Type} (xs : List α) (j : Nat) (h : j < xs.length) : xs.take (j + 1) = xs.take j ++ [xs[j]] := by
  rw [List.take_add_one, List.getElem?_eq_getElem h]; rfl
/-- The words' texts. -/
def wdX (xs : Tks) : List ByteArray := (xs.filter fun x => isW x.1.data.toList).map (·.1)
theorem wdX_snoc (xs : Tks) (x : ByteArray × Int) : wdX (xs ++ [x]) = wdX xs ++ (if isW x.1.data.toList then [x.1] else []) := by
  unfold wdX
  rw [List.filter_append, List.map_append]
  by_cases h : isW x.1.data.toList = true
  · simp [h]
  · simp [h]
def stC (l : List ByteArray) : List Value := l.map Value.string
theorem stC_snoc (l : List ByteArray) (t : ByteArray) : stC (l ++ [t]) = stC l ++ [.string t] := by simp [stC]
theorem Tryd.info9 : (Tryd.prog.info? 9).map (fun i => (i.zero, i.size, i.bytes)) = some (some (.string ⟨#[]⟩), 1, 16) := by kernel_rfl
/-- A slice of texts that the call made. -/
def StP (w : World) (l : List ByteArray) (e : Ending) (w' : World) : Prop :=
  (∃ v, e = .returned v ∧ w'.ownsRow w.heap.size 9 1 v l.length (stC l)) ∧ Below w.heap.size w w'
/-- v is a slice of texts. -/
def StAt (w : World) (v : Value) (l : List ByteArray) : Prop :=
  (∃ b o cap, v = .slice (some ⟨b, o, none⟩) l.length cap ∧ b < w.heap.size ∧ ∀ j, j < l.length → w.cell? ⟨b, o + j, none⟩ = some (.string (l.getD j ByteArray.empty))) ∨ (l = [] ∧ ∃ a cap, v = .slice a 0 cap)
theorem StAt.below {w w' : World} {v : Value} {l : List ByteArray} (h : StAt w v l) (hb : Below w.heap.size w w') : StAt w' v l := by
  rcases h with ⟨b, o, cap, rfl, hlt, hc⟩ | h
  · exact .inl ⟨b, o, cap, rfl, Nat.lt_of_lt_of_le hlt hb.size, fun j hj => (hb.cell (by exact hlt)).trans (hc j hj)⟩
  · exact .inr h
theorem own_st {w : World} {base e : TypeId} {v : Value} {l : List ByteArray} (h : w.ownsRow base e 1 v l.length (stC l)) : StAt w v l := by
  rcases h.2 with ⟨rfl, h0⟩ | ⟨g, cap, cur, rfl, _, hh, hcp, _, _, _⟩
  · exact .inr ⟨List.eq_nil_of_length_eq_zero h0, _, _, rfl⟩
  · refine .inl ⟨g, 0, cap, rfl, lt_of_block hh, fun j hj => ?_⟩
    have k1 := h.cells (g := g) rfl j (.string (l.getD j ByteArray.empty)) (by simp [stC, List.getD, List.getElem?_eq_getElem hj])
    rw [Nat.zero_add]; rwa [add0] at k1

/-! ### what the program's functions are to return -/
/-- Tokens. -/
def PT (w : World) (s : ByteArray) (e : Ending) (w' : World) : Prop :=
  ∃ v at_ er, e = .returned (.tuple #[v, .int .i64 at_, .int .i64 er]) ∧ Below w.heap.size w w' ∧
    ((0 ≤ bad s ∧ at_ = bad s ∧ er = 2 ∧ ∃ a cap, v = .slice a 0 cap) ∨ (bad s = -1 ∧ at_ = 0 ∧ er = 0 ∧ TksAt w' v (tkX s (tks s))))
/-- A list of texts. -/
def PS (w : World) (l : List ByteArray) (e : Ending) (w' : World) : Prop := (∃ v, e = .returned v ∧ StAt w' v l) ∧ Below w.heap.size w w'
theorem PS_of {w w' : World} {l : List ByteArray} {e : Ending} (h : StP w l e w') : PS w l e w' := by
  obtain ⟨⟨v, he, ho⟩, hb⟩ := h
  exact ⟨⟨v, he, own_st ho⟩, hb⟩
theorem tkX_len (s : ByteArray) (ts : List (Nat × Nat)) : (tkX s ts).length = ts.length := by simp [tkX]
end Go.Proofs.YtbneaihpnfkcdaaDoor.L8
