/- The sequence of texts ahead of zero bytes: what its iterator hands to a loop's body. Condition: memory holds the bytes, which are no more than 1000000. -/
import Derived.Test.YtdamijicombmkaaL14Rp
import Derived.RangeFuncNested
import Derived.RangeFuncBound
import Derived.RangeFuncCalls
import Derived.RangeFuncLeaves
import Derived.RangeFuncBox
import Derived.Shelf.Abstract
import Derived.Shelf.RegionOpen
import Derived.OwnWalkIn
import Derived.TacticsInMore
import Derived.LoopNIn
import Derived.LoopIn
import Derived.RegionIn
namespace Go.Proofs.Ytdamijicombmkaa.L14
open Go.RowKit Go.Shelf
attribute [local go_sem] Oper.semAt_some

/-- The texts ahead of the zero bytes of l, each with the fact that it is one. -/
abbrev Pt (l : List UInt8) : Type := { x : Sg // x ∈ sg 0 [] l }
def pts (l : List UInt8) : List (Pt l) := (sg 0 [] l).attach
/-- What is handed over: the number of bytes ahead of the text, and the text, which lies in the bytes' own memory. -/
abbrev ptV (b o c : Nat) (l : List UInt8) (x : Pt l) : Array Value := #[.int .i64 (x.1.at' : Int), .slice (some ⟨b, o + x.1.at', none⟩) x.1.t.length (c - x.1.at')]
theorem pts_len (l : List UInt8) : (pts l).length = (sg 0 [] l).length := by simp [pts]
theorem pts_map {β : Type} (l : List UInt8) (f : Sg → β) : (pts l).map (fun x => f x.1) = (sg 0 [] l).map f := by
  unfold pts
  rw [List.attach_map_val]
theorem pt_in {l : List UInt8} (x : Pt l) : x.1.at' + x.1.t.length < l.length ∧ ∀ j (h : j < x.1.t.length) (h2 : x.1.at' + j < l.length), x.1.t[j] = l[x.1.at' + j] := by
  obtain ⟨k, h1, h2, h3⟩ := sg_in l 0 [] x.1 x.2
  rw [Nat.zero_add] at h1
  refine ⟨by rw [h1]; simpa using h2, fun j h hj => ?_⟩
  have := h3 j h
  rw [List.nil_append, ← h1, List.getElem?_eq_getElem h, List.getElem?_eq_getElem hj] at this
  exact Option.some.inj this

/-- The bytes l lie in a slice's memory, in a block below n₀. -/
structure Lo (n₀ : Nat) (w : World) (a : Option Addr) (c b o : Nat) (l : List UInt8) : Prop where
  cap : l.length ≤ c
  nil : a = none → c = 0
  adr : 0 < l.length → a = some ⟨b, o, none⟩ ∧ b < n₀
  cel : ∀ j, (h : j < l.length) → w.cell? ⟨b, o + j, none⟩ = some (eB l[j])
theorem Lo.below {n₀ : Nat} {w w' : World} {a : Option Addr} {c b o : Nat} {l : List UInt8} (h : Lo n₀ w a c b o l) (hb : Below n₀ w w') : Lo n₀ w' a c b o l :=
  ⟨h.cap, h.nil, h.adr, fun j hj => (hb.cell (by exact (h.adr (by omega)).2)).trans (h.cel j hj)⟩
theorem Lo.rw {n₀ : Nat} {w : World} {a : Option Addr} {c b o : Nat} {l : List UInt8} (h : Lo n₀ w a c b o l) (hn : n₀ ≤ w.heap.size) : Rw eB w (.slice a l.length c) l :=
  ⟨a, c, rfl, h.cap, h.nil, fun hp => ⟨b, o, (h.adr hp).1, Nat.lt_of_lt_of_le (h.adr hp).2 hn, h.cel⟩⟩
theorem Rw.lo {w : World} {a : Option Addr} {n c : Nat} {l : List UInt8} (h : Rw eB w (.slice a n c) l) : ∃ b o, Lo w.heap.size w a c b o l := by
  obtain ⟨h0, h1, h2, h3⟩ := h.at
  by_cases hp : 0 < n
  · obtain ⟨b, o, e, hb, hc⟩ := h3 hp
    exact ⟨b, o, by omega, h2, fun _ => ⟨e, hb⟩, hc⟩
  · exact ⟨0, 0, by omega, h2, fun h => by omega, fun j hj => by omega⟩
/-- A text that is handed over, as a slice. -/
theorem Lo.pt {n₀ : Nat} {w : World} {a : Option Addr} {c b o : Nat} {l : List UInt8} (h : Lo n₀ w a c b o l) (hn : n₀ ≤ w.heap.size) (x : Pt l) : Rw eB w (.slice (some ⟨b, o + x.1.at', none⟩) x.1.t.length (c - x.1.at')) x.1.t := by
  obtain ⟨h1, h2⟩ := pt_in x
  have hc := h.cap
  refine ⟨_, _, rfl, by omega, fun e => (by cases e), fun hp => ⟨b, o + x.1.at', rfl, Nat.lt_of_lt_of_le (h.adr (by omega)).2 hn, fun j hj => ?_⟩⟩
  rw [h2 j hj (by omega), Nat.add_assoc]
  exact h.cel _ (by omega)

theorem grown_of_below {w w' : World} (h : Below w.heap.size w w') : w.grownBy w' none := ⟨h.os, h.tape, h.output, h.size, fun k hk _ => h.block k hk⟩
theorem keeps_below {W W' : World} (h : Below W.heap.size W W') : KeepsOthers W W' := ⟨h.size, fun k _ hk _ => (h.block k (lt_of_block hk)).trans hk⟩
theorem Boxed.below {W W' : World} {B : Nat} {t : TypeId} {v : Value} (h : Boxed W B t v) (hb : Below W.heap.size W W') : Boxed W' B t v := (hb.block B h.lt).trans h
theorem box_putObj {W : World} {B : Nat} {t : TypeId} {v : Value} (h : Boxed W B t v) {l : Nat} {o : Obj} (o' : Obj) (hl : W.heap[l]? = some o) (ho : o.isCells = false) : Boxed (W.putObj l o') B t v :=
  h.kept (grownBy_putObj' W l o') (fun e => by
    cases e
    have h' : W.heap[B]? = some (.cells #[v] t (0, 0)) := h
    rw [h'] at hl; cases hl; cases ho)
/-- What a round of a loop over the texts keeps: what lay below n, and the iterator's own box. -/
def Kq (n Bn : Nat) (v : Value) (A B : World) : Prop := Below n A B ∧ (Boxed A Bn 25 v → Boxed B Bn 25 v)
theorem Kq.t {n Bn : Nat} {v : Value} {A B C : World} (h : Kq n Bn v A B) (k : Kq n Bn v B C) : Kq n Bn v A C := ⟨h.1.trans k.1, fun x => k.2 (h.2 x)⟩
theorem Kq.b {n Bn : Nat} {v : Value} {w : World} (hn : n ≤ w.heap.size) (W : World) (l : Nat) (o o' : Obj) (hl : w.heap.size ≤ l) (h : W.heap[l]? = some o) (ho : o.isCells = false) (hw : o.isWalk = false) : Kq n Bn v W (W.putObj l o') := ⟨belowK_b hn W l o o' hl h ho hw, fun x => box_putObj x o' h ho⟩

theorem pts_step (l : List UInt8) (k p i : Nat) (h : (sg 0 [] l).drop k = ⟨p, (l.drop p).take i⟩ :: sg (p + i + 1) [] (l.drop (p + i + 1))) :
    ∃ x : Pt l, x.1 = ⟨p, (l.drop p).take i⟩ ∧ (pts l).take (k + 1) = (pts l).take k ++ [x] ∧ k < (pts l).length ∧ (sg 0 [] l).drop (k + 1) = sg (p + i + 1) [] (l.drop (p + i + 1)) := by
  have hk : k < (sg 0 [] l).length := by
    rcases Nat.lt_or_ge k (sg 0 [] l).length with h' | h'
    · exact h'
    · rw [List.drop_eq_nil_of_le h'] at h; cases h
  have hk2 : k < (pts l).length := by rw [pts_len]; exact hk
  rw [List.drop_eq_getElem_cons hk] at h
  injection h with h1 h2
  refine ⟨(pts l)[k], ?_, take_snoc _ _ hk2, hk2, h2⟩
  rw [← h1]
  simp [pts]

end Go.Proofs.Ytdamijicombmkaa.L14
