/- What the laws of texts of bytes need besides: a slice of known bytes stays one when memory only grows; Unhex at a text that is none, and at one that is. No condition but the text's length. -/
import Derived.Test.YthkkdkccadomkaaDoorSame
import Derived.Test.YthkkdkccadomkaaDoorAlive
namespace Go.Proofs.YthkkdkccadomkaaDoor
open Go.RowKit

theorem bytes_below {w w' : World} {v : Value} {xs : List UInt8} (h : BytesAt w v xs) (hb : Below w.heap.size w w') : BytesAt w' v xs := by
  rcases h with ⟨b, off, cap, rfl, hc⟩ | h
  · exact Or.inl ⟨b, off, cap, rfl, fun j hj => by
      rw [hb.cell (p := ⟨b, off + j, none⟩) (World.block_lt_of_cell? w _ (hc j hj))]
      exact hc j hj⟩
  · exact Or.inr h

theorem unhex_none (s : ByteArray) (w : World) (hs : s.size ≤ 6000) (h : unh s.data.toList = none) :
    Calls Tryd.prog 15 #[.string s] w fun e w' => e = .returned (.tuple #[.slice none 0 0, .int .i64 3]) ∧ Below w.heap.size w w' := by
  have := unhex_any s w hs
  rwa [h] at this
theorem unhex_some (s : ByteArray) (w : World) (xs : List UInt8) (hs : s.size ≤ 6000) (h : unh s.data.toList = some xs) :
    Calls Tryd.prog 15 #[.string s] w fun e w' => (∃ v, e = .returned (.tuple #[v, .int .i64 0]) ∧ BytesAt w' v xs) ∧ Below w.heap.size w w' := by
  have := unhex_any s w hs
  rwa [h] at this

end Go.Proofs.YthkkdkccadomkaaDoor
