/- What the program's Get and the reference's Get and Right return, and the law's 'few'. Conditions: memory holds the bytes (no more than 1000000000) and the texts. -/
import Derived.Test.YtdamijicombmkaaL14Lb
import Derived.Lib.Strings
namespace Go.Proofs.Ytdamijicombmkaa.L14
open Go.RowKit
attribute [local go_sem] Oper.semAt_some

/-- The text at an offset, which may be any number. -/
def gtI (l : List UInt8) (off : Int) : Option (List UInt8) := if 0 ≤ off then gtx l off.toNat else none
theorem gtx_some {l : List UInt8} {k : Nat} {t : List UInt8} (h : gtx l k = some t) : ∃ i, fz (l.drop k) = some i ∧ t = (l.drop k).take i := by
  unfold gtx at h
  cases hf : fz (l.drop k) with
  | none => rw [hf] at h; cases h
  | some i => rw [hf] at h; cases h; exact ⟨i, rfl, rfl⟩
theorem gtx_lt {l : List UInt8} {k : Nat} {t : List UInt8} (h : gtx l k = some t) : k < l.length := by
  obtain ⟨i, hi, -⟩ := gtx_some h
  have := (fz_some hi).1
  rw [List.length_drop] at this; omega
/-- What Get returns. -/
def gtE (l : List UInt8) (off : Int) : Ending := match gtI l off with
  | none => .returned (.tuple #[.string ⟨#[]⟩, .int .i64 4])
  | some t => .returned (.tuple #[.string (mkB t), .int .i64 0])
def rgE (l : List UInt8) (off : Int) : Ending := match gtI l off with
  | none => .returned (.tuple #[.string ⟨#[]⟩, .bool false])
  | some t => .returned (.tuple #[.string (mkB t), .bool true])

theorem fz_cons0 (r : List UInt8) : fz (0 :: r) = some 0 := by rw [fz, if_pos rfl]
theorem fz_consN {c : UInt8} (h : ¬ c = 0) (r : List UInt8) : fz (c :: r) = (fz r).map (· + 1) := by rw [fz, if_neg h]
end Go.Proofs.Ytdamijicombmkaa.L14
