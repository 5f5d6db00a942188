/- What the reference's Parse returns: the texts whose table the bytes are, or that there are none. Condition: memory holds the bytes (no more than 100000). -/
import Derived.Test.YtdamijicombmkaaL14Rb
namespace Go.Proofs.Ytdamijicombmkaa.L14
open Go.RowKit
attribute [local go_sem] Oper.semAt_some

/-- What the reference's Parse leaves. -/
def RpP (l : List UInt8) (e : Ending) (w' : World) : Prop :=
  (prV l = none ∧ e = .returned (.tuple #[.slice none 0 0, .bool false])) ∨ ∃ ts a c, prV l = some ts ∧ e = .returned (.tuple #[.slice a ts.length c, .bool true]) ∧ Rw eT w' (.slice a ts.length c) ts
theorem rgE_gtx (l : List UInt8) (p : Nat) : rgE l (p : Int) = match gtx l p with
    | none => .returned (.tuple #[.string ⟨#[]⟩, .bool false])
    | some t => .returned (.tuple #[.string (mkB t), .bool true]) := by
  unfold rgE gtI
  rw [if_pos (by omega), Int.toNat_natCast]
  cases gtx l p <;> rfl

end Go.Proofs.Ytdamijicombmkaa.L14
