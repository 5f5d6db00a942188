/- Lemmas and walks of L5Pre, L5Dec, L5Decr, L5Decm: what each theorem states; conditions stand in each theorem. -/
import Derived.Test.YtgljoilddjmohaaGreatDoorM18
import Derived.Deep.RegionHeld3
section
namespace Go.Proofs.YtgljoilddjmohaaGreatDoor.L5
open Go.RowKit L3 L1 L4
def Bytes (w:World) (k o:Nat) (l:List UInt8):Prop:=∀ j,(h:j<l.length)→w.cell? ⟨k,o+j,none⟩=some (.int .u8 (l[j].toNat:Int))
end Go.Proofs.YtgljoilddjmohaaGreatDoor.L5
end
section
namespace Go.Proofs.YtgljoilddjmohaaGreatDoor.L5
open Go.RowKit L3 L1 L4
theorem cell_up {w W:World} {p:Addr} {v:Value} (hb:Below w.heap.size w W) (h:w.cell? p=some v):W.cell? p=some v:=(hb.cell (World.block_lt_of_cell? w _ h)).trans h
theorem Bytes.up {w W:World} {k o:Nat} {l:List UInt8} (h:Bytes w k o l) (hb:Below w.heap.size w W):Bytes W k o l:=fun j hj=>cell_up hb (h j hj)
end Go.Proofs.YtgljoilddjmohaaGreatDoor.L5
end
section
namespace Go.Proofs.YtgljoilddjmohaaGreatDoor.L5
open Go.RowKit L3 L1 L4
structure Ix where
 op:Int
 reg:Bool
 dst:Int
 src:Int
 off:Int
 imm:Int
abbrev Ix.cs (x:Ix):Array Value:=#[.int .i64 x.op,.bool x.reg,.int .i64 x.dst,.int .i64 x.src,.int .i64 x.off,.int .i64 x.imm]
def BsAt (w:World) (v:Value) (l:List UInt8):Prop :=
 ∃ a cap,v=.slice a l.length cap∧l.length≤cap∧cap≤maxLen∧(l=[]∨∃ k o,a=some ⟨k,o,none⟩∧Bytes w k o l)
end Go.Proofs.YtgljoilddjmohaaGreatDoor.L5
end
