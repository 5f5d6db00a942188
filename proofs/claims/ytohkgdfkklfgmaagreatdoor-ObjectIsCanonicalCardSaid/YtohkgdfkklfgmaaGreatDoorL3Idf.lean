/- What the program's Identify returns: the first operation that the opcode and the fields encode. No condition. -/
import Derived.Test.YtohkgdfkklfgmaaGreatDoorM3
import Derived.Deep.RegionHeld3
namespace Go.Proofs.YtohkgdfkklfgmaaGreatDoor.L3
open Go.RowKit
theorem keepB {B w w':World} {g:Nat} {v0 v1 v2 v3 v4 v5 v6:Value} (hb:Below w.heap.size w w') (hB:Below B.heap.size B w) (h0:w.cell? ⟨g,0,none⟩=some v0) (h1:w.cell? ⟨g,1,none⟩=some v1) (h2:w.cell? ⟨g,2,none⟩=some v2) (h3:w.cell? ⟨g,3,none⟩=some v3)
  (h4:w.cell? ⟨g,4,none⟩=some v4) (h5:w.cell? ⟨g,5,none⟩=some v5) (h6:w.cell? ⟨g,6,none⟩=some v6) :
  Below B.heap.size B w'∧w'.cell? ⟨g,0,none⟩=some v0∧w'.cell? ⟨g,1,none⟩=some v1∧w'.cell? ⟨g,2,none⟩=some v2∧w'.cell? ⟨g,3,none⟩=some v3∧w'.cell? ⟨g,4,none⟩=some v4∧w'.cell? ⟨g,5,none⟩=some v5∧w'.cell? ⟨g,6,none⟩=some v6:=by
 have hlt:g<w.heap.size:=World.block_lt_of_cell? w _ h0
 exact⟨bch hB hb,(hb.cell hlt).trans h0,(hb.cell hlt).trans h1,(hb.cell hlt).trans h2,(hb.cell hlt).trans h3,(hb.cell hlt).trans h4,(hb.cell hlt).trans h5,(hb.cell hlt).trans h6⟩
theorem keepC {B w w':World} {g:Nat} {v0 v1 v2 v3 v4 v5 v6:Value} (hb:Below w.drew.heap.size w.drew w') (hB:Below B.heap.size B w) (h0:w.cell? ⟨g,0,none⟩=some v0) (h1:w.cell? ⟨g,1,none⟩=some v1) (h2:w.cell? ⟨g,2,none⟩=some v2) (h3:w.cell? ⟨g,3,none⟩=some v3)
  (h4:w.cell? ⟨g,4,none⟩=some v4) (h5:w.cell? ⟨g,5,none⟩=some v5) (h6:w.cell? ⟨g,6,none⟩=some v6) :
  Below B.heap.size B w'∧w'.cell? ⟨g,0,none⟩=some v0∧w'.cell? ⟨g,1,none⟩=some v1∧w'.cell? ⟨g,2,none⟩=some v2∧w'.cell? ⟨g,3,none⟩=some v3∧w'.cell? ⟨g,4,none⟩=some v4∧w'.cell? ⟨g,5,none⟩=some v5∧w'.cell? ⟨g,6,none⟩=some v6 :=
 keepB hb (below_drewN hB 1) h0 h1 h2 h3 h4 h5 h6
end Go.Proofs.YtohkgdfkklfgmaaGreatDoor.L3
