/- Lemmas and walks of L9Val, L9Nxt, L9Stp, L9Row, L9Ins, L9Run: what each theorem states; conditions stand in each theorem. -/
import Derived.Test.YtohkgdfkklfgmaaGreatDoorM10
import Derived.Test.YtohkgdfkklfgmaaGreatDoorM4
import Derived.Test.YtohkgdfkklfgmaaGreatDoorM6
section
namespace Go.Proofs.YtohkgdfkklfgmaaGreatDoor.L9
structure St where
 rest:List ByteArray
 x:Ins
 tg:ByteArray
 mp:ByteArray
end Go.Proofs.YtohkgdfkklfgmaaGreatDoor.L9
end
section
namespace Go.Proofs.YtohkgdfkklfgmaaGreatDoor.L9
open Go.RowKit
attribute [local go_sem] Oper.semAt_some
theorem cells9 {w:World} {k:Nat} {a b c d e f g h i:Value} {t:TypeId} (hh:w.heap[k]?=some (.cells #[a,b,c,d,e,f,g,h,i] t)) :
  w.cell? ⟨k,0,none⟩=some a∧w.cell? ⟨k,1,none⟩=some b∧w.cell? ⟨k,2,none⟩=some c∧w.cell? ⟨k,3,none⟩=some d∧w.cell? ⟨k,4,none⟩=some e∧w.cell? ⟨k,5,none⟩=some f∧w.cell? ⟨k,6,none⟩=some g∧w.cell? ⟨k,7,none⟩=some h∧w.cell? ⟨k,8,none⟩=some i:=by
 simp [World.cell?,hh]
theorem gr_refl (w:World) (r:Option Nat):w.grownBy w r:=⟨rfl,rfl,rfl,Nat.le_refl _,fun _ _ _=>rfl⟩
end Go.Proofs.YtohkgdfkklfgmaaGreatDoor.L9
end
section
namespace Go.Proofs.YtohkgdfkklfgmaaGreatDoor.L9
open Go.RowKit
attribute [local go_sem] Oper.semAt_some
def Tab (w:World):Prop:=L1.Wid w∧L2.Regs w
theorem Tab.wid {w:World} (h:Tab w):L1.Wid w:=h.1
theorem Tab.reg {w:World} (h:Tab w):L2.Regs w:=h.2
theorem Tab.gr {w w':World} {g:Nat} (h:Tab w) (hg:w.grownBy w' (some g)) (h2:3≤g):Tab w':=by
 obtain⟨⟨t,fr,h0⟩,⟨t',fr',h1⟩⟩:=h
 exact⟨⟨t,fr,(hg.block _ (lt_of_block h0) (by simp;omega)).trans h0⟩,⟨t',fr',(hg.block _ (lt_of_block h1) (by simp;omega)).trans h1⟩⟩
theorem Tab.below {w w':World} {B:Nat} (h:Tab w) (hb:Below B w w') (hB:3≤B):Tab w':=by
 obtain⟨⟨t,fr,h0⟩,⟨t',fr',h1⟩⟩:=h
 exact⟨⟨t,fr,(hb.block _ (by omega)).trans h0⟩,⟨t',fr',(hb.block _ (by omega)).trans h1⟩⟩
theorem Tab.lt {w:World} (h:Tab w):3≤w.heap.size:=by
 obtain⟨⟨t,fr,h0⟩,⟨t',fr',h1⟩⟩:=h
 have:=lt_of_block h0
 have:=lt_of_block h1
 omega
end Go.Proofs.YtohkgdfkklfgmaaGreatDoor.L9
end
section
namespace Go.Proofs.YtohkgdfkklfgmaaGreatDoor.L9
open Go.RowKit
attribute [local go_sem] Oper.semAt_some
structure Cod where
 x:Ins
 tg:ByteArray
 mp:ByteArray
def Cod.z:Cod:=⟨Ins.z,⟨#[]⟩,⟨#[]⟩⟩
end Go.Proofs.YtohkgdfkklfgmaaGreatDoor.L9
end
section
namespace Go.Proofs.YtohkgdfkklfgmaaGreatDoor.L9
open Go.RowKit
attribute [local go_sem] Oper.semAt_some
def fin (p:St × Int):Cod × Int:=if p.2≠0 then (Cod.z,p.2) else (⟨p.1.x,p.1.tg,p.1.mp⟩,0)
end Go.Proofs.YtohkgdfkklfgmaaGreatDoor.L9
end
