/- Lemmas and walks of L9Dcl, L9Lab, L9Beh, L9Lin: what each theorem states; conditions stand in each theorem. -/
import Derived.Test.YtohkgdfkklfgmaaGreatDoorM11
import Derived.Test.YtohkgdfkklfgmaaGreatDoorM10
import Derived.Test.YtohkgdfkklfgmaaGreatDoorM6
import Derived.Deep.RegionWith
section
namespace Go.Proofs.YtohkgdfkklfgmaaGreatDoor.L9
open Go.RowKit
attribute [local go_sem] Oper.semAt_some
def upB (g n:Int):Bool:=decide (1≤n) && decide (n≤g)
end Go.Proofs.YtohkgdfkklfgmaaGreatDoor.L9
end
section
namespace Go.Proofs.YtohkgdfkklfgmaaGreatDoor.L9
open Go.RowKit
attribute [local go_sem] Oper.semAt_some
def ItAt (w:World) (v:Value) (l:List Value):Prop :=
 (∃ b o cap,v=.slice (some ⟨b,o,none⟩) l.length cap∧b<w.heap.size∧∀ j,(h:j<l.length)→w.cell? ⟨b,o+j,none⟩=some l[j])∨(l=[]∧∃ a cap,v=.slice a 0 cap)
theorem ItAt.below {w w':World} {v:Value} {l:List Value} (h:ItAt w v l) (hb:Below w.heap.size w w'):ItAt w' v l:=by
 rcases h with ⟨b,o,cap,rfl,hlt,hc⟩|h
 ·exact .inl ⟨b,o,cap,rfl,Nat.lt_of_lt_of_le hlt hb.size,fun j hj=>(hb.cell (by exact hlt)).trans (hc j hj)⟩
 ·exact .inr h
end Go.Proofs.YtohkgdfkklfgmaaGreatDoor.L9
end
