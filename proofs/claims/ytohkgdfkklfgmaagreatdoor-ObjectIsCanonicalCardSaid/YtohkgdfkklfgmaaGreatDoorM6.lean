/- Lemmas and walks of L8Small, L8Tok, L8Shw: what each theorem states; conditions stand in each theorem. -/
import Derived.Test.YtohkgdfkklfgmaaGreatDoorM5
import Derived.OwnWalk
import Derived.WalkSpells
import Derived.Lib.AppendStr
import Derived.Laws.IdiomStrings
import Derived.Laws.BytesArg
section
namespace Go.Proofs.YtohkgdfkklfgmaaGreatDoor.L8
open Go.RowKit L2
attribute [local go_sem] Oper.semAt_some
theorem Tryz.info5:(Tryz.prog.info? 5).map (fun i=>(i.zero,i.size,i.bytes))=some (some (.int .u8 0),1,1):=by kernel_rfl
def byC (l:List UInt8):List Value:=l.map fun c=>Value.int .u8 (c.toNat:Int)
end Go.Proofs.YtohkgdfkklfgmaaGreatDoor.L8
end
