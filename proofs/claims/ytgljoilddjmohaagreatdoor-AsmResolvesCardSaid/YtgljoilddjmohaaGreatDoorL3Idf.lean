/- What the program's Identify returns: the first operation that the opcode and the fields encode. No condition. -/
import Derived.Test.YtgljoilddjmohaaGreatDoorM3
import Derived.Deep.RegionHeld3
namespace Go.Proofs.YtgljoilddjmohaaGreatDoor.L3
open Go.RowKit
end Go.Proofs.YtgljoilddjmohaaGreatDoor.L3
