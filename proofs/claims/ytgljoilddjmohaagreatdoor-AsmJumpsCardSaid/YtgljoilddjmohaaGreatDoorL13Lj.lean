/- The walk of the law on jumps. Condition: the tables read as the program's text lays them. -/
import Derived.Test.YtgljoilddjmohaaGreatDoorM33
namespace Go.Proofs.YtgljoilddjmohaaGreatDoor.L13
open Go.RowKit Go.Shelf L3 L4 L12
open L10 (Stm Pg jmI fmI lbK)
attribute [local go_sem] Oper.semAt_some
end Go.Proofs.YtgljoilddjmohaaGreatDoor.L13
