/- Contracts of Go's library at this dump, as the kit's command lays them. -/
import Derived.Shelf.Small.Wraps
import Derived.Shelf.Strings.Prefix
import Derived.Shelf.Bits.Mul64
import Derived.Test.YtbneaihpnfkcdaaDoorProg
namespace Go.Proofs
open Go.Shelf
end Go.Proofs
