/- The reference's Name, at a value of one's own. No condition. -/
import Derived.Test.YtbneaihpnfkcdaaDoorL3Ref
namespace Go.Proofs.YtbneaihpnfkcdaaDoor.L3
open Go.RowKit
end Go.Proofs.YtbneaihpnfkcdaaDoor.L3
