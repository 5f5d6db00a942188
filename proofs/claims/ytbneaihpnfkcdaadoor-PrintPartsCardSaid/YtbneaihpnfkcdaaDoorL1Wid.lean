/- Layer 1's table of widths: it stands in L1Base. No condition. -/
import Derived.Test.YtbneaihpnfkcdaaDoorL1Base
