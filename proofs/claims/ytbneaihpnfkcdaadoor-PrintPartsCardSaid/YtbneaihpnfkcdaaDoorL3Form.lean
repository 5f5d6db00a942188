/- Layer 3's forms: all of them stand in L3Get and L3Rfn. No condition. -/
import Derived.Test.YtbneaihpnfkcdaaDoorL3Get
import Derived.Test.YtbneaihpnfkcdaaDoorL3Rfn
