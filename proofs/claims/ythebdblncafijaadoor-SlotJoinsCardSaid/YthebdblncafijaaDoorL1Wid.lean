/- The functions of layer 1 that layer 4 calls: a name for the text that holds them. No condition. -/
import Derived.Test.YthebdblncafijaaDoorL1Base
