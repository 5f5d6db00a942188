/- Form, the program's and the reference's: a name for the texts that hold them. No condition. -/
import Derived.Test.YthebdblncafijaaDoorL3Rfn
