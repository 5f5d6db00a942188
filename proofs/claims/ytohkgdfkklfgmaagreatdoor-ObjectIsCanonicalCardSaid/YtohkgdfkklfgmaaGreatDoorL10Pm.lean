/- A program in memory: the texts that hold it. No condition. -/
import Derived.Test.YtohkgdfkklfgmaaGreatDoorL10Chl
import Derived.Test.YtohkgdfkklfgmaaGreatDoorM15
import Derived.Test.YtohkgdfkklfgmaaGreatDoorM13
