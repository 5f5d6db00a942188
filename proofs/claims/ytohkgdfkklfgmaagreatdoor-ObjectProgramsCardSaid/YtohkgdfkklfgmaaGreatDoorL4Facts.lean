/- Layer 4's facts: they stand in L10Chl. No condition. -/
import Derived.Test.YtohkgdfkklfgmaaGreatDoorL10Chl
