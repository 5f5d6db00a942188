/- A program in memory: the texts that hold it. No condition. -/
import Derived.Test.YtgljoilddjmohaaGreatDoorL10Chl
import Derived.Test.YtgljoilddjmohaaGreatDoorM15
import Derived.Test.YtgljoilddjmohaaGreatDoorM13
