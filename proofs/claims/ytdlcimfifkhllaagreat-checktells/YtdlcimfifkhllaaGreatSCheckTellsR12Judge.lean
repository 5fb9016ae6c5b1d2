/-
  What cartoucheref12.Judge answers.
-/
import Derived.Test.YtdlcimfifkhllaaGreatCR8Formed
import Derived.Test.YtdlcimfifkhllaaGreatSCheckTellsR10All
import Derived.Test.YtdlcimfifkhllaaGreatSCheckTellsR10Steps
import Derived.Test.YtdlcimfifkhllaaGreatSCheckTellsR11Order
import Derived.Test.YtdlcimfifkhllaaGreatSCheckTellsR11Ring

