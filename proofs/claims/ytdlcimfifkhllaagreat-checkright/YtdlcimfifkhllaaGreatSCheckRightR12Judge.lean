/-
  What cartoucheref12.Judge answers.
-/
import Derived.Test.YtdlcimfifkhllaaGreatCR8Formed
import Derived.Test.YtdlcimfifkhllaaGreatSCheckRightR10All
import Derived.Test.YtdlcimfifkhllaaGreatSCheckRightR10Steps
import Derived.Test.YtdlcimfifkhllaaGreatSCheckRightR11Order
import Derived.Test.YtdlcimfifkhllaaGreatSCheckRightR11Ring

