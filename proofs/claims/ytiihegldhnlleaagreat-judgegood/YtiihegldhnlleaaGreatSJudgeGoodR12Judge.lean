/-
  What cartoucheref12.Judge answers.
-/
import Derived.Test.YtiihegldhnlleaaGreatCR8Formed
import Derived.Test.YtiihegldhnlleaaGreatSJudgeGoodR10All
import Derived.Test.YtiihegldhnlleaaGreatSJudgeGoodR10Steps
import Derived.Test.YtiihegldhnlleaaGreatSJudgeGoodR11Ring

