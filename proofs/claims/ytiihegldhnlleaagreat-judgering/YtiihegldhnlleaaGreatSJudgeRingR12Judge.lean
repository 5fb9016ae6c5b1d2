/-
  What cartoucheref12.Judge answers.
-/
import Derived.Test.YtiihegldhnlleaaGreatCR8Formed
import Derived.Test.YtiihegldhnlleaaGreatSJudgeRingR10All
import Derived.Test.YtiihegldhnlleaaGreatSJudgeRingR10Steps
import Derived.Test.YtiihegldhnlleaaGreatSJudgeRingR11Ring

