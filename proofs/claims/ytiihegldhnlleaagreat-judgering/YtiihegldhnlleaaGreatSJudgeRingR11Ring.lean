/-
  What cartoucheref11.Ring answers.
-/
import Derived.Test.YtiihegldhnlleaaGreatSJudgeRingL0a
import Derived.Test.YtiihegldhnlleaaGreatSJudgeRingR11Starts

