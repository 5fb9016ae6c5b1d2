/-
  What cartoucheref11.Ring answers.
-/
import Derived.Test.YtiihegldhnlleaaGreatSJudgeGoodL0a
import Derived.Test.YtiihegldhnlleaaGreatSJudgeGoodR11Starts

