/-
  What cartoucheref11.starts answers.
-/
import Derived.Test.YtiihegldhnlleaaGreatCL0c
import Derived.Laws.AppendOwnNone

