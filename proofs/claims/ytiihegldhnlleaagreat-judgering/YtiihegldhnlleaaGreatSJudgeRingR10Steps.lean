/-
  What cartoucheref10.Steps answers.
-/
import Derived.Test.YtiihegldhnlleaaGreatCL0b

