/-
  What cartoucheref11.Order answers.
-/
import Derived.Test.YtdlcimfifkhllaaGreatCL0d
import Derived.Laws.AppendOwnNone

