/-
  What cartoucheref11.starts answers.
-/
import Derived.Test.YtdlcimfifkhllaaGreatSCheckRightL0a
import Derived.Laws.AppendOwnNone

