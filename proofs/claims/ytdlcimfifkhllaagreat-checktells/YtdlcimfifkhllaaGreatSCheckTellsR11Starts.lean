/-
  What cartoucheref11.starts answers.
-/
import Derived.Test.YtdlcimfifkhllaaGreatSCheckTellsL0a
import Derived.Laws.AppendOwnNone

