/-
  What cartoucheref11.Ring answers.
-/
import Derived.Test.YtdlcimfifkhllaaGreatSCheckRightR11Starts

