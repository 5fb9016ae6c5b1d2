/-
  What cartoucheref11.Ring answers.
-/
import Derived.Test.YtdlcimfifkhllaaGreatSCheckTellsR11Starts

