/-
  What is wanted of package taint, is so.
-/
import Derived.Test.YtljgflgfcbmgiaaZP9First
import Derived.Test.YtljgflgfcbmgiaaZP9All
namespace Go.Proofs.Ytljgflgfcbmgiaa
set_option maxRecDepth 100000
open Go.RowKit
theorem p9c : P9C := {
  at_ := fun h v w i hT _ _ _ => pat_any h v w hT i
  all := fun h v w hT _ hn => pall9_any h v w hT hn
  first := fun h v w hT _ _ => pfirst9_any h v w hT
  outer := fun h v w i hT _ _ _ => pouter_any h v w hT i }
end Go.Proofs.Ytljgflgfcbmgiaa
