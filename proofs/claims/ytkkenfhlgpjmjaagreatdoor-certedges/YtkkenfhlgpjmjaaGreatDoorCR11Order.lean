/-
  What cartoucheref11.Order answers.
-/
import Derived.Test.YtkkenfhlgpjmjaaGreatDoorCL0b
import Derived.Laws.AppendOwnNone
namespace Go.Proofs.YtkkenfhlgpjmjaaGreatDoor
set_option maxRecDepth 100000
open Go.RowKit
set_option linter.unusedVariables false
set_option linter.unusedSimpArgs false
attribute [local go_sem] ba_size
theorem ints_own {W:World} {B:Nat} {v:Value} {l:List Int} (h:W.ownsRow B 3 1 v l.length (recV intV l)) (hn:l.length≤140737488351232):IsInts W v l:=IsRec.own intV_len (by omega) h hn
end Go.Proofs.YtkkenfhlgpjmjaaGreatDoor
