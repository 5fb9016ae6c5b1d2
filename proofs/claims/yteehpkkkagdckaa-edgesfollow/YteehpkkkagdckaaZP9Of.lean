/-
  What taint.ofWriter answers.
-/
import Derived.Test.YteehpkkkagdckaaZP9Cnt
namespace Go.Proofs.Yteehpkkkagdckaa
set_option maxRecDepth 100000
open Go.RowKit
set_option linter.unusedVariables false
attribute [local go_sem] ba_size
end Go.Proofs.Yteehpkkkagdckaa
