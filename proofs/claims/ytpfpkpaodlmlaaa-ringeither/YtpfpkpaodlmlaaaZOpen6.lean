/-
  Events among the arguments, opened: one by value, a slice of them.
-/
import Derived.Test.YtpfpkpaodlmlaaaProg
import Derived.Test.YtpfpkpaodlmlaaaGB
import Derived.WalkKit
import Derived.ProofKit
namespace Go.Proofs.Ytpfpkpaodlmlaaa
set_option maxRecDepth 100000
open Go.ChangeShapes Go.WideShapes Go.ChangeAt Go.RowKit
set_option linter.unusedVariables false
end Go.Proofs.Ytpfpkpaodlmlaaa
