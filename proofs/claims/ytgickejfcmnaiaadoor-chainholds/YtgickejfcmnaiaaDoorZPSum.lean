/-
  What blake.Sum and cartoucheref02.Sum answer, as the sum of lists.
-/
import Derived.Test.YtgickejfcmnaiaaDoorZP2Sum
import Derived.Test.YtgickejfcmnaiaaDoorGF
namespace Go.Proofs.YtgickejfcmnaiaaDoor
set_option maxRecDepth 100000
open Go.RowKit
set_option linter.unusedVariables false
theorem psumG_any (S : List UInt8) (hS : S.length ≤ 9223372036854775000) (w : World) (hG : G w) :
    Calls Tryd.prog 28 #[.string ⟨S.toArray⟩] w fun e w' => e = .returned (.string ⟨(sumL S).toArray⟩) ∧ Below w.heap.size w w' := sum_any S hS w hG
theorem rsumG_any (S : List UInt8) (hS : S.length ≤ 9223372036854775000) (w : World) :
    Calls Tryd.prog 27 #[.string ⟨S.toArray⟩] w fun e w' => e = .returned (.string ⟨(sumL S).toArray⟩) ∧ Below w.heap.size w w' := rsum_any S hS w
end Go.Proofs.YtgickejfcmnaiaaDoor
