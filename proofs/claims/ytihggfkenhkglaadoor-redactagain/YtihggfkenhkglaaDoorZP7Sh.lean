/-
  redact.Shape keeps its word.
-/
import Derived.Test.YtihggfkenhkglaaDoorZP7Shape
namespace Go.Proofs.YtihggfkenhkglaaDoor
set_option maxRecDepth 100000
theorem p7s : P7S := ⟨pshape_any⟩
end Go.Proofs.YtihggfkenhkglaaDoor
