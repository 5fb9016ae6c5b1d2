/-
  What is wanted of package edges, is so.
-/
import Derived.Test.YteehpkkkagdckaaZP10All
import Derived.Test.YteehpkkkagdckaaZP10Holds
import Derived.Test.YteehpkkkagdckaaZP10Nodes
import Derived.Test.YteehpkkkagdckaaZP10Steps
namespace Go.Proofs.Yteehpkkkagdckaa
set_option maxRecDepth 100000
open Go.RowKit
theorem p10c : P10C := {
  all := fun h v w hT hG hl => pall10_any h v w hT hG hl
  holds := fun h v w k f t I J hT _ _ _ => pholds_any h v w k f t I J hT
  nodes := fun h v w hT hG hf => pnodes10_any h v w hT hG hf
  steps := fun level l v w hT _ hl _ => psteps10_any level l v w hT hl }
end Go.Proofs.Yteehpkkkagdckaa
