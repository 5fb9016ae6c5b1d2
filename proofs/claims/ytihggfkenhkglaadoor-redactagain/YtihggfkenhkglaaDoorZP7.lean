/-
  Package redact keeps its word.
-/
import Derived.Test.YtihggfkenhkglaaDoorZP7C
import Derived.Test.YtihggfkenhkglaaDoorZP7Twins
import Derived.Test.YtihggfkenhkglaaDoorZP7Sh
namespace Go.Proofs.YtihggfkenhkglaaDoor
set_option maxRecDepth 100000
open Go.RowKit
theorem p7c : P7C := ⟨fun s k w g _ h => pkeytag_any s k w g h, fun s v w g _ h => pvaltag_any s v w g h, fun s k t a b w g _ _ => pone_any s k t a b w g, fun s h v w g _ hT _ => pall7_any s h v w g hT, fun s h v w g _ hT hn hB => pTwins_any s h v w g hT hn hB⟩
end Go.Proofs.YtihggfkenhkglaaDoor
