/-
  Package history keeps its word.
-/
import Derived.Test.YtpmcmohdhicfcaaZP8C
import Derived.Test.YtpmcmohdhicfcaaZP8Formed
import Derived.Test.YtpmcmohdhicfcaaZP8Vers
import Derived.Test.YtpmcmohdhicfcaaZP8Keys
namespace Go.Proofs.Ytpmcmohdhicfcaa
set_option maxRecDepth 100000
open Go.RowKit
theorem p8c : P8C := {
  formed := fun h v w hT hG => pformed8_any h v w hT hG,
  lives := fun h v w hT hG hn => plives8_any h v w hT hG hn,
  find := fun h v w t hT _ _ => pfind8_any h v w t hT,
  writer := fun h v w key val hT _ _ _ _ => pwriter8_any h v w hT key val,
  last := fun h v w t key before hT _ _ _ _ _ => plast8_any h v w t key before hT,
  versions := fun h v w key hT hG hn _ => pvers8_any h v w key hT hG hn,
  keys := fun h v w hT hG hn => pkeys8_any h v w hT hG hn }
end Go.Proofs.Ytpmcmohdhicfcaa
