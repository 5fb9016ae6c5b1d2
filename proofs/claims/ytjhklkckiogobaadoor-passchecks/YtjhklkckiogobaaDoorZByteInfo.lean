/-
  The type byte's row of the table.
-/
import Derived.Test.YtjhklkckiogobaaDoorProg
import Derived.Test.YtjhklkckiogobaaDoorZBase
import Derived.KernelRfl
namespace Go.Proofs.YtjhklkckiogobaaDoor
set_option maxRecDepth 100000
open Go.RowKit
theorem byte_info : (Tryd.prog.info? 5).map (fun i => (i.zero, i.size, i.bytes)) = some (some (.int .u8 0), 1, 1) := by kernel_rfl
end Go.Proofs.YtjhklkckiogobaaDoor
