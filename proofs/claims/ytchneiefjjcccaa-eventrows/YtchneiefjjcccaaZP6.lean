/-
  Package event keeps its word.
-/
import Derived.Test.YtchneiefjjcccaaZP6C
import Derived.Test.YtchneiefjjcccaaZP6Rows
import Derived.Test.YtchneiefjjcccaaZP6Same
namespace Go.Proofs.Ytchneiefjjcccaa
set_option maxRecDepth 100000
theorem p6c : P6C := ⟨pmay_any, fun k t a b w _ => pbytes6_any k t a b w, fun s w h => ptake6_any s h w, fun h v w hT _ => pleaves_any h v w hT, fun l v w hT hB => pback_any l v w hT (fun s hs => Nat.le_trans (hB s hs) (by decide)), psame6_any⟩
end Go.Proofs.Ytchneiefjjcccaa
