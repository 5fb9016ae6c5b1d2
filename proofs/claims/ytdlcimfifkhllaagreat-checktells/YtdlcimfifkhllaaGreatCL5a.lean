/-
  Package check, as its word asks.
-/
import Derived.Test.YtdlcimfifkhllaaGreatCP13Check
namespace Go.Proofs.YtdlcimfifkhllaaGreat
set_option maxRecDepth 100000
theorem p13c:P13C where
 check:=fun h vh vo vr v w hT hG hf hv hO hR _=>pcheck13_any h vh vo vr v w hT hG hf hv hO hR
 ahead:=fun h vh vo level o w hT hG hf _ oko hO hl=>pahead13_any h vh vo level o w hT hG hf oko hO hl
 round:=fun h vh vl level l w hT _ _ _ _ hL _=>pround13_any h vh vl level l w hT hL
end Go.Proofs.YtdlcimfifkhllaaGreat
