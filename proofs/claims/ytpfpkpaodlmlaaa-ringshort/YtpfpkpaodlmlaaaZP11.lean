/-
  Package ring keeps the word P11C.
-/
import Derived.Test.YtpfpkpaodlmlaaaZP11Rg
import Derived.Test.YtpfpkpaodlmlaaaZP11Ord
import Derived.Test.YtpfpkpaodlmlaaaZP11Fw
namespace Go.Proofs.Ytpfpkpaodlmlaaa
set_option maxRecDepth 100000
set_option linter.unusedVariables false
theorem p11c : P11C 17592186043904 3518437208780 :=
  { order := fun nodes l vn vl w h1 h2 h3 h4 h5 h6 h7 h8 => porder11_any nodes l vn vl w h1 h2 h3 h4 h5 h6 h7 h8
    closed := fun l vl w h1 h2 h3 h4 => pclosed11_any l vl w h1
    ring := fun l vl w h1 h2 h3 h4 => pring11_any l vl w h1 h2 h3 h4
    forward := fun o l vo vl w h1 h2 h3 h4 h5 h6 h7 h8 => pforward11_any o l vo vl w h1 h3 h4 h6 h7 }
end Go.Proofs.Ytpfpkpaodlmlaaa
