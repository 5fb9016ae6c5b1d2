/-
  The document's example of chapter 2, reckoned: of no program.
-/
import Derived.Test.YthdikknjabdfeaaDoorP2Fold
import Derived.Test.YthdikknjabdfeaaDoorP2Hex
namespace Go.Proofs.YthdikknjabdfeaaDoor
open Go.RowKit
def abcL : List UInt8 := [97, 98, 99]
def abcHex : List UInt8 := [53, 48, 56, 99, 53, 101, 56, 99, 51, 50, 55, 99, 49, 52, 101, 50, 101, 49, 97, 55, 50, 98, 97, 51, 52, 101, 101, 98, 52, 53, 50, 102, 51, 55, 52, 53, 56, 98, 50, 48, 57, 101, 100, 54, 51, 97, 50, 57, 52, 100, 57, 57, 57, 98, 52, 99, 56, 54, 54, 55, 53, 57, 56, 50]
set_option maxRecDepth 100000 in
theorem abc_hex : hexL (sumL abcL) = abcHex := by decide +kernel
end Go.Proofs.YthdikknjabdfeaaDoor
