/-
  Numbers that stage 9's laws are asked of.
-/
import Derived.Test.YtljgflgfcbmgiaaZOpen6
import Derived.Test.YtljgflgfcbmgiaaZP9C
namespace Go.Proofs.Ytljgflgfcbmgiaa
set_option maxRecDepth 100000
theorem okI_wf {n : Int} (h : (Lit.int .i64 n).wf = true) : okI n := i64_wf h
end Go.Proofs.Ytljgflgfcbmgiaa
