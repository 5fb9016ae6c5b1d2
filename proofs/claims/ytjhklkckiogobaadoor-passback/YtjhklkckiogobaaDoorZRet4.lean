/-
  A walk's end with four results.
-/
import Derived.Test.YtjhklkckiogobaaDoorZBase
import Derived.OwnWalk
namespace Go.Proofs.YtjhklkckiogobaaDoor
set_option maxRecDepth 100000
theorem results_four {fn : Func} {t u v x : Tmp} (h : fn.results = #[.tmp t, .tmp u, .tmp v, .tmp x]) (tmps : Array Value) (P : Program) (w : World) :
    (results fn tmps).run P w = .ok (.tuple #[tmps.getD t undef, tmps.getD u undef, tmps.getD v undef, tmps.getD x undef]) w := by
  simp [results, h]
/-- What Take's answer is, as a value. -/
def takeV (r : List UInt8 × Nat × List UInt8 × Nat) : Value := .tuple #[.string ⟨r.1.toArray⟩, .int .u64 (r.2.1 : Int), .string ⟨r.2.2.1.toArray⟩, .int .i64 (r.2.2.2 : Int)]
end Go.Proofs.YtjhklkckiogobaaDoor
