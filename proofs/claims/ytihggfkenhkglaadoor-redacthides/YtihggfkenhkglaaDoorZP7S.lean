/-
  What is wanted of redact.Shape, as one word.
-/
import Derived.Test.YtihggfkenhkglaaDoorGA
import Derived.Test.YtihggfkenhkglaaDoorGH
namespace Go.Proofs.YtihggfkenhkglaaDoor
set_option maxRecDepth 100000
open Go.RowKit
structure P7S : Prop where
  shape : ∀ (h : List Ev) (v : Value) (w : World), IsEvs w v h → h.length ≤ 100 → (∀ x ∈ h, x.2.2.1.length ≤ 1125899906842624 ∧ x.2.2.2.length ≤ 1125899906842624) → Calls Tryd.prog 21 #[v] w fun e w' => EvRow 23 w (shapeL h) e w'
end Go.Proofs.YtihggfkenhkglaaDoor
