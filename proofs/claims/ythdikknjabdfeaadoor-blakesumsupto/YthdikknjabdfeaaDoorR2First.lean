/-
  What cartoucheref02.first answers.
-/
import Derived.Test.YthdikknjabdfeaaDoorProg
import Derived.Test.YthdikknjabdfeaaDoorWords
namespace Go.Proofs.YthdikknjabdfeaaDoor
open Go.RowKit
set_option maxHeartbeats 400000 in
theorem first_any (w : World) : Calls Tryd.prog 22 #[] w fun e w' => (∃ g, e = .returned (.slice (some ⟨g, 0, none⟩) 8 8) ∧ w.heap.size ≤ g ∧ Row w' g 23 firstL) ∧ Below w.heap.size w w' := by
  go_enter Tryd.func22, Tryd.ntmps22
  go_wp2
  go_ret
  exact ⟨⟨w.heap.size, rfl, Nat.le_refl _, heap_alloc_new w _⟩, (Below.refl _ _).alloc (Nat.le_refl _) _⟩
end Go.Proofs.YthdikknjabdfeaaDoor
