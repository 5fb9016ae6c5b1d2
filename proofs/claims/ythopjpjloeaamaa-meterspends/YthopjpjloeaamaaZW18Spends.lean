/-
  The walk of MeterSpends.
-/
import Derived.Test.YthopjpjloeaamaaZShown18
import Derived.Test.YthopjpjloeaamaaZR18Sp
import Derived.Test.YthopjpjloeaamaaZR18Same
namespace Go.Proofs.Ythopjpjloeaamaa
set_option maxRecDepth 100000
open Go.RowKit
set_option linter.unusedVariables false
attribute [local go_sem] ba_size
set_option maxHeartbeats 2000000 in
theorem spends18_walk (now : Int) (hnow : 0 ≤ now ∧ now ≤ 18446744073709551615) (V0 : Value) (L : List Int) (w : World) (hL : IsInts w V0 L) :
    Calls Try.prog 4 #[.int .u64 now, V0] w fun e w' => e = .returned (.bool true) ∧ Below w.heap.size w w' := by
  go_enter Try.func4, Try.ntmps4
  go_wp2_with fail
  refine (shown18_any _).mono ?_
  rintro e W1 ⟨rfl, b1⟩
  replace hL := hL.below b1
  go_wp2_with fail
  refine (pspend18_any now hnow _ L _ hL).mono ?_
  rintro e W2 ⟨v1, rfl, b2, h1⟩
  replace hL := hL.below b2
  have B2 := b1.trans (b2.mono b1.size)
  go_wp2_with fail
  refine (rspend18_any now hnow _ L _ hL).mono ?_
  rintro e W3 ⟨v2, rfl, b3, h2⟩
  replace h1 := h1.below b3
  have B3 := B2.trans (b3.mono B2.size)
  go_wp2_with fail
  refine (rsame18_any _ _ _ _ _ h1 h2).mono ?_
  rintro e W4 ⟨rfl, b4⟩
  have B4 := B3.trans (b4.mono B3.size)
  rw [decide_eq_true rfl]
  clear h1 h2 hL b1 b2 b3 b4 B2 B3
  go_wp2_with fail
  go_ret
  exact ⟨rfl, B4⟩
end Go.Proofs.Ythopjpjloeaamaa
