/-
  The walk of BlakeSums.
-/
import Derived.Test.YthdikknjabdfeaaDoorShown2
import Derived.Test.YthdikknjabdfeaaDoorP2Hex0
import Derived.Test.YthdikknjabdfeaaDoorR2Sum
import Derived.Test.YthdikknjabdfeaaDoorR2Hex
namespace Go.Proofs.YthdikknjabdfeaaDoor
open Go.RowKit
set_option linter.unusedVariables false
attribute [local go_sem] ba_size
set_option maxHeartbeats 1000000 in
theorem sums_walk (a : List UInt8) (ha : a.length ≤ 1048576) (w : World) (hG : G w) :
    Calls Tryd.prog 5 #[.string ⟨a.toArray⟩] w fun e w' => e = .returned (.bool true) ∧ Below w.heap.size w w' := by
  have hg3 := hG.size
  have h1 := fun w1 h => sum_any a (by omega) w1 h
  have h2 := fun w1 => rsum_any a (by omega) w1
  have h3 := fun w1 => hex_all a (by omega) w1
  have h4 := fun w1 => rhex_any a (by omega) w1
  unfold sumL at h1
  obtain ⟨x, hx⟩ : ∃ x, fl (foldL (startL 0) a) 32 = x := ⟨_, rfl⟩
  obtain ⟨y, hy⟩ : ∃ y, hexL a = y := ⟨_, rfl⟩
  rw [hx] at h1 h2
  rw [hy] at h3 h4
  clear hx hy
  go_enter Tryd.func5, Tryd.ntmps5
  go_wp2_with fail
  refine (shown2 w hG).mono ?_
  rintro e w1 ⟨rfl, hb1⟩
  go_wp2_with fail
  refine (h1 w1 (hG.below hb1 hg3)).mono ?_
  rintro e w2 ⟨rfl, hb2⟩
  go_wp2_with fail
  refine (h2 w2).mono ?_
  rintro e w3 ⟨rfl, hb3⟩
  go_wp2_with fail
  refine (h3 w3).mono ?_
  rintro e w4 ⟨rfl, hb4⟩
  go_wp2_with fail
  refine (h4 w4).mono ?_
  rintro e w5 ⟨rfl, hb5⟩
  go_wp2
  go_ret
  exact ⟨by simp, bel_trans (bel_trans (bel_trans (bel_trans hb1 hb2) hb3) hb4) hb5⟩
end Go.Proofs.YthdikknjabdfeaaDoor
