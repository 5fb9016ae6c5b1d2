/-
  'shown' of chapter 2: the document's example, true.
-/
import Derived.Test.YthdikknjabdfeaaDoorAbc
namespace Go.Proofs.YthdikknjabdfeaaDoor
open Go.RowKit
set_option linter.unusedVariables false
set_option maxHeartbeats 1000000 in
set_option maxRecDepth 100000 in
theorem shown2 (w : World) (hG : G w) : Calls Tryd.prog 11 #[] w fun e w' => e = .returned (.bool true) ∧ Below w.heap.size w w' := by
  have h1 := sum_any abcL (by decide) w hG
  have hl : (sumL abcL).length = 32 := by unfold sumL; exact fl_len _ _
  have h2 := fun w1 => hex_any (sumL abcL) (by intro h; rw [h] at hl; simp at hl) (by omega) w1
  rw [abc_hex] at h2
  obtain ⟨x, hx⟩ : ∃ x, sumL abcL = x := ⟨_, rfl⟩
  rw [hx] at h1 h2
  go_enter Tryd.func11, Tryd.ntmps11
  go_wp2_with fail
  refine h1.mono ?_
  rintro e w1 ⟨rfl, hb1⟩
  go_wp2_with fail
  refine (h2 w1).mono ?_
  rintro e w2 ⟨rfl, hb2⟩
  go_wp2_with fail
  go_ret
  exact ⟨rfl, bel_trans hb1 hb2⟩
end Go.Proofs.YthdikknjabdfeaaDoor
