/-
  The walk of BlakeHex.
-/
import Derived.Test.YthdikknjabdfeaaDoorShown2
import Derived.Test.YthdikknjabdfeaaDoorP2Hex0
namespace Go.Proofs.YthdikknjabdfeaaDoor
open Go.RowKit
set_option linter.unusedVariables false
attribute [local go_sem] ba_size
set_option maxHeartbeats 1000000 in
theorem hex_walk (a b : List UInt8) (ha : a.length ≤ 1048576) (hb : b.length ≤ 1048576) (w : World) (hG : G w) :
    Calls Tryd.prog 8 #[.string ⟨a.toArray⟩, .string ⟨b.toArray⟩] w fun e w' => e = .returned (.bool true) ∧ Below w.heap.size w w' := by
  have la := hexL_len a
  have e2 : (hexL a == hexL b) = (a == b) := by
    by_cases h : a = b
    · subst h; simp
    · rw [beq_eq_false_iff_ne.2 h, beq_eq_false_iff_ne.2 (fun he => h (hexL_inj a b he))]
  have h1 := fun w1 => hex_all a (by omega) w1
  have h2 := fun w1 => hex_all b (by omega) w1
  have q1 : (((hexL a).length : Int) == 2 * (a.length : Int)) = true := by simp; omega
  obtain ⟨x, hx⟩ : ∃ x, hexL a = x := ⟨_, rfl⟩
  obtain ⟨y, hy⟩ : ∃ y, hexL b = y := ⟨_, rfl⟩
  rw [hx] at h1 la q1 e2
  rw [hy] at h2 e2
  go_enter Tryd.func8, Tryd.ntmps8
  go_wp2_with fail
  refine (shown2 w hG).mono ?_
  rintro e w1 ⟨rfl, hb1⟩
  go_wp2_with fail
  refine (h1 w1).mono ?_
  rintro e w2 ⟨rfl, hb2⟩
  go_wp2_with fail
  refine (h2 w2).mono ?_
  rintro e w3 ⟨rfl, hb3⟩
  go_wp2
  go_ret
  exact ⟨by simp, bel_trans (bel_trans hb1 hb2) hb3⟩
end Go.Proofs.YthdikknjabdfeaaDoor
