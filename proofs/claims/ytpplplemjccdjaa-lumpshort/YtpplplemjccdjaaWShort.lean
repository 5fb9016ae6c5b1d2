/-
  What LumpShort answers.
-/
import Derived.Test.YtpplplemjccdjaaShown
namespace Go.Proofs.Ytpplplemjccdjaa
open Go.RowKit
attribute [local go_sem] ba_size ba_get ba_extract ba_append wrap_byte wrap_u64_byte take_drop_end
set_option maxHeartbeats 400000 in
theorem short_walk (a b : Nat) (ha : a < 18446744073709551616) (hb : b < 18446744073709551616) (w : World) :
    Calls Try.prog 11 #[.int .u64 a, .int .u64 b] w fun e w' => e = .returned (.bool true) ∧ Below w.heap.size w w' := by
  have heq : (Lm.numL a == Lm.numL b) = ((a : Int) == (b : Int)) := by
    rw [Bool.eq_iff_iff]; simp only [beq_iff_eq]; rw [Lm.numL_inj a b (by omega) (by omega)]; omega
  have h1 : 1 ≤ (Lm.numL a).length := by rw [Lm.numL_length]; omega
  have h9 : ((Lm.numL a).length : Int) ≤ 9 := by rw [Lm.numL_length]; have := Lm.cnt_le a; omega
  have hor : b < a ∨ (¬ b < a ∧ (Lm.numL a).length ≤ (Lm.numL b).length) := by
    by_cases h : b < a
    · exact .inl h
    · exact .inr ⟨h, by rw [Lm.numL_length, Lm.numL_length]; have := Lm.cnt_mono a b (by omega) (by omega); omega⟩
  rcases hor with hab | ⟨hab, hlen⟩
  all_goals
    go_enter Try.func11, Try.ntmps11
    go_wp2_with fail
    refine (shown_any _).mono ?_
    rintro e w1 ⟨rfl, hb1⟩
    go_wp2_with fail
    refine (num_any a ha _).mono ?_
    rintro e w2 ⟨rfl, hb2⟩
    go_wp2_with fail
    refine (num_any b hb _).mono ?_
    rintro e w3 ⟨rfl, hb3⟩
    go_wp2_with fail
    go_ret
    exact ⟨rfl, bel_trans (bel_trans hb1 hb2) hb3⟩
end Go.Proofs.Ytpplplemjccdjaa
