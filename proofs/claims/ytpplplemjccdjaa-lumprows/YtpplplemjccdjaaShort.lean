/-
  The examples of the document, and what LumpShort answers.
-/
import Derived.Test.YtpplplemjccdjaaProg
import Derived.Test.YtpplplemjccdjaaMath
import Derived.Test.YtpplplemjccdjaaBase
import Derived.Test.YtpplplemjccdjaaNum
import Derived.Test.YtpplplemjccdjaaTakeNum
import Derived.BigQuiet
import Derived.Deep.QuietTactic
namespace Go.Proofs.Ytpplplemjccdjaa
open Go.RowKit
attribute [local go_sem] ba_size ba_get ba_extract wrap_byte wrap_u64_byte take_drop_end
theorem take_ex (w : World) : Calls Try.prog 18 #[.string ⟨#[2, 0, 1]⟩] w fun e w' => e = .returned (.tuple #[.int .u64 0, .string ⟨#[]⟩, .int .i64 3]) ∧ Below w.heap.size w w' := by
  have e : Lm.takeNumL [2, 0, 1] = (0, [], 3) := by decide
  have h := takeNum_any [2, 0, 1] w (by decide)
  rw [e] at h
  exact h
theorem num_0 (w : World) : Calls Try.prog 16 #[.int .u64 0] w fun e w' => e = .returned (.string ⟨#[0]⟩) ∧ Below w.heap.size w w' := by
  have e : Lm.numL 0 = [0] := by decide
  have h := num_any 0 (by decide) w
  rw [e] at h
  exact h
theorem num_258 (w : World) : Calls Try.prog 16 #[.int .u64 258] w fun e w' => e = .returned (.string ⟨#[2, 1, 2]⟩) ∧ Below w.heap.size w w' := by
  have e : Lm.numL 258 = [2, 1, 2] := by decide
  have h := num_any 258 (by decide) w
  rw [e] at h
  exact h

set_option maxHeartbeats 400000 in
theorem shown_any (w : World) : Calls Try.prog 13 #[] w fun e w' => e = .returned (.bool true) ∧ Below w.heap.size w w' := by
  go_enter Try.func13, Try.ntmps13
  go_wp2_with fail
  refine (take_ex _).mono ?_
  rintro e w1 ⟨rfl, hb1⟩
  go_wp2_with fail
  refine (num_0 _).mono ?_
  rintro e w2 ⟨rfl, hb2⟩
  go_wp2_with fail
  refine (num_258 _).mono ?_
  rintro e w3 ⟨rfl, hb3⟩
  go_wp2_with fail
  go_ret
  exact ⟨rfl, bel_trans (bel_trans hb1 hb2) hb3⟩

set_option maxHeartbeats 400000 in
theorem short_walk (a b : Nat) (ha : a < 18446744073709551616) (hb : b < 18446744073709551616) (w : World) :
    Calls Try.prog 11 #[.int .u64 a, .int .u64 b] w fun e w' => e = .returned (.bool true) ∧ Below w.heap.size w w' := by
  have heq : (Lm.numL a == Lm.numL b) = ((a : Int) == (b : Int)) := by
    rw [Bool.eq_iff_iff]; simp only [beq_iff_eq]; rw [Lm.numL_inj a b (by omega) (by omega)]; omega
  have h1 : 1 ≤ (Lm.numL a).length := by rw [Lm.numL_length]; omega
  have h9 : ((Lm.numL a).length : Int) ≤ 9 := by rw [Lm.numL_length]; have := Lm.cnt_le a; omega
  have hor : b < a ∨ (¬ b < a ∧ (Lm.numL a).length ≤ (Lm.numL b).length) := by
    by_cases h : b < a
    · exact .inl h
    · exact .inr ⟨h, by rw [Lm.numL_length, Lm.numL_length]; have := Lm.cnt_mono a b (by omega) (by omega); omega⟩
  rcases hor with hab | ⟨hab, hlen⟩
  all_goals
    go_enter Try.func11, Try.ntmps11
    go_wp2_with fail
    refine (shown_any _).mono ?_
    rintro e w1 ⟨rfl, hb1⟩
    go_wp2_with fail
    refine (num_any a ha _).mono ?_
    rintro e w2 ⟨rfl, hb2⟩
    go_wp2_with fail
    refine (num_any b hb _).mono ?_
    rintro e w3 ⟨rfl, hb3⟩
    go_wp2_with fail
    go_ret
    exact ⟨rfl, bel_trans (bel_trans hb1 hb2) hb3⟩
end Go.Proofs.Ytpplplemjccdjaa
