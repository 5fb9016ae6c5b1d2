/-
  The examples of the document's chapter 1.
-/
import Derived.Test.YtpplplemjccdjaaFNum
import Derived.Test.YtpplplemjccdjaaFTakeNum
namespace Go.Proofs.Ytpplplemjccdjaa
open Go.RowKit
theorem take_ex (w : World) : Calls Try.prog 18 #[.string ⟨#[2, 0, 1]⟩] w fun e w' => e = .returned (.tuple #[.int .u64 0, .string ⟨#[]⟩, .int .i64 3]) ∧ Below w.heap.size w w' := by
  have e : Lm.takeNumL [2, 0, 1] = (0, [], 3) := by decide
  have h := takeNum_any [2, 0, 1] w (by decide)
  rw [e] at h
  exact h
theorem num_0 (w : World) : Calls Try.prog 16 #[.int .u64 0] w fun e w' => e = .returned (.string ⟨#[0]⟩) ∧ Below w.heap.size w w' := by
  have e : Lm.numL 0 = [0] := by decide
  have h := num_any 0 (by decide) w
  rw [e] at h
  exact h
theorem num_258 (w : World) : Calls Try.prog 16 #[.int .u64 258] w fun e w' => e = .returned (.string ⟨#[2, 1, 2]⟩) ∧ Below w.heap.size w w' := by
  have e : Lm.numL 258 = [2, 1, 2] := by decide
  have h := num_any 258 (by decide) w
  rw [e] at h
  exact h
set_option maxHeartbeats 400000 in
theorem shown_any (w : World) : Calls Try.prog 13 #[] w fun e w' => e = .returned (.bool true) ∧ Below w.heap.size w w' := by
  go_enter Try.func13, Try.ntmps13
  go_wp2_with fail
  refine (take_ex _).mono ?_
  rintro e w1 ⟨rfl, hb1⟩
  go_wp2_with fail
  refine (num_0 _).mono ?_
  rintro e w2 ⟨rfl, hb2⟩
  go_wp2_with fail
  refine (num_258 _).mono ?_
  rintro e w3 ⟨rfl, hb3⟩
  go_wp2_with fail
  go_ret
  exact ⟨rfl, bel_trans (bel_trans hb1 hb2) hb3⟩
end Go.Proofs.Ytpplplemjccdjaa
