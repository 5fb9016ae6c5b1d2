/-
  What a charge leaves, in lists.
-/
import Derived.Test.YthopjpjloeaamaaZMeter18
namespace Go.Proofs.Ythopjpjloeaamaa
set_option maxRecDepth 100000
set_option linter.unusedVariables false
theorem chg_no {m : Mt} {now c : Int} (h : ¬ (chgM m now c).2 = 0) : (chgM m now c).1 = m := by
  unfold chgM at h ⊢
  split
  · rfl
  · rename_i h1
    rw [if_neg h1] at h
    split
    · rfl
    · rename_i h2
      rw [if_neg h2] at h
      exact absurd rfl h
theorem chg_yes {m : Mt} {now c : Int} (h : (chgM m now c).2 = 0) : 0 ≤ c ∧ c ≤ leftM m now ∧ chgM m now c = ((max m.1 now, leftM m now - c), 0) ∧ leftM (max m.1 now, leftM m now - c) now = leftM m now - c := by
  unfold chgM at h ⊢
  split at h
  · simp at h
  · split at h
    · simp at h
    · rename_i h1 h2
      refine ⟨by omega, by omega, ?_, ?_⟩
      · rw [if_neg h1, if_neg h2]
      · show (if max m.1 now < now then 150 else leftM m now - c) = _
        rw [if_neg (by omega)]
end Go.Proofs.Ythopjpjloeaamaa
