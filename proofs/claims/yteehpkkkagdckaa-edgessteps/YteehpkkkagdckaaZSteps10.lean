/-
  What steps are of: in lists.
-/
import Derived.Test.YteehpkkkagdckaaZEdges10
namespace Go.Proofs.Yteehpkkkagdckaa
set_option maxRecDepth 100000
set_option linter.unusedVariables false
theorem steps1_len (l : List Ed) : (stepsL 1 l).length = l.length := by
  have g : ∀ m : List Ed, (m.flatMap (stepOf 1 l)).length = m.length := by
    intro m
    induction m with
    | nil => rfl
    | cons x r ih => rw [List.flatMap_cons, List.length_append, ih, stepOf_1]; simp; omega
  exact g l
theorem stepsO (level : Int) (l : List Ed) (h1 : level ≠ 1) (h2 : level ≠ 2) : stepsL level l = [] := by
  unfold stepsL
  rw [List.flatMap_eq_nil_iff]
  intro x _
  exact stepOf_o level l x h1 h2
theorem steps1_at (l : List Ed) (s : Stp) (hs : s ∈ stepsL 1 l) : ∃ e : Ed, s = (e.2.1, e.2.2.1, [e]) := by
  rcases steps_cases 1 l s hs with ⟨e, _, _, rfl⟩ | ⟨h, _⟩
  · exact ⟨e, rfl⟩
  · omega
theorem steps2_at (l : List Ed) (s : Stp) (hs : s ∈ stepsL 2 l) : (∃ e : Ed, e.1 ≠ 3 ∧ s = (e.2.1, e.2.2.1, [e])) ∨ ∃ e g : Ed, e.1 ≠ 3 ∧ g.1 = 3 ∧ g.2.1 = e.2.2.1 ∧ s = (e.2.1, g.2.2.1, [e, g]) := by
  rcases steps_cases 2 l s hs with ⟨e, _, h, rfl⟩ | ⟨_, e, _, g, _, h1, h2, h3, rfl⟩
  · left
    refine ⟨e, ?_, rfl⟩
    rcases h with h | h
    · omega
    · exact h.2
  · exact .inr ⟨e, g, h1, h2, h3, rfl⟩
end Go.Proofs.Yteehpkkkagdckaa
