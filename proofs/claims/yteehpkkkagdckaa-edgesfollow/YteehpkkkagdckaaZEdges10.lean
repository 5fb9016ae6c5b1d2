/-
  Small facts of edges and steps for the laws: in lists.
-/
import Derived.Test.YteehpkkkagdckaaGE
namespace Go.Proofs.Yteehpkkkagdckaa
set_option maxRecDepth 100000
open Go.RowKit
set_option linter.unusedVariables false
theorem edges_few (h : List Ev) (hn : h.length ≤ 300) : (edgesL h).length ≤ 270000 := by
  have h1 := eTo_len h 300 hn (keysL h).length (Nat.le_refl _)
  rw [eTo_all] at h1
  have h2 := keys_len h
  have h3 : (keysL h).length * (3 * 300) ≤ 300 * (3 * 300) := Nat.mul_le_mul_right _ (by omega)
  omega
theorem stepOf_len (level : Int) (l : List Ed) (e : Ed) : (stepOf level l e).length ≤ l.length + 1 := by
  unfold stepOf
  rw [List.length_append]
  have h1 : (if level = 1 ∨ level = 2 ∧ e.1 ≠ 3 then [one1 e] else []).length ≤ 1 := by split <;> simp
  have h2 : (if level = 2 ∧ e.1 ≠ 3 then l.filterMap fun g => if g.1 = 3 ∧ g.2.1 = e.2.2.1 then some (two2 e g) else none else []).length ≤ l.length := by
    split
    · exact List.length_filterMap_le _ _
    · simp
  omega
theorem steps_len (level : Int) (l : List Ed) (n : Nat) (hn : l.length ≤ n) : (stepsL level l).length ≤ n * (n + 1) := by
  have g : ∀ m : List Ed, (m.flatMap (stepOf level l)).length ≤ m.length * (n + 1) := by
    intro m
    induction m with
    | nil => simp
    | cons x r ih =>
      rw [List.flatMap_cons, List.length_append, List.length_cons, Nat.succ_mul]
      have := stepOf_len level l x
      omega
  have h1 := g l
  have h2 : l.length * (n + 1) ≤ n * (n + 1) := Nat.mul_le_mul_right _ hn
  unfold stepsL
  omega
theorem node_few (h : List Ev) : (nodeL h).length ≤ 301 := nd_len h 301
end Go.Proofs.Yteehpkkkagdckaa
