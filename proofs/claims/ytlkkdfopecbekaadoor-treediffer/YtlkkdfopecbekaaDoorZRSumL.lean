/-
  What cartoucheref02.Sum answers, as the sum of lists; what is given away is bounded.
-/
import Derived.Test.YtlkkdfopecbekaaDoorGF
import Derived.Test.YtlkkdfopecbekaaDoorZP2Fold
import Derived.Test.YtlkkdfopecbekaaDoorGA
namespace Go.Proofs.YtlkkdfopecbekaaDoor
set_option maxRecDepth 100000
open Go.RowKit
set_option linter.unusedVariables false
theorem rsG_any (S : List UInt8) (hS : S.length ≤ 9223372036854775000) (w : World) :
    Calls Tryd.prog 31 #[.string ⟨S.toArray⟩] w fun e w' => e = .returned (.string ⟨(sumL S).toArray⟩) ∧ Below w.heap.size w w' := rsum_any S hS w
section
variable (sm : List UInt8 → List UInt8)
theorem unL_mem (a b x y : List UInt8) (h : unL sm a b = some (x, y)) : x = a ∧ y = b := by
  unfold unL at h
  by_cases hc : a ≠ b ∧ sm a = sm b
  · rw [if_pos hc] at h; cases h; exact ⟨rfl, rfl⟩
  · rw [if_neg hc] at h; cases h
theorem getD_bound (x : List (List UInt8)) (B k : Nat) (h : ∀ t ∈ x, t.length ≤ B) : (x.getD k []).length ≤ B := by
  rw [List.getD_eq_getElem?_getD]
  cases hx : x[k]? with
  | none => simp
  | some t => rw [Option.getD_some]; exact h t (List.mem_of_getElem? hx)
theorem backL_bound (a b : List (List UInt8)) (B : Nat) (ha : ∀ t ∈ a, t.length ≤ B) (hb : ∀ t ∈ b, t.length ≤ B) (x y : List UInt8) : ∀ k, backL sm a b k = some (x, y) → x.length ≤ B ∧ y.length ≤ B
  | 0, h => by cases h
  | k + 1, h => by
    rw [backL] at h
    by_cases hc : a.getD k [] ≠ b.getD k []
    · rw [if_pos hc] at h
      obtain ⟨rfl, rfl⟩ := unL_mem sm _ _ _ _ h
      exact ⟨getD_bound a B k ha, getD_bound b B k hb⟩
    · rw [if_neg hc] at h; exact backL_bound a b B ha hb x y k h
end
end Go.Proofs.YtlkkdfopecbekaaDoor
