/-
  What two rows give away is bounded: of no program.
-/
import Derived.Test.YtgickejfcmnaiaaDoorZChainO
namespace Go.Proofs.YtgickejfcmnaiaaDoor
set_option maxRecDepth 100000
set_option linter.unusedVariables false
theorem ins_bound (l : List (List UInt8)) (h : headF sumL [] l ≠ none) : ∀ t ∈ insC (linksF sumL [] l), t.length ≤ 1000000 := by
  intro t ht
  unfold insC at ht
  obtain ⟨x, hx, rfl⟩ := List.mem_map.1 ht
  have := links_small sumL sumL_32 l [] (by simp) h x hx
  have z := (cinL_len x.1 x.2).2
  unfold bigB at this
  omega
theorem chDif_bound (a b : List (List UInt8)) (x y : List UInt8) (h : chDifL sumL a b = some (x, y)) : x.length ≤ 1000000 ∧ y.length ≤ 1000000 := by
  unfold chDifL at h
  by_cases hc : headF sumL [] a = none ∨ headF sumL [] b = none
  · rw [if_pos hc] at h; cases h
  · rw [if_neg hc] at h
    have hm := fuR_in sumL _ _ x y h
    rw [List.mem_reverse, List.mem_reverse] at hm
    exact ⟨ins_bound a (fun e => hc (.inl e)) x hm.1, ins_bound b (fun e => hc (.inr e)) y hm.2⟩
end Go.Proofs.YtgickejfcmnaiaaDoor
