/-
  Links of bodies that have a head: none is too great; rows read backwards: of no program.
-/
import Derived.Test.YtgickejfcmnaiaaDoorGK
import Derived.Test.YtgickejfcmnaiaaDoorZChainN
namespace Go.Proofs.YtgickejfcmnaiaaDoor
set_option maxRecDepth 100000
set_option linter.unusedVariables false
theorem links_small (sm : List UInt8 → List UInt8) (h32 : ∀ s, (sm s).length = 32) : ∀ (l : List (List UInt8)) (p : List UInt8), p.length ≤ 32 → headF sm p l ≠ none → ∀ x ∈ linksF sm p l, ¬ bigB x.1 x.2 ∧ x.1.length ≤ 32
  | [], p, hp, h, x, hx => by cases hx
  | b :: l, p, hp, h, x, hx => by
    rw [headF] at h
    by_cases hb : bigB p b
    · rw [if_pos hb] at h; exact absurd rfl h
    · rw [if_neg hb] at h
      rw [linksF] at hx
      rcases List.mem_cons.1 hx with rfl | hx
      · exact ⟨hb, hp⟩
      · exact links_small sm h32 l _ (by rw [h32]; omega) h x hx
theorem insC_len (l : List (List UInt8 × List UInt8)) : (insC l).length = l.length := by unfold insC; simp
theorem insC_get (l : List (List UInt8 × List UInt8)) (k : Nat) (h : k < l.length) : (insC l)[k]'(by rw [insC_len]; exact h) = cinL l[k].1 l[k].2 := by unfold insC; simp
theorem insC_rev (l : List (List UInt8 × List UInt8)) (k : Nat) (h : k < l.length) : (insC l).reverse.drop k = cinL (l[l.length - 1 - k]'(by omega)).1 (l[l.length - 1 - k]'(by omega)).2 :: (insC l).reverse.drop (k + 1) := by
  rw [List.drop_eq_getElem_cons (by rw [List.length_reverse, insC_len]; exact h), List.getElem_reverse]
  congr 1
  have e : (insC l).length - 1 - k = l.length - 1 - k := by rw [insC_len]
  rw [← insC_get]
  congr 1
end Go.Proofs.YtgickejfcmnaiaaDoor
