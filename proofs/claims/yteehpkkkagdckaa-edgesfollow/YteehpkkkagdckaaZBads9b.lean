/-
  All that are wrong, counted up to a place: in lists.
-/
import Derived.Test.YteehpkkkagdckaaZBads9
import Derived.Test.YteehpkkkagdckaaGR
namespace Go.Proofs.Yteehpkkkagdckaa
set_option maxRecDepth 100000
set_option linter.unusedVariables false
def badCount (h : List Ev) (k : Nat) : Nat := ((List.range k).filterMap (badAt h)).length
theorem bads_is (h : List Ev) : badsL h = (List.range h.length).filterMap (badAt h) := rfl
theorem bad_all (h : List Ev) : badCount h h.length = (badsL h).length := rfl
theorem bads_pre (h : List Ev) : ∀ m k, k ≤ m → ∃ r, (List.range m).filterMap (badAt h) = (List.range k).filterMap (badAt h) ++ r
  | 0, k, hk => ⟨[], by obtain rfl : k = 0 := by omega
                        simp⟩
  | m + 1, k, hk => by
    rcases Nat.lt_or_ge k (m + 1) with h1 | h1
    · obtain ⟨r, hr⟩ := bads_pre h m k (by omega)
      exact ⟨r ++ (badAt h m).toList, by rw [bads_next, hr, List.append_assoc]⟩
    · obtain rfl : k = m + 1 := by omega
      exact ⟨[], by simp⟩
theorem bad_step (h : List Ev) (k : Nat) (hk : k < h.length) : ((atL h k).1 = 0 ∧ badCount h (k + 1) = badCount h k) ∨ ((atL h k).1 ≠ 0 ∧ badCount h (k + 1) = badCount h k + 1 ∧ (badsL h)[badCount h k]? = some (atL h k)) := by
  by_cases h0 : (atL h k).1 = 0
  · left
    refine ⟨h0, ?_⟩
    unfold badCount
    rw [bads_next, show badAt h k = none by unfold badAt; rw [if_pos h0]]
    simp
  · right
    have hb : badAt h k = some (atL h k) := by unfold badAt; rw [if_neg h0]
    refine ⟨h0, ?_, ?_⟩
    · unfold badCount
      rw [bads_next, hb, List.length_append]
      rfl
    · obtain ⟨r, hr⟩ := bads_pre h h.length (k + 1) (by omega)
      rw [bads_is, hr, bads_next, hb]
      unfold badCount
      simp
end Go.Proofs.Yteehpkkkagdckaa
