/-
  Histories without reads, cut: in lists.
-/
import Derived.Test.YtljgflgfcbmgiaaZHist8
namespace Go.Proofs.Ytljgflgfcbmgiaa
set_option maxRecDepth 100000
set_option linter.unusedVariables false
def noReads (h : List Ev) : List Ev := h.filter fun x => decide (x.1 ≠ 2)
theorem noReads_next (h : List Ev) (k : Nat) (hk : k < h.length) : noReads (h.take (k + 1)) = if h[k].1 = 2 then noReads (h.take k) else noReads (h.take k) ++ [h[k]] := by
  unfold noReads
  rw [List.take_succ_eq_append_getElem hk, List.filter_append]
  by_cases h2 : h[k].1 = 2
  · rw [if_pos h2]; simp [h2]
  · rw [if_neg h2]; simp [h2]
theorem noReads_cut (h : List Ev) (m : Nat) (hl : h.length ≤ 256) (hm : m ≤ (noReads h).length) : ((formedL (noReads h)).1 < m ∧ (formedL (noReads h)).2 ≠ 0 ∧ formedL ((noReads h).take m) = formedL (noReads h)) ∨ (¬ ((formedL (noReads h)).1 < m ∧ (formedL (noReads h)).2 ≠ 0) ∧ (formedL ((noReads h).take m)).1 = m ∧ ((formedL ((noReads h).take m)).2 = 0 ∨ (formedL ((noReads h).take m)).2 = 9)) := by
  have hr : ∀ i, i < (noReads h).length → (ev (noReads h) i).1 ≠ 2 := fun i hi => by
    rw [ev_get _ _ hi]
    exact of_decide_eq_true (List.mem_filter.1 (List.getElem_mem hi)).2
  have hle : (noReads h).length ≤ 256 := Nat.le_trans (List.length_filter_le _ _) hl
  have := formed_cut (noReads h) m hr hle hm
  by_cases hc : (formedL (noReads h)).1 < m ∧ (formedL (noReads h)).2 ≠ 0
  · exact .inl ⟨hc.1, hc.2, this.1 hc⟩
  · exact .inr ⟨hc, this.2 hc⟩
end Go.Proofs.Ytljgflgfcbmgiaa
