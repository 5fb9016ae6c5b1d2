/-
  Edges of a history are of numbers that an int may be; what holds, of a clean one: in lists.
-/
import Derived.Test.YteehpkkkagdckaaZEdges10
import Derived.Test.YteehpkkkagdckaaGA
namespace Go.Proofs.Yteehpkkkagdckaa
set_option maxRecDepth 100000
set_option linter.unusedVariables false
theorem edges_kind (h : List Ev) (e : Ed) (he : e ∈ edgesL h) : e.1 = 1 ∨ e.1 = 2 ∨ e.1 = 3 := by
  obtain ⟨key, ⟨n, _, rfl⟩ | ⟨i, _, _, _, ⟨n, _, _, rfl⟩ | ⟨n, _, _, _, rfl⟩⟩⟩ := edge_cases h e he
  · exact .inl rfl
  · exact .inr (.inl rfl)
  · exact .inr (.inr rfl)
theorem edges_good (h : List Ev) (hn : h.length ≤ 300) (hG : ∀ x ∈ h, goodE x) (e : Ed) (he : e ∈ edgesL h) : goodEd e := by
  obtain ⟨a, b, i, j, h1, h2, h3, h4, h5, h6, h7, h8, h9, h10⟩ := edges_apart h e he
  have g1 := (hG _ (List.getElem_mem h6)).2.1
  have g2 := (hG _ (List.getElem_mem h7)).2.1
  rw [← ev_get h i h6] at g1
  rw [← ev_get h j h7] at g2
  unfold tx at h9 h10
  have hk := edges_kind h e he
  unfold goodEd okN
  rw [h9] at g1
  rw [h10] at g2
  refine ⟨by omega, g1, g2, by omega, by omega⟩
theorem edges_few99 (h : List Ev) (hf : fewH h) (e : Ed) (he : e ∈ edgesL h) : (0 ≤ e.2.1 ∧ e.2.1 ≤ 99) ∧ (0 ≤ e.2.2.1 ∧ e.2.2.1 ≤ 99) := by
  obtain ⟨a, b, i, j, h1, h2, h3, h4, h5, h6, h7, h8, h9, h10⟩ := edges_apart h e he
  have g1 := hf.1 _ (List.getElem_mem h6)
  have g2 := hf.1 _ (List.getElem_mem h7)
  rw [← ev_get h i h6] at g1
  rw [← ev_get h j h7] at g2
  unfold tx at h9 h10
  rw [h9] at g1
  rw [h10] at g2
  exact ⟨g1, g2⟩
end Go.Proofs.Yteehpkkkagdckaa
