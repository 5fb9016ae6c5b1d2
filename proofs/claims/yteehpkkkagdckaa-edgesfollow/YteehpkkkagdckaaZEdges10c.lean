/-
  What holds in a history of few transactions is of few; a hundred flags in a block of their own.
-/
import Derived.Test.YteehpkkkagdckaaZEdges10
import Derived.Test.YteehpkkkagdckaaGC
namespace Go.Proofs.Yteehpkkkagdckaa
set_option maxRecDepth 100000
open Go.RowKit
set_option linter.unusedVariables false
theorem holds_99 (h : List Ev) (hf : fewH h) (e : Ed) (he : holdsL h e) : (0 ≤ e.2.1 ∧ e.2.1 ≤ 99) ∧ (0 ≤ e.2.2.1 ∧ e.2.2.1 ≤ 99) := by
  obtain ⟨a, b, i, j, _, _, _, _, _, h6, h7, _, h9, h10, _⟩ := he
  have g1 := hf.1 _ (List.getElem_mem h6)
  have g2 := hf.1 _ (List.getElem_mem h7)
  rw [← ev_get h i h6] at g1
  rw [← ev_get h j h7] at g2
  unfold tx at h9 h10
  rw [h9] at g1
  rw [h10] at g2
  exact ⟨g1, g2⟩
theorem zero100 (w : World) : (zeroValue 42).run Try.prog w = .ok (.agg ((List.replicate 100 false).map Value.bool).toArray) w := by kernel_rfl
def BA (W : World) (g : Nat) (A : List Bool) : Prop := SBox W g 42 (A.map Value.bool).toArray
theorem BA.new (w : World) : BA (w.alloc (.cells ((List.replicate 100 false).map Value.bool).toArray 42)) w.heap.size (List.replicate 100 false) := SBox.new w _ _
theorem BA.cell {W : World} {g : Nat} {A : List Bool} (h : BA W g A) (j : Nat) (b : Bool) (hb : A[j]? = some b) : W.cell? ⟨g, j, none⟩ = some (.bool b) := SBox.cell h j _ (by simp [hb])
theorem BA.frozen {W : World} {g : Nat} {A : List Bool} (h : BA W g A) (j : Nat) : W.frozen? ⟨g, j, none⟩ = false := SBox.frozen h j
theorem BA.set {W : World} {g : Nat} {A : List Bool} (h : BA W g A) (j : Nat) : BA (W.setCell ⟨g, j, none⟩ (.bool true)) g (A.set j true) := by
  have := SBox.set h j (.bool true)
  unfold BA
  rw [List.map_set]
  simpa using this
end Go.Proofs.Yteehpkkkagdckaa
