/-
  A slice of texts in a cell, opened.
-/
import Derived.Test.YtpplplemjccdjaaOpen
namespace Go.Proofs.Ytpplplemjccdjaa
open Go.ChangeShapes Go.WideShapes Go.ChangeAt Go.RowKit
theorem strs_cell {H : Type} {enc : TypeId × Value → H} {W : World} {m : Nat} {c : Value} {y : DataW H × List MemPlace}
    (h : DataW.trod enc Try.prog W 0 (fun _ => true) true m 41 [c] = some y) (hw : (DataW.weights Try.prog 41 y.1).all (· ≤ reachBytes) = true) : ∃ a n cap ss, c = .slice a n cap ∧ IsStrs W a n ss := by
  have hc : ∃ a n cap, c = .slice a n cap := by
    rcases open_strings Try.underlying41 Try.underlying9 (by kernel_rfl) h with ⟨hcs, _⟩ | ⟨x, l, cc, ss, hcs, _⟩
    · simp at hcs; exact ⟨_, _, _, hcs⟩
    · simp at hcs; exact ⟨_, _, _, hcs⟩
  obtain ⟨a, n, cap, rfl⟩ := hc
  obtain ⟨ss, hss⟩ := strs_of (enc := enc) (W := W) (a := a) (len := n) (cap := cap) (d := y.1) (p := y.2) ⟨m, by simpa [Value.cells] using h⟩ hw
  exact ⟨a, n, cap, ss, rfl, hss⟩
end Go.Proofs.Ytpplplemjccdjaa
