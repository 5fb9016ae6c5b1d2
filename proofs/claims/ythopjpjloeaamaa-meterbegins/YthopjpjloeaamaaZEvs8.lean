/-
  What a slice of events reads as, at whatever later world: of no program.
-/
import Derived.Test.YthopjpjloeaamaaZEvs
import Derived.Test.YthopjpjloeaamaaZHistL
import Derived.Test.YthopjpjloeaamaaZBoxes
namespace Go.Proofs.Ythopjpjloeaamaa
set_option maxRecDepth 100000
open Go.RowKit
set_option linter.unusedVariables false
theorem IsEvs.reads {w : World} {v : Value} {h : List Ev} (hT : IsEvs w v h) : ∃ a cap, v = .slice a h.length cap ∧ h.length ≤ cap ∧ cap ≤ 9223372036854775807 ∧ h.length ≤ 140737488351232 ∧
    Hid (0 < h.length → ∃ b off, a = some ⟨b, off, none⟩ ∧ Hid (∀ j, j < h.length → ∀ V, Below w.heap.size w V → V.cell? ⟨b, off + j * 4, none⟩ = some (.int .i64 (ev h j).1) ∧ V.cell? ⟨b, off + j * 4 + 1, none⟩ = some (.int .i64 (ev h j).2.1) ∧ V.cell? ⟨b, off + j * 4 + 2, none⟩ = some (.string ⟨(ev h j).2.2.1.toArray⟩) ∧ V.cell? ⟨b, off + j * 4 + 3, none⟩ = some (.string ⟨(ev h j).2.2.2.toArray⟩))) := by
  obtain ⟨a, cap, rfl, h1, h2, h3, HC⟩ := hT.some_at
  refine ⟨a, cap, rfl, h1, h2, h3, ?_⟩
  intro h0
  obtain ⟨b, off, rfl, hlt, _⟩ := HC.out 0 h0
  refine ⟨b, off, rfl, ?_⟩
  intro j hj V hV
  obtain ⟨b', off', hbo, _, hc⟩ := HC.out j hj
  obtain ⟨rfl, rfl⟩ : b = b' ∧ off = off' := by simpa using hbo
  obtain ⟨s0, s1, s2, s3⟩ := IsEvs.at hj hc
  rw [ev_get h j hj]
  exact ⟨(hV.cell (p := ⟨b, off + j * 4, none⟩) hlt).trans s0, (hV.cell (p := ⟨b, off + j * 4 + 1, none⟩) hlt).trans s1, (hV.cell (p := ⟨b, off + j * 4 + 2, none⟩) hlt).trans s2, (hV.cell (p := ⟨b, off + j * 4 + 3, none⟩) hlt).trans s3⟩
/-- One more place of which nothing is so. -/
theorem upto_next (p : Nat → Bool) (q : Nat) (h : ∀ j, j < q → p j = false) (hq : p q = false) : ∀ j, j < q + 1 → p j = false := fun j hj => by
  rcases Nat.lt_or_ge j q with h' | h'
  · exact h j h'
  · obtain rfl : j = q := by omega
    exact hq
end Go.Proofs.Ythopjpjloeaamaa
