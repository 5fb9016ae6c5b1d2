/-
  Cells of one block stored, one behind the other: of no program.
-/
import Derived.Test.YthopjpjloeaamaaZBoxes
import Derived.Test.YthopjpjloeaamaaGB
namespace Go.Proofs.Ythopjpjloeaamaa
set_option maxRecDepth 100000
open Go.RowKit
set_option linter.unusedVariables false
theorem grown_set14 (w : World) (b k : Nat) (u : Value) : w.grownBy (w.setCell ⟨b, k, none⟩ u) (some b) :=
  ⟨rfl, rfl, rfl, by simp [World.setCell], fun i hi hne => Below.heap_setCell w ⟨b, k, none⟩ u i (fun e => hne (by rw [e]))⟩
/-- Cells of one block stored, one behind the other. -/
def putL : World → Nat → Nat → List Value → World
  | W, _, _, [] => W
  | W, B, k, v :: l => putL (W.setCell ⟨B, k, none⟩ v) B (k + 1) l
theorem SBox.putL {B t : Nat} : ∀ (vs pre rest : List Value) (W : World), rest.length = vs.length → SBox W B t (pre ++ rest).toArray → SBox (putL W B pre.length vs) B t (pre ++ vs).toArray
  | [], pre, [], W, _, h => h
  | [], pre, x :: rest, W, hl, h => by simp at hl
  | v :: vs, pre, [], W, hl, h => by simp at hl
  | v :: vs, pre, x :: rest, W, hl, h => by
    have h1 := h.set pre.length v
    have e : ((pre ++ x :: rest).toArray).setIfInBounds pre.length v = ((pre ++ [v]) ++ rest).toArray := by
      apply Array.ext'
      simp
    rw [e] at h1
    have h2 := SBox.putL vs (pre ++ [v]) rest (W.setCell ⟨B, pre.length, none⟩ v) (by simpa using hl) h1
    rw [List.length_append, List.append_assoc] at h2
    exact h2
theorem grown_putL {w : World} {B pb : Nat} : ∀ (vs : List Value) (k : Nat) (W : World), w.grownBy W (some pb) → w.heap.size ≤ B → w.grownBy (putL W B k vs) (some pb)
  | [], k, W, h, _ => h
  | v :: vs, k, W, h, hB => grown_putL vs (k + 1) _ ⟨h.os, h.tape, h.output, by simpa [World.setCell] using h.size, fun i hi hne => (Below.heap_setCell W ⟨B, k, none⟩ v i (by show i ≠ B; omega)).trans (h.block i hi hne)⟩ hB
theorem kept_putL {B : Nat} : ∀ (vs : List Value) (k : Nat) (W : World), W.grownBy (putL W B k vs) (some B)
  | [], k, W => ⟨rfl, rfl, rfl, Nat.le_refl _, fun i hi hne => rfl⟩
  | v :: vs, k, W => (grown_set14 W B k v).trans (kept_putL vs (k + 1) _)
end Go.Proofs.Ythopjpjloeaamaa
