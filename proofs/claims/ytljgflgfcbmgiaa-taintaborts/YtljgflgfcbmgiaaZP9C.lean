/-
  What is wanted of package taint, as one word.
-/
import Derived.Test.YtljgflgfcbmgiaaGE
namespace Go.Proofs.Ytljgflgfcbmgiaa
set_option maxRecDepth 100000
open Go.RowKit
set_option linter.unusedVariables false
def okI (t : Int) : Prop := -9223372036854775808 ≤ t ∧ t ≤ 9223372036854775807
def firstP (h : List Ev) : Bd × Bool := match badsL h with
  | [] => ((0, 0, 0), false)
  | b :: _ => (b, true)
structure P9C : Prop where
  at_ : ∀ (h : List Ev) (v : Value) (w : World) (i : Int), IsEvs w v h → (∀ x ∈ h, goodE x) → h.length ≤ 300 → okI i → Calls Try.prog 15 #[v, .int .i64 i] w fun e w' => e = .returned (badA (atI h i)) ∧ Below w.heap.size w w'
  all : ∀ (h : List Ev) (v : Value) (w : World), IsEvs w v h → (∀ x ∈ h, goodE x) → h.length ≤ 300 → Calls Try.prog 13 #[v] w fun e w' => BdRow 29 w (badsL h) e w'
  first : ∀ (h : List Ev) (v : Value) (w : World), IsEvs w v h → (∀ x ∈ h, goodE x) → h.length ≤ 300 → Calls Try.prog 14 #[v] w fun e w' => e = .returned (.tuple #[badA (firstP h).1, .bool (firstP h).2]) ∧ Below w.heap.size w w'
  outer : ∀ (h : List Ev) (v : Value) (w : World) (i : Int), IsEvs w v h → (∀ x ∈ h, goodE x) → h.length ≤ 300 → okI i → Calls Try.prog 17 #[v, .int .i64 i] w fun e w' => e = .returned (.bool (outerI h i)) ∧ Below w.heap.size w w'
end Go.Proofs.Ytljgflgfcbmgiaa
