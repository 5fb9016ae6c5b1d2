/-
  What is wanted of package redact, but for Shape, as one word.
-/
import Derived.Test.YtihggfkenhkglaaDoorZP7S
import Derived.Test.YtihggfkenhkglaaDoorZR7Twins
namespace Go.Proofs.YtihggfkenhkglaaDoor
set_option maxRecDepth 100000
open Go.RowKit
structure P7C : Prop where
  keytag : ∀ (s k : List UInt8) (w : World), G w → s.length ≤ 140737488351232 → k.length ≤ 140737488351232 → Calls Tryd.prog 11 #[.string ⟨s.toArray⟩, .string ⟨k.toArray⟩] w fun e w' => e = .returned (.tuple #[.string ⟨(keyTagP s k).1.toArray⟩, .int .i64 ((keyTagP s k).2 : Int)]) ∧ Below w.heap.size w w'
  valtag : ∀ (s v : List UInt8) (w : World), G w → s.length ≤ 140737488351232 → v.length ≤ 140737488351232 → Calls Tryd.prog 13 #[.string ⟨s.toArray⟩, .string ⟨v.toArray⟩] w fun e w' => e = .returned (.tuple #[.string ⟨(valTagP s v).1.toArray⟩, .int .i64 ((valTagP s v).2 : Int)]) ∧ Below w.heap.size w w'
  one : ∀ (s : List UInt8) (k t : Int) (a b : List UInt8) (w : World), G w → s.length ≤ 140737488351232 → goodE (k, t, a, b) → Calls Tryd.prog 15 #[.string ⟨s.toArray⟩, evW (k, t, a, b)] w fun e w' => e = .returned (.tuple #[evW (oneP s (k, t, a, b)).1, .int .i64 ((oneP s (k, t, a, b)).2 : Int)]) ∧ Below w.heap.size w w'
  all : ∀ (s : List UInt8) (h : List Ev) (v : Value) (w : World), G w → s.length ≤ 140737488351232 → IsEvs w v h → (∀ x ∈ h, goodE x) → Calls Tryd.prog 18 #[.string ⟨s.toArray⟩, v] w fun e w' => EvRes 23 w (allP s h) e w'
  twins : ∀ (s : List UInt8) (h : List Ev) (v : Value) (w : World), G w → s.length ≤ 140737488351232 → IsEvs w v h → h.length ≤ 256 → (∀ x ∈ h, goodE x) → Calls Tryd.prog 23 #[.string ⟨s.toArray⟩, v] w fun e w' => e = .returned (twV (twinsP s h)) ∧ Below w.heap.size w w'
end Go.Proofs.YtihggfkenhkglaaDoor
