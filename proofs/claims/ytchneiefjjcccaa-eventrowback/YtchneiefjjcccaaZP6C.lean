/-
  What is wanted of package event: each of its functions' answers, as one word (the walks lean on it; the code's own proofs give it).
-/
import Derived.Test.YtchneiefjjcccaaZEvent2
import Derived.Test.YtchneiefjjcccaaZR6Take
namespace Go.Proofs.Ytchneiefjjcccaa
set_option maxRecDepth 100000
open Go.RowKit
structure P6C : Prop where
  may : ∀ (k t : Int) (a b : List UInt8) (w : World), Calls Try.prog 15 #[evA (k, t, a, b)] w fun e w' => e = .returned (.bool (decide (mayE (k, t, a, b)))) ∧ Below w.heap.size w w'
  bytes : ∀ (k t : Int) (a b : List UInt8) (w : World), goodE (k, t, a, b) → Calls Try.prog 11 #[evA (k, t, a, b)] w fun e w' => e = .returned (.tuple #[.string ⟨(bytesE (k, t, a, b)).1.toArray⟩, .int .i64 ((bytesE (k, t, a, b)).2 : Int)]) ∧ Below w.heap.size w w'
  take : ∀ (s : List UInt8) (w : World), s.length ≤ 9223372036854770000 → Calls Try.prog 13 #[.string ⟨s.toArray⟩] w fun e w' => e = .returned (.tuple #[evA (takeER s).1, .int .i64 ((takeER s).2 : Int)]) ∧ Below w.heap.size w w'
  leaves : ∀ (h : List Ev) (v : Value) (w : World), IsEvs w v h → (∀ x ∈ h, goodE x) → Calls Try.prog 17 #[v] w fun e w' => TxRes w (leavesE h) e w'
  back : ∀ (l : List (List UInt8)) (v : Value) (w : World), IsTxt w v l → (∀ s ∈ l, s.length ≤ 140737488351232) → Calls Try.prog 19 #[v] w fun e w' => EvRes 23 w (backE l) e w'
  same : ∀ (v1 v2 : Value) (L M : List Ev) (w : World), IsEvs w v1 L → IsEvs w v2 M → Calls Try.prog 23 #[v1, v2] w fun e w' => e = .returned (.bool (decide (L = M))) ∧ Below w.heap.size w w'
end Go.Proofs.Ytchneiefjjcccaa
