/-
  What cartoucheref02.Keyed answers, of whatever key.
-/
import Derived.Test.YtjhklkckiogobaaDoorZPass2
import Derived.Test.YtjhklkckiogobaaDoorZR2Keyed
namespace Go.Proofs.YtjhklkckiogobaaDoor
set_option maxRecDepth 100000
open Go.RowKit
set_option linter.unusedVariables false
attribute [local go_sem] ba_size ba_append
theorem rkeyed_any (k s : List UInt8) (hs : s.length ≤ 9223372036854774000) (w : World) :
    Calls Tryd.prog 22 #[.string ⟨k.toArray⟩, .string ⟨s.toArray⟩] w fun e w' => e = .returned (.tuple #[.string ⟨(keyP k s).1.toArray⟩, .int .i64 ((keyP k s).2 : Int)]) ∧ Below w.heap.size w w' := by
  unfold keyP
  by_cases h : mayK k
  · rw [if_pos h]; exact rkeyed_good k s h.1 h.2 hs w
  · rw [if_neg h]
    by_cases h1 : 32 < k.length
    · exact rkeyed_long k s h1 w
    · have h0 : k.length = 0 := by unfold mayK at h; omega
      obtain rfl := List.length_eq_zero_iff.1 h0
      exact rkeyed_none s w
end Go.Proofs.YtjhklkckiogobaaDoor
