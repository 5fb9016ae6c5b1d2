/-
  Heads of what is left of bodies; sums have 32 bytes: of no program.
-/
import Derived.Test.YtgickejfcmnaiaaDoorZPSum
import Derived.Test.YtgickejfcmnaiaaDoorGA
namespace Go.Proofs.YtgickejfcmnaiaaDoor
set_option maxRecDepth 100000
set_option linter.unusedVariables false
theorem headF_drop (sm : List UInt8 → List UInt8) (p : List UInt8) (l : List (List UInt8)) (k : Nat) (h : k < l.length) : headF sm p (l.drop k) = if bigB p l[k] then none else headF sm (sm (cinL p l[k])) (l.drop (k + 1)) := by
  rw [List.drop_eq_getElem_cons h, headF]
def headR : Option (List UInt8) → List UInt8 × Nat
  | none => ([], 4)
  | some h => (h, 0)
theorem headL_R (sm : List UInt8 → List UInt8) (l : List (List UInt8)) : headL sm l = headR (headF sm [] l) := by unfold headL headR; rfl
theorem nextL_no (sm : List UInt8 → List UInt8) (p b : List UInt8) (h : bigB p b) : nextL sm p b = ([], 4) := by unfold nextL; rw [if_pos h]
theorem nextL_is (sm : List UInt8 → List UInt8) (p b : List UInt8) (h : ¬ bigB p b) : nextL sm p b = (sm (cinL p b), 0) := by unfold nextL; rw [if_neg h]
theorem sumL_32 (s : List UInt8) : (sumL s).length = 32 := fl_len _ _
end Go.Proofs.YtgickejfcmnaiaaDoor
