/-
  Where nothing is wrong: in lists.
-/
import Derived.Test.YteehpkkkagdckaaZBads9
import Derived.Test.YteehpkkkagdckaaGE
namespace Go.Proofs.Yteehpkkkagdckaa
set_option maxRecDepth 100000
set_option linter.unusedVariables false
theorem bads_none (h : List Ev) : badsL (noReads h) = [] := by
  rw [bads_nil]
  intro i hi
  have hk : (ev (noReads h) i).1 ≠ 2 := by
    rw [ev_get _ _ hi]
    have := (List.mem_filter.1 (List.getElem_mem hi)).2
    simpa using this
  unfold atL
  rw [if_pos (count_kind _ _ hk)]
theorem at_still (h : List Ev) (j : Nat) : outerB h j = true → (ev h j).2.2.2 = [] → atL h j = (0, 0, 0) := fun h1 h2 => by
  unfold outerB at h1
  rw [Bool.and_eq_true] at h1
  exact at_empty h j (of_decide_eq_true h1.2) h2
theorem outerI_nat (h : List Ev) (k : Nat) : outerI h (k : Int) = outerB h k := by
  unfold outerI
  rw [Int.toNat_natCast, decide_eq_true (by omega)]
  rfl
end Go.Proofs.Yteehpkkkagdckaa
