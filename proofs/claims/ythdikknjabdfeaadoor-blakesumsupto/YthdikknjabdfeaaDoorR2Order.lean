/-
  What cartoucheref02.order and cartoucheref02.figure answer.
-/
import Derived.Test.YthdikknjabdfeaaDoorProg
import Derived.Test.YthdikknjabdfeaaDoorWords
namespace Go.Proofs.YthdikknjabdfeaaDoor
open Go.RowKit
set_option maxHeartbeats 1000000 in
theorem order_any (r : Nat) (hr : r < 10) (w : World) : Calls Tryd.prog 28 #[.int .i64 r] w fun e w' => e = .returned (.string ⟨(ordL r).toArray⟩) ∧ Below w.heap.size w w' := by
  have hc : r = 0 ∨ r = 1 ∨ r = 2 ∨ r = 3 ∨ r = 4 ∨ r = 5 ∨ r = 6 ∨ r = 7 ∨ r = 8 ∨ r = 9 := by omega
  rcases hc with rfl | rfl | rfl | rfl | rfl | rfl | rfl | rfl | rfl | rfl
  all_goals
    go_enter Tryd.func28, Tryd.ntmps28
    go_wp2
    go_ret
    exact ⟨ret_str (by decide), (Below.refl _ _).alloc (Nat.le_refl _) _⟩
set_option maxHeartbeats 400000 in
theorem figure_any (n : Nat) (hn : n < 16) (w : World) : Calls Tryd.prog 29 #[.int .u8 ((fig n).toNat : Int)] w fun e w' => e = .returned (.int .i64 n) ∧ w' = w := by
  by_cases h : n < 10
  · have e : ((fig n).toNat : Int) = 48 + n := by unfold fig; rw [if_pos h]; simp; omega
    rw [e]
    go_enter Tryd.func29, Tryd.ntmps29
    go_wp2
    go_ret
    exact ⟨ret_int (by omega), rfl⟩
  · have e : ((fig n).toNat : Int) = 87 + n := by unfold fig; rw [if_neg h]; simp; omega
    rw [e]
    go_enter Tryd.func29, Tryd.ntmps29
    go_wp2
    go_ret
    exact ⟨ret_int (by omega), rfl⟩
end Go.Proofs.YthdikknjabdfeaaDoor
