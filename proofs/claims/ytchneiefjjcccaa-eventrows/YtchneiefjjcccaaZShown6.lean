/-
  What cartouchelaw06.shown answers.
-/
import Derived.Test.YtchneiefjjcccaaZP6C
import Derived.Test.YtchneiefjjcccaaZBoxes
namespace Go.Proofs.Ytchneiefjjcccaa
set_option maxRecDepth 100000
open Go.RowKit
set_option linter.unusedVariables false
attribute [local go_sem] ba_size ba_append ba_get ba_extract
theorem bytes_b : bytesE (1, 3, [], []) = ([1, 3], 0) := by decide
theorem bytes_w : bytesE (3, 3, [97], [98]) = ([3, 3, 1, 97, 1, 98], 0) := by decide
set_option maxHeartbeats 1000000 in
theorem shown6_any (C : P6C) (w : World) : Calls Try.prog 10 #[] w fun e w' => e = .returned (.bool true) ∧ Below w.heap.size w w' := by
  have A1 := fun W => C.bytes 1 3 [] [] W (by unfold goodE; simp)
  have A2 := fun W => C.bytes 3 3 [97] [98] W (by unfold goodE; simp)
  rw [bytes_b] at A1
  rw [bytes_w] at A2
  have H1 : Hid (∀ W, Below w.heap.size w W → Calls Try.prog 11 #[.agg #[.int .i64 1, .int .i64 3, .string ⟨#[]⟩, .string ⟨#[]⟩]] W fun e w' => e = .returned (.tuple #[.string ⟨#[1, 3]⟩, .int .i64 0]) ∧ Below W.heap.size W w') := fun W _ => A1 W
  have H2 : Hid (∀ W, Below w.heap.size w W → Calls Try.prog 11 #[.agg #[.int .i64 3, .int .i64 3, .string ⟨#[97]⟩, .string ⟨#[98]⟩]] W fun e w' => e = .returned (.tuple #[.string ⟨#[3, 3, 1, 97, 1, 98]⟩, .int .i64 0]) ∧ Below W.heap.size W w') := fun W _ => A2 W
  clear A1 A2
  go_enter Try.func10, Try.ntmps10
  go_wp2_with fail
  refine (H1.out _ (Below.refl w.heap.size w)).mono ?_
  rintro e w1 ⟨rfl, b1⟩
  have B1 := bel_trans (Below.refl w.heap.size w) b1
  go_wp2_with fail
  refine (H2.out _ B1).mono ?_
  rintro e w2 ⟨rfl, b2⟩
  have B2 := bel_trans B1 b2
  go_wp2_with fail
  go_ret
  exact ⟨rfl, B2⟩
end Go.Proofs.Ytchneiefjjcccaa
