/-
  What cartouchelaw05.shown answers; what is issued, in lists.
-/
import Derived.Test.YtjhklkckiogobaaDoorZP5Check
namespace Go.Proofs.YtjhklkckiogobaaDoor
set_option maxRecDepth 100000
open Go.RowKit
set_option linter.unusedVariables false
attribute [local go_sem] ba_size
theorem issue_good (k t : List UInt8) (u : Nat) (hk : mayK k) (ht : mayT t) : issueL keyL k t u = (saidL t u ++ sealL keyL k t u, 0) := by unfold issueL; rw [if_pos ⟨hk, ht⟩]
theorem issue_bad (k t : List UInt8) (u : Nat) (h : ¬ (mayK k ∧ mayT t)) : issueL keyL k t u = ([], 1) := by unfold issueL; rw [if_neg h]
theorem seal_32 (k t : List UInt8) (u : Nat) : (sealL keyL k t u).length = 32 := keyL_32 _ _
theorem issued_len (k t : List UInt8) (u : Nat) (ht : mayT t) : (saidL t u ++ sealL keyL k t u).length ≤ 60 ∧ 35 ≤ (saidL t u ++ sealL keyL k t u).length := by
  have h1 := saidL_len t u
  have h2 := seal_32 k t u
  have h3 := ht.1
  have h4 := ht.2
  rw [List.length_append]
  omega
theorem take_issued (k t : List UInt8) (u : Nat) (ht : mayT t) (hu : u < 18446744073709551616) : takeR (saidL t u ++ sealL keyL k t u) = (t, u, sealL keyL k t u, 0) := by
  unfold takeR
  rw [takeP_said t ht u hu, if_pos (seal_32 k t u)]
set_option maxHeartbeats 1000000 in
theorem shown5_any (w : World) (hG : G w) : Calls Tryd.prog 10 #[] w fun e w' => e = .returned (.bool true) ∧ Below w.heap.size w w' := by
  have hg3 := hG.size
  have hk : mayK [107] := by decide
  have ht : mayT [97] := by decide
  have A1 := fun W h => issue5_any [107] [97] 5 (by omega) W (hG.below (w' := W) h hg3)
  rw [issue_good _ _ _ hk ht] at A1
  have z := issued_len [107] [97] 5 ht
  have A2 := fun W h => check5_any [107] (saidL [97] 5 ++ sealL keyL [107] [97] 5) (by omega) 5 W (hG.below (w' := W) h hg3)
  have A3 := fun W h => check5_any [107] (saidL [97] 5 ++ sealL keyL [107] [97] 5) (by omega) 6 W (hG.below (w' := W) h hg3)
  rw [check_issued keyL keyL_32 [107] [97] 5 5 hk ht (by omega), if_neg (by omega)] at A2
  rw [check_issued keyL keyL_32 [107] [97] 5 6 hk ht (by omega), if_pos (by omega)] at A3
  obtain ⟨s, hs⟩ : ∃ s, saidL [97] 5 ++ sealL keyL [107] [97] 5 = s := ⟨_, rfl⟩
  rw [hs] at A1 A2 A3
  clear hs z hk ht
  have H1 : Hid (∀ W, Below w.heap.size w W → Calls Tryd.prog 11 #[.string ⟨#[107]⟩, .string ⟨#[97]⟩, .int .u64 5] W fun e w' => e = .returned (.tuple #[.string ⟨s.toArray⟩, .int .i64 0]) ∧ Below W.heap.size W w') := A1
  have H2 : Hid (∀ W, Below w.heap.size w W → Calls Tryd.prog 16 #[.string ⟨#[107]⟩, .string ⟨s.toArray⟩, .int .u64 5] W fun e w' => e = .returned (.tuple #[.string ⟨#[97]⟩, .int .i64 0]) ∧ Below W.heap.size W w') := A2
  have H3 : Hid (∀ W, Below w.heap.size w W → Calls Tryd.prog 16 #[.string ⟨#[107]⟩, .string ⟨s.toArray⟩, .int .u64 6] W fun e w' => e = .returned (.tuple #[.string ⟨#[]⟩, .int .i64 11]) ∧ Below W.heap.size W w') := A3
  clear A1 A2 A3
  go_enter Tryd.func10, Tryd.ntmps10
  go_wp2_with fail
  refine (H1.out w (Below.refl _ _)).mono ?_
  rintro e w1 ⟨rfl, b1⟩
  have B1 := bel_trans (Below.refl _ _) b1
  go_wp2_with fail
  refine (H2.out w1 B1).mono ?_
  rintro e w2 ⟨rfl, b2⟩
  have B2 := bel_trans B1 b2
  go_wp2_with fail
  refine (H3.out w2 B2).mono ?_
  rintro e w3 ⟨rfl, b3⟩
  have B3 := bel_trans B2 b3
  go_wp2_with fail
  go_ret
  exact ⟨rfl, B3⟩
end Go.Proofs.YtjhklkckiogobaaDoor
