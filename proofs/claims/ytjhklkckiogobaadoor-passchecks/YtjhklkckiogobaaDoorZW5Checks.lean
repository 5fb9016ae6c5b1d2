/-
  The walk of PassChecks.
-/
import Derived.Test.YtjhklkckiogobaaDoorZShown5
import Derived.Test.YtjhklkckiogobaaDoorZR5Check
namespace Go.Proofs.YtjhklkckiogobaaDoor
set_option maxRecDepth 100000
open Go.RowKit
set_option linter.unusedVariables false
attribute [local go_sem] ba_size
set_option maxHeartbeats 4000000 in
theorem checks5_walk (w : World) (k : List UInt8) (lk : k.length ≤ 140737488351232) (s : List UInt8) (ls : s.length ≤ 140737488351232) (n : Nat) (hn : n < 18446744073709551616) (hG : G w) :
    Calls Tryd.prog 4 #[.string ⟨k.toArray⟩, .string ⟨s.toArray⟩, .int .u64 (n : Int)] w fun e w' => e = .returned (.bool true) ∧ Below w.heap.size w w' := by
  have hg3 := hG.size
  have HSh : Hid (∀ W, Below w.heap.size w W → Calls Tryd.prog 10 #[] W fun e w' => e = .returned (.bool true) ∧ Below W.heap.size W w') := fun W h => shown5_any W (hG.below h hg3)
  have HC : Hid (∀ W, Below w.heap.size w W → Calls Tryd.prog 16 #[.string ⟨k.toArray⟩, .string ⟨s.toArray⟩, .int .u64 (n : Int)] W fun e w' => e = .returned (.tuple #[.string ⟨(checkP keyL k (s) n).1.toArray⟩, .int .i64 ((checkP keyL k (s) n).2 : Int)]) ∧ Below W.heap.size W w') := fun W h => check5_any k (s) (by omega) n W (hG.below h hg3)
  have RC : Hid (∀ W, Below w.heap.size w W → Calls Tryd.prog 17 #[.string ⟨k.toArray⟩, .string ⟨s.toArray⟩, .int .u64 (n : Int)] W fun e w' => e = .returned (.tuple #[.string ⟨(checkP keyL k (s) n).1.toArray⟩, .int .i64 ((checkP keyL k (s) n).2 : Int)]) ∧ Below W.heap.size W w') := fun W h => rcheck5_any k (s) (by omega) n W
  obtain ⟨⟨r1, r2⟩, hr⟩ : ∃ r, checkP keyL k s n = r := ⟨_, rfl⟩
  rw [hr] at HC RC
  simp only at HC RC
  clear hr
  have e1 : (r1 == r1) = true := beq_self_eq_true r1
  go_enter Tryd.func4, Tryd.ntmps4
  go_wp2_with fail
  refine (HSh.out w (Below.refl _ _)).mono ?_
  rintro e w1 ⟨rfl, b1⟩
  have B1 := bel_trans (Below.refl _ _) b1
  go_wp2_with fail
  refine (HC.out w1 B1).mono ?_
  rintro e w2 ⟨rfl, b2⟩
  have B2 := bel_trans B1 b2
  go_wp2_with fail
  refine (RC.out w2 B2).mono ?_
  rintro e w3 ⟨rfl, b3⟩
  have B3 := bel_trans B2 b3
  go_wp2_with fail
  go_ret
  exact ⟨rfl, B3⟩
end Go.Proofs.YtjhklkckiogobaaDoor
