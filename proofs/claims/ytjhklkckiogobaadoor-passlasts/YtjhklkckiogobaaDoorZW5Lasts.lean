/-
  The walk of PassLasts.
-/
import Derived.Test.YtjhklkckiogobaaDoorZShown5
namespace Go.Proofs.YtjhklkckiogobaaDoor
set_option maxRecDepth 100000
open Go.RowKit
set_option linter.unusedVariables false
attribute [local go_sem] ba_size
set_option maxHeartbeats 4000000 in
theorem lasts5_walk (w : World) (k : List UInt8) (lk : k.length ≤ 140737488351232) (t : List UInt8) (lt : t.length ≤ 140737488351232) (u : Nat) (hu : u < 18446744073709551616) (n : Nat) (hn : n < 18446744073709551616) (hG : G w) :
    Calls Tryd.prog 5 #[.agg #[.string ⟨k.toArray⟩, .string ⟨t.toArray⟩, .int .u64 (u : Int), .int .u64 (n : Int)]] w fun e w' => e = .returned (.bool true) ∧ Below w.heap.size w w' := by
  have hg3 := hG.size
  have HSh : Hid (∀ W, Below w.heap.size w W → Calls Tryd.prog 10 #[] W fun e w' => e = .returned (.bool true) ∧ Below W.heap.size W w') := fun W h => shown5_any W (hG.below h hg3)
  have al : ∀ o, Below w.heap.size w (w.alloc o) := fun o => (Below.refl _ w).alloc (Nat.le_refl _) o
  have HI : Hid (∀ W, Below w.heap.size w W → Calls Tryd.prog 11 #[.string ⟨k.toArray⟩, .string ⟨t.toArray⟩, .int .u64 (u : Int)] W fun e w' => e = .returned (.tuple #[.string ⟨(issueL keyL k t u).1.toArray⟩, .int .i64 ((issueL keyL k t u).2 : Int)]) ∧ Below W.heap.size W w') := fun W h => issue5_any k t u hu W (hG.below h hg3)
  by_cases hm : mayK k ∧ mayT t
  · obtain ⟨hk, ht⟩ := hm
    rw [issue_good k t u hk ht] at HI
    have z := issued_len k t u ht
    have HC : Hid (∀ W, Below w.heap.size w W → Calls Tryd.prog 16 #[.string ⟨k.toArray⟩, .string ⟨(saidL t u ++ sealL keyL k t u).toArray⟩, .int .u64 (n : Int)] W fun e w' => e = .returned (.tuple #[.string ⟨(checkP keyL k (saidL t u ++ sealL keyL k t u) n).1.toArray⟩, .int .i64 ((checkP keyL k (saidL t u ++ sealL keyL k t u) n).2 : Int)]) ∧ Below W.heap.size W w') := fun W h => check5_any k (saidL t u ++ sealL keyL k t u) (by have := issued_len k t u ht; omega) n W (hG.below h hg3)
    rw [check_issued keyL keyL_32 k t u n hk ht hu] at HC
    obtain ⟨s, hs⟩ : ∃ s, saidL t u ++ sealL keyL k t u = s := ⟨_, rfl⟩
    rw [hs] at HI HC z
    simp only at HI HC
    clear hs hk ht
    have e1 : (t == t) = true := beq_self_eq_true t
    by_cases hn : u < n
    · have j : (u : Int) < (n : Int) := by omega
      rw [if_pos hn] at HC
      go_enter Tryd.func5, Tryd.ntmps5
      go_wp2_with fail
      refine (HSh.out _ (al _)).mono ?_
      rintro e w1 ⟨rfl, b1⟩
      have B1 := bel_trans (al _) b1
      go_wp2_with fail
      refine (HI.out w1 B1).mono ?_
      rintro e w2 ⟨rfl, b2⟩
      have B2 := bel_trans B1 b2
      go_wp2_with fail
      refine (HC.out w2 B2).mono ?_
      rintro e w3 ⟨rfl, b3⟩
      have B3 := bel_trans B2 b3
      go_wp2_with fail
      go_ret
      exact ⟨rfl, B3⟩
    · have j : ¬ (u : Int) < (n : Int) := by omega
      rw [if_neg hn] at HC
      go_enter Tryd.func5, Tryd.ntmps5
      go_wp2_with fail
      refine (HSh.out _ (al _)).mono ?_
      rintro e w1 ⟨rfl, b1⟩
      have B1 := bel_trans (al _) b1
      go_wp2_with fail
      refine (HI.out w1 B1).mono ?_
      rintro e w2 ⟨rfl, b2⟩
      have B2 := bel_trans B1 b2
      go_wp2_with fail
      refine (HC.out w2 B2).mono ?_
      rintro e w3 ⟨rfl, b3⟩
      have B3 := bel_trans B2 b3
      go_wp2_with fail
      go_ret
      exact ⟨rfl, B3⟩
  · rw [issue_bad k t u hm] at HI
    by_cases c0 : k.length < 1
    · have j0 : (k.length : Int) < 1 := by omega
      go_enter Tryd.func5, Tryd.ntmps5
      go_wp2_with fail
      refine (HSh.out _ (al _)).mono ?_
      rintro e w1 ⟨rfl, b1⟩
      have B1 := bel_trans (al _) b1
      go_wp2_with fail
      refine (HI.out w1 B1).mono ?_
      rintro e w2 ⟨rfl, b2⟩
      have B2 := bel_trans B1 b2
      go_wp2_with fail
      go_ret
      exact ⟨rfl, B2⟩
    · have j0 : ¬ (k.length : Int) < 1 := by omega
      by_cases c1 : 32 < k.length
      · have j1 : (32 : Int) < (k.length : Int) := by omega
        go_enter Tryd.func5, Tryd.ntmps5
        go_wp2_with fail
        refine (HSh.out _ (al _)).mono ?_
        rintro e w1 ⟨rfl, b1⟩
        have B1 := bel_trans (al _) b1
        go_wp2_with fail
        refine (HI.out w1 B1).mono ?_
        rintro e w2 ⟨rfl, b2⟩
        have B2 := bel_trans B1 b2
        go_wp2_with fail
        go_ret
        exact ⟨rfl, B2⟩
      · have j1 : ¬ (32 : Int) < (k.length : Int) := by omega
        by_cases c2 : t.length < 1
        · have j2 : (t.length : Int) < 1 := by omega
          go_enter Tryd.func5, Tryd.ntmps5
          go_wp2_with fail
          refine (HSh.out _ (al _)).mono ?_
          rintro e w1 ⟨rfl, b1⟩
          have B1 := bel_trans (al _) b1
          go_wp2_with fail
          refine (HI.out w1 B1).mono ?_
          rintro e w2 ⟨rfl, b2⟩
          have B2 := bel_trans B1 b2
          go_wp2_with fail
          go_ret
          exact ⟨rfl, B2⟩
        · have j2 : ¬ (t.length : Int) < 1 := by omega
          have j3 : (16 : Int) < (t.length : Int) := by unfold mayK mayT at hm; omega
          go_enter Tryd.func5, Tryd.ntmps5
          go_wp2_with fail
          refine (HSh.out _ (al _)).mono ?_
          rintro e w1 ⟨rfl, b1⟩
          have B1 := bel_trans (al _) b1
          go_wp2_with fail
          refine (HI.out w1 B1).mono ?_
          rintro e w2 ⟨rfl, b2⟩
          have B2 := bel_trans B1 b2
          go_wp2_with fail
          go_ret
          exact ⟨rfl, B2⟩
end Go.Proofs.YtjhklkckiogobaaDoor
