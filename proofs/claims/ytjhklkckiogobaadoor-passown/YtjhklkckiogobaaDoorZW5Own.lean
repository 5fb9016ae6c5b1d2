/-
  The walk of PassOwn.
-/
import Derived.Test.YtjhklkckiogobaaDoorZShown5
namespace Go.Proofs.YtjhklkckiogobaaDoor
set_option maxRecDepth 100000
open Go.RowKit
set_option linter.unusedVariables false
attribute [local go_sem] ba_size
set_option maxHeartbeats 4000000 in
theorem own5_walk (w : World) (k : List UInt8) (lk : k.length ≤ 140737488351232) (o : List UInt8) (lo : o.length ≤ 140737488351232) (t : List UInt8) (lt : t.length ≤ 140737488351232) (u : Nat) (hu : u < 18446744073709551616) (hG : G w) :
    Calls Tryd.prog 8 #[.agg #[.string ⟨k.toArray⟩, .string ⟨o.toArray⟩, .string ⟨t.toArray⟩, .int .u64 (u : Int)]] w fun e w' => e = .returned (.bool true) ∧ Below w.heap.size w w' := by
  have hg3 := hG.size
  have HSh : Hid (∀ W, Below w.heap.size w W → Calls Tryd.prog 10 #[] W fun e w' => e = .returned (.bool true) ∧ Below W.heap.size W w') := fun W h => shown5_any W (hG.below h hg3)
  have al : ∀ o, Below w.heap.size w (w.alloc o) := fun o => (Below.refl _ w).alloc (Nat.le_refl _) o
  have HI : Hid (∀ W, Below w.heap.size w W → Calls Tryd.prog 11 #[.string ⟨k.toArray⟩, .string ⟨t.toArray⟩, .int .u64 (u : Int)] W fun e w' => e = .returned (.tuple #[.string ⟨(issueL keyL k t u).1.toArray⟩, .int .i64 ((issueL keyL k t u).2 : Int)]) ∧ Below W.heap.size W w') := fun W h => issue5_any k t u hu W (hG.below h hg3)
  have HJ : Hid (∀ W, Below w.heap.size w W → Calls Tryd.prog 11 #[.string ⟨o.toArray⟩, .string ⟨t.toArray⟩, .int .u64 (u : Int)] W fun e w' => e = .returned (.tuple #[.string ⟨(issueL keyL o t u).1.toArray⟩, .int .i64 ((issueL keyL o t u).2 : Int)]) ∧ Below W.heap.size W w') := fun W h => issue5_any o t u hu W (hG.below h hg3)
  by_cases hm : mayK k ∧ mayT t
  · obtain ⟨hk, ht⟩ := hm
    rw [issue_good k t u hk ht] at HI
    have z := issued_len k t u ht
    have HC : Hid (∀ W, Below w.heap.size w W → Calls Tryd.prog 16 #[.string ⟨o.toArray⟩, .string ⟨(saidL t u ++ sealL keyL k t u).toArray⟩, .int .u64 (0 : Int)] W fun e w' => e = .returned (.tuple #[.string ⟨(checkP keyL o (saidL t u ++ sealL keyL k t u) 0).1.toArray⟩, .int .i64 ((checkP keyL o (saidL t u ++ sealL keyL k t u) 0).2 : Int)]) ∧ Below W.heap.size W w') := fun W h => check5_any o (saidL t u ++ sealL keyL k t u) (by have := issued_len k t u ht; omega) 0 W (hG.below h hg3)
    by_cases ho : mayK o
    · rw [issue_good o t u ho ht] at HJ
      rw [check_other keyL keyL_32 k o t u hk ho ht hu] at HC
      obtain ⟨q, hq⟩ : ∃ q, sealL keyL k t u = q := ⟨_, rfl⟩
      obtain ⟨p, hp⟩ : ∃ p, sealL keyL o t u = p := ⟨_, rfl⟩
      rw [hq] at HI HC z
      rw [hp] at HJ HC
      by_cases hqp : q = p
      · rw [if_pos hqp] at HC
        subst hqp
        obtain ⟨s, hs⟩ : ∃ s, saidL t u ++ q = s := ⟨_, rfl⟩
        rw [hs] at HI HJ HC z
        simp only at HI HJ HC
        clear hs hq hp hk ht ho
        have e1 : (s == s) = true := beq_self_eq_true s
        go_enter Tryd.func8, Tryd.ntmps8
        go_wp2_with fail
        refine (HSh.out _ (al _)).mono ?_
        rintro e w1 ⟨rfl, b1⟩
        have B1 := bel_trans (al _) b1
        go_wp2_with fail
        refine (HI.out w1 B1).mono ?_
        rintro e w2 ⟨rfl, b2⟩
        have B2 := bel_trans B1 b2
        go_wp2_with fail
        refine (HJ.out w2 B2).mono ?_
        rintro e w3 ⟨rfl, b3⟩
        have B3 := bel_trans B2 b3
        go_wp2_with fail
        refine (HC.out w3 B3).mono ?_
        rintro e w4 ⟨rfl, b4⟩
        have B4 := bel_trans B3 b4
        go_wp2_with fail
        go_ret
        exact ⟨rfl, B4⟩
      · rw [if_neg hqp] at HC
        have e0 : ¬ saidL t u ++ q = saidL t u ++ p := fun h => hqp (List.append_cancel_left h)
        obtain ⟨s, hs⟩ : ∃ s, saidL t u ++ q = s := ⟨_, rfl⟩
        obtain ⟨r, hr⟩ : ∃ r, saidL t u ++ p = r := ⟨_, rfl⟩
        rw [hs] at HI HC z e0
        rw [hr] at HJ e0
        simp only at HI HJ HC
        have e1 : (s == r) = false := by rw [beq_eq_false_iff_ne]; exact e0
        clear hs hr hq hp hk ht ho hqp e0
        go_enter Tryd.func8, Tryd.ntmps8
        go_wp2_with fail
        refine (HSh.out _ (al _)).mono ?_
        rintro e w1 ⟨rfl, b1⟩
        have B1 := bel_trans (al _) b1
        go_wp2_with fail
        refine (HI.out w1 B1).mono ?_
        rintro e w2 ⟨rfl, b2⟩
        have B2 := bel_trans B1 b2
        go_wp2_with fail
        refine (HJ.out w2 B2).mono ?_
        rintro e w3 ⟨rfl, b3⟩
        have B3 := bel_trans B2 b3
        go_wp2_with fail
        refine (HC.out w3 B3).mono ?_
        rintro e w4 ⟨rfl, b4⟩
        have B4 := bel_trans B3 b4
        go_wp2_with fail
        go_ret
        exact ⟨rfl, B4⟩
    · rw [issue_bad o t u (fun h => ho h.1)] at HJ
      obtain ⟨⟨r1, r2⟩, hr⟩ : ∃ r, checkP keyL o (saidL t u ++ sealL keyL k t u) 0 = r := ⟨_, rfl⟩
      rw [hr] at HC
      clear hr
      obtain ⟨s, hs⟩ : ∃ s, saidL t u ++ sealL keyL k t u = s := ⟨_, rfl⟩
      rw [hs] at HI HC z
      simp only at HI HJ HC
      clear hs hk ht ho
      go_enter Tryd.func8, Tryd.ntmps8
      go_wp2_with fail
      refine (HSh.out _ (al _)).mono ?_
      rintro e w1 ⟨rfl, b1⟩
      have B1 := bel_trans (al _) b1
      go_wp2_with fail
      refine (HI.out w1 B1).mono ?_
      rintro e w2 ⟨rfl, b2⟩
      have B2 := bel_trans B1 b2
      go_wp2_with fail
      refine (HJ.out w2 B2).mono ?_
      rintro e w3 ⟨rfl, b3⟩
      have B3 := bel_trans B2 b3
      go_wp2_with fail
      refine (HC.out w3 B3).mono ?_
      rintro e w4 ⟨rfl, b4⟩
      have B4 := bel_trans B3 b4
      go_wp2_with fail
      go_ret
      exact ⟨rfl, B4⟩
  · rw [issue_bad k t u hm] at HI
    have HC : Hid (∀ W, Below w.heap.size w W → Calls Tryd.prog 16 #[.string ⟨o.toArray⟩, .string ⟨[].toArray⟩, .int .u64 (0 : Int)] W fun e w' => e = .returned (.tuple #[.string ⟨(checkP keyL o ([]) 0).1.toArray⟩, .int .i64 ((checkP keyL o ([]) 0).2 : Int)]) ∧ Below W.heap.size W w') := fun W h => check5_any o ([]) (by simp) 0 W (hG.below h hg3)
    rw [show checkP keyL o [] 0 = ([], 3) by unfold checkP; rw [takeP_nil]] at HC
    obtain ⟨⟨r1, r2⟩, hr⟩ : ∃ r, issueL keyL o t u = r := ⟨_, rfl⟩
    rw [hr] at HJ
    clear hr hm
    simp only at HI HJ HC
    go_enter Tryd.func8, Tryd.ntmps8
    go_wp2_with fail
    refine (HSh.out _ (al _)).mono ?_
    rintro e w1 ⟨rfl, b1⟩
    have B1 := bel_trans (al _) b1
    go_wp2_with fail
    refine (HI.out w1 B1).mono ?_
    rintro e w2 ⟨rfl, b2⟩
    have B2 := bel_trans B1 b2
    go_wp2_with fail
    refine (HJ.out w2 B2).mono ?_
    rintro e w3 ⟨rfl, b3⟩
    have B3 := bel_trans B2 b3
    go_wp2_with fail
    refine (HC.out w3 B3).mono ?_
    rintro e w4 ⟨rfl, b4⟩
    have B4 := bel_trans B3 b4
    go_wp2_with fail
    go_ret
    exact ⟨rfl, B4⟩
end Go.Proofs.YtjhklkckiogobaaDoor
