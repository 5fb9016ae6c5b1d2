/-
  The walk of PassBack.
-/
import Derived.Test.YtjhklkckiogobaaDoorZShown5
namespace Go.Proofs.YtjhklkckiogobaaDoor
set_option maxRecDepth 100000
open Go.RowKit
set_option linter.unusedVariables false
attribute [local go_sem] ba_size
set_option maxHeartbeats 4000000 in
theorem back5_walk (w : World) (k : List UInt8) (lk : k.length ≤ 140737488351232) (t : List UInt8) (lt : t.length ≤ 140737488351232) (u : Nat) (hu : u < 18446744073709551616) (hG : G w) :
    Calls Tryd.prog 7 #[.string ⟨k.toArray⟩, .string ⟨t.toArray⟩, .int .u64 (u : Int)] w fun e w' => e = .returned (.bool true) ∧ Below w.heap.size w w' := by
  have hg3 := hG.size
  have HSh : Hid (∀ W, Below w.heap.size w W → Calls Tryd.prog 10 #[] W fun e w' => e = .returned (.bool true) ∧ Below W.heap.size W w') := fun W h => shown5_any W (hG.below h hg3)
  have HI : Hid (∀ W, Below w.heap.size w W → Calls Tryd.prog 11 #[.string ⟨k.toArray⟩, .string ⟨t.toArray⟩, .int .u64 (u : Int)] W fun e w' => e = .returned (.tuple #[.string ⟨(issueL keyL k t u).1.toArray⟩, .int .i64 ((issueL keyL k t u).2 : Int)]) ∧ Below W.heap.size W w') := fun W h => issue5_any k t u hu W (hG.below h hg3)
  by_cases hm : mayK k ∧ mayT t
  · obtain ⟨hk, ht⟩ := hm
    rw [issue_good k t u hk ht] at HI
    have z := issued_len k t u ht
    have HT : Hid (∀ W, Below w.heap.size w W → Calls Tryd.prog 13 #[.string ⟨(saidL t u ++ sealL keyL k t u).toArray⟩] W fun e w' => e = .returned (takeV (takeR (saidL t u ++ sealL keyL k t u))) ∧ Below W.heap.size W w') := fun W h => take5_any (saidL t u ++ sealL keyL k t u) (by have := issued_len k t u ht; omega) W
    rw [take_issued k t u ht hu] at HT
    unfold takeV at HT
    have q32 := seal_32 k t u
    obtain ⟨q, hq⟩ : ∃ q, sealL keyL k t u = q := ⟨_, rfl⟩
    rw [hq] at HI HT q32 z
    obtain ⟨s, hs⟩ : ∃ s, saidL t u ++ q = s := ⟨_, rfl⟩
    rw [hs] at HI HT z
    simp only at HI HT
    clear hs hq hk ht
    have e1 : (t == t) = true := beq_self_eq_true t
    have e2 : ((q.length : Int) == 32) = true := by rw [q32]; rfl
    have e3 : (q.length : Int) = 32 := by omega
    go_enter Tryd.func7, Tryd.ntmps7
    go_wp2_with fail
    refine (HSh.out w (Below.refl _ _)).mono ?_
    rintro e w1 ⟨rfl, b1⟩
    have B1 := bel_trans (Below.refl _ _) b1
    go_wp2_with fail
    refine (HI.out w1 B1).mono ?_
    rintro e w2 ⟨rfl, b2⟩
    have B2 := bel_trans B1 b2
    go_wp2_with fail
    refine (HT.out w2 B2).mono ?_
    rintro e w3 ⟨rfl, b3⟩
    have B3 := bel_trans B2 b3
    go_wp2_with fail
    go_ret
    exact ⟨rfl, B3⟩
  · rw [issue_bad k t u hm] at HI
    clear hm
    go_enter Tryd.func7, Tryd.ntmps7
    go_wp2_with fail
    refine (HSh.out w (Below.refl _ _)).mono ?_
    rintro e w1 ⟨rfl, b1⟩
    have B1 := bel_trans (Below.refl _ _) b1
    go_wp2_with fail
    refine (HI.out w1 B1).mono ?_
    rintro e w2 ⟨rfl, b2⟩
    have B2 := bel_trans B1 b2
    go_wp2_with fail
    go_ret
    exact ⟨rfl, B2⟩
end Go.Proofs.YtjhklkckiogobaaDoor
