/-
  What pass.Check answers.
-/
import Derived.Test.YtjhklkckiogobaaDoorZP5Take
import Derived.Test.YtjhklkckiogobaaDoorZP5Equal
namespace Go.Proofs.YtjhklkckiogobaaDoor
set_option maxRecDepth 100000
open Go.RowKit
set_option linter.unusedVariables false
attribute [local go_sem] ba_size ba_append
set_option maxHeartbeats 2000000 in
theorem check5_any (k s : List UInt8) (hs : s.length ≤ 140737488355328) (now : Nat) (w : World) (hG : G w) :
    Calls Tryd.prog 16 #[.string ⟨k.toArray⟩, .string ⟨s.toArray⟩, .int .u64 (now : Int)] w fun e w' => e = .returned (.tuple #[.string ⟨(checkP keyL k s now).1.toArray⟩, .int .i64 ((checkP keyL k s now).2 : Int)]) ∧ Below w.heap.size w w' := by
  have hg3 := hG.size
  have A := take5_any s (by omega) w
  unfold takeV takeR at A
  unfold checkP
  rcases hP : takeP s with _ | ⟨t, u, v⟩
  · rw [hP] at A
    simp only at A ⊢
    clear hP
    go_enter Tryd.func16, Tryd.ntmps16
    go_wp2_with fail
    refine A.mono ?_
    rintro e w1 ⟨rfl, hb1⟩
    go_wp2_with fail
    go_ret2
    exact ⟨rfl, hb1⟩
  · obtain ⟨ht, hu, hv⟩ := takeP_bd s t v u hP
    rw [hP] at A
    simp only at A ⊢
    clear hP
    have S := fun w1 => saying_any t (by have := ht.2; omega) u hu w1
    have z := saidL_len t u
    have K := fun w1 h => sealOf_any k (saidL t u) (by have := ht.2; omega) w1 (hG.below h hg3)
    have hS : sealL keyL k t u = keyL k (4 :: saidL t u) := rfl
    have l32 := keyL_32 k (4 :: saidL t u)
    rw [hS]
    clear hS
    by_cases hk : mayK k
    · rw [show keyP k (4 :: saidL t u) = (keyL k (4 :: saidL t u), 0) by unfold keyP; rw [if_pos hk]] at K
      obtain ⟨q, hq⟩ : ∃ q, keyL k (4 :: saidL t u) = q := ⟨_, rfl⟩
      rw [hq] at K l32 ⊢
      clear hq
      obtain ⟨x, hx⟩ : ∃ x, saidL t u = x := ⟨_, rfl⟩
      rw [hx] at S K z
      clear hx
      have k4 : 1 + x.length ≤ 9223372036854775807 := by have := ht.2; omega
      have E := fun w1 => equal5_any q v (by omega) (by omega) w1
      clear z ht
      by_cases hqv : v = q
      · subst hqv
        rw [if_neg (by intro h; rcases h with h | h; exact h hk; exact h rfl)]
        rw [beq_self_eq_true] at E
        clear hk
        by_cases hl : u < now
        · rw [if_pos hl]
          have j : (u : Int) < (now : Int) := by omega
          go_enter Tryd.func16, Tryd.ntmps16
          go_wp2_with fail
          refine A.mono ?_
          rintro e w1 ⟨rfl, hb1⟩
          go_wp2_with fail
          refine (S w1).mono ?_
          rintro e w2 ⟨rfl, hb2⟩
          have B2 := bel_trans hb1 hb2
          go_wp2_with fail
          refine (K w2 B2).mono ?_
          rintro e w3 ⟨rfl, hb3⟩
          have B3 := bel_trans B2 hb3
          go_wp2_with fail
          refine (E w3).mono ?_
          rintro e w4 ⟨rfl, hb4⟩
          have B4 := bel_trans B3 hb4
          go_wp2_with fail
          go_ret2
          exact ⟨rfl, B4⟩
        · rw [if_neg hl]
          have j : ¬ (u : Int) < (now : Int) := by omega
          go_enter Tryd.func16, Tryd.ntmps16
          go_wp2_with fail
          refine A.mono ?_
          rintro e w1 ⟨rfl, hb1⟩
          go_wp2_with fail
          refine (S w1).mono ?_
          rintro e w2 ⟨rfl, hb2⟩
          have B2 := bel_trans hb1 hb2
          go_wp2_with fail
          refine (K w2 B2).mono ?_
          rintro e w3 ⟨rfl, hb3⟩
          have B3 := bel_trans B2 hb3
          go_wp2_with fail
          refine (E w3).mono ?_
          rintro e w4 ⟨rfl, hb4⟩
          have B4 := bel_trans B3 hb4
          go_wp2_with fail
          go_ret2
          exact ⟨rfl, B4⟩
      · rw [if_pos (Or.inr hqv)]
        rw [show (q == v) = false by rw [beq_eq_false_iff_ne]; exact fun h => hqv h.symm] at E
        clear hk hqv
        go_enter Tryd.func16, Tryd.ntmps16
        go_wp2_with fail
        refine A.mono ?_
        rintro e w1 ⟨rfl, hb1⟩
        go_wp2_with fail
        refine (S w1).mono ?_
        rintro e w2 ⟨rfl, hb2⟩
        have B2 := bel_trans hb1 hb2
        go_wp2_with fail
        refine (K w2 B2).mono ?_
        rintro e w3 ⟨rfl, hb3⟩
        have B3 := bel_trans B2 hb3
        go_wp2_with fail
        refine (E w3).mono ?_
        rintro e w4 ⟨rfl, hb4⟩
        have B4 := bel_trans B3 hb4
        go_wp2_with fail
        go_ret2
        exact ⟨rfl, B4⟩
    · rw [show keyP k (4 :: saidL t u) = ([], 1) by unfold keyP; rw [if_neg hk]] at K
      rw [if_pos (Or.inl hk)]
      obtain ⟨x, hx⟩ : ∃ x, saidL t u = x := ⟨_, rfl⟩
      rw [hx] at S K z
      clear hx
      have k4 : 1 + x.length ≤ 9223372036854775807 := by have := ht.2; omega
      clear z ht hk l32
      go_enter Tryd.func16, Tryd.ntmps16
      go_wp2_with fail
      refine A.mono ?_
      rintro e w1 ⟨rfl, hb1⟩
      go_wp2_with fail
      refine (S w1).mono ?_
      rintro e w2 ⟨rfl, hb2⟩
      have B2 := bel_trans hb1 hb2
      go_wp2_with fail
      refine (K w2 B2).mono ?_
      rintro e w3 ⟨rfl, hb3⟩
      have B3 := bel_trans B2 hb3
      go_wp2_with fail
      go_ret2
      exact ⟨rfl, B3⟩
end Go.Proofs.YtjhklkckiogobaaDoor
