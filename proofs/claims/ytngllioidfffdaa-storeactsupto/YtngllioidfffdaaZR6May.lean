/-
  What cartoucheref06.May answers.
-/
import Derived.Test.YtngllioidfffdaaProg
import Derived.Test.YtngllioidfffdaaGD
namespace Go.Proofs.Ytngllioidfffdaa
set_option maxRecDepth 100000
open Go.RowKit
set_option linter.unusedVariables false
attribute [local go_sem] ba_size
theorem ne_empty' (l : List UInt8) (h : l ≠ []) : l.isEmpty = false := by cases l with
  | nil => exact absurd rfl h
  | cons _ _ => rfl
set_option maxHeartbeats 1000000 in
theorem rmay_any (k t : Int) (a b : List UInt8) (w : World) :
    Calls Try.prog 32 #[.agg #[.int .i64 k, .int .i64 t, .string ⟨a.toArray⟩, .string ⟨b.toArray⟩]] w fun e w' => e = .returned (.bool (decide (mayE (k, t, a, b)))) ∧ Below w.heap.size w w' := by
  have al : ∀ o, Below w.heap.size w (w.alloc o) := fun o => (Below.refl _ w).alloc (Nat.le_refl _) o
  by_cases c0 : k < 1
  · rw [decide_eq_false (show ¬ mayE _ from fun h => by have h := mayE_range h; omega)]
    go_enter Try.func32, Try.ntmps32
    go_wp2_with fail
    go_ret
    exact ⟨rfl, al _⟩
  · have c0' : ¬ k < 1 := c0
    by_cases c1 : 5 < k
    · rw [decide_eq_false (show ¬ mayE _ from fun h => by have h := mayE_range h; omega)]
      go_enter Try.func32, Try.ntmps32
      go_wp2_with fail
      go_ret
      exact ⟨rfl, al _⟩
    · have c1' : ¬ 5 < k := c1
      by_cases c2 : t < 1
      · rw [decide_eq_false (show ¬ mayE _ from fun h => by have h := mayE_range h; omega)]
        go_enter Try.func32, Try.ntmps32
        go_wp2_with fail
        go_ret
        exact ⟨rfl, al _⟩
      · have c2' : ¬ t < 1 := c2
        by_cases c3 : 32 < t
        · rw [decide_eq_false (show ¬ mayE _ from fun h => by have h := mayE_range h; omega)]
          go_enter Try.func32, Try.ntmps32
          go_wp2_with fail
          go_ret
          exact ⟨rfl, al _⟩
        · have c3' : ¬ 32 < t := c3
          by_cases u1 : k = 2 ∨ k = 3
          · have q1 : k = 2 ∨ k = 3 := u1
            by_cases d1 : a.length < 1
            · have j1 : (a.length : Int) < 1 := by omega
              rw [decide_eq_false (show ¬ mayE _ from fun h => by have h := (mayE_key u1).1 h; omega)]
              rcases u1 with rfl | rfl
              all_goals
                go_enter Try.func32, Try.ntmps32
                go_wp2_with fail
                go_ret
                exact ⟨rfl, al _⟩
            · have j1 : ¬ (a.length : Int) < 1 := by omega
              by_cases d2 : 32 < a.length
              · have j2 : (32 : Int) < (a.length : Int) := by omega
                rw [decide_eq_false (show ¬ mayE _ from fun h => by have h := (mayE_key u1).1 h; omega)]
                rcases u1 with rfl | rfl
                all_goals
                  go_enter Try.func32, Try.ntmps32
                  go_wp2_with fail
                  go_ret
                  exact ⟨rfl, al _⟩
              · have j2 : ¬ (32 : Int) < (a.length : Int) := by omega
                by_cases d3 : 32 < b.length
                · have j3 : (32 : Int) < (b.length : Int) := by omega
                  rw [decide_eq_false (show ¬ mayE _ from fun h => by have h := (mayE_key u1).1 h; omega)]
                  rcases u1 with rfl | rfl
                  all_goals
                    go_enter Try.func32, Try.ntmps32
                    go_wp2_with fail
                    go_ret
                    exact ⟨rfl, al _⟩
                · have j3 : ¬ (32 : Int) < (b.length : Int) := by omega
                  rcases u1 with rfl | rfl
                  · rw [decide_eq_true (show mayE _ from by rw [mayE_key q1]; omega)]
                    go_enter Try.func32, Try.ntmps32
                    go_wp2_with fail
                    go_ret
                    exact ⟨rfl, al _⟩
                  · by_cases d4 : 0 < b.length
                    · have j4 : (0 : Int) < (b.length : Int) := by omega
                      rw [decide_eq_true (show mayE _ from by rw [mayE_key q1]; omega)]
                      go_enter Try.func32, Try.ntmps32
                      go_wp2_with fail
                      go_ret
                      exact ⟨rfl, al _⟩
                    · have j4 : ¬ (0 : Int) < (b.length : Int) := by omega
                      rw [decide_eq_false (show ¬ mayE _ from fun h => by have h := (mayE_key q1).1 h; omega)]
                      go_enter Try.func32, Try.ntmps32
                      go_wp2_with fail
                      go_ret
                      exact ⟨rfl, al _⟩
          · have q1 : (k != 2) = true := by rw [bne_iff_ne]; omega
            have q2 : (k != 3) = true := by rw [bne_iff_ne]; omega
            by_cases d1 : a = []
            · by_cases d2 : b = []
              · rw [decide_eq_true (show mayE _ from by rw [mayE_unkey u1]; exact ⟨by omega, d1, d2⟩)]
                subst d1 d2
                go_enter Try.func32, Try.ntmps32
                go_wp2_with fail
                go_ret
                exact ⟨rfl, al _⟩
              · rw [decide_eq_false (show ¬ mayE _ from fun h => by exact d2 ((mayE_unkey u1).1 h).2.2)]
                have n2 := ne_empty' b d2
                subst d1
                go_enter Try.func32, Try.ntmps32
                go_wp2_with fail
                go_ret
                exact ⟨rfl, al _⟩
            · rw [decide_eq_false (show ¬ mayE _ from fun h => by exact d1 ((mayE_unkey u1).1 h).2.1)]
              have n1 := ne_empty' a d1
              go_enter Try.func32, Try.ntmps32
              go_wp2_with fail
              go_ret
              exact ⟨rfl, al _⟩
end Go.Proofs.Ytngllioidfffdaa
