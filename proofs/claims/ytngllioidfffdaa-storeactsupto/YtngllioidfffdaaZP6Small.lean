/-
  What event.within, texts and May answer.
-/
import Derived.Test.YtngllioidfffdaaZR6May
namespace Go.Proofs.Ytngllioidfffdaa
set_option maxRecDepth 100000
open Go.RowKit
set_option linter.unusedVariables false
attribute [local go_sem] ba_size
theorem pwithin_any (t : List UInt8) (lo hi : Int) (w : World) :
    Calls Try.prog 71 #[.string ⟨t.toArray⟩, .int .i64 lo, .int .i64 hi] w fun e w' => e = .returned (.bool (decide (lo ≤ (t.length : Int) ∧ (t.length : Int) ≤ hi))) ∧ Below w.heap.size w w' := by
  by_cases c1 : lo ≤ (t.length : Int)
  · have d1 : ¬ (t.length : Int) < lo := by omega
    by_cases c2 : (t.length : Int) ≤ hi
    · rw [decide_eq_true (show _ ∧ _ from ⟨c1, c2⟩)]
      go_enter Try.func71, Try.ntmps71
      go_wp2_with fail
      go_ret
      exact ⟨rfl, Below.refl _ _⟩
    · rw [decide_eq_false (show ¬ (_ ∧ _) from fun h => c2 h.2)]
      go_enter Try.func71, Try.ntmps71
      go_wp2_with fail
      go_ret
      exact ⟨rfl, Below.refl _ _⟩
  · have d1 : (t.length : Int) < lo := by omega
    rw [decide_eq_false (show ¬ (_ ∧ _) from fun h => c1 h.1)]
    go_enter Try.func71, Try.ntmps71
    go_wp2_with fail
    go_ret
    exact ⟨rfl, Below.refl _ _⟩
theorem ptexts2 (w : World) : Calls Try.prog 55 #[.int .i64 2] w fun e w' => e = .returned (.tuple #[.bool true, .int .i64 0]) ∧ Below w.heap.size w w' := by
  go_enter Try.func55, Try.ntmps55
  go_wp2_with fail
  go_ret2
  exact ⟨rfl, Below.refl _ _⟩
theorem ptexts3 (w : World) : Calls Try.prog 55 #[.int .i64 3] w fun e w' => e = .returned (.tuple #[.bool true, .int .i64 1]) ∧ Below w.heap.size w w' := by
  go_enter Try.func55, Try.ntmps55
  go_wp2_with fail
  go_ret2
  exact ⟨rfl, Below.refl _ _⟩
theorem ptextsN (k : Int) (h : ¬ (k = 2 ∨ k = 3)) (w : World) : Calls Try.prog 55 #[.int .i64 k] w fun e w' => e = .returned (.tuple #[.bool false, .int .i64 0]) ∧ Below w.heap.size w w' := by
  have q1 : (k == 2) = false := by rw [beq_eq_false_iff_ne]; exact fun h' => h (Or.inl h')
  have q2 : (k == 3) = false := by rw [beq_eq_false_iff_ne]; exact fun h' => h (Or.inr h')
  clear h
  go_enter Try.func55, Try.ntmps55
  go_wp2_with fail
  go_ret2
  exact ⟨rfl, Below.refl _ _⟩
theorem ptexts_key (k : Int) (h : k = 2 ∨ k = 3) (w : World) : Calls Try.prog 55 #[.int .i64 k] w fun e w' => e = .returned (.tuple #[.bool true, .int .i64 (if k = 2 then 0 else 1)]) ∧ Below w.heap.size w w' := by
  rcases h with rfl | rfl
  · exact ptexts2 w
  · exact ptexts3 w
set_option maxHeartbeats 1000000 in
theorem pmay_any (k t : Int) (a b : List UInt8) (w : World) :
    Calls Try.prog 52 #[.agg #[.int .i64 k, .int .i64 t, .string ⟨a.toArray⟩, .string ⟨b.toArray⟩]] w fun e w' => e = .returned (.bool (decide (mayE (k, t, a, b)))) ∧ Below w.heap.size w w' := by
  have al : ∀ o, Below w.heap.size w (w.alloc o) := fun o => (Below.refl _ w).alloc (Nat.le_refl _) o
  by_cases c0 : k < 1
  · rw [decide_eq_false (show ¬ mayE _ from fun h => by have h := mayE_range h; omega)]
    go_enter Try.func52, Try.ntmps52
    go_wp2_with fail
    go_ret
    exact ⟨rfl, al _⟩
  · have c0' : ¬ k < 1 := c0
    by_cases c1 : 5 < k
    · rw [decide_eq_false (show ¬ mayE _ from fun h => by have h := mayE_range h; omega)]
      go_enter Try.func52, Try.ntmps52
      go_wp2_with fail
      go_ret
      exact ⟨rfl, al _⟩
    · have c1' : ¬ 5 < k := c1
      by_cases c2 : t < 1
      · rw [decide_eq_false (show ¬ mayE _ from fun h => by have h := mayE_range h; omega)]
        go_enter Try.func52, Try.ntmps52
        go_wp2_with fail
        go_ret
        exact ⟨rfl, al _⟩
      · have c2' : ¬ t < 1 := c2
        by_cases c3 : 32 < t
        · rw [decide_eq_false (show ¬ mayE _ from fun h => by have h := mayE_range h; omega)]
          go_enter Try.func52, Try.ntmps52
          go_wp2_with fail
          go_ret
          exact ⟨rfl, al _⟩
        · have c3' : ¬ 32 < t := c3
          by_cases u1 : k = 2 ∨ k = 3
          · have T := fun W => ptexts_key k u1 W
            obtain ⟨m, hm⟩ : ∃ m : Int, (if k = 2 then 0 else 1 : Int) = m := ⟨_, rfl⟩
            rw [hm] at T
            have HM : Hid (decide (mayE (k, t, a, b)) = decide (((1 : Int) ≤ (a.length : Int) ∧ (a.length : Int) ≤ 32) ∧ (m ≤ (b.length : Int) ∧ (b.length : Int) ≤ 32))) := by
              show _ = _
              rw [decide_eq_decide, mayE_key u1]
              rcases u1 with rfl | rfl
              · rw [if_pos rfl] at hm; subst hm; omega
              · rw [if_neg (by omega)] at hm; subst hm; omega
            rw [HM.out]
            clear u1 hm HM
            have W1 := fun W => pwithin_any a 1 32 W
            have W2 := fun W => pwithin_any b m 32 W
            by_cases d1 : (1 : Int) ≤ (a.length : Int) ∧ (a.length : Int) ≤ 32
            · rw [decide_eq_true d1] at W1
              obtain ⟨v, hv⟩ : ∃ v, decide (m ≤ (b.length : Int) ∧ (b.length : Int) ≤ 32) = v := ⟨_, rfl⟩
              have HV : Hid (decide (((1 : Int) ≤ (a.length : Int) ∧ (a.length : Int) ≤ 32) ∧ (m ≤ (b.length : Int) ∧ (b.length : Int) ≤ 32)) = v) := by
                show _ = _
                rw [← hv, decide_eq_decide]
                exact ⟨fun h => h.2, fun h => ⟨d1, h⟩⟩
              rw [HV.out]
              rw [hv] at W2
              clear hv HV d1
              have HW1 : Hid (∀ W, Calls Try.prog 71 #[.string ⟨a.toArray⟩, .int .i64 1, .int .i64 32] W fun e w' => e = .returned (.bool true) ∧ Below W.heap.size W w') := W1
              have HW2 : Hid (∀ W, Calls Try.prog 71 #[.string ⟨b.toArray⟩, .int .i64 m, .int .i64 32] W fun e w' => e = .returned (.bool v) ∧ Below W.heap.size W w') := W2
              clear W1 W2
              go_enter Try.func52, Try.ntmps52
              go_wp2_with fail
              refine (T _).mono ?_
              rintro e w1 ⟨rfl, b1⟩
              have x2 := box_cell b1 2 _ rfl
              go_wp2_with fail
              refine (HW1.out _).mono ?_
              rintro e w2 ⟨rfl, b2⟩
              have b2' := bel_trans b1 b2
              have x3 := box_cell b2' 3 _ rfl
              go_wp2_with fail
              refine (HW2.out _).mono ?_
              rintro e w3 ⟨rfl, b3⟩
              go_wp2_with fail
              go_ret
              exact ⟨rfl, bel_trans (al _) (bel_trans b2' b3)⟩
            · rw [decide_eq_false d1] at W1
              rw [decide_eq_false (show ¬ (_ ∧ _) from fun h => d1 h.1)]
              have HW1 : Hid (∀ W, Calls Try.prog 71 #[.string ⟨a.toArray⟩, .int .i64 1, .int .i64 32] W fun e w' => e = .returned (.bool false) ∧ Below W.heap.size W w') := W1
              clear d1 W1 W2
              go_enter Try.func52, Try.ntmps52
              go_wp2_with fail
              refine (T _).mono ?_
              rintro e w1 ⟨rfl, b1⟩
              have x2 := box_cell b1 2 _ rfl
              go_wp2_with fail
              refine (HW1.out _).mono ?_
              rintro e w2 ⟨rfl, b2⟩
              have b2' := bel_trans b1 b2
              go_wp2_with fail
              go_ret
              exact ⟨rfl, bel_trans (al _) b2'⟩
          · have T := fun W => ptextsN k u1 W
            have HM : Hid (decide (mayE (k, t, a, b)) = decide (a = [] ∧ b = [])) := by
              show _ = _
              rw [decide_eq_decide, mayE_unkey u1]
              exact ⟨fun h => h.2, fun h => ⟨by omega, h⟩⟩
            rw [HM.out]
            clear u1 HM
            cases a with
            | nil =>
              cases b with
              | nil =>
                go_enter Try.func52, Try.ntmps52
                go_wp2_with fail
                refine (T _).mono ?_
                rintro e w1 ⟨rfl, b1⟩
                have x2 := box_cell b1 2 _ rfl
                have x3 := box_cell b1 3 _ rfl
                go_wp2_with fail
                go_ret
                exact ⟨rfl, bel_trans (al _) b1⟩
              | cons y r =>
                rw [decide_eq_false (show ¬ (_ ∧ _) from fun h => by cases h.2)]
                obtain ⟨b, hb⟩ : ∃ b, y :: r = b := ⟨_, rfl⟩
                have q := ne_empty' b (by rw [← hb]; simp)
                rw [hb]
                clear hb
                go_enter Try.func52, Try.ntmps52
                go_wp2_with fail
                refine (T _).mono ?_
                rintro e w1 ⟨rfl, b1⟩
                have x2 := box_cell b1 2 _ rfl
                have x3 := box_cell b1 3 _ rfl
                go_wp2_with fail
                go_ret
                exact ⟨rfl, bel_trans (al _) b1⟩
            | cons x r =>
              rw [decide_eq_false (show ¬ (_ ∧ _) from fun h => by cases h.1)]
              obtain ⟨a, ha⟩ : ∃ a, x :: r = a := ⟨_, rfl⟩
              have q := ne_empty' a (by rw [← ha]; simp)
              rw [ha]
              clear ha
              go_enter Try.func52, Try.ntmps52
              go_wp2_with fail
              refine (T _).mono ?_
              rintro e w1 ⟨rfl, b1⟩
              have x2 := box_cell b1 2 _ rfl
              go_wp2_with fail
              go_ret
              exact ⟨rfl, bel_trans (al _) b1⟩
end Go.Proofs.Ytngllioidfffdaa
