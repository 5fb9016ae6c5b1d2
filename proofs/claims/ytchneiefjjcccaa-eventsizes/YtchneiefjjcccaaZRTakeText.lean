/-
  What cartoucheref01.TakeText answers, at whatever bytes.
-/
import Derived.Test.YtchneiefjjcccaaZRTakeSize
import Derived.BigQuiet
import Derived.Deep.QuietTactic
namespace Go.Proofs.Ytchneiefjjcccaa
set_option maxRecDepth 100000
open Go.RowKit
attribute [local go_sem] ba_size ba_get ba_extract ba_append wrap_byte wrap_u64_byte take_drop_end
set_option maxHeartbeats 800000 in
theorem refTakeText_any (l : List UInt8) (most : Int) (w : World) (hs : l.length ≤ 9223372036854775807) :
    Calls Try.prog 29 #[.string ⟨l.toArray⟩, .int .i64 most] w fun e w' => e = .returned (.tuple #[.string ⟨(Lm.takeTextL l most).1.toArray⟩, .string ⟨(Lm.takeTextL l most).2.1.toArray⟩, .int .i64 ((Lm.takeTextL l most).2.2 : Int)]) ∧ Below w.heap.size w w' := by
  have hbd := sizeL_bd l
  have hc := takeSize_any l w hs
  unfold Lm.takeTextL Lm.takeLenL
  generalize Lm.sizeL l = x at *
  obtain ⟨n, rest, e⟩ := x
  have HC : Hid (Calls Try.prog 36 #[.string ⟨l.toArray⟩] w fun e' w' => e' = .returned (.tuple #[.int .i64 (n : Int), .string ⟨rest.toArray⟩, .int .i64 (e : Int)]) ∧ Below w.heap.size w w') := hc
  simp only at hbd
  clear hc
  by_cases he : e ≠ 0
  · simp only [he, ne_eq, not_false_eq_true, if_true]
    have hb : ((e : Int) != 0) = true := by simp; omega
    go_enter Try.func29, Try.ntmps29
    go_wp2_with fail
    refine HC.out.mono ?_
    rintro e w1 ⟨rfl, hb1⟩
    go_wp2_with fail
    go_ret3
    exact ⟨rfl, hb1⟩
  · have he' : e = 0 := by omega
    subst he'
    clear he
    simp only [ne_eq, not_true_eq_false, if_false]
    by_cases hmn : most < (n : Int)
    · simp only [hmn, if_true]
      rw [if_pos (by simp)]
      have hor : most < 0 ∨ (¬ most < 0 ∧ True) := by by_cases h : most < 0; exact .inl h; exact .inr ⟨h, trivial⟩
      rcases hor with h0 | ⟨h0, -⟩
      all_goals
        go_enter Try.func29, Try.ntmps29
        go_wp2_with fail
        refine HC.out.mono ?_
        rintro e w1 ⟨rfl, hb1⟩
        go_wp2_with fail
        go_ret3
        exact ⟨rfl, hb1⟩
    · simp only [hmn, if_false]
      simp only [not_true_eq_false, if_false]
      have h0 : ¬ most < 0 := by omega
      by_cases hl : rest.length < n
      · rw [if_pos hl]
        go_enter Try.func29, Try.ntmps29
        go_wp2_with fail
        refine HC.out.mono ?_
        rintro e w1 ⟨rfl, hb1⟩
        go_wp2_with fail
        go_ret3
        exact ⟨rfl, hb1⟩
      · rw [if_neg hl]
        go_enter Try.func29, Try.ntmps29
        go_wp2_with fail
        refine HC.out.mono ?_
        rintro e w1 ⟨rfl, hb1⟩
        go_wp2_with fail
        go_quiet (fail)
        go_wp2
        go_ret3
        exact ⟨rfl, below_drewN hb1 _⟩
end Go.Proofs.Ytchneiefjjcccaa
