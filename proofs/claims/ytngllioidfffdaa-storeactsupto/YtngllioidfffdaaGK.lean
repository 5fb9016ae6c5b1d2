/-
  What cartoucheref01.size answers.
  What cartoucheref01.Text answers, at whatever text.
  What cartoucheref01.takeSize answers, at whatever bytes.
  What cartoucheref01.TakeText answers, at whatever bytes.
-/
import Derived.Test.YtngllioidfffdaaGJ
import Derived.Test.YtngllioidfffdaaProg
import Derived.Test.YtngllioidfffdaaGA
import Derived.Test.YtngllioidfffdaaGB
import Derived.BigQuiet
import Derived.Deep.QuietTactic
namespace Go.Proofs.Ytngllioidfffdaa
set_option maxRecDepth 100000
open Go.RowKit
attribute [local go_sem] ba_size ba_get ba_extract ba_append wrap_byte wrap_u64_byte take_drop_end
set_option maxHeartbeats 400000 in
theorem size_any (n : Nat) (hn : n ≤ 65535) (w : World) :
    Calls Try.prog 75 #[.int .i64 n] w fun e w' => e = .returned (.string ⟨(Lm.lenL n).toArray⟩) ∧ Below w.heap.size w w' := by
  have c1 := conv1
  have c3 := conv3
  by_cases h : n ≤ 250
  · go_enter Try.func75, Try.ntmps75
    go_wp2
    go_ret
    exact ⟨ret_str (nums_short n h), (Below.refl _ _).alloc (Nat.le_refl _) _⟩
  · go_enter Try.func75, Try.ntmps75
    go_wp2
    go_ret
    exact ⟨ret_str (nums_long n h), (Below.refl _ _).alloc (Nat.le_refl _) _⟩
end Go.Proofs.Ytngllioidfffdaa
namespace Go.Proofs.Ytngllioidfffdaa
set_option maxRecDepth 100000
open Go.RowKit
attribute [local go_sem] ba_size ba_get ba_extract ba_append wrap_byte wrap_u64_byte take_drop_end
set_option maxHeartbeats 400000 in
theorem refText_any (l : List UInt8) (hl : l.length ≤ 9223372036854775807) (w : World) :
    Calls Try.prog 57 #[.string ⟨l.toArray⟩] w fun e w' => e = .returned (.tuple #[.string ⟨(Lm.textL l).1.toArray⟩, .int .i64 ((Lm.textL l).2 : Int)]) ∧ Below w.heap.size w w' := by
  unfold Lm.textL
  by_cases h : 65535 < l.length
  · rw [if_pos h]
    go_enter Try.func57, Try.ntmps57
    go_wp2
    go_ret2
    exact ⟨rfl, Below.refl _ _⟩
  · rw [if_neg h]
    go_enter Try.func57, Try.ntmps57
    go_wp2_with fail
    refine (size_any l.length (by omega) _).mono ?_
    rintro e w1 ⟨rfl, hb1⟩
    have hll := Lm.lenL_le l.length
    go_wp2_with fail
    go_ret2
    exact ⟨rfl, hb1⟩
theorem refText_ok (l : List UInt8) (h : ¬ 65535 < l.length) (w : World) :
    Calls Try.prog 57 #[.string ⟨l.toArray⟩] w fun e w' => e = .returned (.tuple #[.string ⟨(Lm.lenL l.length ++ l).toArray⟩, .int .i64 0]) ∧ Below w.heap.size w w' := by
  have := refText_any l (by omega) w
  unfold Lm.textL at this
  rw [if_neg h] at this
  exact this
theorem refText_big (l : List UInt8) (hl : l.length ≤ 9223372036854775807) (h : 65535 < l.length) (w : World) :
    Calls Try.prog 57 #[.string ⟨l.toArray⟩] w fun e w' => e = .returned (.tuple #[.string ⟨#[]⟩, .int .i64 4]) ∧ Below w.heap.size w w' := by
  have := refText_any l hl w
  unfold Lm.textL at this
  rw [if_pos h] at this
  exact this
end Go.Proofs.Ytngllioidfffdaa
namespace Go.Proofs.Ytngllioidfffdaa
set_option maxRecDepth 100000
open Go.RowKit
attribute [local go_sem] ba_size ba_get ba_extract ba_append wrap_byte wrap_u64_byte take_drop_end
set_option maxHeartbeats 400000 in
theorem takeSize_any (l : List UInt8) (w : World) (hs : l.length ≤ 9223372036854775807) :
    Calls Try.prog 84 #[.string ⟨l.toArray⟩] w fun e w' => e = .returned (.tuple #[.int .i64 ((Lm.sizeL l).1 : Int), .string ⟨(Lm.sizeL l).2.1.toArray⟩, .int .i64 ((Lm.sizeL l).2.2 : Int)]) ∧ Below w.heap.size w w' := by
  match l, hs with
  | [], _ =>
    go_enter Try.func84, Try.ntmps84
    go_wp2
    go_ret3
    exact ⟨rfl, Below.refl _ _⟩
  | b :: r, hs =>
    simp only [List.length_cons] at hs
    by_cases h1 : b.toNat ≤ 250
    · have e : Lm.sizeL (b :: r) = (b.toNat, r, 0) := by simp [Lm.sizeL, h1]
      rw [e]; clear e
      go_enter Try.func84, Try.ntmps84
      go_wp2
      go_quiet (fail)
      go_wp2
      go_ret3
      exact ⟨rfl, below_drewN (Below.refl _ _) _⟩
    by_cases h2 : 251 < b.toNat
    · have e : Lm.sizeL (b :: r) = (0, [], 3) := by simp [Lm.sizeL, h1, h2]
      rw [e]; clear e
      go_enter Try.func84, Try.ntmps84
      go_wp2
      go_ret3
      exact ⟨rfl, Below.refl _ _⟩
    obtain rfl : b = 251 := by apply UInt8.toNat_inj.1; show b.toNat = 251; omega
    clear h1 h2
    match r, hs with
    | [], hs =>
      go_enter Try.func84, Try.ntmps84
      go_wp2
      go_ret3
      exact ⟨rfl, Below.refl _ _⟩
    | [a], hs =>
      go_enter Try.func84, Try.ntmps84
      go_wp2
      go_ret3
      exact ⟨rfl, Below.refl _ _⟩
    | a :: c :: r, hs =>
      simp only [List.length_cons] at hs
      have ha := a.toNat_lt
      have hc := c.toNat_lt
      by_cases h3 : 256 * a.toNat + c.toNat ≤ 250
      · have e : Lm.sizeL (251 :: a :: c :: r) = (0, [], 3) := by simp [Lm.sizeL, h3]
        rw [e]; clear e
        go_enter Try.func84, Try.ntmps84
        go_wp2
        go_quiet (fail)
        go_wp2
        go_ret3
        exact ⟨rfl, below_drewN (Below.refl _ _) _⟩
      · have e : Lm.sizeL (251 :: a :: c :: r) = (256 * a.toNat + c.toNat, r, 0) := by simp [Lm.sizeL, h3]
        rw [e]; clear e
        go_enter Try.func84, Try.ntmps84
        go_wp2
        go_quiet (fail)
        go_wp2
        go_quiet (fail)
        go_wp2
        go_ret3
        exact ⟨rfl, below_drewN (below_drewN (Below.refl _ _) _) _⟩
end Go.Proofs.Ytngllioidfffdaa
namespace Go.Proofs.Ytngllioidfffdaa
set_option maxRecDepth 100000
open Go.RowKit
attribute [local go_sem] ba_size ba_get ba_extract ba_append wrap_byte wrap_u64_byte take_drop_end
set_option maxHeartbeats 800000 in
theorem refTakeText_any (l : List UInt8) (most : Int) (w : World) (hs : l.length ≤ 9223372036854775807) :
    Calls Try.prog 77 #[.string ⟨l.toArray⟩, .int .i64 most] w fun e w' => e = .returned (.tuple #[.string ⟨(Lm.takeTextL l most).1.toArray⟩, .string ⟨(Lm.takeTextL l most).2.1.toArray⟩, .int .i64 ((Lm.takeTextL l most).2.2 : Int)]) ∧ Below w.heap.size w w' := by
  have hbd := sizeL_bd l
  have hc := takeSize_any l w hs
  unfold Lm.takeTextL Lm.takeLenL
  generalize Lm.sizeL l = x at *
  obtain ⟨n, rest, e⟩ := x
  have HC : Hid (Calls Try.prog 84 #[.string ⟨l.toArray⟩] w fun e' w' => e' = .returned (.tuple #[.int .i64 (n : Int), .string ⟨rest.toArray⟩, .int .i64 (e : Int)]) ∧ Below w.heap.size w w') := hc
  simp only at hbd
  clear hc
  by_cases he : e ≠ 0
  · simp only [he, ne_eq, not_false_eq_true, if_true]
    have hb : ((e : Int) != 0) = true := by simp; omega
    go_enter Try.func77, Try.ntmps77
    go_wp2_with fail
    refine HC.out.mono ?_
    rintro e w1 ⟨rfl, hb1⟩
    go_wp2_with fail
    go_ret3
    exact ⟨rfl, hb1⟩
  · have he' : e = 0 := by omega
    subst he'
    clear he
    simp only [ne_eq, not_true_eq_false, if_false]
    by_cases hmn : most < (n : Int)
    · simp only [hmn, if_true]
      rw [if_pos (by simp)]
      have hor : most < 0 ∨ (¬ most < 0 ∧ True) := by by_cases h : most < 0; exact .inl h; exact .inr ⟨h, trivial⟩
      rcases hor with h0 | ⟨h0, -⟩
      all_goals
        go_enter Try.func77, Try.ntmps77
        go_wp2_with fail
        refine HC.out.mono ?_
        rintro e w1 ⟨rfl, hb1⟩
        go_wp2_with fail
        go_ret3
        exact ⟨rfl, hb1⟩
    · simp only [hmn, if_false]
      simp only [not_true_eq_false, if_false]
      have h0 : ¬ most < 0 := by omega
      by_cases hl : rest.length < n
      · rw [if_pos hl]
        go_enter Try.func77, Try.ntmps77
        go_wp2_with fail
        refine HC.out.mono ?_
        rintro e w1 ⟨rfl, hb1⟩
        go_wp2_with fail
        go_ret3
        exact ⟨rfl, hb1⟩
      · rw [if_neg hl]
        go_enter Try.func77, Try.ntmps77
        go_wp2_with fail
        refine HC.out.mono ?_
        rintro e w1 ⟨rfl, hb1⟩
        go_wp2_with fail
        go_quiet (fail)
        go_wp2
        go_ret3
        exact ⟨rfl, below_drewN hb1 _⟩
end Go.Proofs.Ytngllioidfffdaa
