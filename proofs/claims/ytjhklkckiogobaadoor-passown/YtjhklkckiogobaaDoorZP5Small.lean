/-
  What pass.mayBe, pass.saying, blake.Keyed and pass.sealOf answer.
-/
import Derived.Test.YtjhklkckiogobaaDoorZPass2
import Derived.Test.YtjhklkckiogobaaDoorGJ
namespace Go.Proofs.YtjhklkckiogobaaDoor
set_option maxRecDepth 100000
open Go.RowKit
set_option linter.unusedVariables false
attribute [local go_sem] ba_size ba_append
theorem mayBe_any (t : List UInt8) (w : World) :
    Calls Tryd.prog 18 #[.string ⟨t.toArray⟩] w fun e w' => e = .returned (.bool (decide (mayT t))) ∧ Below w.heap.size w w' := by
  cases t with
  | nil =>
    rw [decide_eq_false (by unfold mayT; simp)]
    go_enter Tryd.func18, Tryd.ntmps18
    go_wp2_with fail
    go_ret
    exact ⟨rfl, Below.refl _ _⟩
  | cons a r =>
    obtain ⟨t, ht⟩ : ∃ t, a :: r = t := ⟨_, rfl⟩
    have h1 : 1 ≤ t.length := by rw [← ht]; simp
    rw [ht]
    clear ht
    have hn := ne_empty t h1
    by_cases h2 : t.length ≤ 16
    · rw [decide_eq_true (show mayT t from ⟨h1, h2⟩)]
      have j : (t.length : Int) ≤ 16 := by omega
      go_enter Tryd.func18, Tryd.ntmps18
      go_wp2_with fail
      go_ret
      exact ⟨rfl, Below.refl _ _⟩
    · rw [decide_eq_false (show ¬ mayT t from fun h => h2 h.2)]
      have j : ¬ (t.length : Int) ≤ 16 := by omega
      go_enter Tryd.func18, Tryd.ntmps18
      go_wp2_with fail
      go_ret
      exact ⟨rfl, Below.refl _ _⟩
theorem saying_any (t : List UInt8) (h : ¬ 65535 < t.length) (u : Nat) (hu : u < 18446744073709551616) (w : World) :
    Calls Tryd.prog 19 #[.string ⟨t.toArray⟩, .int .u64 (u : Int)] w fun e w' => e = .returned (.string ⟨(saidL t u).toArray⟩) ∧ Below w.heap.size w w' := by
  have T1 := text_ok t h w
  have T2 := fun w1 => num_any u hu w1
  have l1 := Lm.lenL_le t.length
  have l2 := num_len u
  have HE : Hid (saidL t u = (Lm.lenL t.length ++ t) ++ Lm.numL u) := (rfl : _ = _)
  have k1 : (Lm.lenL t.length ++ t).length ≤ 65538 := by rw [List.length_append]; omega
  obtain ⟨x, hx⟩ : ∃ x, Lm.lenL t.length ++ t = x := ⟨_, rfl⟩
  obtain ⟨y, hy⟩ : ∃ y, Lm.numL u = y := ⟨_, rfl⟩
  rw [hx] at T1 HE k1
  rw [hy] at T2 HE l2
  clear hx hy l1
  have k3 : x.length + y.length ≤ 9223372036854775807 := by omega
  go_enter Tryd.func19, Tryd.ntmps19
  go_wp2_with fail
  refine T1.mono ?_
  rintro e w1 ⟨rfl, hb1⟩
  go_wp2_with fail
  refine (T2 w1).mono ?_
  rintro e w2 ⟨rfl, hb2⟩
  go_wp2_with fail
  go_ret
  exact ⟨by rw [HE.out]; rfl, bel_trans hb1 hb2⟩
theorem keyed_any (k s : List UInt8) (hs : s.length ≤ 9223372036854774000) (w : World) (hG : G w) :
    Calls Tryd.prog 29 #[.string ⟨k.toArray⟩, .string ⟨s.toArray⟩] w fun e w' => e = .returned (.tuple #[.string ⟨(keyP k s).1.toArray⟩, .int .i64 ((keyP k s).2 : Int)]) ∧ Below w.heap.size w w' := by
  unfold keyP
  by_cases h : mayK k
  · rw [if_pos h]; exact keyed_good k s h.1 h.2 hs w hG
  · rw [if_neg h]
    by_cases h1 : 32 < k.length
    · exact keyed_long k s h1 w
    · have h0 : k.length = 0 := by unfold mayK at h; omega
      obtain rfl := List.length_eq_zero_iff.1 h0
      exact keyed_none s w
theorem sealOf_any (k s : List UInt8) (hs : s.length ≤ 9223372036854770000) (w : World) (hG : G w) :
    Calls Tryd.prog 20 #[.string ⟨k.toArray⟩, .string ⟨s.toArray⟩] w fun e w' => e = .returned (.tuple #[.string ⟨(keyP k (4 :: s)).1.toArray⟩, .int .i64 ((keyP k (4 :: s)).2 : Int)]) ∧ Below w.heap.size w w' := by
  have T1 := keyed_any k (4 :: s) (by simp; omega) w hG
  obtain ⟨x, hx⟩ : ∃ x, (keyP k (4 :: s)).1 = x := ⟨_, rfl⟩
  obtain ⟨y, hy⟩ : ∃ y, (keyP k (4 :: s)).2 = y := ⟨_, rfl⟩
  rw [hx, hy] at T1 ⊢
  clear hx hy
  have k3 : 1 + s.length ≤ 9223372036854775807 := by omega
  go_enter Tryd.func20, Tryd.ntmps20
  go_wp2_with fail
  refine T1.mono ?_
  rintro e w1 ⟨rfl, hb1⟩
  go_wp2_with fail
  go_ret2
  exact ⟨rfl, hb1⟩
end Go.Proofs.YtjhklkckiogobaaDoor
