/-
  What cartoucheref07.KeyTag and ValTag answer.
-/
import Derived.Test.YtihggfkenhkglaaDoorGR
import Derived.Test.YtihggfkenhkglaaDoorZR2Keyed
import Derived.Test.YtihggfkenhkglaaDoorZR5K
namespace Go.Proofs.YtihggfkenhkglaaDoor
set_option maxRecDepth 100000
open Go.RowKit
set_option linter.unusedVariables false
attribute [local go_sem] ba_size ba_append
theorem rkeytag_any (s k : List UInt8) (hk : k.length ≤ 9223372036854770000) (w : World) :
    Calls Tryd.prog 12 #[.string ⟨s.toArray⟩, .string ⟨k.toArray⟩] w fun e w' => e = .returned (.tuple #[.string ⟨(keyTagP s k).1.toArray⟩, .int .i64 ((keyTagP s k).2 : Int)]) ∧ Below w.heap.size w w' := by
  have T1 := rkeyed_any s (5 :: k) (by simp; omega) w
  unfold keyTagP
  obtain ⟨⟨x, y⟩, hx⟩ : ∃ x, keyP s (5 :: k) = x := ⟨_, rfl⟩
  rw [hx] at T1 ⊢
  clear hx
  have k3 : 1 + k.length ≤ 9223372036854775807 := by omega
  go_enter Tryd.func12, Tryd.ntmps12
  go_wp2_with fail
  refine T1.mono ?_
  rintro e w1 ⟨rfl, hb1⟩
  go_wp2_with fail
  go_ret2
  exact ⟨rfl, hb1⟩
theorem rvaltag_any (s v : List UInt8) (hv : v.length ≤ 9223372036854770000) (w : World) :
    Calls Tryd.prog 14 #[.string ⟨s.toArray⟩, .string ⟨v.toArray⟩] w fun e w' => e = .returned (.tuple #[.string ⟨(valTagP s v).1.toArray⟩, .int .i64 ((valTagP s v).2 : Int)]) ∧ Below w.heap.size w w' := by
  have T1 := rkeyed_any s (6 :: v) (by simp; omega) w
  have k3 : 1 + v.length ≤ 9223372036854775807 := by omega
  unfold valTagP
  by_cases hs : mayK s
  · rw [show keyP s (6 :: v) = (keyL s (6 :: v), 0) by unfold keyP; rw [if_pos hs]] at T1
    rw [if_pos hs]
    unfold tagV
    obtain ⟨x, hx⟩ : ∃ x, keyL s (6 :: v) = x := ⟨_, rfl⟩
    rw [hx] at T1 ⊢
    clear hx hs
    by_cases h0 : v = []
    · subst h0
      rw [if_pos rfl]
      go_enter Tryd.func14, Tryd.ntmps14
      go_wp2_with fail
      refine T1.mono ?_
      rintro e w1 ⟨rfl, hb1⟩
      go_wp2_with fail
      go_ret2
      exact ⟨rfl, hb1⟩
    · rw [if_neg h0]
      have n0 : v.isEmpty = false := by
        cases v with
        | nil => exact absurd rfl h0
        | cons _ _ => rfl
      clear h0
      go_enter Tryd.func14, Tryd.ntmps14
      go_wp2_with fail
      refine T1.mono ?_
      rintro e w1 ⟨rfl, hb1⟩
      go_wp2_with fail
      go_ret2
      exact ⟨rfl, hb1⟩
  · rw [show keyP s (6 :: v) = ([], 1) by unfold keyP; rw [if_neg hs]] at T1
    rw [if_neg hs]
    clear hs
    go_enter Tryd.func14, Tryd.ntmps14
    go_wp2_with fail
    refine T1.mono ?_
    rintro e w1 ⟨rfl, hb1⟩
    go_wp2_with fail
    go_ret2
    exact ⟨rfl, hb1⟩
end Go.Proofs.YtihggfkenhkglaaDoor
