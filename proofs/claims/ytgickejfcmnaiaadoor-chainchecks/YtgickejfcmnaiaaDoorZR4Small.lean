/-
  What cartoucheref04.Input and Next answer.
-/
import Derived.Test.YtgickejfcmnaiaaDoorZPSum
import Derived.Test.YtgickejfcmnaiaaDoorGJ
import Derived.Test.YtgickejfcmnaiaaDoorGA
namespace Go.Proofs.YtgickejfcmnaiaaDoor
set_option maxRecDepth 100000
open Go.RowKit
set_option linter.unusedVariables false
attribute [local go_sem] ba_size ba_append
set_option maxHeartbeats 400000 in
theorem rinput_any (p b : List UInt8) (hp : p.length ≤ 9223372036854775807) (hb : b.length ≤ 9223372036854775807) (w : World) :
    Calls Tryd.prog 14 #[.string ⟨p.toArray⟩, .string ⟨b.toArray⟩] w fun e w' => e = .returned (.tuple #[.string ⟨(inputL p b).1.toArray⟩, .int .i64 ((inputL p b).2 : Int)]) ∧ Below w.heap.size w w' := by
  unfold inputL
  by_cases h1 : 65535 < p.length
  · rw [if_pos (show bigB p b from Or.inl h1)]
    have hT := fun w1 => refText_any b hb w1
    obtain ⟨R, hR⟩ : ∃ R, Lm.textL b = R := ⟨_, rfl⟩
    rw [hR] at hT
    clear hR
    go_enter Tryd.func14, Tryd.ntmps14
    go_wp2_with fail
    refine (refText_big p hp h1 w).mono ?_
    rintro e w1 ⟨rfl, hb1⟩
    go_wp2_with fail
    refine (hT w1).mono ?_
    rintro e w2 ⟨rfl, hb2⟩
    go_wp2_with fail
    go_ret2
    exact ⟨rfl, bel_trans hb1 hb2⟩
  · by_cases h2 : 65535 < b.length
    · rw [if_pos (show bigB p b from Or.inr h2)]
      go_enter Tryd.func14, Tryd.ntmps14
      go_wp2_with fail
      refine (refText_ok p h1 w).mono ?_
      rintro e w1 ⟨rfl, hb1⟩
      go_wp2_with fail
      refine (refText_big b hb h2 w1).mono ?_
      rintro e w2 ⟨rfl, hb2⟩
      go_wp2_with fail
      go_ret2
      exact ⟨rfl, bel_trans hb1 hb2⟩
    · rw [if_neg (show ¬ bigB p b from fun h => by unfold bigB at h; omega)]
      have l1 := Lm.lenL_le p.length
      have l2 := Lm.lenL_le b.length
      have T1 := refText_ok p h1 w
      have T2 := fun w1 => refText_ok b h2 w1
      have HE : Hid (cinL p b = 3 :: ((Lm.lenL p.length ++ p) ++ (Lm.lenL b.length ++ b))) := (rfl : _ = _)
      have k1 : (Lm.lenL p.length ++ p).length ≤ 65538 := by rw [List.length_append]; omega
      have k2 : (Lm.lenL b.length ++ b).length ≤ 65538 := by rw [List.length_append]; omega
      obtain ⟨x, hx⟩ : ∃ x, Lm.lenL p.length ++ p = x := ⟨_, rfl⟩
      obtain ⟨y, hy⟩ : ∃ y, Lm.lenL b.length ++ b = y := ⟨_, rfl⟩
      rw [hx] at T1 HE k1
      rw [hy] at T2 HE k2
      clear hx hy l1 l2
      have k3 : 1 + x.length ≤ 9223372036854775807 := by omega
      have k4 : 1 + x.length + y.length ≤ 9223372036854775807 := by omega
      go_enter Tryd.func14, Tryd.ntmps14
      go_wp2_with fail
      refine T1.mono ?_
      rintro e w1 ⟨rfl, hb1⟩
      go_wp2_with fail
      refine (T2 w1).mono ?_
      rintro e w2 ⟨rfl, hb2⟩
      go_wp2_with fail
      go_ret2
      exact ⟨by rw [HE.out]; rfl, bel_trans hb1 hb2⟩
theorem rinput_ok (p b : List UInt8) (h : ¬ bigB p b) (w : World) :
    Calls Tryd.prog 14 #[.string ⟨p.toArray⟩, .string ⟨b.toArray⟩] w fun e w' => e = .returned (.tuple #[.string ⟨(cinL p b).toArray⟩, .int .i64 0]) ∧ Below w.heap.size w w' := by
  have := rinput_any p b (by unfold bigB at h; omega) (by unfold bigB at h; omega) w
  unfold inputL at this
  rw [if_neg h] at this
  exact this
theorem rinput_big (p b : List UInt8) (hp : p.length ≤ 9223372036854775807) (hb : b.length ≤ 9223372036854775807) (h : bigB p b) (w : World) :
    Calls Tryd.prog 14 #[.string ⟨p.toArray⟩, .string ⟨b.toArray⟩] w fun e w' => e = .returned (.tuple #[.string ⟨#[]⟩, .int .i64 4]) ∧ Below w.heap.size w w' := by
  have := rinput_any p b hp hb w
  unfold inputL at this
  rw [if_pos h] at this
  exact this
set_option maxHeartbeats 400000 in
theorem rnext_any (p b : List UInt8) (hp : p.length ≤ 9223372036854775807) (hb : b.length ≤ 9223372036854775807) (w : World) :
    Calls Tryd.prog 16 #[.string ⟨p.toArray⟩, .string ⟨b.toArray⟩] w fun e w' => e = .returned (.tuple #[.string ⟨(nextL sumL p b).1.toArray⟩, .int .i64 ((nextL sumL p b).2 : Int)]) ∧ Below w.heap.size w w' := by
  unfold nextL
  by_cases h : bigB p b
  · rw [if_pos h]
    go_enter Tryd.func16, Tryd.ntmps16
    go_wp2_with fail
    refine (rinput_big p b hp hb h w).mono ?_
    rintro e w1 ⟨rfl, hb1⟩
    go_wp2_with fail
    go_ret2
    exact ⟨rfl, hb1⟩
  · rw [if_neg h]
    have hl := (cinL_len p b).2
    have hI := rinput_ok p b h w
    have hS := fun w1 => rsumG_any (cinL p b) (by unfold bigB at h; omega) w1
    obtain ⟨x, hx⟩ : ∃ x, cinL p b = x := ⟨_, rfl⟩
    rw [hx] at hI hS ⊢
    obtain ⟨y, hy⟩ : ∃ y, sumL x = y := ⟨_, rfl⟩
    rw [hy] at hS ⊢
    clear hx hy hl
    go_enter Tryd.func16, Tryd.ntmps16
    go_wp2_with fail
    refine hI.mono ?_
    rintro e w1 ⟨rfl, hb1⟩
    go_wp2_with fail
    refine (hS w1).mono ?_
    rintro e w2 ⟨rfl, hb2⟩
    go_wp2_with fail
    go_ret2
    exact ⟨rfl, bel_trans hb1 hb2⟩
end Go.Proofs.YtgickejfcmnaiaaDoor
