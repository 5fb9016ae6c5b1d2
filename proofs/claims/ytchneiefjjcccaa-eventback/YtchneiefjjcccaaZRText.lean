/-
  What cartoucheref01.Text answers, at whatever text.
-/
import Derived.Test.YtchneiefjjcccaaZRSize
namespace Go.Proofs.Ytchneiefjjcccaa
set_option maxRecDepth 100000
open Go.RowKit
attribute [local go_sem] ba_size ba_get ba_extract ba_append wrap_byte wrap_u64_byte take_drop_end
set_option maxHeartbeats 400000 in
theorem refText_any (l : List UInt8) (hl : l.length ≤ 9223372036854775807) (w : World) :
    Calls Try.prog 27 #[.string ⟨l.toArray⟩] w fun e w' => e = .returned (.tuple #[.string ⟨(Lm.textL l).1.toArray⟩, .int .i64 ((Lm.textL l).2 : Int)]) ∧ Below w.heap.size w w' := by
  unfold Lm.textL
  by_cases h : 65535 < l.length
  · rw [if_pos h]
    go_enter Try.func27, Try.ntmps27
    go_wp2
    go_ret2
    exact ⟨rfl, Below.refl _ _⟩
  · rw [if_neg h]
    go_enter Try.func27, Try.ntmps27
    go_wp2_with fail
    refine (size_any l.length (by omega) _).mono ?_
    rintro e w1 ⟨rfl, hb1⟩
    have hll := Lm.lenL_le l.length
    go_wp2_with fail
    go_ret2
    exact ⟨rfl, hb1⟩
theorem refText_ok (l : List UInt8) (h : ¬ 65535 < l.length) (w : World) :
    Calls Try.prog 27 #[.string ⟨l.toArray⟩] w fun e w' => e = .returned (.tuple #[.string ⟨(Lm.lenL l.length ++ l).toArray⟩, .int .i64 0]) ∧ Below w.heap.size w w' := by
  have := refText_any l (by omega) w
  unfold Lm.textL at this
  rw [if_neg h] at this
  exact this
theorem refText_big (l : List UInt8) (hl : l.length ≤ 9223372036854775807) (h : 65535 < l.length) (w : World) :
    Calls Try.prog 27 #[.string ⟨l.toArray⟩] w fun e w' => e = .returned (.tuple #[.string ⟨#[]⟩, .int .i64 4]) ∧ Below w.heap.size w w' := by
  have := refText_any l hl w
  unfold Lm.textL at this
  rw [if_pos h] at this
  exact this
end Go.Proofs.Ytchneiefjjcccaa
