/-
  What lump.TakeText answers, at whatever bytes.
-/
import Derived.Test.YtchneiefjjcccaaZFTakeLength
import Derived.BigQuiet
import Derived.Deep.QuietTactic
namespace Go.Proofs.Ytchneiefjjcccaa
set_option maxRecDepth 100000
open Go.RowKit
attribute [local go_sem] ba_size ba_get ba_extract ba_append wrap_byte wrap_u64_byte take_drop_end
set_option maxHeartbeats 800000 in
theorem takeText_any (l : List UInt8) (most : Int) (w : World) (hs : l.length ≤ 9223372036854775807) :
    Calls Try.prog 28 #[.string ⟨l.toArray⟩, .int .i64 most] w fun e w' => e = .returned (.tuple #[.string ⟨(Lm.takeTextL l most).1.toArray⟩, .string ⟨(Lm.takeTextL l most).2.1.toArray⟩, .int .i64 ((Lm.takeTextL l most).2.2 : Int)]) ∧ Below w.heap.size w w' := by
  have hbd := takeLenL_bd l most
  have hc := takeLength_any l most w hs
  unfold Lm.takeTextL
  generalize Lm.takeLenL l most = x at *
  obtain ⟨n, rest, e⟩ := x
  have HC : Hid (Calls Try.prog 35 #[.string ⟨l.toArray⟩, .int .i64 most] w fun e' w' => e' = .returned (.tuple #[.int .i64 (n : Int), .string ⟨rest.toArray⟩, .int .i64 (e : Int)]) ∧ Below w.heap.size w w') := hc
  simp only at hbd
  clear hc
  by_cases he : e ≠ 0
  · rw [if_pos he]
    have hb : ((e : Int) != 0) = true := by simp; omega
    go_enter Try.func28, Try.ntmps28
    go_wp2_with fail
    refine HC.out.mono ?_
    rintro e w1 ⟨rfl, hb1⟩
    go_wp2_with fail
    go_ret3
    exact ⟨rfl, hb1⟩
  · have he' : e = 0 := by omega
    subst he'
    clear he
    rw [if_neg (by simp)]
    by_cases hl : rest.length < n
    · rw [if_pos hl]
      go_enter Try.func28, Try.ntmps28
      go_wp2_with fail
      refine HC.out.mono ?_
      rintro e w1 ⟨rfl, hb1⟩
      go_wp2_with fail
      go_ret3
      exact ⟨rfl, hb1⟩
    · rw [if_neg hl]
      go_enter Try.func28, Try.ntmps28
      go_wp2_with fail
      refine HC.out.mono ?_
      rintro e w1 ⟨rfl, hb1⟩
      go_wp2_with fail
      go_quiet (fail)
      go_wp2
      go_ret3
      exact ⟨rfl, below_drewN hb1 _⟩
theorem takeText_ok (t more : List UInt8) (h : ¬ 65535 < t.length) (hs : more.length ≤ 9223372036854000000) (w : World) :
    Calls Try.prog 28 #[.string ⟨(Lm.lenL t.length ++ (t ++ more)).toArray⟩, .int .i64 65535] w fun e w' => e = .returned (.tuple #[.string ⟨t.toArray⟩, .string ⟨more.toArray⟩, .int .i64 0]) ∧ Below w.heap.size w w' := by
  have hl := Lm.lenL_le t.length
  have := takeText_any (Lm.lenL t.length ++ (t ++ more)) 65535 w (by simp; omega)
  rw [← List.append_assoc, Lm.takeText_text t (by omega) 65535 (by omega) more] at this
  rw [← List.append_assoc]
  exact this
theorem takeText_end (t : List UInt8) (h : ¬ 65535 < t.length) (w : World) :
    Calls Try.prog 28 #[.string ⟨(Lm.lenL t.length ++ t).toArray⟩, .int .i64 65535] w fun e w' => e = .returned (.tuple #[.string ⟨t.toArray⟩, .string ⟨#[]⟩, .int .i64 0]) ∧ Below w.heap.size w w' := by
  have := takeText_ok t [] h (by simp) w
  rw [List.append_nil] at this
  exact this
end Go.Proofs.Ytchneiefjjcccaa
