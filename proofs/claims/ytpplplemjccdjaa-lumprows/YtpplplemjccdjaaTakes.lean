/-
  What LumpTakes, LumpTexts and LumpJoin answer.
-/
import Derived.Test.YtpplplemjccdjaaProg
import Derived.Test.YtpplplemjccdjaaMath
import Derived.Test.YtpplplemjccdjaaBase
import Derived.Test.YtpplplemjccdjaaShort
import Derived.Test.YtpplplemjccdjaaLen
import Derived.Test.YtpplplemjccdjaaRefTake
import Derived.Test.YtpplplemjccdjaaTakeLen
import Derived.BigQuiet
import Derived.Deep.QuietTactic
namespace Go.Proofs.Ytpplplemjccdjaa
open Go.RowKit
attribute [local go_sem] ba_size ba_get ba_extract ba_append wrap_byte wrap_u64_byte take_drop_end
set_option maxHeartbeats 400000 in
theorem takes_walk (s : List UInt8) (hs : s.length ≤ 9223372036854775807) (w : World) :
    Calls Try.prog 4 #[.string ⟨s.toArray⟩] w fun e w' => e = .returned (.bool true) ∧ Below w.heap.size w w' := by
  go_enter Try.func4, Try.ntmps4
  go_wp2_with fail
  refine (shown_any _).mono ?_
  rintro e w1 ⟨rfl, hb1⟩
  go_wp2_with fail
  refine (takeNum_any s _ hs).mono ?_
  rintro e w2 ⟨rfl, hb2⟩
  go_wp2_with fail
  refine (refTakeNum_any s _ hs).mono ?_
  rintro e w3 ⟨rfl, hb3⟩
  go_wp2_with fail
  go_ret
  exact ⟨rfl, bel_trans (bel_trans hb1 hb2) hb3⟩
set_option maxHeartbeats 400000 in
theorem texts_walk (s : List UInt8) (most : Int) (hs : s.length ≤ 9223372036854775807) (w : World) :
    Calls Try.prog 5 #[.string ⟨s.toArray⟩, .int .i64 most] w fun e w' => e = .returned (.bool true) ∧ Below w.heap.size w w' := by
  go_enter Try.func5, Try.ntmps5
  go_wp2_with fail
  refine (shown_any _).mono ?_
  rintro e w1 ⟨rfl, hb1⟩
  go_wp2_with fail
  refine (takeText_any s most _ hs).mono ?_
  rintro e w2 ⟨rfl, hb2⟩
  go_wp2_with fail
  refine (refTakeText_any s most _ hs).mono ?_
  rintro e w3 ⟨rfl, hb3⟩
  go_wp2_with fail
  go_ret
  exact ⟨rfl, bel_trans (bel_trans hb1 hb2) hb3⟩
theorem text_ok (l : List UInt8) (h : ¬ 65535 < l.length) (w : World) :
    Calls Try.prog 14 #[.string ⟨l.toArray⟩] w fun e w' => e = .returned (.tuple #[.string ⟨(Lm.lenL l.length ++ l).toArray⟩, .int .i64 0]) ∧ Below w.heap.size w w' := by
  have := text_any l (by omega) w
  unfold Lm.textL at this
  rw [if_neg h] at this
  exact this
theorem text_big (l : List UInt8) (hl : l.length ≤ 9223372036854775807) (h : 65535 < l.length) (w : World) :
    Calls Try.prog 14 #[.string ⟨l.toArray⟩] w fun e w' => e = .returned (.tuple #[.string ⟨#[]⟩, .int .i64 4]) ∧ Below w.heap.size w w' := by
  have := text_any l hl w
  unfold Lm.textL at this
  rw [if_pos h] at this
  exact this
theorem takeText_ok (t more : List UInt8) (h : ¬ 65535 < t.length) (hs : more.length ≤ 9223372036854000000) (w : World) :
    Calls Try.prog 20 #[.string ⟨(Lm.lenL t.length ++ (t ++ more)).toArray⟩, .int .i64 65535] w fun e w' => e = .returned (.tuple #[.string ⟨t.toArray⟩, .string ⟨more.toArray⟩, .int .i64 0]) ∧ Below w.heap.size w w' := by
  have hl := lenL_le t.length
  have := takeText_any (Lm.lenL t.length ++ (t ++ more)) 65535 w (by simp; omega)
  rw [← List.append_assoc, Lm.takeText_text t (by omega) 65535 (by omega) more] at this
  rw [← List.append_assoc]
  exact this
theorem takeText_end (t : List UInt8) (h : ¬ 65535 < t.length) (w : World) :
    Calls Try.prog 20 #[.string ⟨(Lm.lenL t.length ++ t).toArray⟩, .int .i64 65535] w fun e w' => e = .returned (.tuple #[.string ⟨t.toArray⟩, .string ⟨#[]⟩, .int .i64 0]) ∧ Below w.heap.size w w' := by
  have := takeText_ok t [] h (by simp) w
  rw [List.append_nil] at this
  exact this
set_option maxHeartbeats 400000 in
theorem join_walk (a b : List UInt8) (ha : a.length ≤ 9223372036854775807) (hb : b.length ≤ 9223372036854775807) (w : World) :
    Calls Try.prog 12 #[.string ⟨a.toArray⟩, .string ⟨b.toArray⟩] w fun e w' => e = .returned (.bool true) ∧ Below w.heap.size w w' := by
  by_cases h1 : 65535 < a.length
  · go_enter Try.func12, Try.ntmps12
    go_wp2_with fail
    refine (shown_any _).mono ?_
    rintro e w1 ⟨rfl, hb1⟩
    go_wp2_with fail
    refine (text_big a ha h1 _).mono ?_
    rintro e w2 ⟨rfl, hb2⟩
    go_wp2_with fail
    refine (text_any b hb _).mono ?_
    rintro e w3 ⟨rfl, hb3⟩
    go_wp2_with fail
    go_ret
    exact ⟨rfl, bel_trans (bel_trans hb1 hb2) hb3⟩
  by_cases h2 : 65535 < b.length
  · go_enter Try.func12, Try.ntmps12
    go_wp2_with fail
    refine (shown_any _).mono ?_
    rintro e w1 ⟨rfl, hb1⟩
    go_wp2_with fail
    refine (text_ok a h1 _).mono ?_
    rintro e w2 ⟨rfl, hb2⟩
    go_wp2_with fail
    refine (text_big b hb h2 _).mono ?_
    rintro e w3 ⟨rfl, hb3⟩
    go_wp2_with fail
    go_ret
    exact ⟨rfl, bel_trans (bel_trans hb1 hb2) hb3⟩
  have hla := lenL_le a.length
  have hlb := lenL_le b.length
  go_enter Try.func12, Try.ntmps12
  go_wp2_with fail
  refine (shown_any _).mono ?_
  rintro e w1 ⟨rfl, hb1⟩
  go_wp2_with fail
  refine (text_ok a h1 _).mono ?_
  rintro e w2 ⟨rfl, hb2⟩
  go_wp2_with fail
  refine (text_ok b h2 _).mono ?_
  rintro e w3 ⟨rfl, hb3⟩
  go_wp2_with fail
  refine (takeText_ok a (Lm.lenL b.length ++ b) h1 (by simp; omega) _).mono ?_
  rintro e w4 ⟨rfl, hb4⟩
  go_wp2_with fail
  refine (takeText_end b h2 _).mono ?_
  rintro e w5 ⟨rfl, hb5⟩
  go_wp2_with fail
  go_ret
  exact ⟨rfl, bel_trans (bel_trans (bel_trans (bel_trans hb1 hb2) hb3) hb4) hb5⟩
end Go.Proofs.Ytpplplemjccdjaa
