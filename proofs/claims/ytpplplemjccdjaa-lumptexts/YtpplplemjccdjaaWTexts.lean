/-
  What LumpTexts answers.
-/
import Derived.Test.YtpplplemjccdjaaShown
import Derived.Test.YtpplplemjccdjaaFTakeText
import Derived.Test.YtpplplemjccdjaaRTakeText
namespace Go.Proofs.Ytpplplemjccdjaa
open Go.RowKit
attribute [local go_sem] ba_size ba_get ba_extract ba_append wrap_byte wrap_u64_byte take_drop_end
set_option maxHeartbeats 400000 in
theorem texts_walk (s : List UInt8) (most : Int) (hs : s.length ≤ 9223372036854775807) (w : World) :
    Calls Try.prog 5 #[.string ⟨s.toArray⟩, .int .i64 most] w fun e w' => e = .returned (.bool true) ∧ Below w.heap.size w w' := by
  go_enter Try.func5, Try.ntmps5
  go_wp2_with fail
  refine (shown_any _).mono ?_
  rintro e w1 ⟨rfl, hb1⟩
  go_wp2_with fail
  refine (takeText_any s most _ hs).mono ?_
  rintro e w2 ⟨rfl, hb2⟩
  go_wp2_with fail
  refine (refTakeText_any s most _ hs).mono ?_
  rintro e w3 ⟨rfl, hb3⟩
  go_wp2_with fail
  go_ret
  exact ⟨rfl, bel_trans (bel_trans hb1 hb2) hb3⟩
end Go.Proofs.Ytpplplemjccdjaa
