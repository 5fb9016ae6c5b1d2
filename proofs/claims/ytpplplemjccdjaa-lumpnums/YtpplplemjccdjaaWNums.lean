/-
  What LumpNums answers.
-/
import Derived.Test.YtpplplemjccdjaaShown
import Derived.Test.YtpplplemjccdjaaFText
import Derived.Test.YtpplplemjccdjaaRText
import Derived.Test.YtpplplemjccdjaaRNum
namespace Go.Proofs.Ytpplplemjccdjaa
open Go.RowKit
attribute [local go_sem] ba_size ba_get ba_extract ba_append wrap_byte wrap_u64_byte take_drop_end
set_option maxHeartbeats 400000 in
theorem nums_walk (v : Nat) (hv : v < 18446744073709551616) (t : List UInt8) (ht : t.length ≤ 9223372036854775807) (w : World) :
    Calls Try.prog 3 #[.int .u64 v, .string ⟨t.toArray⟩] w fun e w' => e = .returned (.bool true) ∧ Below w.heap.size w w' := by
  go_enter Try.func3, Try.ntmps3
  go_wp2_with fail
  refine (shown_any _).mono ?_
  rintro e w1 ⟨rfl, hb1⟩
  go_wp2_with fail
  refine (text_any t ht _).mono ?_
  rintro e w2 ⟨rfl, hb2⟩
  go_wp2_with fail
  refine (refText_any t ht _).mono ?_
  rintro e w3 ⟨rfl, hb3⟩
  go_wp2_with fail
  refine (num_any v hv _).mono ?_
  rintro e w4 ⟨rfl, hb4⟩
  go_wp2_with fail
  refine (refNum_any v hv _).mono ?_
  rintro e w5 ⟨rfl, hb5⟩
  go_wp2_with fail
  go_ret
  exact ⟨rfl, bel_trans (bel_trans (bel_trans (bel_trans hb1 hb2) hb3) hb4) hb5⟩
end Go.Proofs.Ytpplplemjccdjaa
