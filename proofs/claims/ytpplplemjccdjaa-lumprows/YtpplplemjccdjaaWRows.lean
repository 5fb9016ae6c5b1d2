/-
  What LumpRows answers.
-/
import Derived.Test.YtpplplemjccdjaaShown
import Derived.Test.YtpplplemjccdjaaFRow
import Derived.Test.YtpplplemjccdjaaRRow
import Derived.Test.YtpplplemjccdjaaFTakeRow
import Derived.Test.YtpplplemjccdjaaRTakeRow
import Derived.Test.YtpplplemjccdjaaRSame
namespace Go.Proofs.Ytpplplemjccdjaa
open Go.RowKit
attribute [local go_sem] ba_size ba_get ba_extract ba_append wrap_byte wrap_u64_byte take_drop_end
set_option maxHeartbeats 1000000 in
theorem rows_walk (a1 : Option Addr) (n1 c1 : Nat) (ss : List (List UInt8)) (s : List UInt8) (many most : Int) (hs : s.length ≤ 9223372036854775807) (w : World) (h1 : IsStrs w a1 n1 ss) :
    Calls Try.prog 6 #[.agg #[.slice a1 n1 c1, .string ⟨s.toArray⟩, .int .i64 many, .int .i64 most]] w fun e w' => e = .returned (.bool true) ∧ Below w.heap.size w w' := by
  have hb0 : Below w.heap.size w (w.alloc (.cells #[.slice a1 n1 c1, .string ⟨s.toArray⟩, .int .i64 many, .int .i64 most] 43)) := (Below.refl _ _).alloc (Nat.le_refl _) _
  have H1 : Hid (IsStrs w a1 n1 ss) := h1
  clear h1
  go_enter Try.func6, Try.ntmps6
  go_wp2_with fail
  refine (shown_any _).mono ?_
  rintro e w1 ⟨rfl, hb1⟩
  go_wp2_with fail
  refine (row_any a1 n1 c1 ss _ (H1.out.below (bel_trans hb0 hb1))).mono ?_
  rintro e w2 ⟨rfl, hb2⟩
  go_wp2_with fail
  refine (refRow_any a1 n1 c1 ss _ (H1.out.below (bel_trans (bel_trans hb0 hb1) hb2))).mono ?_
  rintro e w3 ⟨rfl, hb3⟩
  go_wp2_with fail
  refine (takeRow_any s many most _ hs).mono ?_
  rintro e w4 ⟨⟨a2, n2, c2, rfl, h2⟩, hb4⟩
  have H2 : Hid (IsStrs w4 a2 n2 (Lm.takeRowL s many most).1) := h2
  clear h2
  go_wp2_with fail
  refine (refTakeRow_any s many most _ hs).mono ?_
  rintro e w5 ⟨⟨a3, n3, c3, rfl, h3⟩, hb5⟩
  have H3 : Hid (IsStrs w5 a3 n3 (Lm.takeRowL s many most).1) := h3
  clear h3
  go_wp2_with fail
  refine (same_any a2 a3 n2 n3 c2 c3 _ _ _ (H2.out.below hb5) H3.out).mono ?_
  rintro e w6 ⟨rfl, hb6⟩
  go_wp2_with fail
  go_ret
  exact ⟨rfl, bel_trans (bel_trans (bel_trans (bel_trans (bel_trans (bel_trans hb0 hb1) hb2) hb3) hb4) hb5) hb6⟩
end Go.Proofs.Ytpplplemjccdjaa
