/-
  What LumpRowBack answers.
-/
import Derived.Test.YtpplplemjccdjaaShown
import Derived.Test.YtpplplemjccdjaaFRow
import Derived.Test.YtpplplemjccdjaaFTakeRow
import Derived.Test.YtpplplemjccdjaaRSame
namespace Go.Proofs.Ytpplplemjccdjaa
open Go.RowKit
attribute [local go_sem] ba_size ba_get ba_extract ba_append wrap_byte wrap_u64_byte take_drop_end
set_option maxHeartbeats 1000000 in
theorem rowBack_walk (a1 : Option Addr) (n1 c1 : Nat) (ss : List (List UInt8)) (more : List UInt8) (hm : more.length ≤ 140737488351232) (w : World) (h1 : IsStrs w a1 n1 ss) :
    Calls Try.prog 8 #[.slice a1 n1 c1, .string ⟨more.toArray⟩] w fun e w' => e = .returned (.bool true) ∧ Below w.heap.size w w' := by
  have H1 : Hid (IsStrs w a1 n1 ss) := h1
  have hb : n1 ≤ 140737488351232 := h1.2.2.1
  clear h1
  by_cases hs : Lm.rowOk ss = true
  · have HSS : Hid (Lm.rowOk ss = true) := hs
    have hln : (Lm.lenL n1).length ≤ 3 := Lm.lenL_le n1
    have hbl : (Lm.body ss).length ≤ 4295032830 := by
      have hr := (Lm.rowOk_iff ss).1 hs
      have := Lm.body_length ss hr.2
      omega
    clear hs
    go_enter Try.func8, Try.ntmps8
    go_wp2_with fail
    refine (shown_any _).mono ?_
    rintro e w1 ⟨rfl, hb1⟩
    go_wp2_with fail
    refine (row_good a1 n1 c1 ss _ (H1.out.below hb1) HSS.out).mono ?_
    rintro e w2 ⟨rfl, hb2⟩
    go_wp2_with fail
    refine (takeRow_back ss HSS.out n1 H1.out.1 more hm _).mono ?_
    rintro e w3 ⟨⟨a2, n2, c2, rfl, h2⟩, hb3⟩
    have H2 : Hid (IsStrs w3 a2 n2 ss) := h2
    clear h2
    go_wp2_with fail
    refine (same_any a2 a1 n2 n1 c2 c1 ss ss _ H2.out (H1.out.below (bel_trans (bel_trans hb1 hb2) hb3))).mono ?_
    rintro e w4 ⟨rfl, hb4⟩
    go_wp2_with fail
    go_ret
    exact ⟨rfl, bel_trans (bel_trans (bel_trans hb1 hb2) hb3) hb4⟩
  · have HSS : Hid (¬ Lm.rowOk ss = true) := hs
    clear hs
    go_enter Try.func8, Try.ntmps8
    go_wp2_with fail
    refine (shown_any _).mono ?_
    rintro e w1 ⟨rfl, hb1⟩
    go_wp2_with fail
    refine (row_bad a1 n1 c1 ss _ (H1.out.below hb1) HSS.out).mono ?_
    rintro e w2 ⟨rfl, hb2⟩
    go_wp2_with fail
    go_ret
    exact ⟨rfl, bel_trans hb1 hb2⟩
end Go.Proofs.Ytpplplemjccdjaa
