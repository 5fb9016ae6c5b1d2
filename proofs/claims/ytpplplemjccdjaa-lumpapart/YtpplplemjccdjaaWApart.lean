/-
  What LumpApart answers.
-/
import Derived.Test.YtpplplemjccdjaaShown
import Derived.Test.YtpplplemjccdjaaFRow
import Derived.Test.YtpplplemjccdjaaRSame
namespace Go.Proofs.Ytpplplemjccdjaa
open Go.RowKit
attribute [local go_sem] ba_size ba_get ba_extract ba_append wrap_byte wrap_u64_byte take_drop_end
set_option maxHeartbeats 1000000 in
theorem apart_walk (a1 a2 : Option Addr) (n1 n2 c1 c2 : Nat) (ss tt : List (List UInt8)) (w : World) (h1 : IsStrs w a1 n1 ss) (h2 : IsStrs w a2 n2 tt) :
    Calls Try.prog 10 #[.slice a1 n1 c1, .slice a2 n2 c2] w fun e w' => e = .returned (.bool true) ∧ Below w.heap.size w w' := by
  have H1 : Hid (IsStrs w a1 n1 ss) := h1
  have H2 : Hid (IsStrs w a2 n2 tt) := h2
  clear h1 h2
  by_cases hs : Lm.rowOk ss = true
  · have HSS : Hid (Lm.rowOk ss = true) := hs
    clear hs
    by_cases ht : Lm.rowOk tt = true
    · have HTT : Hid (Lm.rowOk tt = true) := ht
      clear ht
      have heq : (Lm.lenL n1 ++ Lm.body ss == Lm.lenL n2 ++ Lm.body tt) = decide (ss = tt) := by
        rw [Bool.eq_iff_iff, beq_iff_eq, decide_eq_true_iff, ← H1.out.1, ← H2.out.1]
        exact Lm.row_inj ss tt HSS.out HTT.out
      go_enter Try.func10, Try.ntmps10
      go_wp2_with fail
      refine (shown_any _).mono ?_
      rintro e w1 ⟨rfl, hb1⟩
      go_wp2_with fail
      refine (row_good a1 n1 c1 ss _ (H1.out.below hb1) HSS.out).mono ?_
      rintro e w2 ⟨rfl, hb2⟩
      go_wp2_with fail
      refine (row_good a2 n2 c2 tt _ (H2.out.below (bel_trans hb1 hb2)) HTT.out).mono ?_
      rintro e w3 ⟨rfl, hb3⟩
      go_wp2_with fail
      refine (same_any a1 a2 n1 n2 c1 c2 ss tt _ (H1.out.below (bel_trans (bel_trans hb1 hb2) hb3)) (H2.out.below (bel_trans (bel_trans hb1 hb2) hb3))).mono ?_
      rintro e w4 ⟨rfl, hb4⟩
      go_wp2_with fail
      go_ret
      exact ⟨rfl, bel_trans (bel_trans (bel_trans hb1 hb2) hb3) hb4⟩
    · have HTT : Hid (¬ Lm.rowOk tt = true) := ht
      clear ht
      go_enter Try.func10, Try.ntmps10
      go_wp2_with fail
      refine (shown_any _).mono ?_
      rintro e w1 ⟨rfl, hb1⟩
      go_wp2_with fail
      refine (row_good a1 n1 c1 ss _ (H1.out.below hb1) HSS.out).mono ?_
      rintro e w2 ⟨rfl, hb2⟩
      go_wp2_with fail
      refine (row_bad a2 n2 c2 tt _ (H2.out.below (bel_trans hb1 hb2)) HTT.out).mono ?_
      rintro e w3 ⟨rfl, hb3⟩
      go_wp2_with fail
      go_ret
      exact ⟨rfl, bel_trans (bel_trans hb1 hb2) hb3⟩
  · have HSS : Hid (¬ Lm.rowOk ss = true) := hs
    clear hs
    go_enter Try.func10, Try.ntmps10
    go_wp2_with fail
    refine (shown_any _).mono ?_
    rintro e w1 ⟨rfl, hb1⟩
    go_wp2_with fail
    refine (row_bad a1 n1 c1 ss _ (H1.out.below hb1) HSS.out).mono ?_
    rintro e w2 ⟨rfl, hb2⟩
    go_wp2_with fail
    refine (row_any a2 n2 c2 tt _ (H2.out.below (bel_trans hb1 hb2))).mono ?_
    rintro e w3 ⟨rfl, hb3⟩
    go_wp2_with fail
    go_ret
    exact ⟨rfl, bel_trans (bel_trans hb1 hb2) hb3⟩
end Go.Proofs.Ytpplplemjccdjaa
