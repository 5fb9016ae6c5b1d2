/-
  What LumpBack answers.
-/
import Derived.Test.YtpplplemjccdjaaShown
import Derived.Test.YtpplplemjccdjaaFTakeText
import Derived.Test.YtpplplemjccdjaaFText
namespace Go.Proofs.Ytpplplemjccdjaa
open Go.RowKit
attribute [local go_sem] ba_size ba_get ba_extract ba_append wrap_byte wrap_u64_byte take_drop_end
theorem h1i (t : List UInt8) (h : 65535 < t.length) : (65535 : Int) < (t.length : Int) := by omega
set_option maxHeartbeats 1000000 in
theorem back_walk (v : Nat) (hv : v < 18446744073709551616) (t s more : List UInt8) (ht : t.length ≤ 140737488351232) (hs : s.length ≤ 140737488351232) (hm : more.length ≤ 140737488351232) (w : World) :
    Calls Try.prog 7 #[.agg #[.int .u64 v, .string ⟨t.toArray⟩, .string ⟨s.toArray⟩, .string ⟨more.toArray⟩]] w fun e w' => e = .returned (.bool true) ∧ Below w.heap.size w w' := by
  have hnl := num_len v
  have hll := Lm.lenL_le t.length
  by_cases hg : (Lm.takeNumL s).2.2 = 0
  · obtain ⟨y, left, hy, rfl, hl9⟩ : ∃ y left, y < 18446744073709551616 ∧ s = Lm.numL y ++ left ∧ left.length ≤ 140737488351232 := by
      have := Lm.num_take s (Lm.takeNumL s).1 (Lm.takeNumL s).2.1 (by rw [← hg])
      refine ⟨_, _, by omega, this.1.symm, ?_⟩
      have e := congrArg List.length this.1
      simp at e; omega
    clear hg
    have hny := num_len y
    by_cases h1 : 65535 < t.length
    · have h1' := h1i t h1
      go_enter Try.func7, Try.ntmps7
      go_wp2_with fail
      refine (shown_any _).mono ?_
      rintro e w1 ⟨rfl, hb1⟩
      go_wp2_with fail
      refine (num_any v hv _).mono ?_
      rintro e w2 ⟨rfl, hb2⟩
      go_wp2_with fail
      refine (takeNum_num v hv more hm _).mono ?_
      rintro e w3 ⟨rfl, hb3⟩
      go_wp2_with fail
      refine (takeNum_num y hy left hl9 _).mono ?_
      rintro e w4 ⟨rfl, hb4⟩
      go_wp2_with fail
      refine (num_any y hy _).mono ?_
      rintro e w5 ⟨rfl, hb5⟩
      go_wp2_with fail
      refine (text_big t (by omega) h1 _).mono ?_
      rintro e w6 ⟨rfl, hb6⟩
      go_wp2_with fail
      go_ret
      exact ⟨rfl, bel_trans (bel_trans (bel_trans (bel_trans (bel_trans (bel_trans ((Below.refl _ _).alloc (Nat.le_refl _) _) hb1) hb2) hb3) hb4) hb5) hb6⟩
    · go_enter Try.func7, Try.ntmps7
      go_wp2_with fail
      refine (shown_any _).mono ?_
      rintro e w1 ⟨rfl, hb1⟩
      go_wp2_with fail
      refine (num_any v hv _).mono ?_
      rintro e w2 ⟨rfl, hb2⟩
      go_wp2_with fail
      refine (takeNum_num v hv more hm _).mono ?_
      rintro e w3 ⟨rfl, hb3⟩
      go_wp2_with fail
      refine (takeNum_num y hy left hl9 _).mono ?_
      rintro e w4 ⟨rfl, hb4⟩
      go_wp2_with fail
      refine (num_any y hy _).mono ?_
      rintro e w5 ⟨rfl, hb5⟩
      go_wp2_with fail
      refine (text_ok t h1 _).mono ?_
      rintro e w6 ⟨rfl, hb6⟩
      go_wp2_with fail
      refine (takeText_ok t more h1 (by omega) _).mono ?_
      rintro e w7 ⟨rfl, hb7⟩
      go_wp2_with fail
      go_ret
      exact ⟨rfl, bel_trans (bel_trans (bel_trans (bel_trans (bel_trans (bel_trans (bel_trans ((Below.refl _ _).alloc (Nat.le_refl _) _) hb1) hb2) hb3) hb4) hb5) hb6) hb7⟩
  · by_cases h1 : 65535 < t.length
    · have h1' := h1i t h1
      go_enter Try.func7, Try.ntmps7
      go_wp2_with fail
      refine (shown_any _).mono ?_
      rintro e w1 ⟨rfl, hb1⟩
      go_wp2_with fail
      refine (num_any v hv _).mono ?_
      rintro e w2 ⟨rfl, hb2⟩
      go_wp2_with fail
      refine (takeNum_num v hv more hm _).mono ?_
      rintro e w3 ⟨rfl, hb3⟩
      go_wp2_with fail
      refine (takeNum_bad s hs hg _).mono ?_
      rintro e w4 ⟨⟨y, g, left, hgb, rfl⟩, hb4⟩
      go_wp2_with fail
      refine (text_big t (by omega) h1 _).mono ?_
      rintro e w6 ⟨rfl, hb6⟩
      go_wp2_with fail
      go_ret
      exact ⟨rfl, bel_trans (bel_trans (bel_trans (bel_trans (bel_trans ((Below.refl _ _).alloc (Nat.le_refl _) _) hb1) hb2) hb3) hb4) hb6⟩
    · go_enter Try.func7, Try.ntmps7
      go_wp2_with fail
      refine (shown_any _).mono ?_
      rintro e w1 ⟨rfl, hb1⟩
      go_wp2_with fail
      refine (num_any v hv _).mono ?_
      rintro e w2 ⟨rfl, hb2⟩
      go_wp2_with fail
      refine (takeNum_num v hv more hm _).mono ?_
      rintro e w3 ⟨rfl, hb3⟩
      go_wp2_with fail
      refine (takeNum_bad s hs hg _).mono ?_
      rintro e w4 ⟨⟨y, g, left, hgb, rfl⟩, hb4⟩
      go_wp2_with fail
      refine (text_ok t h1 _).mono ?_
      rintro e w6 ⟨rfl, hb6⟩
      go_wp2_with fail
      refine (takeText_ok t more h1 (by omega) _).mono ?_
      rintro e w7 ⟨rfl, hb7⟩
      go_wp2_with fail
      go_ret
      exact ⟨rfl, bel_trans (bel_trans (bel_trans (bel_trans (bel_trans (bel_trans ((Below.refl _ _).alloc (Nat.le_refl _) _) hb1) hb2) hb3) hb4) hb6) hb7⟩
end Go.Proofs.Ytpplplemjccdjaa
