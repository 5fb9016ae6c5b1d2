/-
  What LumpCut answers.
-/
import Derived.Test.YtpplplemjccdjaaShown
import Derived.Test.YtpplplemjccdjaaFRow
import Derived.Test.YtpplplemjccdjaaFTakeRow
namespace Go.Proofs.Ytpplplemjccdjaa
open Go.RowKit
attribute [local go_sem] ba_size ba_get ba_extract ba_append wrap_byte wrap_u64_byte take_drop_end
set_option maxHeartbeats 2000000 in
theorem cut_walk (v : Nat) (hv : v < 18446744073709551616) (a1 : Option Addr) (n1 c1 : Nat) (ss : List (List UInt8)) (cut : Int) (w : World) (h1 : IsStrs w a1 n1 ss) :
    Calls Try.prog 9 #[.int .u64 v, .slice a1 n1 c1, .int .i64 cut] w fun e w' => e = .returned (.bool true) ∧ Below w.heap.size w w' := by
  have H1 : Hid (IsStrs w a1 n1 ss) := h1
  have hb : n1 ≤ 140737488351232 := h1.2.2.1
  clear h1
  have hn9 : (Lm.numL v).length ≤ 9 := by rw [Lm.numL_length]; have := Lm.cnt_le v; omega
  by_cases hs : Lm.rowOk ss = true
  · have HSS : Hid (Lm.rowOk ss = true) := hs
    obtain ⟨T, hT⟩ : ∃ T, Lm.lenL n1 ++ Lm.body ss = T := ⟨_, rfl⟩
    have hTl : T.length ≤ 4295032833 := by
      have hr := (Lm.rowOk_iff ss).1 hs
      have := Lm.body_length ss hr.2
      have := Lm.lenL_le n1
      rw [← hT, List.length_append]
      omega
    have HT : Hid (Lm.lenL n1 ++ Lm.body ss = T) := hT
    clear hs hT
    by_cases hc0 : cut < 0
    · go_enter Try.func9, Try.ntmps9
      go_wp2_with fail
      refine (shown_any _).mono ?_
      rintro e w1 ⟨rfl, hb1⟩
      go_wp2_with fail
      refine (num_any v hv _).mono ?_
      rintro e w2 ⟨rfl, hb2⟩
      go_wp2_with fail
      refine (row_goodT a1 n1 c1 ss T HT.out _ (H1.out.below (bel_trans hb1 hb2)) HSS.out).mono ?_
      rintro e w3 ⟨rfl, hb3⟩
      go_wp2_with fail
      go_ret
      exact ⟨rfl, bel_trans (bel_trans hb1 hb2) hb3⟩
    · obtain ⟨c, rfl⟩ := Int.eq_ofNat_of_zero_le (show 0 ≤ cut by omega)
      by_cases hcn : c < (Lm.numL v).length
      · by_cases hct : c < T.length
        · go_enter Try.func9, Try.ntmps9
          go_wp2_with fail
          refine (shown_any _).mono ?_
          rintro e w1 ⟨rfl, hb1⟩
          go_wp2_with fail
          refine (num_any v hv _).mono ?_
          rintro e w2 ⟨rfl, hb2⟩
          go_wp2_with fail
          refine (row_goodT a1 n1 c1 ss T HT.out _ (H1.out.below (bel_trans hb1 hb2)) HSS.out).mono ?_
          rintro e w3 ⟨rfl, hb3⟩
          go_wp2_with fail
          refine (takeNum_cut v c hcn _).mono ?_
          rintro e w4 ⟨⟨y, l, rfl⟩, hb4⟩
          go_wp2_with fail
          refine (takeRow_cut ss HSS.out n1 H1.out.1 T HT.out c hct _).mono ?_
          rintro e w5 ⟨⟨a, n', cap, l', rfl⟩, hb5⟩
          go_wp2_with fail
          go_ret
          exact ⟨rfl, bel_trans (bel_trans (bel_trans (bel_trans hb1 hb2) hb3) hb4) hb5⟩
        · go_enter Try.func9, Try.ntmps9
          go_wp2_with fail
          refine (shown_any _).mono ?_
          rintro e w1 ⟨rfl, hb1⟩
          go_wp2_with fail
          refine (num_any v hv _).mono ?_
          rintro e w2 ⟨rfl, hb2⟩
          go_wp2_with fail
          refine (row_goodT a1 n1 c1 ss T HT.out _ (H1.out.below (bel_trans hb1 hb2)) HSS.out).mono ?_
          rintro e w3 ⟨rfl, hb3⟩
          go_wp2_with fail
          refine (takeNum_cut v c hcn _).mono ?_
          rintro e w4 ⟨⟨y, l, rfl⟩, hb4⟩
          go_wp2_with fail
          go_ret
          exact ⟨rfl, bel_trans (bel_trans (bel_trans hb1 hb2) hb3) hb4⟩
      · by_cases hct : c < T.length
        · go_enter Try.func9, Try.ntmps9
          go_wp2_with fail
          refine (shown_any _).mono ?_
          rintro e w1 ⟨rfl, hb1⟩
          go_wp2_with fail
          refine (num_any v hv _).mono ?_
          rintro e w2 ⟨rfl, hb2⟩
          go_wp2_with fail
          refine (row_goodT a1 n1 c1 ss T HT.out _ (H1.out.below (bel_trans hb1 hb2)) HSS.out).mono ?_
          rintro e w3 ⟨rfl, hb3⟩
          go_wp2_with fail
          refine (takeRow_cut ss HSS.out n1 H1.out.1 T HT.out c hct _).mono ?_
          rintro e w5 ⟨⟨a, n', cap, l', rfl⟩, hb5⟩
          go_wp2_with fail
          go_ret
          exact ⟨rfl, bel_trans (bel_trans (bel_trans hb1 hb2) hb3) hb5⟩
        · go_enter Try.func9, Try.ntmps9
          go_wp2_with fail
          refine (shown_any _).mono ?_
          rintro e w1 ⟨rfl, hb1⟩
          go_wp2_with fail
          refine (num_any v hv _).mono ?_
          rintro e w2 ⟨rfl, hb2⟩
          go_wp2_with fail
          refine (row_goodT a1 n1 c1 ss T HT.out _ (H1.out.below (bel_trans hb1 hb2)) HSS.out).mono ?_
          rintro e w3 ⟨rfl, hb3⟩
          go_wp2_with fail
          go_ret
          exact ⟨rfl, bel_trans (bel_trans hb1 hb2) hb3⟩
  · have HSS : Hid (¬ Lm.rowOk ss = true) := hs
    clear hs
    have hor : cut < 0 ∨ ¬ cut < 0 := by omega
    rcases hor with hc0 | hc0
    all_goals
      go_enter Try.func9, Try.ntmps9
      go_wp2_with fail
      refine (shown_any _).mono ?_
      rintro e w1 ⟨rfl, hb1⟩
      go_wp2_with fail
      refine (num_any v hv _).mono ?_
      rintro e w2 ⟨rfl, hb2⟩
      go_wp2_with fail
      refine (row_bad a1 n1 c1 ss _ (H1.out.below (bel_trans hb1 hb2)) HSS.out).mono ?_
      rintro e w3 ⟨rfl, hb3⟩
      go_wp2_with fail
      go_ret
      exact ⟨rfl, bel_trans (bel_trans hb1 hb2) hb3⟩
end Go.Proofs.Ytpplplemjccdjaa
