/-
  What LumpRowBack and LumpCut answer.
-/
import Derived.Test.YtpplplemjccdjaaProg
import Derived.Test.YtpplplemjccdjaaMath
import Derived.Test.YtpplplemjccdjaaBase
import Derived.Test.YtpplplemjccdjaaTakeRw
import Derived.Test.YtpplplemjccdjaaApart
import Derived.BigQuiet
import Derived.Deep.QuietTactic
namespace Go.Proofs.Ytpplplemjccdjaa
open Go.RowKit
attribute [local go_sem] ba_size ba_get ba_extract ba_append wrap_byte wrap_u64_byte take_drop_end
theorem takeRow_back (ss : List (List UInt8)) (hok : Lm.rowOk ss = true) (n : Nat) (hn : ss.length = n) (more : List UInt8) (hm : more.length ≤ 140737488351232) (w : World) :
    Calls Try.prog 24 #[.string ⟨(Lm.lenL n ++ (Lm.body ss ++ more)).toArray⟩, .int .i64 n, .int .i64 65535] w fun e w' => (∃ a n' cap, e = .returned (.tuple #[.slice a n' cap, .string ⟨more.toArray⟩, .int .i64 0]) ∧ IsStrs w' a n' ss) ∧ Below w.heap.size w w' := by
  subst hn
  have hr := (Lm.rowOk_iff ss).1 hok
  have h1 := Lm.body_length ss hr.2
  have h2 := Lm.lenL_le ss.length
  have h := takeRow_any (Lm.lenL ss.length ++ (Lm.body ss ++ more)) ss.length 65535 w (by simp only [List.length_append]; omega)
  rw [← List.append_assoc, Lm.takeRow_row ss hok more] at h
  rw [← List.append_assoc]
  exact h
set_option maxHeartbeats 1000000 in
theorem rowBack_walk (a1 : Option Addr) (n1 c1 : Nat) (ss : List (List UInt8)) (more : List UInt8) (hm : more.length ≤ 140737488351232) (w : World) (h1 : IsStrs w a1 n1 ss) :
    Calls Try.prog 8 #[.slice a1 n1 c1, .string ⟨more.toArray⟩] w fun e w' => e = .returned (.bool true) ∧ Below w.heap.size w w' := by
  have H1 : Hid (IsStrs w a1 n1 ss) := h1
  have hb : n1 ≤ 140737488351232 := h1.2.2.1
  clear h1
  by_cases hs : Lm.rowOk ss = true
  · have HSS : Hid (Lm.rowOk ss = true) := hs
    have hln : (Lm.lenL n1).length ≤ 3 := Lm.lenL_le n1
    have hbl : (Lm.body ss).length ≤ 4295032830 := by
      have hr := (Lm.rowOk_iff ss).1 hs
      have := Lm.body_length ss hr.2
      omega
    clear hs
    go_enter Try.func8, Try.ntmps8
    go_wp2_with fail
    refine (shown_any _).mono ?_
    rintro e w1 ⟨rfl, hb1⟩
    go_wp2_with fail
    refine (row_good a1 n1 c1 ss _ (H1.out.below hb1) HSS.out).mono ?_
    rintro e w2 ⟨rfl, hb2⟩
    go_wp2_with fail
    refine (takeRow_back ss HSS.out n1 H1.out.1 more hm _).mono ?_
    rintro e w3 ⟨⟨a2, n2, c2, rfl, h2⟩, hb3⟩
    have H2 : Hid (IsStrs w3 a2 n2 ss) := h2
    clear h2
    go_wp2_with fail
    refine (same_any a2 a1 n2 n1 c2 c1 ss ss _ H2.out (H1.out.below (bel_trans (bel_trans hb1 hb2) hb3))).mono ?_
    rintro e w4 ⟨rfl, hb4⟩
    go_wp2_with fail
    go_ret
    exact ⟨rfl, bel_trans (bel_trans (bel_trans hb1 hb2) hb3) hb4⟩
  · have HSS : Hid (¬ Lm.rowOk ss = true) := hs
    clear hs
    go_enter Try.func8, Try.ntmps8
    go_wp2_with fail
    refine (shown_any _).mono ?_
    rintro e w1 ⟨rfl, hb1⟩
    go_wp2_with fail
    refine (row_bad a1 n1 c1 ss _ (H1.out.below hb1) HSS.out).mono ?_
    rintro e w2 ⟨rfl, hb2⟩
    go_wp2_with fail
    go_ret
    exact ⟨rfl, bel_trans hb1 hb2⟩
/-! ### LumpCut -/
theorem takeNum_cut (v c : Nat) (hc : c < (Lm.numL v).length) (w : World) :
    Calls Try.prog 18 #[.string ⟨((Lm.numL v).take c).toArray⟩] w fun e w' => (∃ (y : Nat) (l : List UInt8), e = .returned (.tuple #[.int .u64 y, .string ⟨l.toArray⟩, .int .i64 2])) ∧ Below w.heap.size w w' := by
  have h9 : (Lm.numL v).length ≤ 9 := by rw [Lm.numL_length]; have := Lm.cnt_le v; omega
  have h := takeNum_any ((Lm.numL v).take c) w (by simp; omega)
  rw [Lm.takeNum_short v c hc] at h
  refine h.mono ?_
  rintro e w' ⟨rfl, hb⟩
  exact ⟨⟨_, _, rfl⟩, hb⟩
theorem takeRow_cut (ss : List (List UInt8)) (hok : Lm.rowOk ss = true) (n : Nat) (hn : ss.length = n) (T : List UInt8) (hT : Lm.lenL n ++ Lm.body ss = T) (c : Nat) (hc : c < T.length) (w : World) :
    Calls Try.prog 24 #[.string ⟨(T.take c).toArray⟩, .int .i64 n, .int .i64 65535] w fun e w' => (∃ a n' cap l, e = .returned (.tuple #[.slice a n' cap, .string l, .int .i64 2])) ∧ Below w.heap.size w w' := by
  subst hn hT
  have hr := (Lm.rowOk_iff ss).1 hok
  have h1 := Lm.body_length ss hr.2
  have h2 := Lm.lenL_le ss.length
  have h := takeRow_any ((Lm.lenL ss.length ++ Lm.body ss).take c) ss.length 65535 w (by simp only [List.length_append, List.length_take]; omega)
  rw [Lm.takeRow_short ss hok c hc] at h
  refine h.mono ?_
  rintro e w' ⟨⟨a, n', cap, rfl, -⟩, hb⟩
  exact ⟨⟨_, _, _, _, rfl⟩, hb⟩
theorem row_goodT (a : Option Addr) (n cap : Nat) (ss : List (List UInt8)) (T : List UInt8) (hT : Lm.lenL n ++ Lm.body ss = T) (w : World) (h : IsStrs w a n ss) (hok : Lm.rowOk ss = true) :
    Calls Try.prog 22 #[.slice a n cap] w fun e w' => e = .returned (.tuple #[.string ⟨T.toArray⟩, .int .i64 0]) ∧ Below w.heap.size w w' := by
  subst hT; exact row_good a n cap ss w h hok
set_option maxHeartbeats 2000000 in
theorem cut_walk (v : Nat) (hv : v < 18446744073709551616) (a1 : Option Addr) (n1 c1 : Nat) (ss : List (List UInt8)) (cut : Int) (w : World) (h1 : IsStrs w a1 n1 ss) :
    Calls Try.prog 9 #[.int .u64 v, .slice a1 n1 c1, .int .i64 cut] w fun e w' => e = .returned (.bool true) ∧ Below w.heap.size w w' := by
  have H1 : Hid (IsStrs w a1 n1 ss) := h1
  have hb : n1 ≤ 140737488351232 := h1.2.2.1
  clear h1
  have hn9 : (Lm.numL v).length ≤ 9 := by rw [Lm.numL_length]; have := Lm.cnt_le v; omega
  by_cases hs : Lm.rowOk ss = true
  · have HSS : Hid (Lm.rowOk ss = true) := hs
    obtain ⟨T, hT⟩ : ∃ T, Lm.lenL n1 ++ Lm.body ss = T := ⟨_, rfl⟩
    have hTl : T.length ≤ 4295032833 := by
      have hr := (Lm.rowOk_iff ss).1 hs
      have := Lm.body_length ss hr.2
      have := Lm.lenL_le n1
      rw [← hT, List.length_append]
      omega
    have HT : Hid (Lm.lenL n1 ++ Lm.body ss = T) := hT
    clear hs hT
    by_cases hc0 : cut < 0
    · go_enter Try.func9, Try.ntmps9
      go_wp2_with fail
      refine (shown_any _).mono ?_
      rintro e w1 ⟨rfl, hb1⟩
      go_wp2_with fail
      refine (num_any v hv _).mono ?_
      rintro e w2 ⟨rfl, hb2⟩
      go_wp2_with fail
      refine (row_goodT a1 n1 c1 ss T HT.out _ (H1.out.below (bel_trans hb1 hb2)) HSS.out).mono ?_
      rintro e w3 ⟨rfl, hb3⟩
      go_wp2_with fail
      go_ret
      exact ⟨rfl, bel_trans (bel_trans hb1 hb2) hb3⟩
    · obtain ⟨c, rfl⟩ := Int.eq_ofNat_of_zero_le (show 0 ≤ cut by omega)
      by_cases hcn : c < (Lm.numL v).length
      · by_cases hct : c < T.length
        · go_enter Try.func9, Try.ntmps9
          go_wp2_with fail
          refine (shown_any _).mono ?_
          rintro e w1 ⟨rfl, hb1⟩
          go_wp2_with fail
          refine (num_any v hv _).mono ?_
          rintro e w2 ⟨rfl, hb2⟩
          go_wp2_with fail
          refine (row_goodT a1 n1 c1 ss T HT.out _ (H1.out.below (bel_trans hb1 hb2)) HSS.out).mono ?_
          rintro e w3 ⟨rfl, hb3⟩
          go_wp2_with fail
          refine (takeNum_cut v c hcn _).mono ?_
          rintro e w4 ⟨⟨y, l, rfl⟩, hb4⟩
          go_wp2_with fail
          refine (takeRow_cut ss HSS.out n1 H1.out.1 T HT.out c hct _).mono ?_
          rintro e w5 ⟨⟨a, n', cap, l', rfl⟩, hb5⟩
          go_wp2_with fail
          go_ret
          exact ⟨rfl, bel_trans (bel_trans (bel_trans (bel_trans hb1 hb2) hb3) hb4) hb5⟩
        · go_enter Try.func9, Try.ntmps9
          go_wp2_with fail
          refine (shown_any _).mono ?_
          rintro e w1 ⟨rfl, hb1⟩
          go_wp2_with fail
          refine (num_any v hv _).mono ?_
          rintro e w2 ⟨rfl, hb2⟩
          go_wp2_with fail
          refine (row_goodT a1 n1 c1 ss T HT.out _ (H1.out.below (bel_trans hb1 hb2)) HSS.out).mono ?_
          rintro e w3 ⟨rfl, hb3⟩
          go_wp2_with fail
          refine (takeNum_cut v c hcn _).mono ?_
          rintro e w4 ⟨⟨y, l, rfl⟩, hb4⟩
          go_wp2_with fail
          go_ret
          exact ⟨rfl, bel_trans (bel_trans (bel_trans hb1 hb2) hb3) hb4⟩
      · by_cases hct : c < T.length
        · go_enter Try.func9, Try.ntmps9
          go_wp2_with fail
          refine (shown_any _).mono ?_
          rintro e w1 ⟨rfl, hb1⟩
          go_wp2_with fail
          refine (num_any v hv _).mono ?_
          rintro e w2 ⟨rfl, hb2⟩
          go_wp2_with fail
          refine (row_goodT a1 n1 c1 ss T HT.out _ (H1.out.below (bel_trans hb1 hb2)) HSS.out).mono ?_
          rintro e w3 ⟨rfl, hb3⟩
          go_wp2_with fail
          refine (takeRow_cut ss HSS.out n1 H1.out.1 T HT.out c hct _).mono ?_
          rintro e w5 ⟨⟨a, n', cap, l', rfl⟩, hb5⟩
          go_wp2_with fail
          go_ret
          exact ⟨rfl, bel_trans (bel_trans (bel_trans hb1 hb2) hb3) hb5⟩
        · go_enter Try.func9, Try.ntmps9
          go_wp2_with fail
          refine (shown_any _).mono ?_
          rintro e w1 ⟨rfl, hb1⟩
          go_wp2_with fail
          refine (num_any v hv _).mono ?_
          rintro e w2 ⟨rfl, hb2⟩
          go_wp2_with fail
          refine (row_goodT a1 n1 c1 ss T HT.out _ (H1.out.below (bel_trans hb1 hb2)) HSS.out).mono ?_
          rintro e w3 ⟨rfl, hb3⟩
          go_wp2_with fail
          go_ret
          exact ⟨rfl, bel_trans (bel_trans hb1 hb2) hb3⟩
  · have HSS : Hid (¬ Lm.rowOk ss = true) := hs
    clear hs
    have hor : cut < 0 ∨ ¬ cut < 0 := by omega
    rcases hor with hc0 | hc0
    all_goals
      go_enter Try.func9, Try.ntmps9
      go_wp2_with fail
      refine (shown_any _).mono ?_
      rintro e w1 ⟨rfl, hb1⟩
      go_wp2_with fail
      refine (num_any v hv _).mono ?_
      rintro e w2 ⟨rfl, hb2⟩
      go_wp2_with fail
      refine (row_bad a1 n1 c1 ss _ (H1.out.below (bel_trans hb1 hb2)) HSS.out).mono ?_
      rintro e w3 ⟨rfl, hb3⟩
      go_wp2_with fail
      go_ret
      exact ⟨rfl, bel_trans (bel_trans hb1 hb2) hb3⟩
end Go.Proofs.Ytpplplemjccdjaa
