/-
  The walk of TreeDiffer.
-/
import Derived.Test.YtlkkdfopecbekaaDoorZShown3
import Derived.Test.YtlkkdfopecbekaaDoorZW3L
import Derived.Test.YtlkkdfopecbekaaDoorGG
namespace Go.Proofs.YtlkkdfopecbekaaDoor
set_option maxRecDepth 100000
open Go.RowKit
set_option linter.unusedVariables false
attribute [local go_sem] ba_size
set_option maxHeartbeats 4000000 in
theorem differ_walk (w : World) (va : Value) (a : List (List UInt8)) (hTa : IsTxt w va a) (hBa : ∀ s ∈ a, s.length ≤ 140737488351232) (vb : Value) (b : List (List UInt8)) (hTb : IsTxt w vb b) (hBb : ∀ s ∈ b, s.length ≤ 140737488351232) (hG : G w) :
    Calls Tryd.prog 8 #[va, vb] w fun e w' => e = .returned (.bool true) ∧ Below w.heap.size w w' := by
  have hg3 := hG.size
  have HSh : Hid (∀ W, Below w.heap.size w W → Calls Tryd.prog 12 #[] W fun e w' => e = .returned (.bool true) ∧ Below W.heap.size W w') := fun W h => shown3_any W (hG.below h hg3)
  have HFa : Hid (∀ W, Below w.heap.size w W → Calls Tryd.prog 13 #[va] W fun e w' => e = .returned (.bool (fewL a)) ∧ Below W.heap.size W w') := fun W h => few_any a va W (hTa.below h)
  have HFb : Hid (∀ W, Below w.heap.size w W → Calls Tryd.prog 13 #[vb] W fun e w' => e = .returned (.bool (fewL b)) ∧ Below W.heap.size W w') := fun W h => few_any b vb W (hTb.below h)
  have HSm : Hid (∀ W, Below w.heap.size w W → Calls Tryd.prog 18 #[va, vb] W fun e w' => e = .returned (.bool (decide (a = b))) ∧ Below W.heap.size W w') := fun W h => same_txt va vb a b W (hTa.below h) (hTb.below h)
  have HRa : Hid (∀ W, Below w.heap.size w W → Calls Tryd.prog 14 #[va] W fun e w' => e = .returned (.tuple #[.string ⟨(rootV a).1.toArray⟩, .int .i64 ((rootV a).2 : Nat)]) ∧ Below W.heap.size W w') := fun W h => proot_all a va W (hG.below h hg3) (hTa.below h)
  have HRb : Hid (∀ W, Below w.heap.size w W → Calls Tryd.prog 14 #[vb] W fun e w' => e = .returned (.tuple #[.string ⟨(rootV b).1.toArray⟩, .int .i64 ((rootV b).2 : Nat)]) ∧ Below W.heap.size W w') := fun W h => proot_all b vb W (hG.below h hg3) (hTb.below h)
  have HD : Hid (∀ W, Below w.heap.size w W → Calls Tryd.prog 29 #[va, vb] W fun e w' => e = .returned (unV (differL sumL a b)) ∧ Below W.heap.size W w') := fun W h => pDiffer_any a b va vb W (hG.below h hg3) (hTa.below h) (hTb.below h) (fun s hs => by have := hBa s hs; omega) (fun s hs => by have := hBb s hs; omega)
  obtain ⟨aa, ca, rfl, _, _, _⟩ := hTa.len
  obtain ⟨ab, cb, rfl, _, _, _⟩ := hTb.len
  clear hTa hTb
  cases hfa : fewL a with
  | false =>
    rw [hfa] at HFa
    obtain ⟨⟨ra, ea⟩, hra⟩ : ∃ z, rootV a = z := ⟨_, rfl⟩
    obtain ⟨⟨rb, eb⟩, hrb⟩ : ∃ z, rootV b = z := ⟨_, rfl⟩
    rw [hra] at HRa
    rw [hrb] at HRb
    obtain ⟨sm, hsm⟩ : ∃ sm, decide (a = b) = sm := ⟨_, rfl⟩
    rw [hsm] at HSm
    clear hfa hra hrb hsm hBa hBb HD HFb
    go_enter Tryd.func8, Tryd.ntmps8
    go_wp2_with fail
    refine (HSh.out w (Below.refl _ _)).mono ?_
    rintro e w1 ⟨rfl, b1⟩
    have B1 := bel_trans (Below.refl _ _) b1
    go_wp2_with fail
    refine (HFa.out w1 B1).mono ?_
    rintro e w2 ⟨rfl, b2⟩
    have B2 := bel_trans B1 b2
    go_wp2_with fail
    refine (HSm.out w2 B2).mono ?_
    rintro e w3 ⟨rfl, b3⟩
    have B3 := bel_trans B2 b3
    go_wp2_with fail
    refine (HRa.out w3 B3).mono ?_
    rintro e w4 ⟨rfl, b4⟩
    have B4 := bel_trans B3 b4
    go_wp2_with fail
    refine (HRb.out w4 B4).mono ?_
    rintro e w5 ⟨rfl, b5⟩
    have B5 := bel_trans B4 b5
    go_wp2_with fail
    go_ret
    exact ⟨rfl, B5⟩
  | true =>
    rw [hfa] at HFa
    cases hfb : fewL b with
    | false =>
      rw [hfb] at HFb
      obtain ⟨⟨ra, ea⟩, hra⟩ : ∃ z, rootV a = z := ⟨_, rfl⟩
      obtain ⟨⟨rb, eb⟩, hrb⟩ : ∃ z, rootV b = z := ⟨_, rfl⟩
      rw [hra] at HRa
      rw [hrb] at HRb
      obtain ⟨sm, hsm⟩ : ∃ sm, decide (a = b) = sm := ⟨_, rfl⟩
      rw [hsm] at HSm
      clear hfa hfb hra hrb hsm hBa hBb HD
      go_enter Tryd.func8, Tryd.ntmps8
      go_wp2_with fail
      refine (HSh.out w (Below.refl _ _)).mono ?_
      rintro e w1 ⟨rfl, b1⟩
      have B1 := bel_trans (Below.refl _ _) b1
      go_wp2_with fail
      refine (HFa.out w1 B1).mono ?_
      rintro e w2 ⟨rfl, b2⟩
      have B2 := bel_trans B1 b2
      go_wp2_with fail
      refine (HFb.out w2 B2).mono ?_
      rintro e w3 ⟨rfl, b3⟩
      have B3 := bel_trans B2 b3
      go_wp2_with fail
      refine (HSm.out w3 B3).mono ?_
      rintro e w4 ⟨rfl, b4⟩
      have B4 := bel_trans B3 b4
      go_wp2_with fail
      refine (HRa.out w4 B4).mono ?_
      rintro e w5 ⟨rfl, b5⟩
      have B5 := bel_trans B4 b5
      go_wp2_with fail
      refine (HRb.out w5 B5).mono ?_
      rintro e w6 ⟨rfl, b6⟩
      have B6 := bel_trans B5 b6
      go_wp2_with fail
      go_ret
      exact ⟨rfl, B6⟩
    | true =>
      rw [hfb] at HFb
      have la := fewL_len hfa
      have lb := fewL_len hfb
      rw [rootV_few la] at HRa
      rw [rootV_few lb] at HRb
      have hds := differ_some sumL sumL_len32 a b (by omega) (by omega)
      have hho := differL_honest sumL a b
      have hbo := differ_bound a b la lb hBa hBb
      clear hfa hfb hBa hBb
      obtain ⟨x, hx⟩ : ∃ x, rootL sumL a = x := ⟨_, rfl⟩
      obtain ⟨y, hy⟩ : ∃ y, rootL sumL b = y := ⟨_, rfl⟩
      obtain ⟨O, hO⟩ : ∃ O, differL sumL a b = O := ⟨_, rfl⟩
      rw [hx] at HRa hds
      rw [hy] at HRb hds
      rw [hO] at HD hds hho hbo
      clear hx hy hO
      by_cases hab : a = b
      · rw [decide_eq_true hab] at HSm
        clear hds hho hbo HD hab
        go_enter Tryd.func8, Tryd.ntmps8
        go_wp2_with fail
        refine (HSh.out w (Below.refl _ _)).mono ?_
        rintro e w1 ⟨rfl, b1⟩
        have B1 := bel_trans (Below.refl _ _) b1
        go_wp2_with fail
        refine (HFa.out w1 B1).mono ?_
        rintro e w2 ⟨rfl, b2⟩
        have B2 := bel_trans B1 b2
        go_wp2_with fail
        refine (HFb.out w2 B2).mono ?_
        rintro e w3 ⟨rfl, b3⟩
        have B3 := bel_trans B2 b3
        go_wp2_with fail
        refine (HSm.out w3 B3).mono ?_
        rintro e w4 ⟨rfl, b4⟩
        have B4 := bel_trans B3 b4
        go_wp2_with fail
        refine (HRa.out w4 B4).mono ?_
        rintro e w5 ⟨rfl, b5⟩
        have B5 := bel_trans B4 b5
        go_wp2_with fail
        refine (HRb.out w5 B5).mono ?_
        rintro e w6 ⟨rfl, b6⟩
        have B6 := bel_trans B5 b6
        go_wp2_with fail
        go_ret
        exact ⟨rfl, B6⟩
      · rw [decide_eq_false hab] at HSm
        by_cases hxy : x = y
        · have exy : (x == y) = true := by rw [hxy]; exact beq_self_eq_true y
          obtain ⟨⟨s, t⟩, rfl⟩ := hds hxy hab
          obtain ⟨hst, hs⟩ := hho s t rfl
          obtain ⟨ls, lt⟩ := hbo s t rfl
          have est : (s == t) = false := beq_eq_false_iff_ne.2 hst
          have S1 := fun w1 => rsG_any s (by omega) w1
          have S2 := fun w1 => rsG_any t (by omega) w1
          obtain ⟨u, hu⟩ : ∃ u, sumL s = u := ⟨_, rfl⟩
          rw [hu] at S1 hs
          rw [← hs] at S2
          clear hds hho hbo hab hst hs hu hxy
          go_enter Tryd.func8, Tryd.ntmps8
          go_wp2_with fail
          refine (HSh.out w (Below.refl _ _)).mono ?_
          rintro e w1 ⟨rfl, b1⟩
          have B1 := bel_trans (Below.refl _ _) b1
          go_wp2_with fail
          refine (HFa.out w1 B1).mono ?_
          rintro e w2 ⟨rfl, b2⟩
          have B2 := bel_trans B1 b2
          go_wp2_with fail
          refine (HFb.out w2 B2).mono ?_
          rintro e w3 ⟨rfl, b3⟩
          have B3 := bel_trans B2 b3
          go_wp2_with fail
          refine (HSm.out w3 B3).mono ?_
          rintro e w4 ⟨rfl, b4⟩
          have B4 := bel_trans B3 b4
          go_wp2_with fail
          refine (HRa.out w4 B4).mono ?_
          rintro e w5 ⟨rfl, b5⟩
          have B5 := bel_trans B4 b5
          go_wp2_with fail
          refine (HRb.out w5 B5).mono ?_
          rintro e w6 ⟨rfl, b6⟩
          have B6 := bel_trans B5 b6
          go_wp2_with fail
          refine (HD.out w6 B6).mono ?_
          rintro e w7 ⟨rfl, b7⟩
          have B7 := bel_trans B6 b7
          simp only [unV]
          go_wp2_with fail
          refine (S1 w7).mono ?_
          rintro e w8 ⟨rfl, b8⟩
          have B8 := bel_trans B7 b8
          go_wp2_with fail
          refine (S2 w8).mono ?_
          rintro e w9 ⟨rfl, b9⟩
          have B9 := bel_trans B8 b9
          go_wp2_with fail
          go_ret
          exact ⟨rfl, B9⟩
        · have exy : (x == y) = false := beq_eq_false_iff_ne.2 hxy
          clear hds hho hbo hab hxy HD
          go_enter Tryd.func8, Tryd.ntmps8
          go_wp2_with fail
          refine (HSh.out w (Below.refl _ _)).mono ?_
          rintro e w1 ⟨rfl, b1⟩
          have B1 := bel_trans (Below.refl _ _) b1
          go_wp2_with fail
          refine (HFa.out w1 B1).mono ?_
          rintro e w2 ⟨rfl, b2⟩
          have B2 := bel_trans B1 b2
          go_wp2_with fail
          refine (HFb.out w2 B2).mono ?_
          rintro e w3 ⟨rfl, b3⟩
          have B3 := bel_trans B2 b3
          go_wp2_with fail
          refine (HSm.out w3 B3).mono ?_
          rintro e w4 ⟨rfl, b4⟩
          have B4 := bel_trans B3 b4
          go_wp2_with fail
          refine (HRa.out w4 B4).mono ?_
          rintro e w5 ⟨rfl, b5⟩
          have B5 := bel_trans B4 b5
          go_wp2_with fail
          refine (HRb.out w5 B5).mono ?_
          rintro e w6 ⟨rfl, b6⟩
          have B6 := bel_trans B5 b6
          go_wp2_with fail
          go_ret
          exact ⟨rfl, B6⟩
end Go.Proofs.YtlkkdfopecbekaaDoor
