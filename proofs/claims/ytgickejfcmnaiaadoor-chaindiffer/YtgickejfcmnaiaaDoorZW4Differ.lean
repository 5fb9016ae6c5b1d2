/-
  The walk of ChainDiffer.
-/
import Derived.Test.YtgickejfcmnaiaaDoorZShown4
import Derived.Test.YtgickejfcmnaiaaDoorZP4Differ
import Derived.Test.YtgickejfcmnaiaaDoorZChainP
import Derived.Test.YtgickejfcmnaiaaDoorZRSame2
namespace Go.Proofs.YtgickejfcmnaiaaDoor
set_option maxRecDepth 100000
open Go.RowKit
set_option linter.unusedVariables false
attribute [local go_sem] ba_size
set_option maxHeartbeats 4000000 in
theorem differ4_walk (w : World) (va : Value) (a : List (List UInt8)) (Ta : IsTxt w va a) (Ba : ∀ s ∈ a, s.length ≤ 140737488351232) (Na : a.length ≤ 8796093021952) (vb : Value) (b : List (List UInt8)) (Tb : IsTxt w vb b) (Bb : ∀ s ∈ b, s.length ≤ 140737488351232) (Nb : b.length ≤ 8796093021952) (hG : G w) :
    Calls Tryd.prog 7 #[va, vb] w fun e w' => e = .returned (.bool true) ∧ Below w.heap.size w w' := by
  have hg3 := hG.size
  have HSh : Hid (∀ W, Below w.heap.size w W → Calls Tryd.prog 11 #[] W fun e w' => e = .returned (.bool true) ∧ Below W.heap.size W w') := fun W h => shown4_any W (hG.below h hg3)
  have HFa : Hid (∀ W, Below w.heap.size w W → Calls Tryd.prog 12 #[va] W fun e w' => e = .returned (.bool (few4L a)) ∧ Below W.heap.size W w') := fun W h => few4_any a va W (Ta.below h)
  have HFb : Hid (∀ W, Below w.heap.size w W → Calls Tryd.prog 12 #[vb] W fun e w' => e = .returned (.bool (few4L b)) ∧ Below W.heap.size W w') := fun W h => few4_any b vb W (Tb.below h)
  have HSm : Hid (∀ W, Below w.heap.size w W → Calls Tryd.prog 26 #[va, vb] W fun e w' => e = .returned (.bool (decide (a = b))) ∧ Below W.heap.size W w') := fun W h => same_txt va vb a b W (Ta.below h) (Tb.below h)
  have HA : Hid (∀ W, Below w.heap.size w W → Calls Tryd.prog 17 #[va] W fun e w' => e = .returned (.tuple #[.string ⟨(headL sumL a).1.toArray⟩, .int .i64 ((headL sumL a).2 : Int)]) ∧ Below W.heap.size W w') := fun W h => phead_any a va W (hG.below h hg3) (Ta.below h)
  have HB : Hid (∀ W, Below w.heap.size w W → Calls Tryd.prog 17 #[vb] W fun e w' => e = .returned (.tuple #[.string ⟨(headL sumL b).1.toArray⟩, .int .i64 ((headL sumL b).2 : Int)]) ∧ Below W.heap.size W w') := fun W h => phead_any b vb W (hG.below h hg3) (Tb.below h)
  have HD : few4L a = true → few4L b = true → Hid (∀ W, Below w.heap.size w W → Calls Tryd.prog 22 #[va, vb] W fun e w' => e = .returned (unV (chDifL sumL a b)) ∧ Below W.heap.size W w') := fun ha hb W h => pdif_any a b va vb W (hG.below h hg3) (Ta.below h) (Tb.below h) (by have := few4_len ha; omega) (by have := few4_len hb; omega)
  rw [headL_R] at HA HB
  obtain ⟨aa, ca, rfl, _, _, _⟩ := Ta.len
  obtain ⟨ab, cb, rfl, _, _, _⟩ := Tb.len
  clear Ta Tb
  cases fa : few4L a with
  | false =>
    rw [fa] at HFa
    obtain ⟨R1, hR1⟩ : ∃ R, headR (headF sumL [] a) = R := ⟨_, rfl⟩
    obtain ⟨R2, hR2⟩ : ∃ R, headR (headF sumL [] b) = R := ⟨_, rfl⟩
    rw [hR1] at HA
    rw [hR2] at HB
    obtain ⟨sm, hsm⟩ : ∃ sm, decide (a = b) = sm := ⟨_, rfl⟩
    rw [hsm] at HSm
    clear hR1 hR2 hsm HD
    go_enter Tryd.func7, Tryd.ntmps7
    go_wp2_with fail
    refine (HSh.out w (Below.refl _ _)).mono ?_
    rintro e w1 ⟨rfl, b1⟩
    have B1 := bel_trans (Below.refl _ _) b1
    go_wp2_with fail
    refine (HFa.out w1 B1).mono ?_
    rintro e w2 ⟨rfl, b2⟩
    have B2 := bel_trans B1 b2
    go_wp2_with fail
    refine (HSm.out w2 B2).mono ?_
    rintro e w3 ⟨rfl, b3⟩
    have B3 := bel_trans B2 b3
    go_wp2_with fail
    refine (HA.out w3 B3).mono ?_
    rintro e w4 ⟨rfl, b4⟩
    have B4 := bel_trans B3 b4
    go_wp2_with fail
    refine (HB.out w4 B4).mono ?_
    rintro e w5 ⟨rfl, b5⟩
    have B5 := bel_trans B4 b5
    go_wp2_with fail
    go_ret
    exact ⟨rfl, B5⟩
  | true =>
    cases fb : few4L b with
    | false =>
      rw [fa] at HFa
      rw [fb] at HFb
      obtain ⟨R1, hR1⟩ : ∃ R, headR (headF sumL [] a) = R := ⟨_, rfl⟩
      obtain ⟨R2, hR2⟩ : ∃ R, headR (headF sumL [] b) = R := ⟨_, rfl⟩
      rw [hR1] at HA
      rw [hR2] at HB
      obtain ⟨sm, hsm⟩ : ∃ sm, decide (a = b) = sm := ⟨_, rfl⟩
      rw [hsm] at HSm
      clear hR1 hR2 hsm HD
      go_enter Tryd.func7, Tryd.ntmps7
      go_wp2_with fail
      refine (HSh.out w (Below.refl _ _)).mono ?_
      rintro e w1 ⟨rfl, b1⟩
      have B1 := bel_trans (Below.refl _ _) b1
      go_wp2_with fail
      refine (HFa.out w1 B1).mono ?_
      rintro e w2 ⟨rfl, b2⟩
      have B2 := bel_trans B1 b2
      go_wp2_with fail
      refine (HFb.out w2 B2).mono ?_
      rintro e w3 ⟨rfl, b3⟩
      have B3 := bel_trans B2 b3
      go_wp2_with fail
      refine (HSm.out w3 B3).mono ?_
      rintro e w4 ⟨rfl, b4⟩
      have B4 := bel_trans B3 b4
      go_wp2_with fail
      refine (HA.out w4 B4).mono ?_
      rintro e w5 ⟨rfl, b5⟩
      have B5 := bel_trans B4 b5
      go_wp2_with fail
      refine (HB.out w5 B5).mono ?_
      rintro e w6 ⟨rfl, b6⟩
      have B6 := bel_trans B5 b6
      go_wp2_with fail
      go_ret
      exact ⟨rfl, B6⟩
    | true =>
      have la := few4_len fa
      have lb := few4_len fb
      replace HD := HD fa fb
      rw [fa] at HFa
      rw [fb] at HFb
      have hho := chDif_honest sumL a b
      have hbo := chDif_bound a b
      have hds := chDif_some sumL a b
      clear fa fb
      by_cases hab : a = b
      · rw [decide_eq_true hab] at HSm
        obtain ⟨R1, hR1⟩ : ∃ R, headR (headF sumL [] a) = R := ⟨_, rfl⟩
        obtain ⟨R2, hR2⟩ : ∃ R, headR (headF sumL [] b) = R := ⟨_, rfl⟩
        rw [hR1] at HA
        rw [hR2] at HB
        clear hR1 hR2 HD hho hbo hds hab
        go_enter Tryd.func7, Tryd.ntmps7
        go_wp2_with fail
        refine (HSh.out w (Below.refl _ _)).mono ?_
        rintro e w1 ⟨rfl, b1⟩
        have B1 := bel_trans (Below.refl _ _) b1
        go_wp2_with fail
        refine (HFa.out w1 B1).mono ?_
        rintro e w2 ⟨rfl, b2⟩
        have B2 := bel_trans B1 b2
        go_wp2_with fail
        refine (HFb.out w2 B2).mono ?_
        rintro e w3 ⟨rfl, b3⟩
        have B3 := bel_trans B2 b3
        go_wp2_with fail
        refine (HSm.out w3 B3).mono ?_
        rintro e w4 ⟨rfl, b4⟩
        have B4 := bel_trans B3 b4
        go_wp2_with fail
        refine (HA.out w4 B4).mono ?_
        rintro e w5 ⟨rfl, b5⟩
        have B5 := bel_trans B4 b5
        go_wp2_with fail
        refine (HB.out w5 B5).mono ?_
        rintro e w6 ⟨rfl, b6⟩
        have B6 := bel_trans B5 b6
        go_wp2_with fail
        go_ret
        exact ⟨rfl, B6⟩
      · rw [decide_eq_false hab] at HSm
        by_cases hn : a.length = b.length
        · cases ha : headF sumL [] a with
          | none =>
            rw [ha] at HA
            change Hid (∀ W, Below w.heap.size w W → Calls _ _ _ W fun e w' => e = .returned (.tuple #[.string ⟨#[]⟩, .int .i64 4]) ∧ Below W.heap.size W w') at HA
            obtain ⟨R2, hR2⟩ : ∃ R, headR (headF sumL [] b) = R := ⟨_, rfl⟩
            rw [hR2] at HB
            clear hR2 HD hho hbo hds hab ha
            obtain ⟨n, hna⟩ : ∃ n, a.length = n := ⟨_, rfl⟩
            have hnb : b.length = n := by omega
            rw [hna] at HFa HSm HA ⊢
            rw [hnb] at HFb HSm HB ⊢
            try rw [hna, hnb] at HD
            have j0 : ((n : Int) == (n : Int)) = true := beq_self_eq_true _
            clear hn hna hnb Na Nb la lb Ba Bb
            go_enter Tryd.func7, Tryd.ntmps7
            go_wp2_with fail
            refine (HSh.out w (Below.refl _ _)).mono ?_
            rintro e w1 ⟨rfl, b1⟩
            have B1 := bel_trans (Below.refl _ _) b1
            go_wp2_with fail
            refine (HFa.out w1 B1).mono ?_
            rintro e w2 ⟨rfl, b2⟩
            have B2 := bel_trans B1 b2
            go_wp2_with fail
            refine (HFb.out w2 B2).mono ?_
            rintro e w3 ⟨rfl, b3⟩
            have B3 := bel_trans B2 b3
            go_wp2_with fail
            refine (HSm.out w3 B3).mono ?_
            rintro e w4 ⟨rfl, b4⟩
            have B4 := bel_trans B3 b4
            go_wp2_with fail
            refine (HA.out w4 B4).mono ?_
            rintro e w5 ⟨rfl, b5⟩
            have B5 := bel_trans B4 b5
            go_wp2_with fail
            refine (HB.out w5 B5).mono ?_
            rintro e w6 ⟨rfl, b6⟩
            have B6 := bel_trans B5 b6
            go_wp2_with fail
            go_ret
            exact ⟨rfl, B6⟩
          | some x =>
            rw [ha] at HA
            change Hid (∀ W, Below w.heap.size w W → Calls _ _ _ W fun e w' => e = .returned (.tuple #[.string ⟨x.toArray⟩, .int .i64 0]) ∧ Below W.heap.size W w') at HA
            cases hb : headF sumL [] b with
            | none =>
              rw [hb] at HB
              change Hid (∀ W, Below w.heap.size w W → Calls _ _ _ W fun e w' => e = .returned (.tuple #[.string ⟨#[]⟩, .int .i64 4]) ∧ Below W.heap.size W w') at HB
              clear HD hho hbo hds hab ha hb
              obtain ⟨n, hna⟩ : ∃ n, a.length = n := ⟨_, rfl⟩
              have hnb : b.length = n := by omega
              rw [hna] at HFa HSm HA ⊢
              rw [hnb] at HFb HSm HB ⊢
              try rw [hna, hnb] at HD
              have j0 : ((n : Int) == (n : Int)) = true := beq_self_eq_true _
              clear hn hna hnb Na Nb la lb Ba Bb
              go_enter Tryd.func7, Tryd.ntmps7
              go_wp2_with fail
              refine (HSh.out w (Below.refl _ _)).mono ?_
              rintro e w1 ⟨rfl, b1⟩
              have B1 := bel_trans (Below.refl _ _) b1
              go_wp2_with fail
              refine (HFa.out w1 B1).mono ?_
              rintro e w2 ⟨rfl, b2⟩
              have B2 := bel_trans B1 b2
              go_wp2_with fail
              refine (HFb.out w2 B2).mono ?_
              rintro e w3 ⟨rfl, b3⟩
              have B3 := bel_trans B2 b3
              go_wp2_with fail
              refine (HSm.out w3 B3).mono ?_
              rintro e w4 ⟨rfl, b4⟩
              have B4 := bel_trans B3 b4
              go_wp2_with fail
              refine (HA.out w4 B4).mono ?_
              rintro e w5 ⟨rfl, b5⟩
              have B5 := bel_trans B4 b5
              go_wp2_with fail
              refine (HB.out w5 B5).mono ?_
              rintro e w6 ⟨rfl, b6⟩
              have B6 := bel_trans B5 b6
              go_wp2_with fail
              go_ret
              exact ⟨rfl, B6⟩
            | some y =>
              rw [hb] at HB
              change Hid (∀ W, Below w.heap.size w W → Calls _ _ _ W fun e w' => e = .returned (.tuple #[.string ⟨y.toArray⟩, .int .i64 0]) ∧ Below W.heap.size W w') at HB
              by_cases hxy : x = y
              · have exy : (x == y) = true := by rw [hxy]; exact beq_self_eq_true y
                obtain ⟨⟨s, t⟩, hst0⟩ := hds x hn hab ha (by rw [hxy]; exact hb)
                obtain ⟨hst, hs⟩ := hho s t hst0
                obtain ⟨ls, lt⟩ := hbo s t hst0
                rw [hst0] at HD
                have est : (s == t) = false := beq_eq_false_iff_ne.2 hst
                have S1 : Hid (∀ W, Below w.heap.size w W → Calls Tryd.prog 27 #[.string ⟨s.toArray⟩] W fun e w' => e = .returned (.string ⟨(sumL s).toArray⟩) ∧ Below W.heap.size W w') := fun W h => rsumG_any s (by omega) W
                have S2 : Hid (∀ W, Below w.heap.size w W → Calls Tryd.prog 27 #[.string ⟨t.toArray⟩] W fun e w' => e = .returned (.string ⟨(sumL t).toArray⟩) ∧ Below W.heap.size W w') := fun W h => rsumG_any t (by omega) W
                obtain ⟨u, hu⟩ : ∃ u, sumL s = u := ⟨_, rfl⟩
                rw [hu] at S1 hs
                rw [← hs] at S2
                clear hho hbo hds hab ha hb hst hs hu hxy hst0
                obtain ⟨n, hna⟩ : ∃ n, a.length = n := ⟨_, rfl⟩
                have hnb : b.length = n := by omega
                rw [hna] at HFa HSm HA ⊢
                rw [hnb] at HFb HSm HB ⊢
                try rw [hna, hnb] at HD
                have j0 : ((n : Int) == (n : Int)) = true := beq_self_eq_true _
                clear hn hna hnb Na Nb la lb Ba Bb
                go_enter Tryd.func7, Tryd.ntmps7
                go_wp2_with fail
                refine (HSh.out w (Below.refl _ _)).mono ?_
                rintro e w1 ⟨rfl, b1⟩
                have B1 := bel_trans (Below.refl _ _) b1
                go_wp2_with fail
                refine (HFa.out w1 B1).mono ?_
                rintro e w2 ⟨rfl, b2⟩
                have B2 := bel_trans B1 b2
                go_wp2_with fail
                refine (HFb.out w2 B2).mono ?_
                rintro e w3 ⟨rfl, b3⟩
                have B3 := bel_trans B2 b3
                go_wp2_with fail
                refine (HSm.out w3 B3).mono ?_
                rintro e w4 ⟨rfl, b4⟩
                have B4 := bel_trans B3 b4
                go_wp2_with fail
                refine (HA.out w4 B4).mono ?_
                rintro e w5 ⟨rfl, b5⟩
                have B5 := bel_trans B4 b5
                go_wp2_with fail
                refine (HB.out w5 B5).mono ?_
                rintro e w6 ⟨rfl, b6⟩
                have B6 := bel_trans B5 b6
                go_wp2_with fail
                refine (HD.out w6 B6).mono ?_
                rintro e w7 ⟨rfl, b7⟩
                have B7 := bel_trans B6 b7
                simp only [unV]
                go_wp2_with fail
                refine (S1.out w7 B7).mono ?_
                rintro e w8 ⟨rfl, b8⟩
                have B8 := bel_trans B7 b8
                go_wp2_with fail
                refine (S2.out w8 B8).mono ?_
                rintro e w9 ⟨rfl, b9⟩
                have B9 := bel_trans B8 b9
                go_wp2_with fail
                go_ret
                exact ⟨rfl, B9⟩
              · have exy : (x == y) = false := beq_eq_false_iff_ne.2 hxy
                clear HD hho hbo hds hab ha hb hxy
                obtain ⟨n, hna⟩ : ∃ n, a.length = n := ⟨_, rfl⟩
                have hnb : b.length = n := by omega
                rw [hna] at HFa HSm HA ⊢
                rw [hnb] at HFb HSm HB ⊢
                try rw [hna, hnb] at HD
                have j0 : ((n : Int) == (n : Int)) = true := beq_self_eq_true _
                clear hn hna hnb Na Nb la lb Ba Bb
                go_enter Tryd.func7, Tryd.ntmps7
                go_wp2_with fail
                refine (HSh.out w (Below.refl _ _)).mono ?_
                rintro e w1 ⟨rfl, b1⟩
                have B1 := bel_trans (Below.refl _ _) b1
                go_wp2_with fail
                refine (HFa.out w1 B1).mono ?_
                rintro e w2 ⟨rfl, b2⟩
                have B2 := bel_trans B1 b2
                go_wp2_with fail
                refine (HFb.out w2 B2).mono ?_
                rintro e w3 ⟨rfl, b3⟩
                have B3 := bel_trans B2 b3
                go_wp2_with fail
                refine (HSm.out w3 B3).mono ?_
                rintro e w4 ⟨rfl, b4⟩
                have B4 := bel_trans B3 b4
                go_wp2_with fail
                refine (HA.out w4 B4).mono ?_
                rintro e w5 ⟨rfl, b5⟩
                have B5 := bel_trans B4 b5
                go_wp2_with fail
                refine (HB.out w5 B5).mono ?_
                rintro e w6 ⟨rfl, b6⟩
                have B6 := bel_trans B5 b6
                go_wp2_with fail
                go_ret
                exact ⟨rfl, B6⟩
        · have j0 : ((a.length : Int) == (b.length : Int)) = false := by rw [beq_eq_false_iff_ne]; omega
          obtain ⟨R1, hR1⟩ : ∃ R, headR (headF sumL [] a) = R := ⟨_, rfl⟩
          obtain ⟨R2, hR2⟩ : ∃ R, headR (headF sumL [] b) = R := ⟨_, rfl⟩
          rw [hR1] at HA
          rw [hR2] at HB
          clear hR1 hR2 HD hho hbo hds hab
          go_enter Tryd.func7, Tryd.ntmps7
          go_wp2_with fail
          refine (HSh.out w (Below.refl _ _)).mono ?_
          rintro e w1 ⟨rfl, b1⟩
          have B1 := bel_trans (Below.refl _ _) b1
          go_wp2_with fail
          refine (HFa.out w1 B1).mono ?_
          rintro e w2 ⟨rfl, b2⟩
          have B2 := bel_trans B1 b2
          go_wp2_with fail
          refine (HFb.out w2 B2).mono ?_
          rintro e w3 ⟨rfl, b3⟩
          have B3 := bel_trans B2 b3
          go_wp2_with fail
          refine (HSm.out w3 B3).mono ?_
          rintro e w4 ⟨rfl, b4⟩
          have B4 := bel_trans B3 b4
          go_wp2_with fail
          refine (HA.out w4 B4).mono ?_
          rintro e w5 ⟨rfl, b5⟩
          have B5 := bel_trans B4 b5
          go_wp2_with fail
          refine (HB.out w5 B5).mono ?_
          rintro e w6 ⟨rfl, b6⟩
          have B6 := bel_trans B5 b6
          go_wp2_with fail
          go_ret
          exact ⟨rfl, B6⟩
end Go.Proofs.YtgickejfcmnaiaaDoor
