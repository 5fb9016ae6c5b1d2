/-
  The walk of ChainHonest.
-/
import Derived.Test.YtgickejfcmnaiaaDoorZShown4
import Derived.Test.YtgickejfcmnaiaaDoorZP4Differ
import Derived.Test.YtgickejfcmnaiaaDoorZChainP
namespace Go.Proofs.YtgickejfcmnaiaaDoor
set_option maxRecDepth 100000
open Go.RowKit
set_option linter.unusedVariables false
attribute [local go_sem] ba_size
set_option maxHeartbeats 4000000 in
theorem honest4_walk (w : World) (va : Value) (a : List (List UInt8)) (Ta : IsTxt w va a) (Ba : ∀ s ∈ a, s.length ≤ 140737488351232) (Na : a.length ≤ 8796093021952) (vb : Value) (b : List (List UInt8)) (Tb : IsTxt w vb b) (Bb : ∀ s ∈ b, s.length ≤ 140737488351232) (Nb : b.length ≤ 8796093021952) (hG : G w) :
    Calls Tryd.prog 10 #[va, vb] w fun e w' => e = .returned (.bool true) ∧ Below w.heap.size w w' := by
  have hg3 := hG.size
  have HSh : Hid (∀ W, Below w.heap.size w W → Calls Tryd.prog 11 #[] W fun e w' => e = .returned (.bool true) ∧ Below W.heap.size W w') := fun W h => shown4_any W (hG.below h hg3)
  have HFa : Hid (∀ W, Below w.heap.size w W → Calls Tryd.prog 12 #[va] W fun e w' => e = .returned (.bool (few4L a)) ∧ Below W.heap.size W w') := fun W h => few4_any a va W (Ta.below h)
  have HFb : Hid (∀ W, Below w.heap.size w W → Calls Tryd.prog 12 #[vb] W fun e w' => e = .returned (.bool (few4L b)) ∧ Below W.heap.size W w') := fun W h => few4_any b vb W (Tb.below h)
  have HD : few4L a = true → few4L b = true → Hid (∀ W, Below w.heap.size w W → Calls Tryd.prog 22 #[va, vb] W fun e w' => e = .returned (unV (chDifL sumL a b)) ∧ Below W.heap.size W w') := fun ha hb W h => pdif_any a b va vb W (hG.below h hg3) (Ta.below h) (Tb.below h) (by have := few4_len ha; omega) (by have := few4_len hb; omega)
  obtain ⟨aa, ca, rfl, _, _, _⟩ := Ta.len
  obtain ⟨ab, cb, rfl, _, _, _⟩ := Tb.len
  cases fa : few4L a with
  | false =>
    rw [fa] at HFa
    clear HD Ta Tb
    go_enter Tryd.func10, Tryd.ntmps10
    go_wp2_with fail
    refine (HSh.out w (Below.refl _ _)).mono ?_
    rintro e w1 ⟨rfl, b1⟩
    have B1 := bel_trans (Below.refl _ _) b1
    go_wp2_with fail
    refine (HFa.out w1 B1).mono ?_
    rintro e w2 ⟨rfl, b2⟩
    have B2 := bel_trans B1 b2
    go_wp2_with fail
    go_ret
    exact ⟨rfl, B2⟩
  | true =>
    cases fb : few4L b with
    | false =>
      rw [fa] at HFa
      rw [fb] at HFb
      clear HD Ta Tb
      go_enter Tryd.func10, Tryd.ntmps10
      go_wp2_with fail
      refine (HSh.out w (Below.refl _ _)).mono ?_
      rintro e w1 ⟨rfl, b1⟩
      have B1 := bel_trans (Below.refl _ _) b1
      go_wp2_with fail
      refine (HFa.out w1 B1).mono ?_
      rintro e w2 ⟨rfl, b2⟩
      have B2 := bel_trans B1 b2
      go_wp2_with fail
      refine (HFb.out w2 B2).mono ?_
      rintro e w3 ⟨rfl, b3⟩
      have B3 := bel_trans B2 b3
      go_wp2_with fail
      go_ret
      exact ⟨rfl, B3⟩
    | true =>
      have la := few4_len fa
      have lb := few4_len fb
      replace HD := HD fa fb
      rw [fa] at HFa
      rw [fb] at HFb
      have hho := chDif_honest sumL a b
      have hbo := chDif_bound a b
      obtain ⟨O, hO⟩ : ∃ O, chDifL sumL a b = O := ⟨_, rfl⟩
      rw [hO] at HD hho hbo
      clear hO Ta Tb fa fb
      rcases O with _ | ⟨x, y⟩
      · go_enter Tryd.func10, Tryd.ntmps10
        go_wp2_with fail
        refine (HSh.out w (Below.refl _ _)).mono ?_
        rintro e w1 ⟨rfl, b1⟩
        have B1 := bel_trans (Below.refl _ _) b1
        go_wp2_with fail
        refine (HFa.out w1 B1).mono ?_
        rintro e w2 ⟨rfl, b2⟩
        have B2 := bel_trans B1 b2
        go_wp2_with fail
        refine (HFb.out w2 B2).mono ?_
        rintro e w3 ⟨rfl, b3⟩
        have B3 := bel_trans B2 b3
        go_wp2_with fail
        refine (HD.out w3 B3).mono ?_
        rintro e w4 ⟨rfl, b4⟩
        have B4 := bel_trans B3 b4
        simp only [unV]
        go_wp2_with fail
        go_ret
        exact ⟨rfl, B4⟩
      · obtain ⟨hxy, hs⟩ := hho x y rfl
        obtain ⟨lx, ly⟩ := hbo x y rfl
        have exy : (x == y) = false := beq_eq_false_iff_ne.2 hxy
        have S1 : Hid (∀ W, Below w.heap.size w W → Calls Tryd.prog 28 #[.string ⟨x.toArray⟩] W fun e w' => e = .returned (.string ⟨(sumL x).toArray⟩) ∧ Below W.heap.size W w') := fun W h => psumG_any x (by omega) W (hG.below h hg3)
        have S2 : Hid (∀ W, Below w.heap.size w W → Calls Tryd.prog 28 #[.string ⟨y.toArray⟩] W fun e w' => e = .returned (.string ⟨(sumL y).toArray⟩) ∧ Below W.heap.size W w') := fun W h => psumG_any y (by omega) W (hG.below h hg3)
        obtain ⟨u, hu⟩ : ∃ u, sumL x = u := ⟨_, rfl⟩
        rw [hu] at S1 hs
        rw [← hs] at S2
        clear hho hbo hxy hs hu
        go_enter Tryd.func10, Tryd.ntmps10
        go_wp2_with fail
        refine (HSh.out w (Below.refl _ _)).mono ?_
        rintro e w1 ⟨rfl, b1⟩
        have B1 := bel_trans (Below.refl _ _) b1
        go_wp2_with fail
        refine (HFa.out w1 B1).mono ?_
        rintro e w2 ⟨rfl, b2⟩
        have B2 := bel_trans B1 b2
        go_wp2_with fail
        refine (HFb.out w2 B2).mono ?_
        rintro e w3 ⟨rfl, b3⟩
        have B3 := bel_trans B2 b3
        go_wp2_with fail
        refine (HD.out w3 B3).mono ?_
        rintro e w4 ⟨rfl, b4⟩
        have B4 := bel_trans B3 b4
        simp only [unV]
        go_wp2_with fail
        refine (S1.out w4 B4).mono ?_
        rintro e w5 ⟨rfl, b5⟩
        have B5 := bel_trans B4 b5
        go_wp2_with fail
        refine (S2.out w5 B5).mono ?_
        rintro e w6 ⟨rfl, b6⟩
        have B6 := bel_trans B5 b6
        go_wp2_with fail
        go_ret
        exact ⟨rfl, B6⟩
end Go.Proofs.YtgickejfcmnaiaaDoor
