/-
  The walk of ChainSums.
-/
import Derived.Test.YtgickejfcmnaiaaDoorZShown4
namespace Go.Proofs.YtgickejfcmnaiaaDoor
set_option maxRecDepth 100000
open Go.RowKit
set_option linter.unusedVariables false
attribute [local go_sem] ba_size
set_option maxHeartbeats 4000000 in
theorem sums4_walk (w : World) (p : List UInt8) (lp : p.length ≤ 140737488351232) (b : List UInt8) (lb : b.length ≤ 140737488351232) (hG : G w) :
    Calls Tryd.prog 9 #[.string ⟨p.toArray⟩, .string ⟨b.toArray⟩] w fun e w' => e = .returned (.bool true) ∧ Below w.heap.size w w' := by
  have hg3 := hG.size
  have HSh : Hid (∀ W, Below w.heap.size w W → Calls Tryd.prog 11 #[] W fun e w' => e = .returned (.bool true) ∧ Below W.heap.size W w') := fun W h => shown4_any W (hG.below h hg3)
  have HI : Hid (∀ W, Below w.heap.size w W → Calls Tryd.prog 13 #[.string ⟨p.toArray⟩, .string ⟨b.toArray⟩] W fun e w' => e = .returned (.tuple #[.string ⟨(inputL p b).1.toArray⟩, .int .i64 ((inputL p b).2 : Int)]) ∧ Below W.heap.size W w') := fun W h => pinput_any p b (by omega) (by omega) W
  have HX : Hid (∀ W, Below w.heap.size w W → Calls Tryd.prog 15 #[.string ⟨p.toArray⟩, .string ⟨b.toArray⟩] W fun e w' => e = .returned (.tuple #[.string ⟨(nextL sumL p b).1.toArray⟩, .int .i64 ((nextL sumL p b).2 : Int)]) ∧ Below W.heap.size W w') := fun W h => pnext_any p b (by omega) (by omega) W (hG.below h hg3)
  by_cases hbig : bigB p b
  · rw [show inputL p b = ([], 4) by unfold inputL; rw [if_pos hbig]] at HI
    rw [nextL_no sumL p b hbig] at HX
    by_cases h1 : 65535 < p.length
    · have j1 : (65535 : Int) < (p.length : Int) := by omega
      clear hbig
      go_enter Tryd.func9, Tryd.ntmps9
      go_wp2_with fail
      refine (HSh.out w (Below.refl _ _)).mono ?_
      rintro e w1 ⟨rfl, b1⟩
      have B1 := bel_trans (Below.refl _ _) b1
      go_wp2_with fail
      refine (HI.out w1 B1).mono ?_
      rintro e w2 ⟨rfl, b2⟩
      have B2 := bel_trans B1 b2
      go_wp2_with fail
      refine (HX.out w2 B2).mono ?_
      rintro e w3 ⟨rfl, b3⟩
      have B3 := bel_trans B2 b3
      go_wp2_with fail
      go_ret
      exact ⟨rfl, B3⟩
    · have h2 : 65535 < b.length := by unfold bigB at hbig; omega
      have j1 : ¬ (65535 : Int) < (p.length : Int) := by omega
      have j2 : (65535 : Int) < (b.length : Int) := by omega
      clear hbig
      go_enter Tryd.func9, Tryd.ntmps9
      go_wp2_with fail
      refine (HSh.out w (Below.refl _ _)).mono ?_
      rintro e w1 ⟨rfl, b1⟩
      have B1 := bel_trans (Below.refl _ _) b1
      go_wp2_with fail
      refine (HI.out w1 B1).mono ?_
      rintro e w2 ⟨rfl, b2⟩
      have B2 := bel_trans B1 b2
      go_wp2_with fail
      refine (HX.out w2 B2).mono ?_
      rintro e w3 ⟨rfl, b3⟩
      have B3 := bel_trans B2 b3
      go_wp2_with fail
      go_ret
      exact ⟨rfl, B3⟩
  · rw [show inputL p b = (cinL p b, 0) by unfold inputL; rw [if_neg hbig]] at HI
    rw [nextL_is sumL p b hbig] at HX
    have z := cinL_len p b
    have hS : Hid (∀ W, Below w.heap.size w W → Calls Tryd.prog 28 #[.string ⟨(cinL p b).toArray⟩] W fun e w' => e = .returned (.string ⟨(sumL (cinL p b)).toArray⟩) ∧ Below W.heap.size W w') := fun W h => psumG_any _ (by unfold bigB at hbig; omega) W (hG.below h hg3)
    have l32 := sumL_32 (cinL p b)
    obtain ⟨x, hx⟩ : ∃ x, cinL p b = x := ⟨_, rfl⟩
    obtain ⟨q, hq⟩ : ∃ q, sumL (cinL p b) = q := ⟨_, rfl⟩
    rw [hq] at HX hS l32
    rw [hx] at HI z hS
    have j0 : (q.length : Int) = 32 := by omega
    have j1 : IntKind.i64.wrap ((p.length : Int) + (b.length : Int)) = (p.length : Int) + (b.length : Int) := by rw [IntKind.wrap_i64]; omega
    have j2 : IntKind.i64.wrap ((p.length : Int) + (b.length : Int) + 3) = (p.length : Int) + (b.length : Int) + 3 := by rw [IntKind.wrap_i64]; omega
    have j3 : (p.length : Int) + (b.length : Int) + 3 ≤ (x.length : Int) := by omega
    clear hbig hx hq z
    go_enter Tryd.func9, Tryd.ntmps9
    go_wp2_with fail
    refine (HSh.out w (Below.refl _ _)).mono ?_
    rintro e w1 ⟨rfl, b1⟩
    have B1 := bel_trans (Below.refl _ _) b1
    go_wp2_with fail
    refine (HI.out w1 B1).mono ?_
    rintro e w2 ⟨rfl, b2⟩
    have B2 := bel_trans B1 b2
    go_wp2_with fail
    refine (HX.out w2 B2).mono ?_
    rintro e w3 ⟨rfl, b3⟩
    have B3 := bel_trans B2 b3
    go_wp2_with fail
    refine (hS.out w3 B3).mono ?_
    rintro e w4 ⟨rfl, b4⟩
    have B4 := bel_trans B3 b4
    go_wp2_with fail
    go_ret
    exact ⟨rfl, B4⟩
end Go.Proofs.YtgickejfcmnaiaaDoor
