/-
  The walk of RedactHides.
-/
import Derived.Test.YtihggfkenhkglaaDoorZShown7
import Derived.Test.YtihggfkenhkglaaDoorZP7C
import Derived.Test.YtihggfkenhkglaaDoorZR6May
import Derived.Deep.RegionHeld3
import Derived.BigQuiet
import Derived.Deep.QuietTactic
namespace Go.Proofs.YtihggfkenhkglaaDoor
set_option maxRecDepth 100000
open Go.RowKit
set_option linter.unusedVariables false
attribute [local go_sem] ba_size ba_append ba_get ba_extract
set_option maxHeartbeats 4000000 in
theorem hides7_walk (CS : P7S) (C : P7C) (w : World) (s : List UInt8) (ls : s.length ≤ 140737488351232) (x0 x1 : Int) (x2 x3 : List UInt8) (gx : goodE (x0, x1, x2, x3)) (hG : G w) :
    Calls Tryd.prog 7 #[.string ⟨s.toArray⟩, .agg #[.int .i64 x0, .int .i64 x1, .string ⟨x2.toArray⟩, .string ⟨x3.toArray⟩]] w fun e w' => e = .returned (.bool true) ∧ Below w.heap.size w w' := by
  have hg3 := hG.size
  have HSh : Hid (∀ W, Below w.heap.size w W → Calls Tryd.prog 10 #[] W fun e w' => e = .returned (.bool true) ∧ Below W.heap.size W w') := fun W h => shown7_any CS W
  have HO : Hid (∀ W, Below w.heap.size w W → Calls Tryd.prog 15 #[.string ⟨s.toArray⟩, .agg #[.int .i64 x0, .int .i64 x1, .string ⟨x2.toArray⟩, .string ⟨x3.toArray⟩]] W fun e w' => e = .returned (.tuple #[evW (oneP s (x0, x1, x2, x3)).1, .int .i64 ((oneP s (x0, x1, x2, x3)).2 : Int)]) ∧ Below W.heap.size W w') := fun W h => C.one s x0 x1 x2 x3 W (hG.below h hg3) ls gx
  have RM : Hid (∀ W, Below w.heap.size w W → Calls Tryd.prog 26 #[.agg #[.int .i64 x0, .int .i64 x1, .string ⟨x2.toArray⟩, .string ⟨x3.toArray⟩]] W fun e w' => e = .returned (.bool (decide (mayE (x0, x1, x2, x3)))) ∧ Below W.heap.size W w') := fun W h => rmay_any x0 x1 x2 x3 W
  by_cases hm : mayE (x0, x1, x2, x3) ∧ mayK s
  · rw [oneP_ok s _ hm.1 hm.2] at HO
    rw [decide_eq_true hm.1] at RM
    by_cases hk : x0 = 2 ∨ x0 = 3
    · rw [show tagE (keyL s) (x0, x1, x2, x3) = (x0, x1, keyL s (5 :: x2), tagV (keyL s) x3) by unfold tagE tagK; rw [if_pos (show keyedE x0 from hk)]] at HO
      have lp := keyL_32 s (5 :: x2)
      obtain ⟨p, hp⟩ : ∃ p, keyL s (5 :: x2) = p := ⟨_, rfl⟩
      rw [hp] at HO lp
      by_cases hv : x3 = []
      · rw [show tagV (keyL s) x3 = [] by unfold tagV; rw [if_pos hv]] at HO
        subst hv
        simp only [evW] at HO
        clear hm hp
        rcases hk with rfl | rfl
        · have X_x := SBox.new w 23 #[.int .i64 2, .int .i64 x1, .string ⟨x2.toArray⟩, .string ⟨#[]⟩]
          have B_x := Below.alloc (Below.refl w.heap.size w) (Below.size (Below.refl w.heap.size w)) (.cells #[.int .i64 2, .int .i64 x1, .string ⟨x2.toArray⟩, .string ⟨#[]⟩] 23)
          go_enter Tryd.func7, Tryd.ntmps7
          go_wp2_with fail
          refine (HSh.out _ B_x).mono ?_
          rintro e w1 ⟨rfl, b1⟩
          have B1 := bel_trans B_x b1
          replace X_x := X_x.below b1
          have f_x0_1 := X_x.cell 0 _ rfl
          have f_x1_1 := X_x.cell 1 _ rfl
          have f_x2_1 := X_x.cell 2 _ rfl
          have f_x3_1 := X_x.cell 3 _ rfl
          go_wp2_with fail
          refine (HO.out _ B1).mono ?_
          rintro e w2 ⟨rfl, b2⟩
          have B2 := bel_trans B1 b2
          clear f_x0_1 f_x1_1 f_x2_1 f_x3_1
          replace X_x := X_x.below b2
          replace X_x := X_x.alloc (.cells #[.int .i64 2, .int .i64 x1, .string ⟨p.toArray⟩, .string ⟨#[]⟩] 23)
          have X_y := SBox.new w2 23 #[.int .i64 2, .int .i64 x1, .string ⟨p.toArray⟩, .string ⟨#[]⟩]
          have B2' := B2.alloc B2.size (.cells #[.int .i64 2, .int .i64 x1, .string ⟨p.toArray⟩, .string ⟨#[]⟩] 23)
          have f_x0_2 := X_x.cell 0 _ rfl
          have f_x1_2 := X_x.cell 1 _ rfl
          have f_x2_2 := X_x.cell 2 _ rfl
          have f_x3_2 := X_x.cell 3 _ rfl
          have f_y0_2 := X_y.cell 0 _ rfl
          have f_y1_2 := X_y.cell 1 _ rfl
          have f_y2_2 := X_y.cell 2 _ rfl
          have f_y3_2 := X_y.cell 3 _ rfl
          go_wp2_with fail
          refine (RM.out _ B2').mono ?_
          rintro e w3 ⟨rfl, b3⟩
          have B3 := bel_trans B2' b3
          clear f_x0_2 f_x1_2 f_x2_2 f_x3_2 f_y0_2 f_y1_2 f_y2_2 f_y3_2
          replace X_x := X_x.below b3
          replace X_y := X_y.below b3
          have f_x0_3 := X_x.cell 0 _ rfl
          have f_x1_3 := X_x.cell 1 _ rfl
          have f_x2_3 := X_x.cell 2 _ rfl
          have f_x3_3 := X_x.cell 3 _ rfl
          have f_y0_3 := X_y.cell 0 _ rfl
          have f_y1_3 := X_y.cell 1 _ rfl
          have f_y2_3 := X_y.cell 2 _ rfl
          have f_y3_3 := X_y.cell 3 _ rfl
          go_wp2_with fail
          go_ret
          exact ⟨rfl, B3⟩
        · have X_x := SBox.new w 23 #[.int .i64 3, .int .i64 x1, .string ⟨x2.toArray⟩, .string ⟨#[]⟩]
          have B_x := Below.alloc (Below.refl w.heap.size w) (Below.size (Below.refl w.heap.size w)) (.cells #[.int .i64 3, .int .i64 x1, .string ⟨x2.toArray⟩, .string ⟨#[]⟩] 23)
          go_enter Tryd.func7, Tryd.ntmps7
          go_wp2_with fail
          refine (HSh.out _ B_x).mono ?_
          rintro e w1 ⟨rfl, b1⟩
          have B1 := bel_trans B_x b1
          replace X_x := X_x.below b1
          have f_x0_1 := X_x.cell 0 _ rfl
          have f_x1_1 := X_x.cell 1 _ rfl
          have f_x2_1 := X_x.cell 2 _ rfl
          have f_x3_1 := X_x.cell 3 _ rfl
          go_wp2_with fail
          refine (HO.out _ B1).mono ?_
          rintro e w2 ⟨rfl, b2⟩
          have B2 := bel_trans B1 b2
          clear f_x0_1 f_x1_1 f_x2_1 f_x3_1
          replace X_x := X_x.below b2
          replace X_x := X_x.alloc (.cells #[.int .i64 3, .int .i64 x1, .string ⟨p.toArray⟩, .string ⟨#[]⟩] 23)
          have X_y := SBox.new w2 23 #[.int .i64 3, .int .i64 x1, .string ⟨p.toArray⟩, .string ⟨#[]⟩]
          have B2' := B2.alloc B2.size (.cells #[.int .i64 3, .int .i64 x1, .string ⟨p.toArray⟩, .string ⟨#[]⟩] 23)
          have f_x0_2 := X_x.cell 0 _ rfl
          have f_x1_2 := X_x.cell 1 _ rfl
          have f_x2_2 := X_x.cell 2 _ rfl
          have f_x3_2 := X_x.cell 3 _ rfl
          have f_y0_2 := X_y.cell 0 _ rfl
          have f_y1_2 := X_y.cell 1 _ rfl
          have f_y2_2 := X_y.cell 2 _ rfl
          have f_y3_2 := X_y.cell 3 _ rfl
          go_wp2_with fail
          refine (RM.out _ B2').mono ?_
          rintro e w3 ⟨rfl, b3⟩
          have B3 := bel_trans B2' b3
          clear f_x0_2 f_x1_2 f_x2_2 f_x3_2 f_y0_2 f_y1_2 f_y2_2 f_y3_2
          replace X_x := X_x.below b3
          replace X_y := X_y.below b3
          have f_x0_3 := X_x.cell 0 _ rfl
          have f_x1_3 := X_x.cell 1 _ rfl
          have f_x2_3 := X_x.cell 2 _ rfl
          have f_x3_3 := X_x.cell 3 _ rfl
          have f_y0_3 := X_y.cell 0 _ rfl
          have f_y1_3 := X_y.cell 1 _ rfl
          have f_y2_3 := X_y.cell 2 _ rfl
          have f_y3_3 := X_y.cell 3 _ rfl
          go_wp2_with fail
          go_ret
          exact ⟨rfl, B3⟩
      · have lq := keyL_32 s (6 :: x3)
        have nv := ne_nil7 x3 hv
        rw [show tagV (keyL s) x3 = keyL s (6 :: x3) by unfold tagV; rw [if_neg hv]] at HO
        obtain ⟨q, hq⟩ : ∃ q, keyL s (6 :: x3) = q := ⟨_, rfl⟩
        rw [hq] at HO lq
        simp only [evW] at HO
        clear hm hp hq hv
        rcases hk with rfl | rfl
        · have X_x := SBox.new w 23 #[.int .i64 2, .int .i64 x1, .string ⟨x2.toArray⟩, .string ⟨x3.toArray⟩]
          have B_x := Below.alloc (Below.refl w.heap.size w) (Below.size (Below.refl w.heap.size w)) (.cells #[.int .i64 2, .int .i64 x1, .string ⟨x2.toArray⟩, .string ⟨x3.toArray⟩] 23)
          go_enter Tryd.func7, Tryd.ntmps7
          go_wp2_with fail
          refine (HSh.out _ B_x).mono ?_
          rintro e w1 ⟨rfl, b1⟩
          have B1 := bel_trans B_x b1
          replace X_x := X_x.below b1
          have f_x0_1 := X_x.cell 0 _ rfl
          have f_x1_1 := X_x.cell 1 _ rfl
          have f_x2_1 := X_x.cell 2 _ rfl
          have f_x3_1 := X_x.cell 3 _ rfl
          go_wp2_with fail
          refine (HO.out _ B1).mono ?_
          rintro e w2 ⟨rfl, b2⟩
          have B2 := bel_trans B1 b2
          clear f_x0_1 f_x1_1 f_x2_1 f_x3_1
          replace X_x := X_x.below b2
          replace X_x := X_x.alloc (.cells #[.int .i64 2, .int .i64 x1, .string ⟨p.toArray⟩, .string ⟨q.toArray⟩] 23)
          have X_y := SBox.new w2 23 #[.int .i64 2, .int .i64 x1, .string ⟨p.toArray⟩, .string ⟨q.toArray⟩]
          have B2' := B2.alloc B2.size (.cells #[.int .i64 2, .int .i64 x1, .string ⟨p.toArray⟩, .string ⟨q.toArray⟩] 23)
          have f_x0_2 := X_x.cell 0 _ rfl
          have f_x1_2 := X_x.cell 1 _ rfl
          have f_x2_2 := X_x.cell 2 _ rfl
          have f_x3_2 := X_x.cell 3 _ rfl
          have f_y0_2 := X_y.cell 0 _ rfl
          have f_y1_2 := X_y.cell 1 _ rfl
          have f_y2_2 := X_y.cell 2 _ rfl
          have f_y3_2 := X_y.cell 3 _ rfl
          go_wp2_with fail
          refine (RM.out _ B2').mono ?_
          rintro e w3 ⟨rfl, b3⟩
          have B3 := bel_trans B2' b3
          clear f_x0_2 f_x1_2 f_x2_2 f_x3_2 f_y0_2 f_y1_2 f_y2_2 f_y3_2
          replace X_x := X_x.below b3
          replace X_y := X_y.below b3
          have f_x0_3 := X_x.cell 0 _ rfl
          have f_x1_3 := X_x.cell 1 _ rfl
          have f_x2_3 := X_x.cell 2 _ rfl
          have f_x3_3 := X_x.cell 3 _ rfl
          have f_y0_3 := X_y.cell 0 _ rfl
          have f_y1_3 := X_y.cell 1 _ rfl
          have f_y2_3 := X_y.cell 2 _ rfl
          have f_y3_3 := X_y.cell 3 _ rfl
          go_wp2_with fail
          go_ret
          exact ⟨rfl, B3⟩
        · have X_x := SBox.new w 23 #[.int .i64 3, .int .i64 x1, .string ⟨x2.toArray⟩, .string ⟨x3.toArray⟩]
          have B_x := Below.alloc (Below.refl w.heap.size w) (Below.size (Below.refl w.heap.size w)) (.cells #[.int .i64 3, .int .i64 x1, .string ⟨x2.toArray⟩, .string ⟨x3.toArray⟩] 23)
          go_enter Tryd.func7, Tryd.ntmps7
          go_wp2_with fail
          refine (HSh.out _ B_x).mono ?_
          rintro e w1 ⟨rfl, b1⟩
          have B1 := bel_trans B_x b1
          replace X_x := X_x.below b1
          have f_x0_1 := X_x.cell 0 _ rfl
          have f_x1_1 := X_x.cell 1 _ rfl
          have f_x2_1 := X_x.cell 2 _ rfl
          have f_x3_1 := X_x.cell 3 _ rfl
          go_wp2_with fail
          refine (HO.out _ B1).mono ?_
          rintro e w2 ⟨rfl, b2⟩
          have B2 := bel_trans B1 b2
          clear f_x0_1 f_x1_1 f_x2_1 f_x3_1
          replace X_x := X_x.below b2
          replace X_x := X_x.alloc (.cells #[.int .i64 3, .int .i64 x1, .string ⟨p.toArray⟩, .string ⟨q.toArray⟩] 23)
          have X_y := SBox.new w2 23 #[.int .i64 3, .int .i64 x1, .string ⟨p.toArray⟩, .string ⟨q.toArray⟩]
          have B2' := B2.alloc B2.size (.cells #[.int .i64 3, .int .i64 x1, .string ⟨p.toArray⟩, .string ⟨q.toArray⟩] 23)
          have f_x0_2 := X_x.cell 0 _ rfl
          have f_x1_2 := X_x.cell 1 _ rfl
          have f_x2_2 := X_x.cell 2 _ rfl
          have f_x3_2 := X_x.cell 3 _ rfl
          have f_y0_2 := X_y.cell 0 _ rfl
          have f_y1_2 := X_y.cell 1 _ rfl
          have f_y2_2 := X_y.cell 2 _ rfl
          have f_y3_2 := X_y.cell 3 _ rfl
          go_wp2_with fail
          refine (RM.out _ B2').mono ?_
          rintro e w3 ⟨rfl, b3⟩
          have B3 := bel_trans B2' b3
          clear f_x0_2 f_x1_2 f_x2_2 f_x3_2 f_y0_2 f_y1_2 f_y2_2 f_y3_2
          replace X_x := X_x.below b3
          replace X_y := X_y.below b3
          have f_x0_3 := X_x.cell 0 _ rfl
          have f_x1_3 := X_x.cell 1 _ rfl
          have f_x2_3 := X_x.cell 2 _ rfl
          have f_x3_3 := X_x.cell 3 _ rfl
          have f_y0_3 := X_y.cell 0 _ rfl
          have f_y1_3 := X_y.cell 1 _ rfl
          have f_y2_3 := X_y.cell 2 _ rfl
          have f_y3_3 := X_y.cell 3 _ rfl
          go_wp2_with fail
          go_ret
          exact ⟨rfl, B3⟩
    · rw [show tagE (keyL s) (x0, x1, x2, x3) = (x0, x1, x2, x3) by unfold tagE; rw [if_neg (show ¬ keyedE x0 from hk)]] at HO
      have k2 : (x0 != 2) = true := bne_iff_ne.2 (fun h => hk (Or.inl h))
      have k3 : (x0 != 3) = true := bne_iff_ne.2 (fun h => hk (Or.inr h))
      simp only [evW] at HO
      clear hm hk
      have e_x2 : (x2 == x2) = true := beq_self_eq_true x2
      have e_x3 : (x3 == x3) = true := beq_self_eq_true x3
      have X_x := SBox.new w 23 #[.int .i64 x0, .int .i64 x1, .string ⟨x2.toArray⟩, .string ⟨x3.toArray⟩]
      have B_x := Below.alloc (Below.refl w.heap.size w) (Below.size (Below.refl w.heap.size w)) (.cells #[.int .i64 x0, .int .i64 x1, .string ⟨x2.toArray⟩, .string ⟨x3.toArray⟩] 23)
      go_enter Tryd.func7, Tryd.ntmps7
      go_wp2_with fail
      refine (HSh.out _ B_x).mono ?_
      rintro e w1 ⟨rfl, b1⟩
      have B1 := bel_trans B_x b1
      replace X_x := X_x.below b1
      have f_x0_1 := X_x.cell 0 _ rfl
      have f_x1_1 := X_x.cell 1 _ rfl
      have f_x2_1 := X_x.cell 2 _ rfl
      have f_x3_1 := X_x.cell 3 _ rfl
      go_wp2_with fail
      refine (HO.out _ B1).mono ?_
      rintro e w2 ⟨rfl, b2⟩
      have B2 := bel_trans B1 b2
      clear f_x0_1 f_x1_1 f_x2_1 f_x3_1
      replace X_x := X_x.below b2
      replace X_x := X_x.alloc (.cells #[.int .i64 x0, .int .i64 x1, .string ⟨x2.toArray⟩, .string ⟨x3.toArray⟩] 23)
      have X_y := SBox.new w2 23 #[.int .i64 x0, .int .i64 x1, .string ⟨x2.toArray⟩, .string ⟨x3.toArray⟩]
      have B2' := B2.alloc B2.size (.cells #[.int .i64 x0, .int .i64 x1, .string ⟨x2.toArray⟩, .string ⟨x3.toArray⟩] 23)
      have f_x0_2 := X_x.cell 0 _ rfl
      have f_x1_2 := X_x.cell 1 _ rfl
      have f_x2_2 := X_x.cell 2 _ rfl
      have f_x3_2 := X_x.cell 3 _ rfl
      have f_y0_2 := X_y.cell 0 _ rfl
      have f_y1_2 := X_y.cell 1 _ rfl
      have f_y2_2 := X_y.cell 2 _ rfl
      have f_y3_2 := X_y.cell 3 _ rfl
      go_wp2_with fail
      refine (RM.out _ B2').mono ?_
      rintro e w3 ⟨rfl, b3⟩
      have B3 := bel_trans B2' b3
      clear f_x0_2 f_x1_2 f_x2_2 f_x3_2 f_y0_2 f_y1_2 f_y2_2 f_y3_2
      replace X_x := X_x.below b3
      replace X_y := X_y.below b3
      have f_x0_3 := X_x.cell 0 _ rfl
      have f_x1_3 := X_x.cell 1 _ rfl
      have f_x2_3 := X_x.cell 2 _ rfl
      have f_x3_3 := X_x.cell 3 _ rfl
      have f_y0_3 := X_y.cell 0 _ rfl
      have f_y1_3 := X_y.cell 1 _ rfl
      have f_y2_3 := X_y.cell 2 _ rfl
      have f_y3_3 := X_y.cell 3 _ rfl
      go_wp2_with fail
      go_ret
      exact ⟨rfl, B3⟩
  · rw [oneP_no s _ hm] at HO
    have hc : decide (mayE (x0, x1, x2, x3)) = false ∨ decide (mayE (x0, x1, x2, x3)) = true ∧ ((s.length : Int) < 1 ∨ ¬ (s.length : Int) < 1 ∧ (32 : Int) < (s.length : Int)) := by
      by_cases h1 : mayE (x0, x1, x2, x3)
      · right
        refine ⟨decide_eq_true h1, ?_⟩
        have h2 : ¬ mayK s := fun h => hm ⟨h1, h⟩
        unfold mayK at h2
        omega
      · left; exact decide_eq_false h1
    obtain ⟨m, hmm⟩ : ∃ m, decide (mayE (x0, x1, x2, x3)) = m := ⟨_, rfl⟩
    rw [hmm] at RM hc
    simp only [evW] at HO
    clear hm hmm
    rcases hc with rfl | ⟨rfl, hc | ⟨hc, hd⟩⟩
    · have X_x := SBox.new w 23 #[.int .i64 x0, .int .i64 x1, .string ⟨x2.toArray⟩, .string ⟨x3.toArray⟩]
      have B_x := Below.alloc (Below.refl w.heap.size w) (Below.size (Below.refl w.heap.size w)) (.cells #[.int .i64 x0, .int .i64 x1, .string ⟨x2.toArray⟩, .string ⟨x3.toArray⟩] 23)
      go_enter Tryd.func7, Tryd.ntmps7
      go_wp2_with fail
      refine (HSh.out _ B_x).mono ?_
      rintro e w1 ⟨rfl, b1⟩
      have B1 := bel_trans B_x b1
      replace X_x := X_x.below b1
      have f_x0_1 := X_x.cell 0 _ rfl
      have f_x1_1 := X_x.cell 1 _ rfl
      have f_x2_1 := X_x.cell 2 _ rfl
      have f_x3_1 := X_x.cell 3 _ rfl
      go_wp2_with fail
      refine (HO.out _ B1).mono ?_
      rintro e w2 ⟨rfl, b2⟩
      have B2 := bel_trans B1 b2
      clear f_x0_1 f_x1_1 f_x2_1 f_x3_1
      replace X_x := X_x.below b2
      replace X_x := X_x.alloc (.cells #[.int .i64 0, .int .i64 0, .string ⟨#[]⟩, .string ⟨#[]⟩] 23)
      have X_y := SBox.new w2 23 #[.int .i64 0, .int .i64 0, .string ⟨#[]⟩, .string ⟨#[]⟩]
      have B2' := B2.alloc B2.size (.cells #[.int .i64 0, .int .i64 0, .string ⟨#[]⟩, .string ⟨#[]⟩] 23)
      have f_x0_2 := X_x.cell 0 _ rfl
      have f_x1_2 := X_x.cell 1 _ rfl
      have f_x2_2 := X_x.cell 2 _ rfl
      have f_x3_2 := X_x.cell 3 _ rfl
      have f_y0_2 := X_y.cell 0 _ rfl
      have f_y1_2 := X_y.cell 1 _ rfl
      have f_y2_2 := X_y.cell 2 _ rfl
      have f_y3_2 := X_y.cell 3 _ rfl
      go_wp2_with fail
      refine (RM.out _ B2').mono ?_
      rintro e w3 ⟨rfl, b3⟩
      have B3 := bel_trans B2' b3
      clear f_x0_2 f_x1_2 f_x2_2 f_x3_2 f_y0_2 f_y1_2 f_y2_2 f_y3_2
      replace X_x := X_x.below b3
      replace X_y := X_y.below b3
      have f_x0_3 := X_x.cell 0 _ rfl
      have f_x1_3 := X_x.cell 1 _ rfl
      have f_x2_3 := X_x.cell 2 _ rfl
      have f_x3_3 := X_x.cell 3 _ rfl
      have f_y0_3 := X_y.cell 0 _ rfl
      have f_y1_3 := X_y.cell 1 _ rfl
      have f_y2_3 := X_y.cell 2 _ rfl
      have f_y3_3 := X_y.cell 3 _ rfl
      go_wp2_with fail
      go_ret
      exact ⟨rfl, B3⟩
    · have X_x := SBox.new w 23 #[.int .i64 x0, .int .i64 x1, .string ⟨x2.toArray⟩, .string ⟨x3.toArray⟩]
      have B_x := Below.alloc (Below.refl w.heap.size w) (Below.size (Below.refl w.heap.size w)) (.cells #[.int .i64 x0, .int .i64 x1, .string ⟨x2.toArray⟩, .string ⟨x3.toArray⟩] 23)
      go_enter Tryd.func7, Tryd.ntmps7
      go_wp2_with fail
      refine (HSh.out _ B_x).mono ?_
      rintro e w1 ⟨rfl, b1⟩
      have B1 := bel_trans B_x b1
      replace X_x := X_x.below b1
      have f_x0_1 := X_x.cell 0 _ rfl
      have f_x1_1 := X_x.cell 1 _ rfl
      have f_x2_1 := X_x.cell 2 _ rfl
      have f_x3_1 := X_x.cell 3 _ rfl
      go_wp2_with fail
      refine (HO.out _ B1).mono ?_
      rintro e w2 ⟨rfl, b2⟩
      have B2 := bel_trans B1 b2
      clear f_x0_1 f_x1_1 f_x2_1 f_x3_1
      replace X_x := X_x.below b2
      replace X_x := X_x.alloc (.cells #[.int .i64 0, .int .i64 0, .string ⟨#[]⟩, .string ⟨#[]⟩] 23)
      have X_y := SBox.new w2 23 #[.int .i64 0, .int .i64 0, .string ⟨#[]⟩, .string ⟨#[]⟩]
      have B2' := B2.alloc B2.size (.cells #[.int .i64 0, .int .i64 0, .string ⟨#[]⟩, .string ⟨#[]⟩] 23)
      have f_x0_2 := X_x.cell 0 _ rfl
      have f_x1_2 := X_x.cell 1 _ rfl
      have f_x2_2 := X_x.cell 2 _ rfl
      have f_x3_2 := X_x.cell 3 _ rfl
      have f_y0_2 := X_y.cell 0 _ rfl
      have f_y1_2 := X_y.cell 1 _ rfl
      have f_y2_2 := X_y.cell 2 _ rfl
      have f_y3_2 := X_y.cell 3 _ rfl
      go_wp2_with fail
      refine (RM.out _ B2').mono ?_
      rintro e w3 ⟨rfl, b3⟩
      have B3 := bel_trans B2' b3
      clear f_x0_2 f_x1_2 f_x2_2 f_x3_2 f_y0_2 f_y1_2 f_y2_2 f_y3_2
      replace X_x := X_x.below b3
      replace X_y := X_y.below b3
      have f_x0_3 := X_x.cell 0 _ rfl
      have f_x1_3 := X_x.cell 1 _ rfl
      have f_x2_3 := X_x.cell 2 _ rfl
      have f_x3_3 := X_x.cell 3 _ rfl
      have f_y0_3 := X_y.cell 0 _ rfl
      have f_y1_3 := X_y.cell 1 _ rfl
      have f_y2_3 := X_y.cell 2 _ rfl
      have f_y3_3 := X_y.cell 3 _ rfl
      go_wp2_with fail
      go_ret
      exact ⟨rfl, B3⟩
    · have X_x := SBox.new w 23 #[.int .i64 x0, .int .i64 x1, .string ⟨x2.toArray⟩, .string ⟨x3.toArray⟩]
      have B_x := Below.alloc (Below.refl w.heap.size w) (Below.size (Below.refl w.heap.size w)) (.cells #[.int .i64 x0, .int .i64 x1, .string ⟨x2.toArray⟩, .string ⟨x3.toArray⟩] 23)
      go_enter Tryd.func7, Tryd.ntmps7
      go_wp2_with fail
      refine (HSh.out _ B_x).mono ?_
      rintro e w1 ⟨rfl, b1⟩
      have B1 := bel_trans B_x b1
      replace X_x := X_x.below b1
      have f_x0_1 := X_x.cell 0 _ rfl
      have f_x1_1 := X_x.cell 1 _ rfl
      have f_x2_1 := X_x.cell 2 _ rfl
      have f_x3_1 := X_x.cell 3 _ rfl
      go_wp2_with fail
      refine (HO.out _ B1).mono ?_
      rintro e w2 ⟨rfl, b2⟩
      have B2 := bel_trans B1 b2
      clear f_x0_1 f_x1_1 f_x2_1 f_x3_1
      replace X_x := X_x.below b2
      replace X_x := X_x.alloc (.cells #[.int .i64 0, .int .i64 0, .string ⟨#[]⟩, .string ⟨#[]⟩] 23)
      have X_y := SBox.new w2 23 #[.int .i64 0, .int .i64 0, .string ⟨#[]⟩, .string ⟨#[]⟩]
      have B2' := B2.alloc B2.size (.cells #[.int .i64 0, .int .i64 0, .string ⟨#[]⟩, .string ⟨#[]⟩] 23)
      have f_x0_2 := X_x.cell 0 _ rfl
      have f_x1_2 := X_x.cell 1 _ rfl
      have f_x2_2 := X_x.cell 2 _ rfl
      have f_x3_2 := X_x.cell 3 _ rfl
      have f_y0_2 := X_y.cell 0 _ rfl
      have f_y1_2 := X_y.cell 1 _ rfl
      have f_y2_2 := X_y.cell 2 _ rfl
      have f_y3_2 := X_y.cell 3 _ rfl
      go_wp2_with fail
      refine (RM.out _ B2').mono ?_
      rintro e w3 ⟨rfl, b3⟩
      have B3 := bel_trans B2' b3
      clear f_x0_2 f_x1_2 f_x2_2 f_x3_2 f_y0_2 f_y1_2 f_y2_2 f_y3_2
      replace X_x := X_x.below b3
      replace X_y := X_y.below b3
      have f_x0_3 := X_x.cell 0 _ rfl
      have f_x1_3 := X_x.cell 1 _ rfl
      have f_x2_3 := X_x.cell 2 _ rfl
      have f_x3_3 := X_x.cell 3 _ rfl
      have f_y0_3 := X_y.cell 0 _ rfl
      have f_y1_3 := X_y.cell 1 _ rfl
      have f_y2_3 := X_y.cell 2 _ rfl
      have f_y3_3 := X_y.cell 3 _ rfl
      go_wp2_with fail
      go_ret
      exact ⟨rfl, B3⟩
end Go.Proofs.YtihggfkenhkglaaDoor
