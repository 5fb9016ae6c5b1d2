/-
  The walk of EventBack.
-/
import Derived.Test.YtchneiefjjcccaaZShown6
import Derived.Test.YtchneiefjjcccaaZEvent3
import Derived.Deep.RegionHeld3
import Derived.BigQuiet
import Derived.Deep.QuietTactic
namespace Go.Proofs.Ytchneiefjjcccaa
set_option maxRecDepth 100000
open Go.RowKit
set_option linter.unusedVariables false
attribute [local go_sem] ba_size ba_append ba_get ba_extract
set_option maxHeartbeats 4000000 in
theorem back6_walk (C : P6C) (w : World) (x0 x1 : Int) (x2 x3 : List UInt8) (gx : goodE (x0, x1, x2, x3)) (cut : Int) :
    Calls Try.prog 5 #[.agg #[.int .i64 x0, .int .i64 x1, .string ⟨x2.toArray⟩, .string ⟨x3.toArray⟩], .int .i64 cut] w fun e w' => e = .returned (.bool true) ∧ Below w.heap.size w w' := by
  have HSh : Hid (∀ W, Below w.heap.size w W → Calls Try.prog 10 #[] W fun e w' => e = .returned (.bool true) ∧ Below W.heap.size W w') := fun W h => shown6_any C W
  have HB : Hid (∀ W, Below w.heap.size w W → Calls Try.prog 11 #[.agg #[.int .i64 x0, .int .i64 x1, .string ⟨x2.toArray⟩, .string ⟨x3.toArray⟩]] W fun e w' => e = .returned (.tuple #[.string ⟨(bytesE (x0, x1, x2, x3)).1.toArray⟩, .int .i64 ((bytesE (x0, x1, x2, x3)).2 : Int)]) ∧ Below W.heap.size W w') := fun W h => C.bytes x0 x1 x2 x3 W gx
  have HM : Hid (∀ W, Below w.heap.size w W → Calls Try.prog 15 #[.agg #[.int .i64 x0, .int .i64 x1, .string ⟨x2.toArray⟩, .string ⟨x3.toArray⟩]] W fun e w' => e = .returned (.bool (decide (mayE (x0, x1, x2, x3)))) ∧ Below W.heap.size W w') := fun W h => C.may x0 x1 x2 x3 W
  by_cases hm : mayE (x0, x1, x2, x3)
  · rw [bytesE_ok _ hm] at HB
    have z := bytE_len _ hm
    have A1 := fun W => C.take (bytE (x0, x1, x2, x3)) W (by omega)
    have A2 := fun W => C.take (bytE (x0, x1, x2, x3) ++ [48]) W (by simp; omega)
    have A3 := fun (c : Nat) (hc : c < (bytE (x0, x1, x2, x3)).length) W => C.take ((bytE (x0, x1, x2, x3)).take c) W (by simp; omega)
    rw [takeER_byt _ hm] at A1
    rw [takeER_more _ hm] at A2
    have A4 := fun c hc W => by have := A3 c hc W; rw [takeER_cut _ hm c hc] at this; exact this
    obtain ⟨s, hs⟩ : ∃ s, bytE (x0, x1, x2, x3) = s := ⟨_, rfl⟩
    rw [hs] at A1 A2 HB z
    simp only [hs] at A4
    have H1 : Hid (∀ W, Below w.heap.size w W → Calls Try.prog 13 #[.string ⟨s.toArray⟩] W fun e w' => e = .returned (.tuple #[.agg #[.int .i64 x0, .int .i64 x1, .string ⟨x2.toArray⟩, .string ⟨x3.toArray⟩], .int .i64 0]) ∧ Below W.heap.size W w') := fun W _ => A1 W
    have H2 : Hid (∀ W, Below w.heap.size w W → Calls Try.prog 13 #[.string ⟨(s ++ [48]).toArray⟩] W fun e w' => e = .returned (.tuple #[.agg #[.int .i64 0, .int .i64 0, .string ⟨#[]⟩, .string ⟨#[]⟩], .int .i64 3]) ∧ Below W.heap.size W w') := fun W _ => A2 W
    have H3 : Hid (∀ c : Nat, c < s.length → ∀ W, Below w.heap.size w W → Calls Try.prog 13 #[.string ⟨(s.take c).toArray⟩] W fun e w' => e = .returned (.tuple #[.agg #[.int .i64 0, .int .i64 0, .string ⟨#[]⟩, .string ⟨#[]⟩], .int .i64 3]) ∧ Below W.heap.size W w') := fun c hc W _ => A4 c hc W
    clear A1 A2 A3 A4 hs HM
    simp only at HB
    have e2 : (x2 == x2) = true := beq_self_eq_true x2
    have e3 : (x3 == x3) = true := beq_self_eq_true x3
    have s1 : s.length + 1 ≤ 9223372036854775807 := by omega
    by_cases c1 : cut < 0
    · have X_x := SBox.new w 23 #[.int .i64 x0, .int .i64 x1, .string ⟨x2.toArray⟩, .string ⟨x3.toArray⟩]
      have B_x := Below.alloc (Below.refl w.heap.size w) (Below.size (Below.refl w.heap.size w)) (.cells #[.int .i64 x0, .int .i64 x1, .string ⟨x2.toArray⟩, .string ⟨x3.toArray⟩] 23)
      go_enter Try.func5, Try.ntmps5
      go_wp2_with fail
      refine (HSh.out _ B_x).mono ?_
      rintro e w1 ⟨rfl, b1⟩
      have B1 := bel_trans B_x b1
      replace X_x := X_x.below b1
      have f_x0_1 := X_x.cell 0 _ rfl
      have f_x1_1 := X_x.cell 1 _ rfl
      have f_x2_1 := X_x.cell 2 _ rfl
      have f_x3_1 := X_x.cell 3 _ rfl
      go_wp2_with fail
      refine (HB.out _ B1).mono ?_
      rintro e w2 ⟨rfl, b2⟩
      have B2 := bel_trans B1 b2
      clear f_x0_1 f_x1_1 f_x2_1 f_x3_1
      replace X_x := X_x.below b2
      have f_x0_2 := X_x.cell 0 _ rfl
      have f_x1_2 := X_x.cell 1 _ rfl
      have f_x2_2 := X_x.cell 2 _ rfl
      have f_x3_2 := X_x.cell 3 _ rfl
      go_wp2_with fail
      refine (H1.out _ B2).mono ?_
      rintro e w3 ⟨rfl, b3⟩
      have B3 := bel_trans B2 b3
      clear f_x0_2 f_x1_2 f_x2_2 f_x3_2
      replace X_x := X_x.below b3
      replace X_x := X_x.alloc (.cells #[.int .i64 x0, .int .i64 x1, .string ⟨x2.toArray⟩, .string ⟨x3.toArray⟩] 23)
      have X_y := SBox.new w3 23 #[.int .i64 x0, .int .i64 x1, .string ⟨x2.toArray⟩, .string ⟨x3.toArray⟩]
      have B3' := B3.alloc B3.size (.cells #[.int .i64 x0, .int .i64 x1, .string ⟨x2.toArray⟩, .string ⟨x3.toArray⟩] 23)
      have f_x0_3 := X_x.cell 0 _ rfl
      have f_x1_3 := X_x.cell 1 _ rfl
      have f_x2_3 := X_x.cell 2 _ rfl
      have f_x3_3 := X_x.cell 3 _ rfl
      have f_y0_3 := X_y.cell 0 _ rfl
      have f_y1_3 := X_y.cell 1 _ rfl
      have f_y2_3 := X_y.cell 2 _ rfl
      have f_y3_3 := X_y.cell 3 _ rfl
      go_wp2_with fail
      refine (H2.out _ B3').mono ?_
      rintro e w4 ⟨rfl, b4⟩
      have B4 := bel_trans B3' b4
      clear f_x0_3 f_x1_3 f_x2_3 f_x3_3 f_y0_3 f_y1_3 f_y2_3 f_y3_3
      replace X_x := X_x.below b4
      replace X_y := X_y.below b4
      replace X_x := X_x.alloc (.cells #[.int .i64 0, .int .i64 0, .string ⟨#[]⟩, .string ⟨#[]⟩] 23)
      replace X_y := X_y.alloc (.cells #[.int .i64 0, .int .i64 0, .string ⟨#[]⟩, .string ⟨#[]⟩] 23)
      have X_z := SBox.new w4 23 #[.int .i64 0, .int .i64 0, .string ⟨#[]⟩, .string ⟨#[]⟩]
      have B4' := B4.alloc B4.size (.cells #[.int .i64 0, .int .i64 0, .string ⟨#[]⟩, .string ⟨#[]⟩] 23)
      have f_x0_4 := X_x.cell 0 _ rfl
      have f_x1_4 := X_x.cell 1 _ rfl
      have f_x2_4 := X_x.cell 2 _ rfl
      have f_x3_4 := X_x.cell 3 _ rfl
      have f_y0_4 := X_y.cell 0 _ rfl
      have f_y1_4 := X_y.cell 1 _ rfl
      have f_y2_4 := X_y.cell 2 _ rfl
      have f_y3_4 := X_y.cell 3 _ rfl
      have f_z0_4 := X_z.cell 0 _ rfl
      have f_z1_4 := X_z.cell 1 _ rfl
      have f_z2_4 := X_z.cell 2 _ rfl
      have f_z3_4 := X_z.cell 3 _ rfl
      go_wp2_with fail
      go_ret
      exact ⟨rfl, B4'⟩
    · by_cases c2 : (s.length : Int) ≤ cut
      · have X_x := SBox.new w 23 #[.int .i64 x0, .int .i64 x1, .string ⟨x2.toArray⟩, .string ⟨x3.toArray⟩]
        have B_x := Below.alloc (Below.refl w.heap.size w) (Below.size (Below.refl w.heap.size w)) (.cells #[.int .i64 x0, .int .i64 x1, .string ⟨x2.toArray⟩, .string ⟨x3.toArray⟩] 23)
        go_enter Try.func5, Try.ntmps5
        go_wp2_with fail
        refine (HSh.out _ B_x).mono ?_
        rintro e w1 ⟨rfl, b1⟩
        have B1 := bel_trans B_x b1
        replace X_x := X_x.below b1
        have f_x0_1 := X_x.cell 0 _ rfl
        have f_x1_1 := X_x.cell 1 _ rfl
        have f_x2_1 := X_x.cell 2 _ rfl
        have f_x3_1 := X_x.cell 3 _ rfl
        go_wp2_with fail
        refine (HB.out _ B1).mono ?_
        rintro e w2 ⟨rfl, b2⟩
        have B2 := bel_trans B1 b2
        clear f_x0_1 f_x1_1 f_x2_1 f_x3_1
        replace X_x := X_x.below b2
        have f_x0_2 := X_x.cell 0 _ rfl
        have f_x1_2 := X_x.cell 1 _ rfl
        have f_x2_2 := X_x.cell 2 _ rfl
        have f_x3_2 := X_x.cell 3 _ rfl
        go_wp2_with fail
        refine (H1.out _ B2).mono ?_
        rintro e w3 ⟨rfl, b3⟩
        have B3 := bel_trans B2 b3
        clear f_x0_2 f_x1_2 f_x2_2 f_x3_2
        replace X_x := X_x.below b3
        replace X_x := X_x.alloc (.cells #[.int .i64 x0, .int .i64 x1, .string ⟨x2.toArray⟩, .string ⟨x3.toArray⟩] 23)
        have X_y := SBox.new w3 23 #[.int .i64 x0, .int .i64 x1, .string ⟨x2.toArray⟩, .string ⟨x3.toArray⟩]
        have B3' := B3.alloc B3.size (.cells #[.int .i64 x0, .int .i64 x1, .string ⟨x2.toArray⟩, .string ⟨x3.toArray⟩] 23)
        have f_x0_3 := X_x.cell 0 _ rfl
        have f_x1_3 := X_x.cell 1 _ rfl
        have f_x2_3 := X_x.cell 2 _ rfl
        have f_x3_3 := X_x.cell 3 _ rfl
        have f_y0_3 := X_y.cell 0 _ rfl
        have f_y1_3 := X_y.cell 1 _ rfl
        have f_y2_3 := X_y.cell 2 _ rfl
        have f_y3_3 := X_y.cell 3 _ rfl
        go_wp2_with fail
        refine (H2.out _ B3').mono ?_
        rintro e w4 ⟨rfl, b4⟩
        have B4 := bel_trans B3' b4
        clear f_x0_3 f_x1_3 f_x2_3 f_x3_3 f_y0_3 f_y1_3 f_y2_3 f_y3_3
        replace X_x := X_x.below b4
        replace X_y := X_y.below b4
        replace X_x := X_x.alloc (.cells #[.int .i64 0, .int .i64 0, .string ⟨#[]⟩, .string ⟨#[]⟩] 23)
        replace X_y := X_y.alloc (.cells #[.int .i64 0, .int .i64 0, .string ⟨#[]⟩, .string ⟨#[]⟩] 23)
        have X_z := SBox.new w4 23 #[.int .i64 0, .int .i64 0, .string ⟨#[]⟩, .string ⟨#[]⟩]
        have B4' := B4.alloc B4.size (.cells #[.int .i64 0, .int .i64 0, .string ⟨#[]⟩, .string ⟨#[]⟩] 23)
        have f_x0_4 := X_x.cell 0 _ rfl
        have f_x1_4 := X_x.cell 1 _ rfl
        have f_x2_4 := X_x.cell 2 _ rfl
        have f_x3_4 := X_x.cell 3 _ rfl
        have f_y0_4 := X_y.cell 0 _ rfl
        have f_y1_4 := X_y.cell 1 _ rfl
        have f_y2_4 := X_y.cell 2 _ rfl
        have f_y3_4 := X_y.cell 3 _ rfl
        have f_z0_4 := X_z.cell 0 _ rfl
        have f_z1_4 := X_z.cell 1 _ rfl
        have f_z2_4 := X_z.cell 2 _ rfl
        have f_z3_4 := X_z.cell 3 _ rfl
        go_wp2_with fail
        go_ret
        exact ⟨rfl, B4'⟩
      · obtain ⟨c, rfl⟩ : ∃ c : Nat, cut = (c : Int) := ⟨cut.toNat, by omega⟩
        have hc : c < s.length := by omega
        have hc' : c ≤ s.length := by omega
        have H4 : Hid _ := H3.out c hc
        have X_x := SBox.new w 23 #[.int .i64 x0, .int .i64 x1, .string ⟨x2.toArray⟩, .string ⟨x3.toArray⟩]
        have B_x := Below.alloc (Below.refl w.heap.size w) (Below.size (Below.refl w.heap.size w)) (.cells #[.int .i64 x0, .int .i64 x1, .string ⟨x2.toArray⟩, .string ⟨x3.toArray⟩] 23)
        go_enter Try.func5, Try.ntmps5
        go_wp2_with fail
        refine (HSh.out _ B_x).mono ?_
        rintro e w1 ⟨rfl, b1⟩
        have B1 := bel_trans B_x b1
        replace X_x := X_x.below b1
        have f_x0_1 := X_x.cell 0 _ rfl
        have f_x1_1 := X_x.cell 1 _ rfl
        have f_x2_1 := X_x.cell 2 _ rfl
        have f_x3_1 := X_x.cell 3 _ rfl
        go_wp2_with fail
        refine (HB.out _ B1).mono ?_
        rintro e w2 ⟨rfl, b2⟩
        have B2 := bel_trans B1 b2
        clear f_x0_1 f_x1_1 f_x2_1 f_x3_1
        replace X_x := X_x.below b2
        have f_x0_2 := X_x.cell 0 _ rfl
        have f_x1_2 := X_x.cell 1 _ rfl
        have f_x2_2 := X_x.cell 2 _ rfl
        have f_x3_2 := X_x.cell 3 _ rfl
        go_wp2_with fail
        refine (H1.out _ B2).mono ?_
        rintro e w3 ⟨rfl, b3⟩
        have B3 := bel_trans B2 b3
        clear f_x0_2 f_x1_2 f_x2_2 f_x3_2
        replace X_x := X_x.below b3
        replace X_x := X_x.alloc (.cells #[.int .i64 x0, .int .i64 x1, .string ⟨x2.toArray⟩, .string ⟨x3.toArray⟩] 23)
        have X_y := SBox.new w3 23 #[.int .i64 x0, .int .i64 x1, .string ⟨x2.toArray⟩, .string ⟨x3.toArray⟩]
        have B3' := B3.alloc B3.size (.cells #[.int .i64 x0, .int .i64 x1, .string ⟨x2.toArray⟩, .string ⟨x3.toArray⟩] 23)
        have f_x0_3 := X_x.cell 0 _ rfl
        have f_x1_3 := X_x.cell 1 _ rfl
        have f_x2_3 := X_x.cell 2 _ rfl
        have f_x3_3 := X_x.cell 3 _ rfl
        have f_y0_3 := X_y.cell 0 _ rfl
        have f_y1_3 := X_y.cell 1 _ rfl
        have f_y2_3 := X_y.cell 2 _ rfl
        have f_y3_3 := X_y.cell 3 _ rfl
        go_wp2_with fail
        refine (H2.out _ B3').mono ?_
        rintro e w4 ⟨rfl, b4⟩
        have B4 := bel_trans B3' b4
        clear f_x0_3 f_x1_3 f_x2_3 f_x3_3 f_y0_3 f_y1_3 f_y2_3 f_y3_3
        replace X_x := X_x.below b4
        replace X_y := X_y.below b4
        replace X_x := X_x.alloc (.cells #[.int .i64 0, .int .i64 0, .string ⟨#[]⟩, .string ⟨#[]⟩] 23)
        replace X_y := X_y.alloc (.cells #[.int .i64 0, .int .i64 0, .string ⟨#[]⟩, .string ⟨#[]⟩] 23)
        have X_z := SBox.new w4 23 #[.int .i64 0, .int .i64 0, .string ⟨#[]⟩, .string ⟨#[]⟩]
        have B4' := B4.alloc B4.size (.cells #[.int .i64 0, .int .i64 0, .string ⟨#[]⟩, .string ⟨#[]⟩] 23)
        have f_x0_4 := X_x.cell 0 _ rfl
        have f_x1_4 := X_x.cell 1 _ rfl
        have f_x2_4 := X_x.cell 2 _ rfl
        have f_x3_4 := X_x.cell 3 _ rfl
        have f_y0_4 := X_y.cell 0 _ rfl
        have f_y1_4 := X_y.cell 1 _ rfl
        have f_y2_4 := X_y.cell 2 _ rfl
        have f_y3_4 := X_y.cell 3 _ rfl
        have f_z0_4 := X_z.cell 0 _ rfl
        have f_z1_4 := X_z.cell 1 _ rfl
        have f_z2_4 := X_z.cell 2 _ rfl
        have f_z3_4 := X_z.cell 3 _ rfl
        go_wp2_with fail
        refine (H4.out _ B4').mono ?_
        rintro e w5 ⟨rfl, b5⟩
        have B5 := bel_trans B4' b5
        clear f_x0_4 f_x1_4 f_x2_4 f_x3_4 f_y0_4 f_y1_4 f_y2_4 f_y3_4 f_z0_4 f_z1_4 f_z2_4 f_z3_4
        replace X_x := X_x.below b5
        replace X_y := X_y.below b5
        replace X_z := X_z.below b5
        replace X_x := X_x.alloc (.cells #[.int .i64 0, .int .i64 0, .string ⟨#[]⟩, .string ⟨#[]⟩] 23)
        replace X_y := X_y.alloc (.cells #[.int .i64 0, .int .i64 0, .string ⟨#[]⟩, .string ⟨#[]⟩] 23)
        replace X_z := X_z.alloc (.cells #[.int .i64 0, .int .i64 0, .string ⟨#[]⟩, .string ⟨#[]⟩] 23)
        have X_u := SBox.new w5 23 #[.int .i64 0, .int .i64 0, .string ⟨#[]⟩, .string ⟨#[]⟩]
        have B5' := B5.alloc B5.size (.cells #[.int .i64 0, .int .i64 0, .string ⟨#[]⟩, .string ⟨#[]⟩] 23)
        have f_x0_5 := X_x.cell 0 _ rfl
        have f_x1_5 := X_x.cell 1 _ rfl
        have f_x2_5 := X_x.cell 2 _ rfl
        have f_x3_5 := X_x.cell 3 _ rfl
        have f_y0_5 := X_y.cell 0 _ rfl
        have f_y1_5 := X_y.cell 1 _ rfl
        have f_y2_5 := X_y.cell 2 _ rfl
        have f_y3_5 := X_y.cell 3 _ rfl
        have f_z0_5 := X_z.cell 0 _ rfl
        have f_z1_5 := X_z.cell 1 _ rfl
        have f_z2_5 := X_z.cell 2 _ rfl
        have f_z3_5 := X_z.cell 3 _ rfl
        have f_u0_5 := X_u.cell 0 _ rfl
        have f_u1_5 := X_u.cell 1 _ rfl
        have f_u2_5 := X_u.cell 2 _ rfl
        have f_u3_5 := X_u.cell 3 _ rfl
        go_wp2_with fail
        go_ret
        exact ⟨rfl, B5'⟩
  · rw [bytesE_no _ hm] at HB
    rw [decide_eq_false hm] at HM
    clear hm
    simp only at HB
    have X_x := SBox.new w 23 #[.int .i64 x0, .int .i64 x1, .string ⟨x2.toArray⟩, .string ⟨x3.toArray⟩]
    have B_x := Below.alloc (Below.refl w.heap.size w) (Below.size (Below.refl w.heap.size w)) (.cells #[.int .i64 x0, .int .i64 x1, .string ⟨x2.toArray⟩, .string ⟨x3.toArray⟩] 23)
    go_enter Try.func5, Try.ntmps5
    go_wp2_with fail
    refine (HSh.out _ B_x).mono ?_
    rintro e w1 ⟨rfl, b1⟩
    have B1 := bel_trans B_x b1
    replace X_x := X_x.below b1
    have f_x0_1 := X_x.cell 0 _ rfl
    have f_x1_1 := X_x.cell 1 _ rfl
    have f_x2_1 := X_x.cell 2 _ rfl
    have f_x3_1 := X_x.cell 3 _ rfl
    go_wp2_with fail
    refine (HB.out _ B1).mono ?_
    rintro e w2 ⟨rfl, b2⟩
    have B2 := bel_trans B1 b2
    clear f_x0_1 f_x1_1 f_x2_1 f_x3_1
    replace X_x := X_x.below b2
    have f_x0_2 := X_x.cell 0 _ rfl
    have f_x1_2 := X_x.cell 1 _ rfl
    have f_x2_2 := X_x.cell 2 _ rfl
    have f_x3_2 := X_x.cell 3 _ rfl
    go_wp2_with fail
    refine (HM.out _ B2).mono ?_
    rintro e w3 ⟨rfl, b3⟩
    have B3 := bel_trans B2 b3
    clear f_x0_2 f_x1_2 f_x2_2 f_x3_2
    replace X_x := X_x.below b3
    have f_x0_3 := X_x.cell 0 _ rfl
    have f_x1_3 := X_x.cell 1 _ rfl
    have f_x2_3 := X_x.cell 2 _ rfl
    have f_x3_3 := X_x.cell 3 _ rfl
    go_wp2_with fail
    go_ret
    exact ⟨rfl, B3⟩
end Go.Proofs.Ytchneiefjjcccaa
