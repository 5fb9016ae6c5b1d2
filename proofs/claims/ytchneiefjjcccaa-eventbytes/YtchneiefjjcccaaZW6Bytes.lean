/-
  The walk of EventBytes.
-/
import Derived.Test.YtchneiefjjcccaaZShown6
import Derived.Deep.RegionHeld3
import Derived.BigQuiet
import Derived.Deep.QuietTactic
namespace Go.Proofs.Ytchneiefjjcccaa
set_option maxRecDepth 100000
open Go.RowKit
set_option linter.unusedVariables false
attribute [local go_sem] ba_size ba_append ba_get ba_extract
set_option maxHeartbeats 4000000 in
theorem bytes6_walk (C : P6C) (w : World) (x0 x1 : Int) (x2 x3 : List UInt8) (gx : goodE (x0, x1, x2, x3)) (s : List UInt8) (ls : s.length ≤ 140737488351232) :
    Calls Try.prog 3 #[.agg #[.int .i64 x0, .int .i64 x1, .string ⟨x2.toArray⟩, .string ⟨x3.toArray⟩], .string ⟨s.toArray⟩] w fun e w' => e = .returned (.bool true) ∧ Below w.heap.size w w' := by
  have HSh : Hid (∀ W, Below w.heap.size w W → Calls Try.prog 10 #[] W fun e w' => e = .returned (.bool true) ∧ Below W.heap.size W w') := fun W h => shown6_any C W
  have HB : Hid (∀ W, Below w.heap.size w W → Calls Try.prog 11 #[.agg #[.int .i64 x0, .int .i64 x1, .string ⟨x2.toArray⟩, .string ⟨x3.toArray⟩]] W fun e w' => e = .returned (.tuple #[.string ⟨(bytesE (x0, x1, x2, x3)).1.toArray⟩, .int .i64 ((bytesE (x0, x1, x2, x3)).2 : Int)]) ∧ Below W.heap.size W w') := fun W h => C.bytes x0 x1 x2 x3 W gx
  have RB : Hid (∀ W, Below w.heap.size w W → Calls Try.prog 12 #[.agg #[.int .i64 x0, .int .i64 x1, .string ⟨x2.toArray⟩, .string ⟨x3.toArray⟩]] W fun e w' => e = .returned (.tuple #[.string ⟨(bytesE (x0, x1, x2, x3)).1.toArray⟩, .int .i64 ((bytesE (x0, x1, x2, x3)).2 : Int)]) ∧ Below W.heap.size W w') := fun W h => rbytes6_any x0 x1 x2 x3 W
  have HT : Hid (∀ W, Below w.heap.size w W → Calls Try.prog 13 #[.string ⟨s.toArray⟩] W fun e w' => e = .returned (.tuple #[evA (takeER (s)).1, .int .i64 ((takeER (s)).2 : Int)]) ∧ Below W.heap.size W w') := fun W h => C.take (s) W (by omega)
  have RT : Hid (∀ W, Below w.heap.size w W → Calls Try.prog 14 #[.string ⟨s.toArray⟩] W fun e w' => e = .returned (.tuple #[evA (takeER (s)).1, .int .i64 ((takeER (s)).2 : Int)]) ∧ Below W.heap.size W w') := fun W h => rtake6_any (s) (by omega) W
  have HM : Hid (∀ W, Below w.heap.size w W → Calls Try.prog 15 #[.agg #[.int .i64 x0, .int .i64 x1, .string ⟨x2.toArray⟩, .string ⟨x3.toArray⟩]] W fun e w' => e = .returned (.bool (decide (mayE (x0, x1, x2, x3)))) ∧ Below W.heap.size W w') := fun W h => C.may x0 x1 x2 x3 W
  have RM : Hid (∀ W, Below w.heap.size w W → Calls Try.prog 16 #[.agg #[.int .i64 x0, .int .i64 x1, .string ⟨x2.toArray⟩, .string ⟨x3.toArray⟩]] W fun e w' => e = .returned (.bool (decide (mayE (x0, x1, x2, x3)))) ∧ Below W.heap.size W w') := fun W h => rmay_any x0 x1 x2 x3 W
  obtain ⟨⟨i1, i2⟩, hi⟩ : ∃ r, bytesE (x0, x1, x2, x3) = r := ⟨_, rfl⟩
  obtain ⟨⟨⟨y0, y1, y2, y3⟩, y4⟩, hr⟩ : ∃ r, takeER s = r := ⟨_, rfl⟩
  obtain ⟨m, hm⟩ : ∃ m, decide (mayE (x0, x1, x2, x3)) = m := ⟨_, rfl⟩
  rw [hi] at HB RB
  rw [hr] at HT RT
  rw [hm] at HM RM
  simp only [evA] at HB RB HT RT
  clear hi hr hm
  have e1 : (i1 == i1) = true := beq_self_eq_true i1
  have e2 : (y2 == y2) = true := beq_self_eq_true y2
  have e3 : (y3 == y3) = true := beq_self_eq_true y3
  have e4 : (m == m) = true := beq_self_eq_true m
  have X_x := SBox.new w 23 #[.int .i64 x0, .int .i64 x1, .string ⟨x2.toArray⟩, .string ⟨x3.toArray⟩]
  have B_x := Below.alloc (Below.refl w.heap.size w) (Below.size (Below.refl w.heap.size w)) (.cells #[.int .i64 x0, .int .i64 x1, .string ⟨x2.toArray⟩, .string ⟨x3.toArray⟩] 23)
  go_enter Try.func3, Try.ntmps3
  go_wp2_with fail
  refine (HSh.out _ B_x).mono ?_
  rintro e w1 ⟨rfl, b1⟩
  have B1 := bel_trans B_x b1
  replace X_x := X_x.below b1
  have f_x0_1 := X_x.cell 0 _ rfl
  have f_x1_1 := X_x.cell 1 _ rfl
  have f_x2_1 := X_x.cell 2 _ rfl
  have f_x3_1 := X_x.cell 3 _ rfl
  go_wp2_with fail
  refine (HB.out _ B1).mono ?_
  rintro e w2 ⟨rfl, b2⟩
  have B2 := bel_trans B1 b2
  clear f_x0_1 f_x1_1 f_x2_1 f_x3_1
  replace X_x := X_x.below b2
  have f_x0_2 := X_x.cell 0 _ rfl
  have f_x1_2 := X_x.cell 1 _ rfl
  have f_x2_2 := X_x.cell 2 _ rfl
  have f_x3_2 := X_x.cell 3 _ rfl
  go_wp2_with fail
  refine (RB.out _ B2).mono ?_
  rintro e w3 ⟨rfl, b3⟩
  have B3 := bel_trans B2 b3
  clear f_x0_2 f_x1_2 f_x2_2 f_x3_2
  replace X_x := X_x.below b3
  have f_x0_3 := X_x.cell 0 _ rfl
  have f_x1_3 := X_x.cell 1 _ rfl
  have f_x2_3 := X_x.cell 2 _ rfl
  have f_x3_3 := X_x.cell 3 _ rfl
  go_wp2_with fail
  refine (HT.out _ B3).mono ?_
  rintro e w4 ⟨rfl, b4⟩
  have B4 := bel_trans B3 b4
  clear f_x0_3 f_x1_3 f_x2_3 f_x3_3
  replace X_x := X_x.below b4
  replace X_x := X_x.alloc (.cells #[.int .i64 y0, .int .i64 y1, .string ⟨y2.toArray⟩, .string ⟨y3.toArray⟩] 23)
  have X_y := SBox.new w4 23 #[.int .i64 y0, .int .i64 y1, .string ⟨y2.toArray⟩, .string ⟨y3.toArray⟩]
  have B4' := B4.alloc B4.size (.cells #[.int .i64 y0, .int .i64 y1, .string ⟨y2.toArray⟩, .string ⟨y3.toArray⟩] 23)
  have f_x0_4 := X_x.cell 0 _ rfl
  have f_x1_4 := X_x.cell 1 _ rfl
  have f_x2_4 := X_x.cell 2 _ rfl
  have f_x3_4 := X_x.cell 3 _ rfl
  have f_y0_4 := X_y.cell 0 _ rfl
  have f_y1_4 := X_y.cell 1 _ rfl
  have f_y2_4 := X_y.cell 2 _ rfl
  have f_y3_4 := X_y.cell 3 _ rfl
  go_wp2_with fail
  refine (RT.out _ B4').mono ?_
  rintro e w5 ⟨rfl, b5⟩
  have B5 := bel_trans B4' b5
  clear f_x0_4 f_x1_4 f_x2_4 f_x3_4 f_y0_4 f_y1_4 f_y2_4 f_y3_4
  replace X_x := X_x.below b5
  replace X_y := X_y.below b5
  replace X_x := X_x.alloc (.cells #[.int .i64 y0, .int .i64 y1, .string ⟨y2.toArray⟩, .string ⟨y3.toArray⟩] 23)
  replace X_y := X_y.alloc (.cells #[.int .i64 y0, .int .i64 y1, .string ⟨y2.toArray⟩, .string ⟨y3.toArray⟩] 23)
  have X_z := SBox.new w5 23 #[.int .i64 y0, .int .i64 y1, .string ⟨y2.toArray⟩, .string ⟨y3.toArray⟩]
  have B5' := B5.alloc B5.size (.cells #[.int .i64 y0, .int .i64 y1, .string ⟨y2.toArray⟩, .string ⟨y3.toArray⟩] 23)
  have f_x0_5 := X_x.cell 0 _ rfl
  have f_x1_5 := X_x.cell 1 _ rfl
  have f_x2_5 := X_x.cell 2 _ rfl
  have f_x3_5 := X_x.cell 3 _ rfl
  have f_y0_5 := X_y.cell 0 _ rfl
  have f_y1_5 := X_y.cell 1 _ rfl
  have f_y2_5 := X_y.cell 2 _ rfl
  have f_y3_5 := X_y.cell 3 _ rfl
  have f_z0_5 := X_z.cell 0 _ rfl
  have f_z1_5 := X_z.cell 1 _ rfl
  have f_z2_5 := X_z.cell 2 _ rfl
  have f_z3_5 := X_z.cell 3 _ rfl
  have S0 : (fun V => Below w.heap.size w V ∧ V.cell? ⟨w.heap.size, 0, none⟩ = some (.int .i64 x0) ∧ V.cell? ⟨w.heap.size, 1, none⟩ = some (.int .i64 x1) ∧ V.cell? ⟨w.heap.size, 2, none⟩ = some (.string ⟨x2.toArray⟩) ∧ V.cell? ⟨w.heap.size, 3, none⟩ = some (.string ⟨x3.toArray⟩) ∧ V.cell? ⟨w4.heap.size, 0, none⟩ = some (.int .i64 y0) ∧ V.cell? ⟨w4.heap.size, 1, none⟩ = some (.int .i64 y1) ∧ V.cell? ⟨w4.heap.size, 2, none⟩ = some (.string ⟨y2.toArray⟩) ∧ V.cell? ⟨w4.heap.size, 3, none⟩ = some (.string ⟨y3.toArray⟩) ∧ V.cell? ⟨w5.heap.size, 0, none⟩ = some (.int .i64 y0) ∧ V.cell? ⟨w5.heap.size, 1, none⟩ = some (.int .i64 y1) ∧ V.cell? ⟨w5.heap.size, 2, none⟩ = some (.string ⟨y2.toArray⟩) ∧ V.cell? ⟨w5.heap.size, 3, none⟩ = some (.string ⟨y3.toArray⟩)) ((w5.alloc (.cells #[.int .i64 y0, .int .i64 y1, .string ⟨y2.toArray⟩, .string ⟨y3.toArray⟩] 23))).drew := ⟨B5'.drew, f_x0_5, f_x1_5, f_x2_5, f_x3_5, f_y0_5, f_y1_5, f_y2_5, f_y3_5, f_z0_5, f_z1_5, f_z2_5, f_z3_5⟩
  have keepS : ∀ V V' : World, (fun V => Below w.heap.size w V ∧ V.cell? ⟨w.heap.size, 0, none⟩ = some (.int .i64 x0) ∧ V.cell? ⟨w.heap.size, 1, none⟩ = some (.int .i64 x1) ∧ V.cell? ⟨w.heap.size, 2, none⟩ = some (.string ⟨x2.toArray⟩) ∧ V.cell? ⟨w.heap.size, 3, none⟩ = some (.string ⟨x3.toArray⟩) ∧ V.cell? ⟨w4.heap.size, 0, none⟩ = some (.int .i64 y0) ∧ V.cell? ⟨w4.heap.size, 1, none⟩ = some (.int .i64 y1) ∧ V.cell? ⟨w4.heap.size, 2, none⟩ = some (.string ⟨y2.toArray⟩) ∧ V.cell? ⟨w4.heap.size, 3, none⟩ = some (.string ⟨y3.toArray⟩) ∧ V.cell? ⟨w5.heap.size, 0, none⟩ = some (.int .i64 y0) ∧ V.cell? ⟨w5.heap.size, 1, none⟩ = some (.int .i64 y1) ∧ V.cell? ⟨w5.heap.size, 2, none⟩ = some (.string ⟨y2.toArray⟩) ∧ V.cell? ⟨w5.heap.size, 3, none⟩ = some (.string ⟨y3.toArray⟩)) V → Below V.heap.size V V' → (fun V => Below w.heap.size w V ∧ V.cell? ⟨w.heap.size, 0, none⟩ = some (.int .i64 x0) ∧ V.cell? ⟨w.heap.size, 1, none⟩ = some (.int .i64 x1) ∧ V.cell? ⟨w.heap.size, 2, none⟩ = some (.string ⟨x2.toArray⟩) ∧ V.cell? ⟨w.heap.size, 3, none⟩ = some (.string ⟨x3.toArray⟩) ∧ V.cell? ⟨w4.heap.size, 0, none⟩ = some (.int .i64 y0) ∧ V.cell? ⟨w4.heap.size, 1, none⟩ = some (.int .i64 y1) ∧ V.cell? ⟨w4.heap.size, 2, none⟩ = some (.string ⟨y2.toArray⟩) ∧ V.cell? ⟨w4.heap.size, 3, none⟩ = some (.string ⟨y3.toArray⟩) ∧ V.cell? ⟨w5.heap.size, 0, none⟩ = some (.int .i64 y0) ∧ V.cell? ⟨w5.heap.size, 1, none⟩ = some (.int .i64 y1) ∧ V.cell? ⟨w5.heap.size, 2, none⟩ = some (.string ⟨y2.toArray⟩) ∧ V.cell? ⟨w5.heap.size, 3, none⟩ = some (.string ⟨y3.toArray⟩)) V' := fun V V' ⟨h, a0, a1, a2, a3, a4, a5, a6, a7, a8, a9, a10, a11⟩ b => ⟨bel_trans h b, cell_bel b a0, cell_bel b a1, cell_bel b a2, cell_bel b a3, cell_bel b a4, cell_bel b a5, cell_bel b a6, cell_bel b a7, cell_bel b a8, cell_bel b a9, cell_bel b a10, cell_bel b a11⟩
  go_wp2_with fail
  go_region_held3 (fun V => Below w.heap.size w V ∧ V.cell? ⟨w.heap.size, 0, none⟩ = some (.int .i64 x0) ∧ V.cell? ⟨w.heap.size, 1, none⟩ = some (.int .i64 x1) ∧ V.cell? ⟨w.heap.size, 2, none⟩ = some (.string ⟨x2.toArray⟩) ∧ V.cell? ⟨w.heap.size, 3, none⟩ = some (.string ⟨x3.toArray⟩) ∧ V.cell? ⟨w4.heap.size, 0, none⟩ = some (.int .i64 y0) ∧ V.cell? ⟨w4.heap.size, 1, none⟩ = some (.int .i64 y1) ∧ V.cell? ⟨w4.heap.size, 2, none⟩ = some (.string ⟨y2.toArray⟩) ∧ V.cell? ⟨w4.heap.size, 3, none⟩ = some (.string ⟨y3.toArray⟩) ∧ V.cell? ⟨w5.heap.size, 0, none⟩ = some (.int .i64 y0) ∧ V.cell? ⟨w5.heap.size, 1, none⟩ = some (.int .i64 y1) ∧ V.cell? ⟨w5.heap.size, 2, none⟩ = some (.string ⟨y2.toArray⟩) ∧ V.cell? ⟨w5.heap.size, 3, none⟩ = some (.string ⟨y3.toArray⟩)) (first | exact S0 | exact keepS _ _ (by assumption) (by assumption)) (first | (go_at_call 15; refine (HM.out _ (And.left (by assumption))).mono ?_; rintro e w' ⟨rfl, bb⟩) | (go_at_call 16; refine (RM.out _ (And.left (by assumption))).mono ?_; rintro e w' ⟨rfl, bb⟩))
  go_wp2_with fail
  go_ret
  exact ⟨rfl, And.left (by assumption)⟩
end Go.Proofs.Ytchneiefjjcccaa
