/-
  The walk of EventApart.
-/
import Derived.Test.YtchneiefjjcccaaZShown6
import Derived.Test.YtchneiefjjcccaaZEvent3
import Derived.Deep.RegionHeld3
import Derived.BigQuiet
import Derived.Deep.QuietTactic
namespace Go.Proofs.Ytchneiefjjcccaa
set_option maxRecDepth 100000
open Go.RowKit
set_option linter.unusedVariables false
attribute [local go_sem] ba_size ba_append ba_get ba_extract
set_option maxHeartbeats 4000000 in
theorem apart6_walk (C : P6C) (w : World) (a0 a1 : Int) (a2 a3 : List UInt8) (ga : goodE (a0, a1, a2, a3)) (z0 z1 : Int) (z2 z3 : List UInt8) (gz : goodE (z0, z1, z2, z3)) (s : List UInt8) (ls : s.length ≤ 140737488351232) :
    Calls Try.prog 6 #[.agg #[.int .i64 a0, .int .i64 a1, .string ⟨a2.toArray⟩, .string ⟨a3.toArray⟩], .agg #[.int .i64 z0, .int .i64 z1, .string ⟨z2.toArray⟩, .string ⟨z3.toArray⟩], .string ⟨s.toArray⟩] w fun e w' => e = .returned (.bool true) ∧ Below w.heap.size w w' := by
  have HSh : Hid (∀ W, Below w.heap.size w W → Calls Try.prog 10 #[] W fun e w' => e = .returned (.bool true) ∧ Below W.heap.size W w') := fun W h => shown6_any C W
  have HA : Hid (∀ W, Below w.heap.size w W → Calls Try.prog 11 #[.agg #[.int .i64 a0, .int .i64 a1, .string ⟨a2.toArray⟩, .string ⟨a3.toArray⟩]] W fun e w' => e = .returned (.tuple #[.string ⟨(bytesE (a0, a1, a2, a3)).1.toArray⟩, .int .i64 ((bytesE (a0, a1, a2, a3)).2 : Int)]) ∧ Below W.heap.size W w') := fun W h => C.bytes a0 a1 a2 a3 W ga
  have HB : Hid (∀ W, Below w.heap.size w W → Calls Try.prog 11 #[.agg #[.int .i64 z0, .int .i64 z1, .string ⟨z2.toArray⟩, .string ⟨z3.toArray⟩]] W fun e w' => e = .returned (.tuple #[.string ⟨(bytesE (z0, z1, z2, z3)).1.toArray⟩, .int .i64 ((bytesE (z0, z1, z2, z3)).2 : Int)]) ∧ Below W.heap.size W w') := fun W h => C.bytes z0 z1 z2 z3 W gz
  have HT : Hid (∀ W, Below w.heap.size w W → Calls Try.prog 13 #[.string ⟨s.toArray⟩] W fun e w' => e = .returned (.tuple #[evA (takeER (s)).1, .int .i64 ((takeER (s)).2 : Int)]) ∧ Below W.heap.size W w') := fun W h => C.take (s) W (by omega)
  have HD : Hid (∀ c : Ev, goodE c → ∀ W, Below w.heap.size w W → Calls Try.prog 11 #[.agg #[.int .i64 c.1, .int .i64 c.2.1, .string ⟨c.2.2.1.toArray⟩, .string ⟨c.2.2.2.toArray⟩]] W fun e w' => e = .returned (.tuple #[.string ⟨(bytesE c).1.toArray⟩, .int .i64 ((bytesE c).2 : Int)]) ∧ Below W.heap.size W w') := fun c hc W h => C.bytes c.1 c.2.1 c.2.2.1 c.2.2.2 W hc
  have HTD : Hid (∃ c0 c1 c2 c3 g t h, (takeER s = ((c0, c1, c2, c3), g)) ∧ bytesE (c0, c1, c2, c3) = (t, h) ∧ goodE (c0, c1, c2, c3) ∧ (g ≠ 0 ∨ (g = 0 ∧ t = s ∧ h = 0))) := by
    show ∃ _, _
    unfold takeER
    rcases hx : takeE s with _ | ⟨c0, c1, c2, c3⟩
    · exact ⟨0, 0, [], [], 3, [], 1, rfl, by decide, good_zero, Or.inl (by omega)⟩
    · obtain ⟨my, hy⟩ := byt_take s _ hx
      exact ⟨c0, c1, c2, c3, 0, s, 0, rfl, by rw [bytesE_ok _ my, hy], good_may my, Or.inr ⟨rfl, rfl, rfl⟩⟩
  obtain ⟨c0, c1, c2, c3, g, t, h, k1, k2, k3, k4⟩ := HTD.out
  have HE : Hid _ := HD.out (c0, c1, c2, c3) k3
  rw [k1] at HT
  rw [k2] at HE
  simp only [evA] at HT HE
  have j : ((g : Int) != 0) = true ∨ ((g : Int) != 0) = false ∧ (t == s) = true ∧ h = 0 := by
    rcases k4 with k4 | ⟨k4, k5, k6⟩
    · left; rw [bne_iff_ne]; omega
    · right; subst k4 k5; exact ⟨rfl, beq_self_eq_true _, k6⟩
  clear k1 k2 k3 k4 HTD HD
  have HAB : Hid ((∃ r q : List UInt8, ∃ c d : Nat, bytesE (a0, a1, a2, a3) = (r, c) ∧ bytesE (z0, z1, z2, z3) = (q, d) ∧ (((c : Int) == 0) = false ∨ ((c : Int) == 0) = true ∧ ((d : Int) == 0) = false ∨ (((c : Int) == 0) = true ∧ ((d : Int) == 0) = true ∧ ((r == q) = true ∧ (a0, a1, a2, a3) = (z0, z1, z2, z3) ∨ (r == q) = false ∧ ¬ (a0, a1, a2, a3) = (z0, z1, z2, z3)))))) := by
    by_cases ha : mayE (a0, a1, a2, a3)
    · by_cases hb : mayE (z0, z1, z2, z3)
      · refine ⟨_, _, _, _, bytesE_ok _ ha, bytesE_ok _ hb, Or.inr (Or.inr ⟨rfl, rfl, ?_⟩)⟩
        by_cases he : (a0, a1, a2, a3) = (z0, z1, z2, z3)
        · left; rw [he]; exact ⟨beq_self_eq_true _, rfl⟩
        · right; exact ⟨beq_eq_false_iff_ne.2 (fun h => he (byt_inj _ _ ha hb h)), he⟩
      · exact ⟨_, _, _, _, bytesE_ok _ ha, bytesE_no _ hb, Or.inr (Or.inl ⟨rfl, rfl⟩)⟩
    · obtain ⟨⟨q, d⟩, hq⟩ : ∃ y, bytesE (z0, z1, z2, z3) = y := ⟨_, rfl⟩
      exact ⟨_, q, _, d, bytesE_no _ ha, hq, Or.inl rfl⟩
  obtain ⟨r, q, c, d, k1, k2, k3⟩ := HAB.out
  rw [k1] at HA
  rw [k2] at HB
  simp only at HA HB
  clear k1 k2 HAB
  rcases k3 with k3 | ⟨k3, k4⟩ | ⟨k3, k4, ⟨k5, k6⟩ | ⟨k5, k6⟩⟩
  · rcases j with j | ⟨j, j2, rfl⟩
    all_goals
      have X_a := SBox.new w 23 #[.int .i64 a0, .int .i64 a1, .string ⟨a2.toArray⟩, .string ⟨a3.toArray⟩]
      have B_a := Below.alloc (Below.refl w.heap.size w) (Below.size (Below.refl w.heap.size w)) (.cells #[.int .i64 a0, .int .i64 a1, .string ⟨a2.toArray⟩, .string ⟨a3.toArray⟩] 23)
      have X_z := SBox.new (w.alloc (.cells #[.int .i64 a0, .int .i64 a1, .string ⟨a2.toArray⟩, .string ⟨a3.toArray⟩] 23)) 23 #[.int .i64 z0, .int .i64 z1, .string ⟨z2.toArray⟩, .string ⟨z3.toArray⟩]
      rw [show (w.alloc (.cells #[.int .i64 a0, .int .i64 a1, .string ⟨a2.toArray⟩, .string ⟨a3.toArray⟩] 23)).heap.size = w.heap.size + 1 by simp] at X_z
      replace X_a := X_a.alloc (.cells #[.int .i64 z0, .int .i64 z1, .string ⟨z2.toArray⟩, .string ⟨z3.toArray⟩] 23)
      have B_z := Below.alloc B_a (Below.size B_a) (.cells #[.int .i64 z0, .int .i64 z1, .string ⟨z2.toArray⟩, .string ⟨z3.toArray⟩] 23)
      go_enter Try.func6, Try.ntmps6
      go_wp2_with fail
      refine (HSh.out _ B_z).mono ?_
      rintro e w1 ⟨rfl, b1⟩
      have B1 := bel_trans B_z b1
      replace X_a := X_a.below b1
      replace X_z := X_z.below b1
      have f_a0_1 := X_a.cell 0 _ rfl
      have f_a1_1 := X_a.cell 1 _ rfl
      have f_a2_1 := X_a.cell 2 _ rfl
      have f_a3_1 := X_a.cell 3 _ rfl
      have f_z0_1 := X_z.cell 0 _ rfl
      have f_z1_1 := X_z.cell 1 _ rfl
      have f_z2_1 := X_z.cell 2 _ rfl
      have f_z3_1 := X_z.cell 3 _ rfl
      go_wp2_with fail
      refine (HA.out _ B1).mono ?_
      rintro e w2 ⟨rfl, b2⟩
      have B2 := bel_trans B1 b2
      clear f_a0_1 f_a1_1 f_a2_1 f_a3_1 f_z0_1 f_z1_1 f_z2_1 f_z3_1
      replace X_a := X_a.below b2
      replace X_z := X_z.below b2
      have f_a0_2 := X_a.cell 0 _ rfl
      have f_a1_2 := X_a.cell 1 _ rfl
      have f_a2_2 := X_a.cell 2 _ rfl
      have f_a3_2 := X_a.cell 3 _ rfl
      have f_z0_2 := X_z.cell 0 _ rfl
      have f_z1_2 := X_z.cell 1 _ rfl
      have f_z2_2 := X_z.cell 2 _ rfl
      have f_z3_2 := X_z.cell 3 _ rfl
      go_wp2_with fail
      refine (HB.out _ B2).mono ?_
      rintro e w3 ⟨rfl, b3⟩
      have B3 := bel_trans B2 b3
      clear f_a0_2 f_a1_2 f_a2_2 f_a3_2 f_z0_2 f_z1_2 f_z2_2 f_z3_2
      replace X_a := X_a.below b3
      replace X_z := X_z.below b3
      have f_a0_3 := X_a.cell 0 _ rfl
      have f_a1_3 := X_a.cell 1 _ rfl
      have f_a2_3 := X_a.cell 2 _ rfl
      have f_a3_3 := X_a.cell 3 _ rfl
      have f_z0_3 := X_z.cell 0 _ rfl
      have f_z1_3 := X_z.cell 1 _ rfl
      have f_z2_3 := X_z.cell 2 _ rfl
      have f_z3_3 := X_z.cell 3 _ rfl
      go_wp2_with fail
      refine (HT.out _ B3).mono ?_
      rintro e w4 ⟨rfl, b4⟩
      have B4 := bel_trans B3 b4
      clear f_a0_3 f_a1_3 f_a2_3 f_a3_3 f_z0_3 f_z1_3 f_z2_3 f_z3_3
      replace X_a := X_a.below b4
      replace X_z := X_z.below b4
      replace X_a := X_a.alloc (.cells #[.int .i64 c0, .int .i64 c1, .string ⟨c2.toArray⟩, .string ⟨c3.toArray⟩] 23)
      replace X_z := X_z.alloc (.cells #[.int .i64 c0, .int .i64 c1, .string ⟨c2.toArray⟩, .string ⟨c3.toArray⟩] 23)
      have X_c := SBox.new w4 23 #[.int .i64 c0, .int .i64 c1, .string ⟨c2.toArray⟩, .string ⟨c3.toArray⟩]
      have B4' := B4.alloc B4.size (.cells #[.int .i64 c0, .int .i64 c1, .string ⟨c2.toArray⟩, .string ⟨c3.toArray⟩] 23)
      have f_a0_4 := X_a.cell 0 _ rfl
      have f_a1_4 := X_a.cell 1 _ rfl
      have f_a2_4 := X_a.cell 2 _ rfl
      have f_a3_4 := X_a.cell 3 _ rfl
      have f_z0_4 := X_z.cell 0 _ rfl
      have f_z1_4 := X_z.cell 1 _ rfl
      have f_z2_4 := X_z.cell 2 _ rfl
      have f_z3_4 := X_z.cell 3 _ rfl
      have f_c0_4 := X_c.cell 0 _ rfl
      have f_c1_4 := X_c.cell 1 _ rfl
      have f_c2_4 := X_c.cell 2 _ rfl
      have f_c3_4 := X_c.cell 3 _ rfl
      go_wp2_with fail
      refine (HE.out _ B4').mono ?_
      rintro e w5 ⟨rfl, b5⟩
      have B5 := bel_trans B4' b5
      clear f_a0_4 f_a1_4 f_a2_4 f_a3_4 f_z0_4 f_z1_4 f_z2_4 f_z3_4 f_c0_4 f_c1_4 f_c2_4 f_c3_4
      replace X_a := X_a.below b5
      replace X_z := X_z.below b5
      replace X_c := X_c.below b5
      have f_a0_5 := X_a.cell 0 _ rfl
      have f_a1_5 := X_a.cell 1 _ rfl
      have f_a2_5 := X_a.cell 2 _ rfl
      have f_a3_5 := X_a.cell 3 _ rfl
      have f_z0_5 := X_z.cell 0 _ rfl
      have f_z1_5 := X_z.cell 1 _ rfl
      have f_z2_5 := X_z.cell 2 _ rfl
      have f_z3_5 := X_z.cell 3 _ rfl
      have f_c0_5 := X_c.cell 0 _ rfl
      have f_c1_5 := X_c.cell 1 _ rfl
      have f_c2_5 := X_c.cell 2 _ rfl
      have f_c3_5 := X_c.cell 3 _ rfl
      go_wp2_with fail
      go_ret
      exact ⟨rfl, B5⟩
  · rcases j with j | ⟨j, j2, rfl⟩
    all_goals
      have X_a := SBox.new w 23 #[.int .i64 a0, .int .i64 a1, .string ⟨a2.toArray⟩, .string ⟨a3.toArray⟩]
      have B_a := Below.alloc (Below.refl w.heap.size w) (Below.size (Below.refl w.heap.size w)) (.cells #[.int .i64 a0, .int .i64 a1, .string ⟨a2.toArray⟩, .string ⟨a3.toArray⟩] 23)
      have X_z := SBox.new (w.alloc (.cells #[.int .i64 a0, .int .i64 a1, .string ⟨a2.toArray⟩, .string ⟨a3.toArray⟩] 23)) 23 #[.int .i64 z0, .int .i64 z1, .string ⟨z2.toArray⟩, .string ⟨z3.toArray⟩]
      rw [show (w.alloc (.cells #[.int .i64 a0, .int .i64 a1, .string ⟨a2.toArray⟩, .string ⟨a3.toArray⟩] 23)).heap.size = w.heap.size + 1 by simp] at X_z
      replace X_a := X_a.alloc (.cells #[.int .i64 z0, .int .i64 z1, .string ⟨z2.toArray⟩, .string ⟨z3.toArray⟩] 23)
      have B_z := Below.alloc B_a (Below.size B_a) (.cells #[.int .i64 z0, .int .i64 z1, .string ⟨z2.toArray⟩, .string ⟨z3.toArray⟩] 23)
      go_enter Try.func6, Try.ntmps6
      go_wp2_with fail
      refine (HSh.out _ B_z).mono ?_
      rintro e w1 ⟨rfl, b1⟩
      have B1 := bel_trans B_z b1
      replace X_a := X_a.below b1
      replace X_z := X_z.below b1
      have f_a0_1 := X_a.cell 0 _ rfl
      have f_a1_1 := X_a.cell 1 _ rfl
      have f_a2_1 := X_a.cell 2 _ rfl
      have f_a3_1 := X_a.cell 3 _ rfl
      have f_z0_1 := X_z.cell 0 _ rfl
      have f_z1_1 := X_z.cell 1 _ rfl
      have f_z2_1 := X_z.cell 2 _ rfl
      have f_z3_1 := X_z.cell 3 _ rfl
      go_wp2_with fail
      refine (HA.out _ B1).mono ?_
      rintro e w2 ⟨rfl, b2⟩
      have B2 := bel_trans B1 b2
      clear f_a0_1 f_a1_1 f_a2_1 f_a3_1 f_z0_1 f_z1_1 f_z2_1 f_z3_1
      replace X_a := X_a.below b2
      replace X_z := X_z.below b2
      have f_a0_2 := X_a.cell 0 _ rfl
      have f_a1_2 := X_a.cell 1 _ rfl
      have f_a2_2 := X_a.cell 2 _ rfl
      have f_a3_2 := X_a.cell 3 _ rfl
      have f_z0_2 := X_z.cell 0 _ rfl
      have f_z1_2 := X_z.cell 1 _ rfl
      have f_z2_2 := X_z.cell 2 _ rfl
      have f_z3_2 := X_z.cell 3 _ rfl
      go_wp2_with fail
      refine (HB.out _ B2).mono ?_
      rintro e w3 ⟨rfl, b3⟩
      have B3 := bel_trans B2 b3
      clear f_a0_2 f_a1_2 f_a2_2 f_a3_2 f_z0_2 f_z1_2 f_z2_2 f_z3_2
      replace X_a := X_a.below b3
      replace X_z := X_z.below b3
      have f_a0_3 := X_a.cell 0 _ rfl
      have f_a1_3 := X_a.cell 1 _ rfl
      have f_a2_3 := X_a.cell 2 _ rfl
      have f_a3_3 := X_a.cell 3 _ rfl
      have f_z0_3 := X_z.cell 0 _ rfl
      have f_z1_3 := X_z.cell 1 _ rfl
      have f_z2_3 := X_z.cell 2 _ rfl
      have f_z3_3 := X_z.cell 3 _ rfl
      go_wp2_with fail
      refine (HT.out _ B3).mono ?_
      rintro e w4 ⟨rfl, b4⟩
      have B4 := bel_trans B3 b4
      clear f_a0_3 f_a1_3 f_a2_3 f_a3_3 f_z0_3 f_z1_3 f_z2_3 f_z3_3
      replace X_a := X_a.below b4
      replace X_z := X_z.below b4
      replace X_a := X_a.alloc (.cells #[.int .i64 c0, .int .i64 c1, .string ⟨c2.toArray⟩, .string ⟨c3.toArray⟩] 23)
      replace X_z := X_z.alloc (.cells #[.int .i64 c0, .int .i64 c1, .string ⟨c2.toArray⟩, .string ⟨c3.toArray⟩] 23)
      have X_c := SBox.new w4 23 #[.int .i64 c0, .int .i64 c1, .string ⟨c2.toArray⟩, .string ⟨c3.toArray⟩]
      have B4' := B4.alloc B4.size (.cells #[.int .i64 c0, .int .i64 c1, .string ⟨c2.toArray⟩, .string ⟨c3.toArray⟩] 23)
      have f_a0_4 := X_a.cell 0 _ rfl
      have f_a1_4 := X_a.cell 1 _ rfl
      have f_a2_4 := X_a.cell 2 _ rfl
      have f_a3_4 := X_a.cell 3 _ rfl
      have f_z0_4 := X_z.cell 0 _ rfl
      have f_z1_4 := X_z.cell 1 _ rfl
      have f_z2_4 := X_z.cell 2 _ rfl
      have f_z3_4 := X_z.cell 3 _ rfl
      have f_c0_4 := X_c.cell 0 _ rfl
      have f_c1_4 := X_c.cell 1 _ rfl
      have f_c2_4 := X_c.cell 2 _ rfl
      have f_c3_4 := X_c.cell 3 _ rfl
      go_wp2_with fail
      refine (HE.out _ B4').mono ?_
      rintro e w5 ⟨rfl, b5⟩
      have B5 := bel_trans B4' b5
      clear f_a0_4 f_a1_4 f_a2_4 f_a3_4 f_z0_4 f_z1_4 f_z2_4 f_z3_4 f_c0_4 f_c1_4 f_c2_4 f_c3_4
      replace X_a := X_a.below b5
      replace X_z := X_z.below b5
      replace X_c := X_c.below b5
      have f_a0_5 := X_a.cell 0 _ rfl
      have f_a1_5 := X_a.cell 1 _ rfl
      have f_a2_5 := X_a.cell 2 _ rfl
      have f_a3_5 := X_a.cell 3 _ rfl
      have f_z0_5 := X_z.cell 0 _ rfl
      have f_z1_5 := X_z.cell 1 _ rfl
      have f_z2_5 := X_z.cell 2 _ rfl
      have f_z3_5 := X_z.cell 3 _ rfl
      have f_c0_5 := X_c.cell 0 _ rfl
      have f_c1_5 := X_c.cell 1 _ rfl
      have f_c2_5 := X_c.cell 2 _ rfl
      have f_c3_5 := X_c.cell 3 _ rfl
      go_wp2_with fail
      go_ret
      exact ⟨rfl, B5⟩
  · obtain ⟨rfl, rfl, rfl, rfl⟩ : a0 = z0 ∧ a1 = z1 ∧ a2 = z2 ∧ a3 = z3 := by simpa using k6
    clear k6
    have e2 : (a2 == a2) = true := beq_self_eq_true a2
    have e3 : (a3 == a3) = true := beq_self_eq_true a3
    rcases j with j | ⟨j, j2, rfl⟩
    all_goals
      have X_a := SBox.new w 23 #[.int .i64 a0, .int .i64 a1, .string ⟨a2.toArray⟩, .string ⟨a3.toArray⟩]
      have B_a := Below.alloc (Below.refl w.heap.size w) (Below.size (Below.refl w.heap.size w)) (.cells #[.int .i64 a0, .int .i64 a1, .string ⟨a2.toArray⟩, .string ⟨a3.toArray⟩] 23)
      have X_z := SBox.new (w.alloc (.cells #[.int .i64 a0, .int .i64 a1, .string ⟨a2.toArray⟩, .string ⟨a3.toArray⟩] 23)) 23 #[.int .i64 a0, .int .i64 a1, .string ⟨a2.toArray⟩, .string ⟨a3.toArray⟩]
      rw [show (w.alloc (.cells #[.int .i64 a0, .int .i64 a1, .string ⟨a2.toArray⟩, .string ⟨a3.toArray⟩] 23)).heap.size = w.heap.size + 1 by simp] at X_z
      replace X_a := X_a.alloc (.cells #[.int .i64 a0, .int .i64 a1, .string ⟨a2.toArray⟩, .string ⟨a3.toArray⟩] 23)
      have B_z := Below.alloc B_a (Below.size B_a) (.cells #[.int .i64 a0, .int .i64 a1, .string ⟨a2.toArray⟩, .string ⟨a3.toArray⟩] 23)
      go_enter Try.func6, Try.ntmps6
      go_wp2_with fail
      refine (HSh.out _ B_z).mono ?_
      rintro e w1 ⟨rfl, b1⟩
      have B1 := bel_trans B_z b1
      replace X_a := X_a.below b1
      replace X_z := X_z.below b1
      have f_a0_1 := X_a.cell 0 _ rfl
      have f_a1_1 := X_a.cell 1 _ rfl
      have f_a2_1 := X_a.cell 2 _ rfl
      have f_a3_1 := X_a.cell 3 _ rfl
      have f_z0_1 := X_z.cell 0 _ rfl
      have f_z1_1 := X_z.cell 1 _ rfl
      have f_z2_1 := X_z.cell 2 _ rfl
      have f_z3_1 := X_z.cell 3 _ rfl
      go_wp2_with fail
      refine (HA.out _ B1).mono ?_
      rintro e w2 ⟨rfl, b2⟩
      have B2 := bel_trans B1 b2
      clear f_a0_1 f_a1_1 f_a2_1 f_a3_1 f_z0_1 f_z1_1 f_z2_1 f_z3_1
      replace X_a := X_a.below b2
      replace X_z := X_z.below b2
      have f_a0_2 := X_a.cell 0 _ rfl
      have f_a1_2 := X_a.cell 1 _ rfl
      have f_a2_2 := X_a.cell 2 _ rfl
      have f_a3_2 := X_a.cell 3 _ rfl
      have f_z0_2 := X_z.cell 0 _ rfl
      have f_z1_2 := X_z.cell 1 _ rfl
      have f_z2_2 := X_z.cell 2 _ rfl
      have f_z3_2 := X_z.cell 3 _ rfl
      go_wp2_with fail
      refine (HB.out _ B2).mono ?_
      rintro e w3 ⟨rfl, b3⟩
      have B3 := bel_trans B2 b3
      clear f_a0_2 f_a1_2 f_a2_2 f_a3_2 f_z0_2 f_z1_2 f_z2_2 f_z3_2
      replace X_a := X_a.below b3
      replace X_z := X_z.below b3
      have f_a0_3 := X_a.cell 0 _ rfl
      have f_a1_3 := X_a.cell 1 _ rfl
      have f_a2_3 := X_a.cell 2 _ rfl
      have f_a3_3 := X_a.cell 3 _ rfl
      have f_z0_3 := X_z.cell 0 _ rfl
      have f_z1_3 := X_z.cell 1 _ rfl
      have f_z2_3 := X_z.cell 2 _ rfl
      have f_z3_3 := X_z.cell 3 _ rfl
      go_wp2_with fail
      refine (HT.out _ B3).mono ?_
      rintro e w4 ⟨rfl, b4⟩
      have B4 := bel_trans B3 b4
      clear f_a0_3 f_a1_3 f_a2_3 f_a3_3 f_z0_3 f_z1_3 f_z2_3 f_z3_3
      replace X_a := X_a.below b4
      replace X_z := X_z.below b4
      replace X_a := X_a.alloc (.cells #[.int .i64 c0, .int .i64 c1, .string ⟨c2.toArray⟩, .string ⟨c3.toArray⟩] 23)
      replace X_z := X_z.alloc (.cells #[.int .i64 c0, .int .i64 c1, .string ⟨c2.toArray⟩, .string ⟨c3.toArray⟩] 23)
      have X_c := SBox.new w4 23 #[.int .i64 c0, .int .i64 c1, .string ⟨c2.toArray⟩, .string ⟨c3.toArray⟩]
      have B4' := B4.alloc B4.size (.cells #[.int .i64 c0, .int .i64 c1, .string ⟨c2.toArray⟩, .string ⟨c3.toArray⟩] 23)
      have f_a0_4 := X_a.cell 0 _ rfl
      have f_a1_4 := X_a.cell 1 _ rfl
      have f_a2_4 := X_a.cell 2 _ rfl
      have f_a3_4 := X_a.cell 3 _ rfl
      have f_z0_4 := X_z.cell 0 _ rfl
      have f_z1_4 := X_z.cell 1 _ rfl
      have f_z2_4 := X_z.cell 2 _ rfl
      have f_z3_4 := X_z.cell 3 _ rfl
      have f_c0_4 := X_c.cell 0 _ rfl
      have f_c1_4 := X_c.cell 1 _ rfl
      have f_c2_4 := X_c.cell 2 _ rfl
      have f_c3_4 := X_c.cell 3 _ rfl
      go_wp2_with fail
      refine (HE.out _ B4').mono ?_
      rintro e w5 ⟨rfl, b5⟩
      have B5 := bel_trans B4' b5
      clear f_a0_4 f_a1_4 f_a2_4 f_a3_4 f_z0_4 f_z1_4 f_z2_4 f_z3_4 f_c0_4 f_c1_4 f_c2_4 f_c3_4
      replace X_a := X_a.below b5
      replace X_z := X_z.below b5
      replace X_c := X_c.below b5
      have f_a0_5 := X_a.cell 0 _ rfl
      have f_a1_5 := X_a.cell 1 _ rfl
      have f_a2_5 := X_a.cell 2 _ rfl
      have f_a3_5 := X_a.cell 3 _ rfl
      have f_z0_5 := X_z.cell 0 _ rfl
      have f_z1_5 := X_z.cell 1 _ rfl
      have f_z2_5 := X_z.cell 2 _ rfl
      have f_z3_5 := X_z.cell 3 _ rfl
      have f_c0_5 := X_c.cell 0 _ rfl
      have f_c1_5 := X_c.cell 1 _ rfl
      have f_c2_5 := X_c.cell 2 _ rfl
      have f_c3_5 := X_c.cell 3 _ rfl
      go_wp2_with fail
      go_ret
      exact ⟨rfl, B5⟩
  · have f : (a0 == z0) = false ∨ (a0 == z0) = true ∧ ((a1 == z1) = false ∨ (a1 == z1) = true ∧ ((a2 == z2) = false ∨ (a2 == z2) = true ∧ (a3 == z3) = false)) := by
      by_cases f0 : a0 = z0
      · right
        refine ⟨beq_iff_eq.2 f0, ?_⟩
        by_cases f1 : a1 = z1
        · right
          refine ⟨beq_iff_eq.2 f1, ?_⟩
          by_cases f2 : a2 = z2
          · right
            refine ⟨beq_iff_eq.2 f2, beq_eq_false_iff_ne.2 (fun f3 => k6 (by rw [f0, f1, f2, f3]))⟩
          · left; exact beq_eq_false_iff_ne.2 f2
        · left; exact beq_eq_false_iff_ne.2 f1
      · left; exact beq_eq_false_iff_ne.2 f0
    clear k6
    rcases f with f | ⟨f, f1 | ⟨f1, f2 | ⟨f2, f3⟩⟩⟩
    all_goals
      rcases j with j | ⟨j, j2, rfl⟩
      all_goals
        have X_a := SBox.new w 23 #[.int .i64 a0, .int .i64 a1, .string ⟨a2.toArray⟩, .string ⟨a3.toArray⟩]
        have B_a := Below.alloc (Below.refl w.heap.size w) (Below.size (Below.refl w.heap.size w)) (.cells #[.int .i64 a0, .int .i64 a1, .string ⟨a2.toArray⟩, .string ⟨a3.toArray⟩] 23)
        have X_z := SBox.new (w.alloc (.cells #[.int .i64 a0, .int .i64 a1, .string ⟨a2.toArray⟩, .string ⟨a3.toArray⟩] 23)) 23 #[.int .i64 z0, .int .i64 z1, .string ⟨z2.toArray⟩, .string ⟨z3.toArray⟩]
        rw [show (w.alloc (.cells #[.int .i64 a0, .int .i64 a1, .string ⟨a2.toArray⟩, .string ⟨a3.toArray⟩] 23)).heap.size = w.heap.size + 1 by simp] at X_z
        replace X_a := X_a.alloc (.cells #[.int .i64 z0, .int .i64 z1, .string ⟨z2.toArray⟩, .string ⟨z3.toArray⟩] 23)
        have B_z := Below.alloc B_a (Below.size B_a) (.cells #[.int .i64 z0, .int .i64 z1, .string ⟨z2.toArray⟩, .string ⟨z3.toArray⟩] 23)
        go_enter Try.func6, Try.ntmps6
        go_wp2_with fail
        refine (HSh.out _ B_z).mono ?_
        rintro e w1 ⟨rfl, b1⟩
        have B1 := bel_trans B_z b1
        replace X_a := X_a.below b1
        replace X_z := X_z.below b1
        have f_a0_1 := X_a.cell 0 _ rfl
        have f_a1_1 := X_a.cell 1 _ rfl
        have f_a2_1 := X_a.cell 2 _ rfl
        have f_a3_1 := X_a.cell 3 _ rfl
        have f_z0_1 := X_z.cell 0 _ rfl
        have f_z1_1 := X_z.cell 1 _ rfl
        have f_z2_1 := X_z.cell 2 _ rfl
        have f_z3_1 := X_z.cell 3 _ rfl
        go_wp2_with fail
        refine (HA.out _ B1).mono ?_
        rintro e w2 ⟨rfl, b2⟩
        have B2 := bel_trans B1 b2
        clear f_a0_1 f_a1_1 f_a2_1 f_a3_1 f_z0_1 f_z1_1 f_z2_1 f_z3_1
        replace X_a := X_a.below b2
        replace X_z := X_z.below b2
        have f_a0_2 := X_a.cell 0 _ rfl
        have f_a1_2 := X_a.cell 1 _ rfl
        have f_a2_2 := X_a.cell 2 _ rfl
        have f_a3_2 := X_a.cell 3 _ rfl
        have f_z0_2 := X_z.cell 0 _ rfl
        have f_z1_2 := X_z.cell 1 _ rfl
        have f_z2_2 := X_z.cell 2 _ rfl
        have f_z3_2 := X_z.cell 3 _ rfl
        go_wp2_with fail
        refine (HB.out _ B2).mono ?_
        rintro e w3 ⟨rfl, b3⟩
        have B3 := bel_trans B2 b3
        clear f_a0_2 f_a1_2 f_a2_2 f_a3_2 f_z0_2 f_z1_2 f_z2_2 f_z3_2
        replace X_a := X_a.below b3
        replace X_z := X_z.below b3
        have f_a0_3 := X_a.cell 0 _ rfl
        have f_a1_3 := X_a.cell 1 _ rfl
        have f_a2_3 := X_a.cell 2 _ rfl
        have f_a3_3 := X_a.cell 3 _ rfl
        have f_z0_3 := X_z.cell 0 _ rfl
        have f_z1_3 := X_z.cell 1 _ rfl
        have f_z2_3 := X_z.cell 2 _ rfl
        have f_z3_3 := X_z.cell 3 _ rfl
        go_wp2_with fail
        refine (HT.out _ B3).mono ?_
        rintro e w4 ⟨rfl, b4⟩
        have B4 := bel_trans B3 b4
        clear f_a0_3 f_a1_3 f_a2_3 f_a3_3 f_z0_3 f_z1_3 f_z2_3 f_z3_3
        replace X_a := X_a.below b4
        replace X_z := X_z.below b4
        replace X_a := X_a.alloc (.cells #[.int .i64 c0, .int .i64 c1, .string ⟨c2.toArray⟩, .string ⟨c3.toArray⟩] 23)
        replace X_z := X_z.alloc (.cells #[.int .i64 c0, .int .i64 c1, .string ⟨c2.toArray⟩, .string ⟨c3.toArray⟩] 23)
        have X_c := SBox.new w4 23 #[.int .i64 c0, .int .i64 c1, .string ⟨c2.toArray⟩, .string ⟨c3.toArray⟩]
        have B4' := B4.alloc B4.size (.cells #[.int .i64 c0, .int .i64 c1, .string ⟨c2.toArray⟩, .string ⟨c3.toArray⟩] 23)
        have f_a0_4 := X_a.cell 0 _ rfl
        have f_a1_4 := X_a.cell 1 _ rfl
        have f_a2_4 := X_a.cell 2 _ rfl
        have f_a3_4 := X_a.cell 3 _ rfl
        have f_z0_4 := X_z.cell 0 _ rfl
        have f_z1_4 := X_z.cell 1 _ rfl
        have f_z2_4 := X_z.cell 2 _ rfl
        have f_z3_4 := X_z.cell 3 _ rfl
        have f_c0_4 := X_c.cell 0 _ rfl
        have f_c1_4 := X_c.cell 1 _ rfl
        have f_c2_4 := X_c.cell 2 _ rfl
        have f_c3_4 := X_c.cell 3 _ rfl
        go_wp2_with fail
        refine (HE.out _ B4').mono ?_
        rintro e w5 ⟨rfl, b5⟩
        have B5 := bel_trans B4' b5
        clear f_a0_4 f_a1_4 f_a2_4 f_a3_4 f_z0_4 f_z1_4 f_z2_4 f_z3_4 f_c0_4 f_c1_4 f_c2_4 f_c3_4
        replace X_a := X_a.below b5
        replace X_z := X_z.below b5
        replace X_c := X_c.below b5
        have f_a0_5 := X_a.cell 0 _ rfl
        have f_a1_5 := X_a.cell 1 _ rfl
        have f_a2_5 := X_a.cell 2 _ rfl
        have f_a3_5 := X_a.cell 3 _ rfl
        have f_z0_5 := X_z.cell 0 _ rfl
        have f_z1_5 := X_z.cell 1 _ rfl
        have f_z2_5 := X_z.cell 2 _ rfl
        have f_z3_5 := X_z.cell 3 _ rfl
        have f_c0_5 := X_c.cell 0 _ rfl
        have f_c1_5 := X_c.cell 1 _ rfl
        have f_c2_5 := X_c.cell 2 _ rfl
        have f_c3_5 := X_c.cell 3 _ rfl
        go_wp2_with fail
        go_ret
        exact ⟨rfl, B5⟩
end Go.Proofs.Ytchneiefjjcccaa
