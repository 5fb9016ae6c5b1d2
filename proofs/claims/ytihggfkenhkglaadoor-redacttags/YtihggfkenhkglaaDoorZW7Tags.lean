/-
  The walk of RedactTags.
-/
import Derived.Test.YtihggfkenhkglaaDoorZShown7
import Derived.Test.YtihggfkenhkglaaDoorZP7C
import Derived.Test.YtihggfkenhkglaaDoorZR7One
import Derived.Deep.RegionHeld3
import Derived.BigQuiet
import Derived.Deep.QuietTactic
namespace Go.Proofs.YtihggfkenhkglaaDoor
set_option maxRecDepth 100000
open Go.RowKit
set_option linter.unusedVariables false
attribute [local go_sem] ba_size ba_append ba_get ba_extract
set_option maxHeartbeats 4000000 in
theorem tags7_walk (CS : P7S) (C : P7C) (w : World) (s : List UInt8) (ls : s.length ≤ 140737488351232) (k : List UInt8) (lk : k.length ≤ 140737488351232) (v : List UInt8) (lv : v.length ≤ 140737488351232) (x0 x1 : Int) (x2 x3 : List UInt8) (gx : goodE (x0, x1, x2, x3)) (hG : G w) :
    Calls Tryd.prog 3 #[.agg #[.string ⟨s.toArray⟩, .string ⟨k.toArray⟩, .string ⟨v.toArray⟩, .int .i64 x0, .int .i64 x1, .string ⟨x2.toArray⟩, .string ⟨x3.toArray⟩]] w fun e w' => e = .returned (.bool true) ∧ Below w.heap.size w w' := by
  have hg3 := hG.size
  have HSh : Hid (∀ W, Below w.heap.size w W → Calls Tryd.prog 10 #[] W fun e w' => e = .returned (.bool true) ∧ Below W.heap.size W w') := fun W h => shown7_any CS W
  have HK : Hid (∀ W, Below w.heap.size w W → Calls Tryd.prog 11 #[.string ⟨s.toArray⟩, .string ⟨k.toArray⟩] W fun e w' => e = .returned (.tuple #[.string ⟨(keyTagP s k).1.toArray⟩, .int .i64 ((keyTagP s k).2 : Int)]) ∧ Below W.heap.size W w') := fun W h => C.keytag s k W (hG.below h hg3) ls lk
  have RK : Hid (∀ W, Below w.heap.size w W → Calls Tryd.prog 12 #[.string ⟨s.toArray⟩, .string ⟨k.toArray⟩] W fun e w' => e = .returned (.tuple #[.string ⟨(keyTagP s k).1.toArray⟩, .int .i64 ((keyTagP s k).2 : Int)]) ∧ Below W.heap.size W w') := fun W h => rkeytag_any s k (by omega) W
  have HV : Hid (∀ W, Below w.heap.size w W → Calls Tryd.prog 13 #[.string ⟨s.toArray⟩, .string ⟨v.toArray⟩] W fun e w' => e = .returned (.tuple #[.string ⟨(valTagP s v).1.toArray⟩, .int .i64 ((valTagP s v).2 : Int)]) ∧ Below W.heap.size W w') := fun W h => C.valtag s v W (hG.below h hg3) ls lv
  have RV : Hid (∀ W, Below w.heap.size w W → Calls Tryd.prog 14 #[.string ⟨s.toArray⟩, .string ⟨v.toArray⟩] W fun e w' => e = .returned (.tuple #[.string ⟨(valTagP s v).1.toArray⟩, .int .i64 ((valTagP s v).2 : Int)]) ∧ Below W.heap.size W w') := fun W h => rvaltag_any s v (by omega) W
  have HO : Hid (∀ W, Below w.heap.size w W → Calls Tryd.prog 15 #[.string ⟨s.toArray⟩, .agg #[.int .i64 x0, .int .i64 x1, .string ⟨x2.toArray⟩, .string ⟨x3.toArray⟩]] W fun e w' => e = .returned (.tuple #[evW (oneP s (x0, x1, x2, x3)).1, .int .i64 ((oneP s (x0, x1, x2, x3)).2 : Int)]) ∧ Below W.heap.size W w') := fun W h => C.one s x0 x1 x2 x3 W (hG.below h hg3) ls gx
  have RO : Hid (∀ W, Below w.heap.size w W → Calls Tryd.prog 16 #[.string ⟨s.toArray⟩, .agg #[.int .i64 x0, .int .i64 x1, .string ⟨x2.toArray⟩, .string ⟨x3.toArray⟩]] W fun e w' => e = .returned (.tuple #[evW (oneP s (x0, x1, x2, x3)).1, .int .i64 ((oneP s (x0, x1, x2, x3)).2 : Int)]) ∧ Below W.heap.size W w') := fun W h => rone_any s x0 x1 x2 x3 W
  obtain ⟨⟨a1, a2⟩, ha⟩ : ∃ r, keyTagP s k = r := ⟨_, rfl⟩
  obtain ⟨⟨c1, c2⟩, hc⟩ : ∃ r, valTagP s v = r := ⟨_, rfl⟩
  obtain ⟨⟨⟨y0, y1, y2, y3⟩, y4⟩, hy⟩ : ∃ r, oneP s (x0, x1, x2, x3) = r := ⟨_, rfl⟩
  rw [ha] at HK RK
  rw [hc] at HV RV
  rw [hy] at HO RO
  simp only [evW] at HK RK HV RV HO RO
  clear ha hc hy
  have e_a1 : (a1 == a1) = true := beq_self_eq_true a1
  have e_c1 : (c1 == c1) = true := beq_self_eq_true c1
  have e_y2 : (y2 == y2) = true := beq_self_eq_true y2
  have e_y3 : (y3 == y3) = true := beq_self_eq_true y3
  have XW := SBox.new w 25 #[.string ⟨s.toArray⟩, .string ⟨k.toArray⟩, .string ⟨v.toArray⟩, .int .i64 x0, .int .i64 x1, .string ⟨x2.toArray⟩, .string ⟨x3.toArray⟩]
  have B_w := (Below.refl w.heap.size w).alloc (Nat.le_refl _) (.cells #[.string ⟨s.toArray⟩, .string ⟨k.toArray⟩, .string ⟨v.toArray⟩, .int .i64 x0, .int .i64 x1, .string ⟨x2.toArray⟩, .string ⟨x3.toArray⟩] 25)
  have n0 := XW.cell 0 _ rfl
  have n1 := XW.cell 1 _ rfl
  have n2 := XW.cell 2 _ rfl
  have n3 := XW.cell 3 _ rfl
  have n4 := XW.cell 4 _ rfl
  have n5 := XW.cell 5 _ rfl
  have n6 := XW.cell 6 _ rfl
  have X_x := SBox.new (w.alloc (.cells #[.string ⟨s.toArray⟩, .string ⟨k.toArray⟩, .string ⟨v.toArray⟩, .int .i64 x0, .int .i64 x1, .string ⟨x2.toArray⟩, .string ⟨x3.toArray⟩] 25)) 23 #[.int .i64 x0, .int .i64 x1, .string ⟨x2.toArray⟩, .string ⟨x3.toArray⟩]
  rw [show (w.alloc (.cells #[.string ⟨s.toArray⟩, .string ⟨k.toArray⟩, .string ⟨v.toArray⟩, .int .i64 x0, .int .i64 x1, .string ⟨x2.toArray⟩, .string ⟨x3.toArray⟩] 25)).heap.size = w.heap.size + 1 by simp] at X_x
  have B_x := B_w.alloc B_w.size (.cells #[.int .i64 x0, .int .i64 x1, .string ⟨x2.toArray⟩, .string ⟨x3.toArray⟩] 23)
  go_enter Tryd.func3, Tryd.ntmps3
  go_wp2_with fail
  refine (HSh.out _ B_x).mono ?_
  rintro e w1 ⟨rfl, b1⟩
  have B1 := bel_trans B_x b1
  replace X_x := X_x.below b1
  have f_x0_1 := X_x.cell 0 _ rfl
  have f_x1_1 := X_x.cell 1 _ rfl
  have f_x2_1 := X_x.cell 2 _ rfl
  have f_x3_1 := X_x.cell 3 _ rfl
  clear n0 n1 n2 n3 n4 n5 n6 XW
  go_wp2_with fail
  refine (HK.out _ B1).mono ?_
  rintro e w2 ⟨rfl, b2⟩
  have B2 := bel_trans B1 b2
  clear f_x0_1 f_x1_1 f_x2_1 f_x3_1
  replace X_x := X_x.below b2
  have f_x0_2 := X_x.cell 0 _ rfl
  have f_x1_2 := X_x.cell 1 _ rfl
  have f_x2_2 := X_x.cell 2 _ rfl
  have f_x3_2 := X_x.cell 3 _ rfl
  go_wp2_with fail
  refine (RK.out _ B2).mono ?_
  rintro e w3 ⟨rfl, b3⟩
  have B3 := bel_trans B2 b3
  clear f_x0_2 f_x1_2 f_x2_2 f_x3_2
  replace X_x := X_x.below b3
  have f_x0_3 := X_x.cell 0 _ rfl
  have f_x1_3 := X_x.cell 1 _ rfl
  have f_x2_3 := X_x.cell 2 _ rfl
  have f_x3_3 := X_x.cell 3 _ rfl
  go_wp2_with fail
  refine (HV.out _ B3).mono ?_
  rintro e w4 ⟨rfl, b4⟩
  have B4 := bel_trans B3 b4
  clear f_x0_3 f_x1_3 f_x2_3 f_x3_3
  replace X_x := X_x.below b4
  have f_x0_4 := X_x.cell 0 _ rfl
  have f_x1_4 := X_x.cell 1 _ rfl
  have f_x2_4 := X_x.cell 2 _ rfl
  have f_x3_4 := X_x.cell 3 _ rfl
  go_wp2_with fail
  refine (RV.out _ B4).mono ?_
  rintro e w5 ⟨rfl, b5⟩
  have B5 := bel_trans B4 b5
  clear f_x0_4 f_x1_4 f_x2_4 f_x3_4
  replace X_x := X_x.below b5
  have f_x0_5 := X_x.cell 0 _ rfl
  have f_x1_5 := X_x.cell 1 _ rfl
  have f_x2_5 := X_x.cell 2 _ rfl
  have f_x3_5 := X_x.cell 3 _ rfl
  go_wp2_with fail
  refine (HO.out _ B5).mono ?_
  rintro e w6 ⟨rfl, b6⟩
  have B6 := bel_trans B5 b6
  clear f_x0_5 f_x1_5 f_x2_5 f_x3_5
  replace X_x := X_x.below b6
  replace X_x := X_x.alloc (.cells #[.int .i64 y0, .int .i64 y1, .string ⟨y2.toArray⟩, .string ⟨y3.toArray⟩] 23)
  have X_y := SBox.new w6 23 #[.int .i64 y0, .int .i64 y1, .string ⟨y2.toArray⟩, .string ⟨y3.toArray⟩]
  have B6' := B6.alloc B6.size (.cells #[.int .i64 y0, .int .i64 y1, .string ⟨y2.toArray⟩, .string ⟨y3.toArray⟩] 23)
  have f_x0_6 := X_x.cell 0 _ rfl
  have f_x1_6 := X_x.cell 1 _ rfl
  have f_x2_6 := X_x.cell 2 _ rfl
  have f_x3_6 := X_x.cell 3 _ rfl
  have f_y0_6 := X_y.cell 0 _ rfl
  have f_y1_6 := X_y.cell 1 _ rfl
  have f_y2_6 := X_y.cell 2 _ rfl
  have f_y3_6 := X_y.cell 3 _ rfl
  go_wp2_with fail
  refine (RO.out _ B6').mono ?_
  rintro e w7 ⟨rfl, b7⟩
  have B7 := bel_trans B6' b7
  clear f_x0_6 f_x1_6 f_x2_6 f_x3_6 f_y0_6 f_y1_6 f_y2_6 f_y3_6
  replace X_x := X_x.below b7
  replace X_y := X_y.below b7
  replace X_x := X_x.alloc (.cells #[.int .i64 y0, .int .i64 y1, .string ⟨y2.toArray⟩, .string ⟨y3.toArray⟩] 23)
  replace X_y := X_y.alloc (.cells #[.int .i64 y0, .int .i64 y1, .string ⟨y2.toArray⟩, .string ⟨y3.toArray⟩] 23)
  have X_z := SBox.new w7 23 #[.int .i64 y0, .int .i64 y1, .string ⟨y2.toArray⟩, .string ⟨y3.toArray⟩]
  have B7' := B7.alloc B7.size (.cells #[.int .i64 y0, .int .i64 y1, .string ⟨y2.toArray⟩, .string ⟨y3.toArray⟩] 23)
  have f_x0_7 := X_x.cell 0 _ rfl
  have f_x1_7 := X_x.cell 1 _ rfl
  have f_x2_7 := X_x.cell 2 _ rfl
  have f_x3_7 := X_x.cell 3 _ rfl
  have f_y0_7 := X_y.cell 0 _ rfl
  have f_y1_7 := X_y.cell 1 _ rfl
  have f_y2_7 := X_y.cell 2 _ rfl
  have f_y3_7 := X_y.cell 3 _ rfl
  have f_z0_7 := X_z.cell 0 _ rfl
  have f_z1_7 := X_z.cell 1 _ rfl
  have f_z2_7 := X_z.cell 2 _ rfl
  have f_z3_7 := X_z.cell 3 _ rfl
  go_wp2_with fail
  go_ret
  exact ⟨rfl, B7'⟩
end Go.Proofs.YtihggfkenhkglaaDoor
