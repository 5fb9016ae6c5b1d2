/-
  The walk of PassEqual.
-/
import Derived.Test.YtjhklkckiogobaaDoorZShown5
namespace Go.Proofs.YtjhklkckiogobaaDoor
set_option maxRecDepth 100000
open Go.RowKit
set_option linter.unusedVariables false
attribute [local go_sem] ba_size
set_option maxHeartbeats 4000000 in
theorem equal5_walk (w : World) (a : List UInt8) (la : a.length ≤ 140737488351232) (b : List UInt8) (lb : b.length ≤ 140737488351232) (hG : G w) :
    Calls Tryd.prog 9 #[.string ⟨a.toArray⟩, .string ⟨b.toArray⟩] w fun e w' => e = .returned (.bool true) ∧ Below w.heap.size w w' := by
  have hg3 := hG.size
  have HSh : Hid (∀ W, Below w.heap.size w W → Calls Tryd.prog 10 #[] W fun e w' => e = .returned (.bool true) ∧ Below W.heap.size W w') := fun W h => shown5_any W (hG.below h hg3)
  have E1 : Hid (∀ W, Below w.heap.size w W → Calls Tryd.prog 15 #[.string ⟨a.toArray⟩, .string ⟨b.toArray⟩] W fun e w' => e = .returned (.bool (a == b)) ∧ Below W.heap.size W w') := fun W h => equal5_any a b (by omega) (by omega) W
  have E2 : Hid (∀ W, Below w.heap.size w W → Calls Tryd.prog 15 #[.string ⟨b.toArray⟩, .string ⟨a.toArray⟩] W fun e w' => e = .returned (.bool (b == a)) ∧ Below W.heap.size W w') := fun W h => equal5_any b a (by omega) (by omega) W
  have E3 : Hid (∀ W, Below w.heap.size w W → Calls Tryd.prog 15 #[.string ⟨a.toArray⟩, .string ⟨a.toArray⟩] W fun e w' => e = .returned (.bool (a == a)) ∧ Below W.heap.size W w') := fun W h => equal5_any a a (by omega) (by omega) W
  rw [beq_self_eq_true] at E3
  by_cases hab : a = b
  · subst hab
    have e1 : (a == a) = true := beq_self_eq_true a
    rw [e1] at E1 E2
    go_enter Tryd.func9, Tryd.ntmps9
    go_wp2_with fail
    refine (HSh.out w (Below.refl _ _)).mono ?_
    rintro e w1 ⟨rfl, b1⟩
    have B1 := bel_trans (Below.refl _ _) b1
    go_wp2_with fail
    refine (E1.out w1 B1).mono ?_
    rintro e w2 ⟨rfl, b2⟩
    have B2 := bel_trans B1 b2
    go_wp2_with fail
    refine (E1.out w2 B2).mono ?_
    rintro e w3 ⟨rfl, b3⟩
    have B3 := bel_trans B2 b3
    go_wp2_with fail
    refine (E2.out w3 B3).mono ?_
    rintro e w4 ⟨rfl, b4⟩
    have B4 := bel_trans B3 b4
    go_wp2_with fail
    refine (E3.out w4 B4).mono ?_
    rintro e w5 ⟨rfl, b5⟩
    have B5 := bel_trans B4 b5
    go_wp2_with fail
    go_ret
    exact ⟨rfl, B5⟩
  · have e1 : (a == b) = false := by rw [beq_eq_false_iff_ne]; exact hab
    have e2 : (b == a) = false := by rw [beq_eq_false_iff_ne]; exact fun h => hab h.symm
    rw [e1] at E1
    rw [e2] at E2
    clear hab
    go_enter Tryd.func9, Tryd.ntmps9
    go_wp2_with fail
    refine (HSh.out w (Below.refl _ _)).mono ?_
    rintro e w1 ⟨rfl, b1⟩
    have B1 := bel_trans (Below.refl _ _) b1
    go_wp2_with fail
    refine (E1.out w1 B1).mono ?_
    rintro e w2 ⟨rfl, b2⟩
    have B2 := bel_trans B1 b2
    go_wp2_with fail
    refine (E1.out w2 B2).mono ?_
    rintro e w3 ⟨rfl, b3⟩
    have B3 := bel_trans B2 b3
    go_wp2_with fail
    refine (E2.out w3 B3).mono ?_
    rintro e w4 ⟨rfl, b4⟩
    have B4 := bel_trans B3 b4
    go_wp2_with fail
    refine (E3.out w4 B4).mono ?_
    rintro e w5 ⟨rfl, b5⟩
    have B5 := bel_trans B4 b5
    go_wp2_with fail
    go_ret
    exact ⟨rfl, B5⟩
end Go.Proofs.YtjhklkckiogobaaDoor
