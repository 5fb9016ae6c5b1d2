/-
  The ways through cartoucheref10.Holds.
  The ways through cartoucheref10.Holds.
  The ways through cartoucheref10.Holds.
  The ways through cartoucheref10.Holds.
  What cartoucheref10.Holds answers.
-/
import Derived.Test.YteehpkkkagdckaaZR10Comm
import Derived.BigQuiet
import Derived.Deep.QuietTactic
import Derived.Test.YteehpkkkagdckaaGA
namespace Go.Proofs.Yteehpkkkagdckaa
set_option maxRecDepth 100000
open Go.RowKit
set_option linter.unusedVariables false
attribute [local go_sem] ba_size
set_option maxHeartbeats 4000000 in
theorem rh_a (w : World) (k f t I J : Int) (n : Nat) (ah : Option Addr) (ch : Nat) (ih : n ≤ ch) (jh : ch ≤ 9223372036854775807) (kh : n ≤ 140737488351232)
    (B : Int)
    (D1 : ∀ W, Below w.heap.size w W → Calls Try.prog 36 #[.slice ah n ch, .int .i64 f] W fun e w' => e = .returned (.int .i64 (-1)) ∧ Below W.heap.size W w')
    (D2 : ∀ W, Below w.heap.size w W → Calls Try.prog 36 #[.slice ah n ch, .int .i64 t] W fun e w' => e = .returned (.int .i64 B) ∧ Below W.heap.size W w') :
    Calls Try.prog 19 #[.slice ah n ch, .agg #[.int .i64 k, .int .i64 f, .int .i64 t, .int .i64 I, .int .i64 J]] w fun e w' => e = .returned (.bool false) ∧ Below w.heap.size w w' := by
  have X0 := SBox.new w 24 #[.int .i64 k, .int .i64 f, .int .i64 t, .int .i64 I, .int .i64 J]
  have B0 := (Below.refl w.heap.size w).alloc (Nat.le_refl _) (.cells #[.int .i64 k, .int .i64 f, .int .i64 t, .int .i64 I, .int .i64 J] 24)
  go_enter Try.func19, Try.ntmps19
  have c1 : (w.alloc (.cells #[.int .i64 k, .int .i64 f, .int .i64 t, .int .i64 I, .int .i64 J] 24)).cell? ⟨w.heap.size, 1, none⟩ = some (.int .i64 f) := X0.cell 1 _ rfl
  go_wp2_with fail
  refine (D1 _ B0).mono ?_
  rintro e' w1 ⟨rfl, b1⟩
  have B1 := bel_trans B0 b1
  have X1 := X0.below b1
  have c2 : w1.cell? ⟨w.heap.size, 2, none⟩ = some (.int .i64 t) := X1.cell 2 _ rfl
  clear c1
  go_wp2_with fail
  refine (D2 _ B1).mono ?_
  rintro e' w2 ⟨rfl, b2⟩
  have B2 := bel_trans B1 b2
  have X2 := X1.below b2
  clear c2
  have d0 : w2.cell? ⟨w.heap.size, 0, none⟩ = some (.int .i64 k) := X2.cell 0 _ rfl
  have d1 : w2.cell? ⟨w.heap.size, 1, none⟩ = some (.int .i64 f) := X2.cell 1 _ rfl
  have d2 : w2.cell? ⟨w.heap.size, 2, none⟩ = some (.int .i64 t) := X2.cell 2 _ rfl
  have d3 : w2.cell? ⟨w.heap.size, 3, none⟩ = some (.int .i64 I) := X2.cell 3 _ rfl
  have d4 : w2.cell? ⟨w.heap.size, 4, none⟩ = some (.int .i64 J) := X2.cell 4 _ rfl
  go_wp2_with fail
  go_ret
  exact ⟨rfl, B2⟩

set_option maxHeartbeats 4000000 in
theorem rh_b (w : World) (k f t I J : Int) (n : Nat) (ah : Option Addr) (ch : Nat) (ih : n ≤ ch) (jh : ch ≤ 9223372036854775807) (kh : n ≤ 140737488351232)
    (a : Nat)
    (D1 : ∀ W, Below w.heap.size w W → Calls Try.prog 36 #[.slice ah n ch, .int .i64 f] W fun e w' => e = .returned (.int .i64 (a : Int)) ∧ Below W.heap.size W w')
    (D2 : ∀ W, Below w.heap.size w W → Calls Try.prog 36 #[.slice ah n ch, .int .i64 t] W fun e w' => e = .returned (.int .i64 (-1)) ∧ Below W.heap.size W w') :
    Calls Try.prog 19 #[.slice ah n ch, .agg #[.int .i64 k, .int .i64 f, .int .i64 t, .int .i64 I, .int .i64 J]] w fun e w' => e = .returned (.bool false) ∧ Below w.heap.size w w' := by
  have i1 : ¬ (a : Int) < 0 := by omega
  have X0 := SBox.new w 24 #[.int .i64 k, .int .i64 f, .int .i64 t, .int .i64 I, .int .i64 J]
  have B0 := (Below.refl w.heap.size w).alloc (Nat.le_refl _) (.cells #[.int .i64 k, .int .i64 f, .int .i64 t, .int .i64 I, .int .i64 J] 24)
  go_enter Try.func19, Try.ntmps19
  have c1 : (w.alloc (.cells #[.int .i64 k, .int .i64 f, .int .i64 t, .int .i64 I, .int .i64 J] 24)).cell? ⟨w.heap.size, 1, none⟩ = some (.int .i64 f) := X0.cell 1 _ rfl
  go_wp2_with fail
  refine (D1 _ B0).mono ?_
  rintro e' w1 ⟨rfl, b1⟩
  have B1 := bel_trans B0 b1
  have X1 := X0.below b1
  have c2 : w1.cell? ⟨w.heap.size, 2, none⟩ = some (.int .i64 t) := X1.cell 2 _ rfl
  clear c1
  go_wp2_with fail
  refine (D2 _ B1).mono ?_
  rintro e' w2 ⟨rfl, b2⟩
  have B2 := bel_trans B1 b2
  have X2 := X1.below b2
  clear c2
  have d0 : w2.cell? ⟨w.heap.size, 0, none⟩ = some (.int .i64 k) := X2.cell 0 _ rfl
  have d1 : w2.cell? ⟨w.heap.size, 1, none⟩ = some (.int .i64 f) := X2.cell 1 _ rfl
  have d2 : w2.cell? ⟨w.heap.size, 2, none⟩ = some (.int .i64 t) := X2.cell 2 _ rfl
  have d3 : w2.cell? ⟨w.heap.size, 3, none⟩ = some (.int .i64 I) := X2.cell 3 _ rfl
  have d4 : w2.cell? ⟨w.heap.size, 4, none⟩ = some (.int .i64 J) := X2.cell 4 _ rfl
  go_wp2_with fail
  go_ret
  exact ⟨rfl, B2⟩

set_option maxHeartbeats 4000000 in
theorem rh_c (w : World) (k f I J : Int) (n : Nat) (ah : Option Addr) (ch : Nat) (ih : n ≤ ch) (jh : ch ≤ 9223372036854775807) (kh : n ≤ 140737488351232)
    (a b : Nat)
    (D1 : ∀ W, Below w.heap.size w W → Calls Try.prog 36 #[.slice ah n ch, .int .i64 f] W fun e w' => e = .returned (.int .i64 (a : Int)) ∧ Below W.heap.size W w')
    (D2 : ∀ W, Below w.heap.size w W → Calls Try.prog 36 #[.slice ah n ch, .int .i64 f] W fun e w' => e = .returned (.int .i64 (b : Int)) ∧ Below W.heap.size W w')
     :
    Calls Try.prog 19 #[.slice ah n ch, .agg #[.int .i64 k, .int .i64 f, .int .i64 f, .int .i64 I, .int .i64 J]] w fun e w' => e = .returned (.bool false) ∧ Below w.heap.size w w' := by
  have i1 : ¬ (a : Int) < 0 := by omega
  have i2 : ¬ (b : Int) < 0 := by omega
  have X0 := SBox.new w 24 #[.int .i64 k, .int .i64 f, .int .i64 f, .int .i64 I, .int .i64 J]
  have B0 := (Below.refl w.heap.size w).alloc (Nat.le_refl _) (.cells #[.int .i64 k, .int .i64 f, .int .i64 f, .int .i64 I, .int .i64 J] 24)
  go_enter Try.func19, Try.ntmps19
  have c1 : (w.alloc (.cells #[.int .i64 k, .int .i64 f, .int .i64 f, .int .i64 I, .int .i64 J] 24)).cell? ⟨w.heap.size, 1, none⟩ = some (.int .i64 f) := X0.cell 1 _ rfl
  go_wp2_with fail
  refine (D1 _ B0).mono ?_
  rintro e' w1 ⟨rfl, b1⟩
  have B1 := bel_trans B0 b1
  have X1 := X0.below b1
  have c2 : w1.cell? ⟨w.heap.size, 2, none⟩ = some (.int .i64 f) := X1.cell 2 _ rfl
  clear c1
  go_wp2_with fail
  refine (D2 _ B1).mono ?_
  rintro e' w2 ⟨rfl, b2⟩
  have B2 := bel_trans B1 b2
  have X2 := X1.below b2
  clear c2
  have d0 : w2.cell? ⟨w.heap.size, 0, none⟩ = some (.int .i64 k) := X2.cell 0 _ rfl
  have d1 : w2.cell? ⟨w.heap.size, 1, none⟩ = some (.int .i64 f) := X2.cell 1 _ rfl
  have d2 : w2.cell? ⟨w.heap.size, 2, none⟩ = some (.int .i64 f) := X2.cell 2 _ rfl
  have d3 : w2.cell? ⟨w.heap.size, 3, none⟩ = some (.int .i64 I) := X2.cell 3 _ rfl
  have d4 : w2.cell? ⟨w.heap.size, 4, none⟩ = some (.int .i64 J) := X2.cell 4 _ rfl
  go_wp2_with fail
  go_ret
  exact ⟨rfl, B2⟩

set_option maxHeartbeats 4000000 in
theorem rh_d (w : World) (k f t I J : Int) (n : Nat) (ah : Option Addr) (ch : Nat) (ih : n ≤ ch) (jh : ch ≤ 9223372036854775807) (kh : n ≤ 140737488351232)
    (a b : Nat)
    (D1 : ∀ W, Below w.heap.size w W → Calls Try.prog 36 #[.slice ah n ch, .int .i64 f] W fun e w' => e = .returned (.int .i64 (a : Int)) ∧ Below W.heap.size W w')
    (D2 : ∀ W, Below w.heap.size w W → Calls Try.prog 36 #[.slice ah n ch, .int .i64 t] W fun e w' => e = .returned (.int .i64 (b : Int)) ∧ Below W.heap.size W w')
    (e1 : (f == t) = false) (g2 : I < 0) :
    Calls Try.prog 19 #[.slice ah n ch, .agg #[.int .i64 k, .int .i64 f, .int .i64 t, .int .i64 I, .int .i64 J]] w fun e w' => e = .returned (.bool false) ∧ Below w.heap.size w w' := by
  have i1 : ¬ (a : Int) < 0 := by omega
  have i2 : ¬ (b : Int) < 0 := by omega
  have X0 := SBox.new w 24 #[.int .i64 k, .int .i64 f, .int .i64 t, .int .i64 I, .int .i64 J]
  have B0 := (Below.refl w.heap.size w).alloc (Nat.le_refl _) (.cells #[.int .i64 k, .int .i64 f, .int .i64 t, .int .i64 I, .int .i64 J] 24)
  go_enter Try.func19, Try.ntmps19
  have c1 : (w.alloc (.cells #[.int .i64 k, .int .i64 f, .int .i64 t, .int .i64 I, .int .i64 J] 24)).cell? ⟨w.heap.size, 1, none⟩ = some (.int .i64 f) := X0.cell 1 _ rfl
  go_wp2_with fail
  refine (D1 _ B0).mono ?_
  rintro e' w1 ⟨rfl, b1⟩
  have B1 := bel_trans B0 b1
  have X1 := X0.below b1
  have c2 : w1.cell? ⟨w.heap.size, 2, none⟩ = some (.int .i64 t) := X1.cell 2 _ rfl
  clear c1
  go_wp2_with fail
  refine (D2 _ B1).mono ?_
  rintro e' w2 ⟨rfl, b2⟩
  have B2 := bel_trans B1 b2
  have X2 := X1.below b2
  clear c2
  have d0 : w2.cell? ⟨w.heap.size, 0, none⟩ = some (.int .i64 k) := X2.cell 0 _ rfl
  have d1 : w2.cell? ⟨w.heap.size, 1, none⟩ = some (.int .i64 f) := X2.cell 1 _ rfl
  have d2 : w2.cell? ⟨w.heap.size, 2, none⟩ = some (.int .i64 t) := X2.cell 2 _ rfl
  have d3 : w2.cell? ⟨w.heap.size, 3, none⟩ = some (.int .i64 I) := X2.cell 3 _ rfl
  have d4 : w2.cell? ⟨w.heap.size, 4, none⟩ = some (.int .i64 J) := X2.cell 4 _ rfl
  go_wp2_with fail
  go_ret
  exact ⟨rfl, B2⟩

set_option maxHeartbeats 4000000 in
theorem rh_e (w : World) (k f t I J : Int) (n : Nat) (ah : Option Addr) (ch : Nat) (ih : n ≤ ch) (jh : ch ≤ 9223372036854775807) (kh : n ≤ 140737488351232)
    (a b : Nat)
    (D1 : ∀ W, Below w.heap.size w W → Calls Try.prog 36 #[.slice ah n ch, .int .i64 f] W fun e w' => e = .returned (.int .i64 (a : Int)) ∧ Below W.heap.size W w')
    (D2 : ∀ W, Below w.heap.size w W → Calls Try.prog 36 #[.slice ah n ch, .int .i64 t] W fun e w' => e = .returned (.int .i64 (b : Int)) ∧ Below W.heap.size W w')
    (e1 : (f == t) = false) (g2 : ¬ I < 0) (g3 : (n : Int) ≤ I) :
    Calls Try.prog 19 #[.slice ah n ch, .agg #[.int .i64 k, .int .i64 f, .int .i64 t, .int .i64 I, .int .i64 J]] w fun e w' => e = .returned (.bool false) ∧ Below w.heap.size w w' := by
  have i1 : ¬ (a : Int) < 0 := by omega
  have i2 : ¬ (b : Int) < 0 := by omega
  have X0 := SBox.new w 24 #[.int .i64 k, .int .i64 f, .int .i64 t, .int .i64 I, .int .i64 J]
  have B0 := (Below.refl w.heap.size w).alloc (Nat.le_refl _) (.cells #[.int .i64 k, .int .i64 f, .int .i64 t, .int .i64 I, .int .i64 J] 24)
  go_enter Try.func19, Try.ntmps19
  have c1 : (w.alloc (.cells #[.int .i64 k, .int .i64 f, .int .i64 t, .int .i64 I, .int .i64 J] 24)).cell? ⟨w.heap.size, 1, none⟩ = some (.int .i64 f) := X0.cell 1 _ rfl
  go_wp2_with fail
  refine (D1 _ B0).mono ?_
  rintro e' w1 ⟨rfl, b1⟩
  have B1 := bel_trans B0 b1
  have X1 := X0.below b1
  have c2 : w1.cell? ⟨w.heap.size, 2, none⟩ = some (.int .i64 t) := X1.cell 2 _ rfl
  clear c1
  go_wp2_with fail
  refine (D2 _ B1).mono ?_
  rintro e' w2 ⟨rfl, b2⟩
  have B2 := bel_trans B1 b2
  have X2 := X1.below b2
  clear c2
  have d0 : w2.cell? ⟨w.heap.size, 0, none⟩ = some (.int .i64 k) := X2.cell 0 _ rfl
  have d1 : w2.cell? ⟨w.heap.size, 1, none⟩ = some (.int .i64 f) := X2.cell 1 _ rfl
  have d2 : w2.cell? ⟨w.heap.size, 2, none⟩ = some (.int .i64 t) := X2.cell 2 _ rfl
  have d3 : w2.cell? ⟨w.heap.size, 3, none⟩ = some (.int .i64 I) := X2.cell 3 _ rfl
  have d4 : w2.cell? ⟨w.heap.size, 4, none⟩ = some (.int .i64 J) := X2.cell 4 _ rfl
  go_wp2_with fail
  go_ret
  exact ⟨rfl, B2⟩

set_option maxHeartbeats 4000000 in
theorem rh_f (w : World) (k f t I J : Int) (n : Nat) (ah : Option Addr) (ch : Nat) (ih : n ≤ ch) (jh : ch ≤ 9223372036854775807) (kh : n ≤ 140737488351232)
    (a b : Nat)
    (D1 : ∀ W, Below w.heap.size w W → Calls Try.prog 36 #[.slice ah n ch, .int .i64 f] W fun e w' => e = .returned (.int .i64 (a : Int)) ∧ Below W.heap.size W w')
    (D2 : ∀ W, Below w.heap.size w W → Calls Try.prog 36 #[.slice ah n ch, .int .i64 t] W fun e w' => e = .returned (.int .i64 (b : Int)) ∧ Below W.heap.size W w')
    (e1 : (f == t) = false) (g2 : ¬ I < 0) (g3 : ¬ (n : Int) ≤ I) (g4 : J < 0) :
    Calls Try.prog 19 #[.slice ah n ch, .agg #[.int .i64 k, .int .i64 f, .int .i64 t, .int .i64 I, .int .i64 J]] w fun e w' => e = .returned (.bool false) ∧ Below w.heap.size w w' := by
  have i1 : ¬ (a : Int) < 0 := by omega
  have i2 : ¬ (b : Int) < 0 := by omega
  have X0 := SBox.new w 24 #[.int .i64 k, .int .i64 f, .int .i64 t, .int .i64 I, .int .i64 J]
  have B0 := (Below.refl w.heap.size w).alloc (Nat.le_refl _) (.cells #[.int .i64 k, .int .i64 f, .int .i64 t, .int .i64 I, .int .i64 J] 24)
  go_enter Try.func19, Try.ntmps19
  have c1 : (w.alloc (.cells #[.int .i64 k, .int .i64 f, .int .i64 t, .int .i64 I, .int .i64 J] 24)).cell? ⟨w.heap.size, 1, none⟩ = some (.int .i64 f) := X0.cell 1 _ rfl
  go_wp2_with fail
  refine (D1 _ B0).mono ?_
  rintro e' w1 ⟨rfl, b1⟩
  have B1 := bel_trans B0 b1
  have X1 := X0.below b1
  have c2 : w1.cell? ⟨w.heap.size, 2, none⟩ = some (.int .i64 t) := X1.cell 2 _ rfl
  clear c1
  go_wp2_with fail
  refine (D2 _ B1).mono ?_
  rintro e' w2 ⟨rfl, b2⟩
  have B2 := bel_trans B1 b2
  have X2 := X1.below b2
  clear c2
  have d0 : w2.cell? ⟨w.heap.size, 0, none⟩ = some (.int .i64 k) := X2.cell 0 _ rfl
  have d1 : w2.cell? ⟨w.heap.size, 1, none⟩ = some (.int .i64 f) := X2.cell 1 _ rfl
  have d2 : w2.cell? ⟨w.heap.size, 2, none⟩ = some (.int .i64 t) := X2.cell 2 _ rfl
  have d3 : w2.cell? ⟨w.heap.size, 3, none⟩ = some (.int .i64 I) := X2.cell 3 _ rfl
  have d4 : w2.cell? ⟨w.heap.size, 4, none⟩ = some (.int .i64 J) := X2.cell 4 _ rfl
  go_wp2_with fail
  go_ret
  exact ⟨rfl, B2⟩

set_option maxHeartbeats 4000000 in
theorem rh_g (w : World) (k f t I J : Int) (n : Nat) (ah : Option Addr) (ch : Nat) (ih : n ≤ ch) (jh : ch ≤ 9223372036854775807) (kh : n ≤ 140737488351232)
    (a b : Nat)
    (D1 : ∀ W, Below w.heap.size w W → Calls Try.prog 36 #[.slice ah n ch, .int .i64 f] W fun e w' => e = .returned (.int .i64 (a : Int)) ∧ Below W.heap.size W w')
    (D2 : ∀ W, Below w.heap.size w W → Calls Try.prog 36 #[.slice ah n ch, .int .i64 t] W fun e w' => e = .returned (.int .i64 (b : Int)) ∧ Below W.heap.size W w')
    (e1 : (f == t) = false) (g2 : ¬ I < 0) (g3 : ¬ (n : Int) ≤ I) (g4 : ¬ J < 0) (g5 : (n : Int) ≤ J) :
    Calls Try.prog 19 #[.slice ah n ch, .agg #[.int .i64 k, .int .i64 f, .int .i64 t, .int .i64 I, .int .i64 J]] w fun e w' => e = .returned (.bool false) ∧ Below w.heap.size w w' := by
  have i1 : ¬ (a : Int) < 0 := by omega
  have i2 : ¬ (b : Int) < 0 := by omega
  have X0 := SBox.new w 24 #[.int .i64 k, .int .i64 f, .int .i64 t, .int .i64 I, .int .i64 J]
  have B0 := (Below.refl w.heap.size w).alloc (Nat.le_refl _) (.cells #[.int .i64 k, .int .i64 f, .int .i64 t, .int .i64 I, .int .i64 J] 24)
  go_enter Try.func19, Try.ntmps19
  have c1 : (w.alloc (.cells #[.int .i64 k, .int .i64 f, .int .i64 t, .int .i64 I, .int .i64 J] 24)).cell? ⟨w.heap.size, 1, none⟩ = some (.int .i64 f) := X0.cell 1 _ rfl
  go_wp2_with fail
  refine (D1 _ B0).mono ?_
  rintro e' w1 ⟨rfl, b1⟩
  have B1 := bel_trans B0 b1
  have X1 := X0.below b1
  have c2 : w1.cell? ⟨w.heap.size, 2, none⟩ = some (.int .i64 t) := X1.cell 2 _ rfl
  clear c1
  go_wp2_with fail
  refine (D2 _ B1).mono ?_
  rintro e' w2 ⟨rfl, b2⟩
  have B2 := bel_trans B1 b2
  have X2 := X1.below b2
  clear c2
  have d0 : w2.cell? ⟨w.heap.size, 0, none⟩ = some (.int .i64 k) := X2.cell 0 _ rfl
  have d1 : w2.cell? ⟨w.heap.size, 1, none⟩ = some (.int .i64 f) := X2.cell 1 _ rfl
  have d2 : w2.cell? ⟨w.heap.size, 2, none⟩ = some (.int .i64 t) := X2.cell 2 _ rfl
  have d3 : w2.cell? ⟨w.heap.size, 3, none⟩ = some (.int .i64 I) := X2.cell 3 _ rfl
  have d4 : w2.cell? ⟨w.heap.size, 4, none⟩ = some (.int .i64 J) := X2.cell 4 _ rfl
  go_wp2_with fail
  go_ret
  exact ⟨rfl, B2⟩

set_option maxHeartbeats 4000000 in
theorem rh_k1 (w : World) (k f t : Int) (i j : Nat) (n : Nat) (bb off : Nat) (ch : Nat) (ih : n ≤ ch) (jh : ch ≤ 9223372036854775807) (kh : n ≤ 140737488351232)
    (a b : Nat) (x0 x1 y0 y1 : Int) (x2 x3 y2 y3 : List UInt8) (e1 : (f == t) = false) (hi : i < n) (hj : j < n)
    (HP : Hid (∀ V, Below w.heap.size w V → V.cell? ⟨bb, off + i * 4, none⟩ = some (.int .i64 x0) ∧ V.cell? ⟨bb, off + i * 4 + 1, none⟩ = some (.int .i64 x1) ∧ V.cell? ⟨bb, off + i * 4 + 2, none⟩ = some (.string ⟨x2.toArray⟩) ∧ V.cell? ⟨bb, off + i * 4 + 3, none⟩ = some (.string ⟨x3.toArray⟩)))
    (HR : Hid (∀ V, Below w.heap.size w V → V.cell? ⟨bb, off + j * 4, none⟩ = some (.int .i64 y0) ∧ V.cell? ⟨bb, off + j * 4 + 1, none⟩ = some (.int .i64 y1) ∧ V.cell? ⟨bb, off + j * 4 + 2, none⟩ = some (.string ⟨y2.toArray⟩) ∧ V.cell? ⟨bb, off + j * 4 + 3, none⟩ = some (.string ⟨y3.toArray⟩)))
    (D1 : ∀ W, Below w.heap.size w W → Calls Try.prog 36 #[.slice (some ⟨bb, off, none⟩) n ch, .int .i64 f] W fun e w' => e = .returned (.int .i64 (a : Int)) ∧ Below W.heap.size W w')
    (D2 : ∀ W, Below w.heap.size w W → Calls Try.prog 36 #[.slice (some ⟨bb, off, none⟩) n ch, .int .i64 t] W fun e w' => e = .returned (.int .i64 (b : Int)) ∧ Below W.heap.size W w')
    (f1 : (x2 != y2) = true) (f2 : (x2 == y2) = false) (f3 : ¬ x2 = y2) (f4 : decide (x2 = y2) = false) :
    Calls Try.prog 19 #[.slice (some ⟨bb, off, none⟩) n ch, .agg #[.int .i64 k, .int .i64 f, .int .i64 t, .int .i64 (i : Int), .int .i64 (j : Int)]] w fun e w' => e = .returned (.bool false) ∧ Below w.heap.size w w' := by
  have i1 : ¬ (a : Int) < 0 := by omega
  have i2 : ¬ (b : Int) < 0 := by omega
  have g2 : ¬ (i : Int) < 0 := by omega
  have g3 : ¬ (n : Int) ≤ (i : Int) := by omega
  have g4 : ¬ (j : Int) < 0 := by omega
  have g5 : ¬ (n : Int) ≤ (j : Int) := by omega
  have X0 := SBox.new w 24 #[.int .i64 k, .int .i64 f, .int .i64 t, .int .i64 (i : Int), .int .i64 (j : Int)]
  have B0 := (Below.refl w.heap.size w).alloc (Nat.le_refl _) (.cells #[.int .i64 k, .int .i64 f, .int .i64 t, .int .i64 (i : Int), .int .i64 (j : Int)] 24)
  go_enter Try.func19, Try.ntmps19
  have c1 : (w.alloc (.cells #[.int .i64 k, .int .i64 f, .int .i64 t, .int .i64 (i : Int), .int .i64 (j : Int)] 24)).cell? ⟨w.heap.size, 1, none⟩ = some (.int .i64 f) := X0.cell 1 _ rfl
  go_wp2_with fail
  refine (D1 _ B0).mono ?_
  rintro e' w1 ⟨rfl, b1⟩
  have B1 := bel_trans B0 b1
  have X1 := X0.below b1
  have c2 : w1.cell? ⟨w.heap.size, 2, none⟩ = some (.int .i64 t) := X1.cell 2 _ rfl
  clear c1
  go_wp2_with fail
  refine (D2 _ B1).mono ?_
  rintro e' w2 ⟨rfl, b2⟩
  have B2 := bel_trans B1 b2
  have X2 := X1.below b2
  clear c2
  have d0 : w2.cell? ⟨w.heap.size, 0, none⟩ = some (.int .i64 k) := X2.cell 0 _ rfl
  have d1 : w2.cell? ⟨w.heap.size, 1, none⟩ = some (.int .i64 f) := X2.cell 1 _ rfl
  have d2 : w2.cell? ⟨w.heap.size, 2, none⟩ = some (.int .i64 t) := X2.cell 2 _ rfl
  have d3 : w2.cell? ⟨w.heap.size, 3, none⟩ = some (.int .i64 (i : Int)) := X2.cell 3 _ rfl
  have d4 : w2.cell? ⟨w.heap.size, 4, none⟩ = some (.int .i64 (j : Int)) := X2.cell 4 _ rfl
  obtain ⟨p0, p1, p2, p3⟩ := HP.out _ B2
  have B3 := B2.alloc B2.size (.cells #[.int .i64 x0, .int .i64 x1, .string ⟨x2.toArray⟩, .string ⟨x3.toArray⟩] 48)
  have B4 := B3.alloc B3.size (.cells #[.int .i64 y0, .int .i64 y1, .string ⟨y2.toArray⟩, .string ⟨y3.toArray⟩] 48)
  have X4 := (X2.alloc (.cells #[.int .i64 x0, .int .i64 x1, .string ⟨x2.toArray⟩, .string ⟨x3.toArray⟩] 48)).alloc (.cells #[.int .i64 y0, .int .i64 y1, .string ⟨y2.toArray⟩, .string ⟨y3.toArray⟩] 48)
  have Y4 := (SBox.new w2 48 #[.int .i64 x0, .int .i64 x1, .string ⟨x2.toArray⟩, .string ⟨x3.toArray⟩]).alloc (.cells #[.int .i64 y0, .int .i64 y1, .string ⟨y2.toArray⟩, .string ⟨y3.toArray⟩] 48)
  obtain ⟨q0, q1, q2, q3⟩ := HR.out _ B3
  have X3 := X2.alloc (.cells #[.int .i64 x0, .int .i64 x1, .string ⟨x2.toArray⟩, .string ⟨x3.toArray⟩] 48)
  have Z4 := SBox.new (w2.alloc (.cells #[.int .i64 x0, .int .i64 x1, .string ⟨x2.toArray⟩, .string ⟨x3.toArray⟩] 48)) 48 #[.int .i64 y0, .int .i64 y1, .string ⟨y2.toArray⟩, .string ⟨y3.toArray⟩]
  have hz : (w2.alloc (.cells #[.int .i64 x0, .int .i64 x1, .string ⟨x2.toArray⟩, .string ⟨x3.toArray⟩] 48)).heap.size = w2.heap.size + 1 := Array.size_push ..
  have m4 := X3.cell 4 _ rfl
  have x40 := X4.cell 0 _ rfl
  have x41 := X4.cell 1 _ rfl
  have x42 := X4.cell 2 _ rfl
  have y40 := Y4.cell 0 _ rfl
  have y41 := Y4.cell 1 _ rfl
  have y42 := Y4.cell 2 _ rfl
  have y43 := Y4.cell 3 _ rfl
  have z40 := Z4.cell 0 _ rfl
  have z41 := Z4.cell 1 _ rfl
  have z42 := Z4.cell 2 _ rfl
  have z43 := Z4.cell 3 _ rfl
  go_wp2_with fail
  go_ret
  exact ⟨rfl, B4⟩

set_option maxHeartbeats 4000000 in
theorem rh_k2 (w : World) (k f t : Int) (i j : Nat) (n : Nat) (bb off : Nat) (ch : Nat) (ih : n ≤ ch) (jh : ch ≤ 9223372036854775807) (kh : n ≤ 140737488351232)
    (a b : Nat) (x0 x1 y0 y1 : Int) (x2 x3 y3 : List UInt8) (e1 : (f == t) = false) (hi : i < n) (hj : j < n)
    (HP : Hid (∀ V, Below w.heap.size w V → V.cell? ⟨bb, off + i * 4, none⟩ = some (.int .i64 x0) ∧ V.cell? ⟨bb, off + i * 4 + 1, none⟩ = some (.int .i64 x1) ∧ V.cell? ⟨bb, off + i * 4 + 2, none⟩ = some (.string ⟨x2.toArray⟩) ∧ V.cell? ⟨bb, off + i * 4 + 3, none⟩ = some (.string ⟨x3.toArray⟩)))
    (HR : Hid (∀ V, Below w.heap.size w V → V.cell? ⟨bb, off + j * 4, none⟩ = some (.int .i64 y0) ∧ V.cell? ⟨bb, off + j * 4 + 1, none⟩ = some (.int .i64 y1) ∧ V.cell? ⟨bb, off + j * 4 + 2, none⟩ = some (.string ⟨x2.toArray⟩) ∧ V.cell? ⟨bb, off + j * 4 + 3, none⟩ = some (.string ⟨y3.toArray⟩)))
    (D1 : ∀ W, Below w.heap.size w W → Calls Try.prog 36 #[.slice (some ⟨bb, off, none⟩) n ch, .int .i64 f] W fun e w' => e = .returned (.int .i64 (a : Int)) ∧ Below W.heap.size W w')
    (D2 : ∀ W, Below w.heap.size w W → Calls Try.prog 36 #[.slice (some ⟨bb, off, none⟩) n ch, .int .i64 t] W fun e w' => e = .returned (.int .i64 (b : Int)) ∧ Below W.heap.size W w')
    (f2 : (x1 != f) = true) :
    Calls Try.prog 19 #[.slice (some ⟨bb, off, none⟩) n ch, .agg #[.int .i64 k, .int .i64 f, .int .i64 t, .int .i64 (i : Int), .int .i64 (j : Int)]] w fun e w' => e = .returned (.bool false) ∧ Below w.heap.size w w' := by
  have i1 : ¬ (a : Int) < 0 := by omega
  have i2 : ¬ (b : Int) < 0 := by omega
  have g2 : ¬ (i : Int) < 0 := by omega
  have g3 : ¬ (n : Int) ≤ (i : Int) := by omega
  have g4 : ¬ (j : Int) < 0 := by omega
  have g5 : ¬ (n : Int) ≤ (j : Int) := by omega
  have X0 := SBox.new w 24 #[.int .i64 k, .int .i64 f, .int .i64 t, .int .i64 (i : Int), .int .i64 (j : Int)]
  have B0 := (Below.refl w.heap.size w).alloc (Nat.le_refl _) (.cells #[.int .i64 k, .int .i64 f, .int .i64 t, .int .i64 (i : Int), .int .i64 (j : Int)] 24)
  go_enter Try.func19, Try.ntmps19
  have c1 : (w.alloc (.cells #[.int .i64 k, .int .i64 f, .int .i64 t, .int .i64 (i : Int), .int .i64 (j : Int)] 24)).cell? ⟨w.heap.size, 1, none⟩ = some (.int .i64 f) := X0.cell 1 _ rfl
  go_wp2_with fail
  refine (D1 _ B0).mono ?_
  rintro e' w1 ⟨rfl, b1⟩
  have B1 := bel_trans B0 b1
  have X1 := X0.below b1
  have c2 : w1.cell? ⟨w.heap.size, 2, none⟩ = some (.int .i64 t) := X1.cell 2 _ rfl
  clear c1
  go_wp2_with fail
  refine (D2 _ B1).mono ?_
  rintro e' w2 ⟨rfl, b2⟩
  have B2 := bel_trans B1 b2
  have X2 := X1.below b2
  clear c2
  have d0 : w2.cell? ⟨w.heap.size, 0, none⟩ = some (.int .i64 k) := X2.cell 0 _ rfl
  have d1 : w2.cell? ⟨w.heap.size, 1, none⟩ = some (.int .i64 f) := X2.cell 1 _ rfl
  have d2 : w2.cell? ⟨w.heap.size, 2, none⟩ = some (.int .i64 t) := X2.cell 2 _ rfl
  have d3 : w2.cell? ⟨w.heap.size, 3, none⟩ = some (.int .i64 (i : Int)) := X2.cell 3 _ rfl
  have d4 : w2.cell? ⟨w.heap.size, 4, none⟩ = some (.int .i64 (j : Int)) := X2.cell 4 _ rfl
  obtain ⟨p0, p1, p2, p3⟩ := HP.out _ B2
  have B3 := B2.alloc B2.size (.cells #[.int .i64 x0, .int .i64 x1, .string ⟨x2.toArray⟩, .string ⟨x3.toArray⟩] 48)
  have B4 := B3.alloc B3.size (.cells #[.int .i64 y0, .int .i64 y1, .string ⟨x2.toArray⟩, .string ⟨y3.toArray⟩] 48)
  have X4 := (X2.alloc (.cells #[.int .i64 x0, .int .i64 x1, .string ⟨x2.toArray⟩, .string ⟨x3.toArray⟩] 48)).alloc (.cells #[.int .i64 y0, .int .i64 y1, .string ⟨x2.toArray⟩, .string ⟨y3.toArray⟩] 48)
  have Y4 := (SBox.new w2 48 #[.int .i64 x0, .int .i64 x1, .string ⟨x2.toArray⟩, .string ⟨x3.toArray⟩]).alloc (.cells #[.int .i64 y0, .int .i64 y1, .string ⟨x2.toArray⟩, .string ⟨y3.toArray⟩] 48)
  obtain ⟨q0, q1, q2, q3⟩ := HR.out _ B3
  have X3 := X2.alloc (.cells #[.int .i64 x0, .int .i64 x1, .string ⟨x2.toArray⟩, .string ⟨x3.toArray⟩] 48)
  have Z4 := SBox.new (w2.alloc (.cells #[.int .i64 x0, .int .i64 x1, .string ⟨x2.toArray⟩, .string ⟨x3.toArray⟩] 48)) 48 #[.int .i64 y0, .int .i64 y1, .string ⟨x2.toArray⟩, .string ⟨y3.toArray⟩]
  have hz : (w2.alloc (.cells #[.int .i64 x0, .int .i64 x1, .string ⟨x2.toArray⟩, .string ⟨x3.toArray⟩] 48)).heap.size = w2.heap.size + 1 := Array.size_push ..
  have m4 := X3.cell 4 _ rfl
  have x40 := X4.cell 0 _ rfl
  have x41 := X4.cell 1 _ rfl
  have x42 := X4.cell 2 _ rfl
  have y40 := Y4.cell 0 _ rfl
  have y41 := Y4.cell 1 _ rfl
  have y42 := Y4.cell 2 _ rfl
  have y43 := Y4.cell 3 _ rfl
  have z40 := Z4.cell 0 _ rfl
  have z41 := Z4.cell 1 _ rfl
  have z42 := Z4.cell 2 _ rfl
  have z43 := Z4.cell 3 _ rfl
  go_wp2_with fail
  go_ret
  exact ⟨rfl, B4⟩

set_option maxHeartbeats 4000000 in
theorem rh_k3 (w : World) (k f t : Int) (i j : Nat) (n : Nat) (bb off : Nat) (ch : Nat) (ih : n ≤ ch) (jh : ch ≤ 9223372036854775807) (kh : n ≤ 140737488351232)
    (a b : Nat) (x0 y0 y1 : Int) (x2 x3 y3 : List UInt8) (e1 : (f == t) = false) (hi : i < n) (hj : j < n)
    (HP : Hid (∀ V, Below w.heap.size w V → V.cell? ⟨bb, off + i * 4, none⟩ = some (.int .i64 x0) ∧ V.cell? ⟨bb, off + i * 4 + 1, none⟩ = some (.int .i64 f) ∧ V.cell? ⟨bb, off + i * 4 + 2, none⟩ = some (.string ⟨x2.toArray⟩) ∧ V.cell? ⟨bb, off + i * 4 + 3, none⟩ = some (.string ⟨x3.toArray⟩)))
    (HR : Hid (∀ V, Below w.heap.size w V → V.cell? ⟨bb, off + j * 4, none⟩ = some (.int .i64 y0) ∧ V.cell? ⟨bb, off + j * 4 + 1, none⟩ = some (.int .i64 y1) ∧ V.cell? ⟨bb, off + j * 4 + 2, none⟩ = some (.string ⟨x2.toArray⟩) ∧ V.cell? ⟨bb, off + j * 4 + 3, none⟩ = some (.string ⟨y3.toArray⟩)))
    (D1 : ∀ W, Below w.heap.size w W → Calls Try.prog 36 #[.slice (some ⟨bb, off, none⟩) n ch, .int .i64 f] W fun e w' => e = .returned (.int .i64 (a : Int)) ∧ Below W.heap.size W w')
    (D2 : ∀ W, Below w.heap.size w W → Calls Try.prog 36 #[.slice (some ⟨bb, off, none⟩) n ch, .int .i64 t] W fun e w' => e = .returned (.int .i64 (b : Int)) ∧ Below W.heap.size W w')
    (f3 : (y1 != t) = true) :
    Calls Try.prog 19 #[.slice (some ⟨bb, off, none⟩) n ch, .agg #[.int .i64 k, .int .i64 f, .int .i64 t, .int .i64 (i : Int), .int .i64 (j : Int)]] w fun e w' => e = .returned (.bool false) ∧ Below w.heap.size w w' := by
  have i1 : ¬ (a : Int) < 0 := by omega
  have i2 : ¬ (b : Int) < 0 := by omega
  have g2 : ¬ (i : Int) < 0 := by omega
  have g3 : ¬ (n : Int) ≤ (i : Int) := by omega
  have g4 : ¬ (j : Int) < 0 := by omega
  have g5 : ¬ (n : Int) ≤ (j : Int) := by omega
  have X0 := SBox.new w 24 #[.int .i64 k, .int .i64 f, .int .i64 t, .int .i64 (i : Int), .int .i64 (j : Int)]
  have B0 := (Below.refl w.heap.size w).alloc (Nat.le_refl _) (.cells #[.int .i64 k, .int .i64 f, .int .i64 t, .int .i64 (i : Int), .int .i64 (j : Int)] 24)
  go_enter Try.func19, Try.ntmps19
  have c1 : (w.alloc (.cells #[.int .i64 k, .int .i64 f, .int .i64 t, .int .i64 (i : Int), .int .i64 (j : Int)] 24)).cell? ⟨w.heap.size, 1, none⟩ = some (.int .i64 f) := X0.cell 1 _ rfl
  go_wp2_with fail
  refine (D1 _ B0).mono ?_
  rintro e' w1 ⟨rfl, b1⟩
  have B1 := bel_trans B0 b1
  have X1 := X0.below b1
  have c2 : w1.cell? ⟨w.heap.size, 2, none⟩ = some (.int .i64 t) := X1.cell 2 _ rfl
  clear c1
  go_wp2_with fail
  refine (D2 _ B1).mono ?_
  rintro e' w2 ⟨rfl, b2⟩
  have B2 := bel_trans B1 b2
  have X2 := X1.below b2
  clear c2
  have d0 : w2.cell? ⟨w.heap.size, 0, none⟩ = some (.int .i64 k) := X2.cell 0 _ rfl
  have d1 : w2.cell? ⟨w.heap.size, 1, none⟩ = some (.int .i64 f) := X2.cell 1 _ rfl
  have d2 : w2.cell? ⟨w.heap.size, 2, none⟩ = some (.int .i64 t) := X2.cell 2 _ rfl
  have d3 : w2.cell? ⟨w.heap.size, 3, none⟩ = some (.int .i64 (i : Int)) := X2.cell 3 _ rfl
  have d4 : w2.cell? ⟨w.heap.size, 4, none⟩ = some (.int .i64 (j : Int)) := X2.cell 4 _ rfl
  obtain ⟨p0, p1, p2, p3⟩ := HP.out _ B2
  have B3 := B2.alloc B2.size (.cells #[.int .i64 x0, .int .i64 f, .string ⟨x2.toArray⟩, .string ⟨x3.toArray⟩] 48)
  have B4 := B3.alloc B3.size (.cells #[.int .i64 y0, .int .i64 y1, .string ⟨x2.toArray⟩, .string ⟨y3.toArray⟩] 48)
  have X4 := (X2.alloc (.cells #[.int .i64 x0, .int .i64 f, .string ⟨x2.toArray⟩, .string ⟨x3.toArray⟩] 48)).alloc (.cells #[.int .i64 y0, .int .i64 y1, .string ⟨x2.toArray⟩, .string ⟨y3.toArray⟩] 48)
  have Y4 := (SBox.new w2 48 #[.int .i64 x0, .int .i64 f, .string ⟨x2.toArray⟩, .string ⟨x3.toArray⟩]).alloc (.cells #[.int .i64 y0, .int .i64 y1, .string ⟨x2.toArray⟩, .string ⟨y3.toArray⟩] 48)
  obtain ⟨q0, q1, q2, q3⟩ := HR.out _ B3
  have X3 := X2.alloc (.cells #[.int .i64 x0, .int .i64 f, .string ⟨x2.toArray⟩, .string ⟨x3.toArray⟩] 48)
  have Z4 := SBox.new (w2.alloc (.cells #[.int .i64 x0, .int .i64 f, .string ⟨x2.toArray⟩, .string ⟨x3.toArray⟩] 48)) 48 #[.int .i64 y0, .int .i64 y1, .string ⟨x2.toArray⟩, .string ⟨y3.toArray⟩]
  have hz : (w2.alloc (.cells #[.int .i64 x0, .int .i64 f, .string ⟨x2.toArray⟩, .string ⟨x3.toArray⟩] 48)).heap.size = w2.heap.size + 1 := Array.size_push ..
  have m4 := X3.cell 4 _ rfl
  have x40 := X4.cell 0 _ rfl
  have x41 := X4.cell 1 _ rfl
  have x42 := X4.cell 2 _ rfl
  have y40 := Y4.cell 0 _ rfl
  have y41 := Y4.cell 1 _ rfl
  have y42 := Y4.cell 2 _ rfl
  have y43 := Y4.cell 3 _ rfl
  have z40 := Z4.cell 0 _ rfl
  have z41 := Z4.cell 1 _ rfl
  have z42 := Z4.cell 2 _ rfl
  have z43 := Z4.cell 3 _ rfl
  go_wp2_with fail
  go_ret
  exact ⟨rfl, B4⟩
end Go.Proofs.Yteehpkkkagdckaa
namespace Go.Proofs.Yteehpkkkagdckaa
set_option maxRecDepth 100000
open Go.RowKit
set_option linter.unusedVariables false
attribute [local go_sem] ba_size
set_option maxHeartbeats 4000000 in
theorem rh_w0 (w : World) (f t : Int) (i j : Nat) (n : Nat) (bb off : Nat) (ch : Nat) (ih : n ≤ ch) (jh : ch ≤ 9223372036854775807) (kh : n ≤ 140737488351232)
    (a b : Nat) (x0 y0 : Int) (x2 x3 y3 : List UInt8) (e1 : (f == t) = false) (hi : i < n) (hj : j < n)
    (HP : Hid (∀ V, Below w.heap.size w V → V.cell? ⟨bb, off + i * 4, none⟩ = some (.int .i64 x0) ∧ V.cell? ⟨bb, off + i * 4 + 1, none⟩ = some (.int .i64 f) ∧ V.cell? ⟨bb, off + i * 4 + 2, none⟩ = some (.string ⟨x2.toArray⟩) ∧ V.cell? ⟨bb, off + i * 4 + 3, none⟩ = some (.string ⟨x3.toArray⟩)))
    (HR : Hid (∀ V, Below w.heap.size w V → V.cell? ⟨bb, off + j * 4, none⟩ = some (.int .i64 y0) ∧ V.cell? ⟨bb, off + j * 4 + 1, none⟩ = some (.int .i64 t) ∧ V.cell? ⟨bb, off + j * 4 + 2, none⟩ = some (.string ⟨x2.toArray⟩) ∧ V.cell? ⟨bb, off + j * 4 + 3, none⟩ = some (.string ⟨y3.toArray⟩)))
    (D1 : ∀ W, Below w.heap.size w W → Calls Try.prog 36 #[.slice (some ⟨bb, off, none⟩) n ch, .int .i64 f] W fun e w' => e = .returned (.int .i64 (a : Int)) ∧ Below W.heap.size W w')
    (D2 : ∀ W, Below w.heap.size w W → Calls Try.prog 36 #[.slice (some ⟨bb, off, none⟩) n ch, .int .i64 t] W fun e w' => e = .returned (.int .i64 (b : Int)) ∧ Below W.heap.size W w')
    (v0 : (x0 == 3) = false) :
    Calls Try.prog 19 #[.slice (some ⟨bb, off, none⟩) n ch, .agg #[.int .i64 1, .int .i64 f, .int .i64 t, .int .i64 (i : Int), .int .i64 (j : Int)]] w fun e w' => e = .returned (.bool false) ∧ Below w.heap.size w w' := by
  have i1 : ¬ (a : Int) < 0 := by omega
  have i2 : ¬ (b : Int) < 0 := by omega
  have g2 : ¬ (i : Int) < 0 := by omega
  have g3 : ¬ (n : Int) ≤ (i : Int) := by omega
  have g4 : ¬ (j : Int) < 0 := by omega
  have g5 : ¬ (n : Int) ≤ (j : Int) := by omega
  have X0 := SBox.new w 24 #[.int .i64 1, .int .i64 f, .int .i64 t, .int .i64 (i : Int), .int .i64 (j : Int)]
  have B0 := (Below.refl w.heap.size w).alloc (Nat.le_refl _) (.cells #[.int .i64 1, .int .i64 f, .int .i64 t, .int .i64 (i : Int), .int .i64 (j : Int)] 24)
  go_enter Try.func19, Try.ntmps19
  have c1 : (w.alloc (.cells #[.int .i64 1, .int .i64 f, .int .i64 t, .int .i64 (i : Int), .int .i64 (j : Int)] 24)).cell? ⟨w.heap.size, 1, none⟩ = some (.int .i64 f) := X0.cell 1 _ rfl
  go_wp2_with fail
  refine (D1 _ B0).mono ?_
  rintro e' w1 ⟨rfl, b1⟩
  have B1 := bel_trans B0 b1
  have X1 := X0.below b1
  have c2 : w1.cell? ⟨w.heap.size, 2, none⟩ = some (.int .i64 t) := X1.cell 2 _ rfl
  clear c1
  go_wp2_with fail
  refine (D2 _ B1).mono ?_
  rintro e' w2 ⟨rfl, b2⟩
  have B2 := bel_trans B1 b2
  have X2 := X1.below b2
  clear c2
  have d0 : w2.cell? ⟨w.heap.size, 0, none⟩ = some (.int .i64 1) := X2.cell 0 _ rfl
  have d1 : w2.cell? ⟨w.heap.size, 1, none⟩ = some (.int .i64 f) := X2.cell 1 _ rfl
  have d2 : w2.cell? ⟨w.heap.size, 2, none⟩ = some (.int .i64 t) := X2.cell 2 _ rfl
  have d3 : w2.cell? ⟨w.heap.size, 3, none⟩ = some (.int .i64 (i : Int)) := X2.cell 3 _ rfl
  have d4 : w2.cell? ⟨w.heap.size, 4, none⟩ = some (.int .i64 (j : Int)) := X2.cell 4 _ rfl
  obtain ⟨p0, p1, p2, p3⟩ := HP.out _ B2
  have B3 := B2.alloc B2.size (.cells #[.int .i64 x0, .int .i64 f, .string ⟨x2.toArray⟩, .string ⟨x3.toArray⟩] 48)
  have B4 := B3.alloc B3.size (.cells #[.int .i64 y0, .int .i64 t, .string ⟨x2.toArray⟩, .string ⟨y3.toArray⟩] 48)
  have X4 := (X2.alloc (.cells #[.int .i64 x0, .int .i64 f, .string ⟨x2.toArray⟩, .string ⟨x3.toArray⟩] 48)).alloc (.cells #[.int .i64 y0, .int .i64 t, .string ⟨x2.toArray⟩, .string ⟨y3.toArray⟩] 48)
  have Y4 := (SBox.new w2 48 #[.int .i64 x0, .int .i64 f, .string ⟨x2.toArray⟩, .string ⟨x3.toArray⟩]).alloc (.cells #[.int .i64 y0, .int .i64 t, .string ⟨x2.toArray⟩, .string ⟨y3.toArray⟩] 48)
  obtain ⟨q0, q1, q2, q3⟩ := HR.out _ B3
  have X3 := X2.alloc (.cells #[.int .i64 x0, .int .i64 f, .string ⟨x2.toArray⟩, .string ⟨x3.toArray⟩] 48)
  have Z4 := SBox.new (w2.alloc (.cells #[.int .i64 x0, .int .i64 f, .string ⟨x2.toArray⟩, .string ⟨x3.toArray⟩] 48)) 48 #[.int .i64 y0, .int .i64 t, .string ⟨x2.toArray⟩, .string ⟨y3.toArray⟩]
  have hz : (w2.alloc (.cells #[.int .i64 x0, .int .i64 f, .string ⟨x2.toArray⟩, .string ⟨x3.toArray⟩] 48)).heap.size = w2.heap.size + 1 := Array.size_push ..
  have m4 := X3.cell 4 _ rfl
  have x40 := X4.cell 0 _ rfl
  have x41 := X4.cell 1 _ rfl
  have x42 := X4.cell 2 _ rfl
  have y40 := Y4.cell 0 _ rfl
  have y41 := Y4.cell 1 _ rfl
  have y42 := Y4.cell 2 _ rfl
  have y43 := Y4.cell 3 _ rfl
  have z40 := Z4.cell 0 _ rfl
  have z41 := Z4.cell 1 _ rfl
  have z42 := Z4.cell 2 _ rfl
  have z43 := Z4.cell 3 _ rfl
  go_wp2_with fail
  go_ret
  exact ⟨rfl, B4⟩

set_option maxHeartbeats 4000000 in
theorem rh_w1 (w : World) (f t : Int) (i j : Nat) (n : Nat) (bb off : Nat) (ch : Nat) (ih : n ≤ ch) (jh : ch ≤ 9223372036854775807) (kh : n ≤ 140737488351232)
    (a b : Nat) (y0 : Int) (x2 x3 y3 : List UInt8) (e1 : (f == t) = false) (hi : i < n) (hj : j < n)
    (HP : Hid (∀ V, Below w.heap.size w V → V.cell? ⟨bb, off + i * 4, none⟩ = some (.int .i64 3) ∧ V.cell? ⟨bb, off + i * 4 + 1, none⟩ = some (.int .i64 f) ∧ V.cell? ⟨bb, off + i * 4 + 2, none⟩ = some (.string ⟨x2.toArray⟩) ∧ V.cell? ⟨bb, off + i * 4 + 3, none⟩ = some (.string ⟨x3.toArray⟩)))
    (HR : Hid (∀ V, Below w.heap.size w V → V.cell? ⟨bb, off + j * 4, none⟩ = some (.int .i64 y0) ∧ V.cell? ⟨bb, off + j * 4 + 1, none⟩ = some (.int .i64 t) ∧ V.cell? ⟨bb, off + j * 4 + 2, none⟩ = some (.string ⟨x2.toArray⟩) ∧ V.cell? ⟨bb, off + j * 4 + 3, none⟩ = some (.string ⟨y3.toArray⟩)))
    (D1 : ∀ W, Below w.heap.size w W → Calls Try.prog 36 #[.slice (some ⟨bb, off, none⟩) n ch, .int .i64 f] W fun e w' => e = .returned (.int .i64 (a : Int)) ∧ Below W.heap.size W w')
    (D2 : ∀ W, Below w.heap.size w W → Calls Try.prog 36 #[.slice (some ⟨bb, off, none⟩) n ch, .int .i64 t] W fun e w' => e = .returned (.int .i64 (b : Int)) ∧ Below W.heap.size W w')
    (v1 : (y0 == 3) = false) :
    Calls Try.prog 19 #[.slice (some ⟨bb, off, none⟩) n ch, .agg #[.int .i64 1, .int .i64 f, .int .i64 t, .int .i64 (i : Int), .int .i64 (j : Int)]] w fun e w' => e = .returned (.bool false) ∧ Below w.heap.size w w' := by
  have i1 : ¬ (a : Int) < 0 := by omega
  have i2 : ¬ (b : Int) < 0 := by omega
  have g2 : ¬ (i : Int) < 0 := by omega
  have g3 : ¬ (n : Int) ≤ (i : Int) := by omega
  have g4 : ¬ (j : Int) < 0 := by omega
  have g5 : ¬ (n : Int) ≤ (j : Int) := by omega
  have X0 := SBox.new w 24 #[.int .i64 1, .int .i64 f, .int .i64 t, .int .i64 (i : Int), .int .i64 (j : Int)]
  have B0 := (Below.refl w.heap.size w).alloc (Nat.le_refl _) (.cells #[.int .i64 1, .int .i64 f, .int .i64 t, .int .i64 (i : Int), .int .i64 (j : Int)] 24)
  go_enter Try.func19, Try.ntmps19
  have c1 : (w.alloc (.cells #[.int .i64 1, .int .i64 f, .int .i64 t, .int .i64 (i : Int), .int .i64 (j : Int)] 24)).cell? ⟨w.heap.size, 1, none⟩ = some (.int .i64 f) := X0.cell 1 _ rfl
  go_wp2_with fail
  refine (D1 _ B0).mono ?_
  rintro e' w1 ⟨rfl, b1⟩
  have B1 := bel_trans B0 b1
  have X1 := X0.below b1
  have c2 : w1.cell? ⟨w.heap.size, 2, none⟩ = some (.int .i64 t) := X1.cell 2 _ rfl
  clear c1
  go_wp2_with fail
  refine (D2 _ B1).mono ?_
  rintro e' w2 ⟨rfl, b2⟩
  have B2 := bel_trans B1 b2
  have X2 := X1.below b2
  clear c2
  have d0 : w2.cell? ⟨w.heap.size, 0, none⟩ = some (.int .i64 1) := X2.cell 0 _ rfl
  have d1 : w2.cell? ⟨w.heap.size, 1, none⟩ = some (.int .i64 f) := X2.cell 1 _ rfl
  have d2 : w2.cell? ⟨w.heap.size, 2, none⟩ = some (.int .i64 t) := X2.cell 2 _ rfl
  have d3 : w2.cell? ⟨w.heap.size, 3, none⟩ = some (.int .i64 (i : Int)) := X2.cell 3 _ rfl
  have d4 : w2.cell? ⟨w.heap.size, 4, none⟩ = some (.int .i64 (j : Int)) := X2.cell 4 _ rfl
  obtain ⟨p0, p1, p2, p3⟩ := HP.out _ B2
  have B3 := B2.alloc B2.size (.cells #[.int .i64 3, .int .i64 f, .string ⟨x2.toArray⟩, .string ⟨x3.toArray⟩] 48)
  have B4 := B3.alloc B3.size (.cells #[.int .i64 y0, .int .i64 t, .string ⟨x2.toArray⟩, .string ⟨y3.toArray⟩] 48)
  have X4 := (X2.alloc (.cells #[.int .i64 3, .int .i64 f, .string ⟨x2.toArray⟩, .string ⟨x3.toArray⟩] 48)).alloc (.cells #[.int .i64 y0, .int .i64 t, .string ⟨x2.toArray⟩, .string ⟨y3.toArray⟩] 48)
  have Y4 := (SBox.new w2 48 #[.int .i64 3, .int .i64 f, .string ⟨x2.toArray⟩, .string ⟨x3.toArray⟩]).alloc (.cells #[.int .i64 y0, .int .i64 t, .string ⟨x2.toArray⟩, .string ⟨y3.toArray⟩] 48)
  obtain ⟨q0, q1, q2, q3⟩ := HR.out _ B3
  have X3 := X2.alloc (.cells #[.int .i64 3, .int .i64 f, .string ⟨x2.toArray⟩, .string ⟨x3.toArray⟩] 48)
  have Z4 := SBox.new (w2.alloc (.cells #[.int .i64 3, .int .i64 f, .string ⟨x2.toArray⟩, .string ⟨x3.toArray⟩] 48)) 48 #[.int .i64 y0, .int .i64 t, .string ⟨x2.toArray⟩, .string ⟨y3.toArray⟩]
  have hz : (w2.alloc (.cells #[.int .i64 3, .int .i64 f, .string ⟨x2.toArray⟩, .string ⟨x3.toArray⟩] 48)).heap.size = w2.heap.size + 1 := Array.size_push ..
  have m4 := X3.cell 4 _ rfl
  have x40 := X4.cell 0 _ rfl
  have x41 := X4.cell 1 _ rfl
  have x42 := X4.cell 2 _ rfl
  have y40 := Y4.cell 0 _ rfl
  have y41 := Y4.cell 1 _ rfl
  have y42 := Y4.cell 2 _ rfl
  have y43 := Y4.cell 3 _ rfl
  have z40 := Z4.cell 0 _ rfl
  have z41 := Z4.cell 1 _ rfl
  have z42 := Z4.cell 2 _ rfl
  have z43 := Z4.cell 3 _ rfl
  go_wp2_with fail
  go_ret
  exact ⟨rfl, B4⟩

set_option maxHeartbeats 4000000 in
theorem rh_w2 (w : World) (f t : Int) (i j : Nat) (n : Nat) (bb off : Nat) (ch : Nat) (ih : n ≤ ch) (jh : ch ≤ 9223372036854775807) (kh : n ≤ 140737488351232)
    (a b : Nat)  (x2 x3 y3 : List UInt8) (e1 : (f == t) = false) (hi : i < n) (hj : j < n)
    (HP : Hid (∀ V, Below w.heap.size w V → V.cell? ⟨bb, off + i * 4, none⟩ = some (.int .i64 3) ∧ V.cell? ⟨bb, off + i * 4 + 1, none⟩ = some (.int .i64 f) ∧ V.cell? ⟨bb, off + i * 4 + 2, none⟩ = some (.string ⟨x2.toArray⟩) ∧ V.cell? ⟨bb, off + i * 4 + 3, none⟩ = some (.string ⟨x3.toArray⟩)))
    (HR : Hid (∀ V, Below w.heap.size w V → V.cell? ⟨bb, off + j * 4, none⟩ = some (.int .i64 3) ∧ V.cell? ⟨bb, off + j * 4 + 1, none⟩ = some (.int .i64 t) ∧ V.cell? ⟨bb, off + j * 4 + 2, none⟩ = some (.string ⟨x2.toArray⟩) ∧ V.cell? ⟨bb, off + j * 4 + 3, none⟩ = some (.string ⟨y3.toArray⟩)))
    (D1 : ∀ W, Below w.heap.size w W → Calls Try.prog 36 #[.slice (some ⟨bb, off, none⟩) n ch, .int .i64 f] W fun e w' => e = .returned (.int .i64 (a : Int)) ∧ Below W.heap.size W w')
    (D2 : ∀ W, Below w.heap.size w W → Calls Try.prog 36 #[.slice (some ⟨bb, off, none⟩) n ch, .int .i64 t] W fun e w' => e = .returned (.int .i64 (b : Int)) ∧ Below W.heap.size W w')
    (v2 : ¬ (a : Int) < (b : Int)) (v3 : ¬ a < b) :
    Calls Try.prog 19 #[.slice (some ⟨bb, off, none⟩) n ch, .agg #[.int .i64 1, .int .i64 f, .int .i64 t, .int .i64 (i : Int), .int .i64 (j : Int)]] w fun e w' => e = .returned (.bool false) ∧ Below w.heap.size w w' := by
  have i1 : ¬ (a : Int) < 0 := by omega
  have i2 : ¬ (b : Int) < 0 := by omega
  have g2 : ¬ (i : Int) < 0 := by omega
  have g3 : ¬ (n : Int) ≤ (i : Int) := by omega
  have g4 : ¬ (j : Int) < 0 := by omega
  have g5 : ¬ (n : Int) ≤ (j : Int) := by omega
  have X0 := SBox.new w 24 #[.int .i64 1, .int .i64 f, .int .i64 t, .int .i64 (i : Int), .int .i64 (j : Int)]
  have B0 := (Below.refl w.heap.size w).alloc (Nat.le_refl _) (.cells #[.int .i64 1, .int .i64 f, .int .i64 t, .int .i64 (i : Int), .int .i64 (j : Int)] 24)
  go_enter Try.func19, Try.ntmps19
  have c1 : (w.alloc (.cells #[.int .i64 1, .int .i64 f, .int .i64 t, .int .i64 (i : Int), .int .i64 (j : Int)] 24)).cell? ⟨w.heap.size, 1, none⟩ = some (.int .i64 f) := X0.cell 1 _ rfl
  go_wp2_with fail
  refine (D1 _ B0).mono ?_
  rintro e' w1 ⟨rfl, b1⟩
  have B1 := bel_trans B0 b1
  have X1 := X0.below b1
  have c2 : w1.cell? ⟨w.heap.size, 2, none⟩ = some (.int .i64 t) := X1.cell 2 _ rfl
  clear c1
  go_wp2_with fail
  refine (D2 _ B1).mono ?_
  rintro e' w2 ⟨rfl, b2⟩
  have B2 := bel_trans B1 b2
  have X2 := X1.below b2
  clear c2
  have d0 : w2.cell? ⟨w.heap.size, 0, none⟩ = some (.int .i64 1) := X2.cell 0 _ rfl
  have d1 : w2.cell? ⟨w.heap.size, 1, none⟩ = some (.int .i64 f) := X2.cell 1 _ rfl
  have d2 : w2.cell? ⟨w.heap.size, 2, none⟩ = some (.int .i64 t) := X2.cell 2 _ rfl
  have d3 : w2.cell? ⟨w.heap.size, 3, none⟩ = some (.int .i64 (i : Int)) := X2.cell 3 _ rfl
  have d4 : w2.cell? ⟨w.heap.size, 4, none⟩ = some (.int .i64 (j : Int)) := X2.cell 4 _ rfl
  obtain ⟨p0, p1, p2, p3⟩ := HP.out _ B2
  have B3 := B2.alloc B2.size (.cells #[.int .i64 3, .int .i64 f, .string ⟨x2.toArray⟩, .string ⟨x3.toArray⟩] 48)
  have B4 := B3.alloc B3.size (.cells #[.int .i64 3, .int .i64 t, .string ⟨x2.toArray⟩, .string ⟨y3.toArray⟩] 48)
  have X4 := (X2.alloc (.cells #[.int .i64 3, .int .i64 f, .string ⟨x2.toArray⟩, .string ⟨x3.toArray⟩] 48)).alloc (.cells #[.int .i64 3, .int .i64 t, .string ⟨x2.toArray⟩, .string ⟨y3.toArray⟩] 48)
  have Y4 := (SBox.new w2 48 #[.int .i64 3, .int .i64 f, .string ⟨x2.toArray⟩, .string ⟨x3.toArray⟩]).alloc (.cells #[.int .i64 3, .int .i64 t, .string ⟨x2.toArray⟩, .string ⟨y3.toArray⟩] 48)
  obtain ⟨q0, q1, q2, q3⟩ := HR.out _ B3
  have X3 := X2.alloc (.cells #[.int .i64 3, .int .i64 f, .string ⟨x2.toArray⟩, .string ⟨x3.toArray⟩] 48)
  have Z4 := SBox.new (w2.alloc (.cells #[.int .i64 3, .int .i64 f, .string ⟨x2.toArray⟩, .string ⟨x3.toArray⟩] 48)) 48 #[.int .i64 3, .int .i64 t, .string ⟨x2.toArray⟩, .string ⟨y3.toArray⟩]
  have hz : (w2.alloc (.cells #[.int .i64 3, .int .i64 f, .string ⟨x2.toArray⟩, .string ⟨x3.toArray⟩] 48)).heap.size = w2.heap.size + 1 := Array.size_push ..
  have m4 := X3.cell 4 _ rfl
  have x40 := X4.cell 0 _ rfl
  have x41 := X4.cell 1 _ rfl
  have x42 := X4.cell 2 _ rfl
  have y40 := Y4.cell 0 _ rfl
  have y41 := Y4.cell 1 _ rfl
  have y42 := Y4.cell 2 _ rfl
  have y43 := Y4.cell 3 _ rfl
  have z40 := Z4.cell 0 _ rfl
  have z41 := Z4.cell 1 _ rfl
  have z42 := Z4.cell 2 _ rfl
  have z43 := Z4.cell 3 _ rfl
  go_wp2_with fail
  go_ret
  exact ⟨rfl, B4⟩

set_option maxHeartbeats 4000000 in
theorem rh_w3 (w : World) (f t : Int) (i j : Nat) (n : Nat) (bb off : Nat) (ch : Nat) (ih : n ≤ ch) (jh : ch ≤ 9223372036854775807) (kh : n ≤ 140737488351232)
    (a b : Nat)  (x2 x3 y3 : List UInt8) (e1 : (f == t) = false) (hi : i < n) (hj : j < n)
    (HP : Hid (∀ V, Below w.heap.size w V → V.cell? ⟨bb, off + i * 4, none⟩ = some (.int .i64 3) ∧ V.cell? ⟨bb, off + i * 4 + 1, none⟩ = some (.int .i64 f) ∧ V.cell? ⟨bb, off + i * 4 + 2, none⟩ = some (.string ⟨x2.toArray⟩) ∧ V.cell? ⟨bb, off + i * 4 + 3, none⟩ = some (.string ⟨x3.toArray⟩)))
    (HR : Hid (∀ V, Below w.heap.size w V → V.cell? ⟨bb, off + j * 4, none⟩ = some (.int .i64 3) ∧ V.cell? ⟨bb, off + j * 4 + 1, none⟩ = some (.int .i64 t) ∧ V.cell? ⟨bb, off + j * 4 + 2, none⟩ = some (.string ⟨x2.toArray⟩) ∧ V.cell? ⟨bb, off + j * 4 + 3, none⟩ = some (.string ⟨y3.toArray⟩)))
    (D1 : ∀ W, Below w.heap.size w W → Calls Try.prog 36 #[.slice (some ⟨bb, off, none⟩) n ch, .int .i64 f] W fun e w' => e = .returned (.int .i64 (a : Int)) ∧ Below W.heap.size W w')
    (D2 : ∀ W, Below w.heap.size w W → Calls Try.prog 36 #[.slice (some ⟨bb, off, none⟩) n ch, .int .i64 t] W fun e w' => e = .returned (.int .i64 (b : Int)) ∧ Below W.heap.size W w')
    (v2 : (a : Int) < (b : Int)) (v3 : a < b) :
    Calls Try.prog 19 #[.slice (some ⟨bb, off, none⟩) n ch, .agg #[.int .i64 1, .int .i64 f, .int .i64 t, .int .i64 (i : Int), .int .i64 (j : Int)]] w fun e w' => e = .returned (.bool true) ∧ Below w.heap.size w w' := by
  have i1 : ¬ (a : Int) < 0 := by omega
  have i2 : ¬ (b : Int) < 0 := by omega
  have g2 : ¬ (i : Int) < 0 := by omega
  have g3 : ¬ (n : Int) ≤ (i : Int) := by omega
  have g4 : ¬ (j : Int) < 0 := by omega
  have g5 : ¬ (n : Int) ≤ (j : Int) := by omega
  have X0 := SBox.new w 24 #[.int .i64 1, .int .i64 f, .int .i64 t, .int .i64 (i : Int), .int .i64 (j : Int)]
  have B0 := (Below.refl w.heap.size w).alloc (Nat.le_refl _) (.cells #[.int .i64 1, .int .i64 f, .int .i64 t, .int .i64 (i : Int), .int .i64 (j : Int)] 24)
  go_enter Try.func19, Try.ntmps19
  have c1 : (w.alloc (.cells #[.int .i64 1, .int .i64 f, .int .i64 t, .int .i64 (i : Int), .int .i64 (j : Int)] 24)).cell? ⟨w.heap.size, 1, none⟩ = some (.int .i64 f) := X0.cell 1 _ rfl
  go_wp2_with fail
  refine (D1 _ B0).mono ?_
  rintro e' w1 ⟨rfl, b1⟩
  have B1 := bel_trans B0 b1
  have X1 := X0.below b1
  have c2 : w1.cell? ⟨w.heap.size, 2, none⟩ = some (.int .i64 t) := X1.cell 2 _ rfl
  clear c1
  go_wp2_with fail
  refine (D2 _ B1).mono ?_
  rintro e' w2 ⟨rfl, b2⟩
  have B2 := bel_trans B1 b2
  have X2 := X1.below b2
  clear c2
  have d0 : w2.cell? ⟨w.heap.size, 0, none⟩ = some (.int .i64 1) := X2.cell 0 _ rfl
  have d1 : w2.cell? ⟨w.heap.size, 1, none⟩ = some (.int .i64 f) := X2.cell 1 _ rfl
  have d2 : w2.cell? ⟨w.heap.size, 2, none⟩ = some (.int .i64 t) := X2.cell 2 _ rfl
  have d3 : w2.cell? ⟨w.heap.size, 3, none⟩ = some (.int .i64 (i : Int)) := X2.cell 3 _ rfl
  have d4 : w2.cell? ⟨w.heap.size, 4, none⟩ = some (.int .i64 (j : Int)) := X2.cell 4 _ rfl
  obtain ⟨p0, p1, p2, p3⟩ := HP.out _ B2
  have B3 := B2.alloc B2.size (.cells #[.int .i64 3, .int .i64 f, .string ⟨x2.toArray⟩, .string ⟨x3.toArray⟩] 48)
  have B4 := B3.alloc B3.size (.cells #[.int .i64 3, .int .i64 t, .string ⟨x2.toArray⟩, .string ⟨y3.toArray⟩] 48)
  have X4 := (X2.alloc (.cells #[.int .i64 3, .int .i64 f, .string ⟨x2.toArray⟩, .string ⟨x3.toArray⟩] 48)).alloc (.cells #[.int .i64 3, .int .i64 t, .string ⟨x2.toArray⟩, .string ⟨y3.toArray⟩] 48)
  have Y4 := (SBox.new w2 48 #[.int .i64 3, .int .i64 f, .string ⟨x2.toArray⟩, .string ⟨x3.toArray⟩]).alloc (.cells #[.int .i64 3, .int .i64 t, .string ⟨x2.toArray⟩, .string ⟨y3.toArray⟩] 48)
  obtain ⟨q0, q1, q2, q3⟩ := HR.out _ B3
  have X3 := X2.alloc (.cells #[.int .i64 3, .int .i64 f, .string ⟨x2.toArray⟩, .string ⟨x3.toArray⟩] 48)
  have Z4 := SBox.new (w2.alloc (.cells #[.int .i64 3, .int .i64 f, .string ⟨x2.toArray⟩, .string ⟨x3.toArray⟩] 48)) 48 #[.int .i64 3, .int .i64 t, .string ⟨x2.toArray⟩, .string ⟨y3.toArray⟩]
  have hz : (w2.alloc (.cells #[.int .i64 3, .int .i64 f, .string ⟨x2.toArray⟩, .string ⟨x3.toArray⟩] 48)).heap.size = w2.heap.size + 1 := Array.size_push ..
  have m4 := X3.cell 4 _ rfl
  have x40 := X4.cell 0 _ rfl
  have x41 := X4.cell 1 _ rfl
  have x42 := X4.cell 2 _ rfl
  have y40 := Y4.cell 0 _ rfl
  have y41 := Y4.cell 1 _ rfl
  have y42 := Y4.cell 2 _ rfl
  have y43 := Y4.cell 3 _ rfl
  have z40 := Z4.cell 0 _ rfl
  have z41 := Z4.cell 1 _ rfl
  have z42 := Z4.cell 2 _ rfl
  have z43 := Z4.cell 3 _ rfl
  go_wp2_with fail
  go_ret
  exact ⟨rfl, B4⟩

set_option maxHeartbeats 4000000 in
theorem rh_r0 (w : World) (f t : Int) (i j : Nat) (n : Nat) (bb off : Nat) (ch : Nat) (ih : n ≤ ch) (jh : ch ≤ 9223372036854775807) (kh : n ≤ 140737488351232)
    (a b : Nat) (x0 y0 : Int) (x2 x3 y3 : List UInt8) (e1 : (f == t) = false) (hi : i < n) (hj : j < n)
    (HP : Hid (∀ V, Below w.heap.size w V → V.cell? ⟨bb, off + i * 4, none⟩ = some (.int .i64 x0) ∧ V.cell? ⟨bb, off + i * 4 + 1, none⟩ = some (.int .i64 f) ∧ V.cell? ⟨bb, off + i * 4 + 2, none⟩ = some (.string ⟨x2.toArray⟩) ∧ V.cell? ⟨bb, off + i * 4 + 3, none⟩ = some (.string ⟨x3.toArray⟩)))
    (HR : Hid (∀ V, Below w.heap.size w V → V.cell? ⟨bb, off + j * 4, none⟩ = some (.int .i64 y0) ∧ V.cell? ⟨bb, off + j * 4 + 1, none⟩ = some (.int .i64 t) ∧ V.cell? ⟨bb, off + j * 4 + 2, none⟩ = some (.string ⟨x2.toArray⟩) ∧ V.cell? ⟨bb, off + j * 4 + 3, none⟩ = some (.string ⟨y3.toArray⟩)))
    (D1 : ∀ W, Below w.heap.size w W → Calls Try.prog 36 #[.slice (some ⟨bb, off, none⟩) n ch, .int .i64 f] W fun e w' => e = .returned (.int .i64 (a : Int)) ∧ Below W.heap.size W w')
    (D2 : ∀ W, Below w.heap.size w W → Calls Try.prog 36 #[.slice (some ⟨bb, off, none⟩) n ch, .int .i64 t] W fun e w' => e = .returned (.int .i64 (b : Int)) ∧ Below W.heap.size W w')
    (v0 : (x0 == 3) = false) :
    Calls Try.prog 19 #[.slice (some ⟨bb, off, none⟩) n ch, .agg #[.int .i64 2, .int .i64 f, .int .i64 t, .int .i64 (i : Int), .int .i64 (j : Int)]] w fun e w' => e = .returned (.bool false) ∧ Below w.heap.size w w' := by
  have i1 : ¬ (a : Int) < 0 := by omega
  have i2 : ¬ (b : Int) < 0 := by omega
  have g2 : ¬ (i : Int) < 0 := by omega
  have g3 : ¬ (n : Int) ≤ (i : Int) := by omega
  have g4 : ¬ (j : Int) < 0 := by omega
  have g5 : ¬ (n : Int) ≤ (j : Int) := by omega
  have X0 := SBox.new w 24 #[.int .i64 2, .int .i64 f, .int .i64 t, .int .i64 (i : Int), .int .i64 (j : Int)]
  have B0 := (Below.refl w.heap.size w).alloc (Nat.le_refl _) (.cells #[.int .i64 2, .int .i64 f, .int .i64 t, .int .i64 (i : Int), .int .i64 (j : Int)] 24)
  go_enter Try.func19, Try.ntmps19
  have c1 : (w.alloc (.cells #[.int .i64 2, .int .i64 f, .int .i64 t, .int .i64 (i : Int), .int .i64 (j : Int)] 24)).cell? ⟨w.heap.size, 1, none⟩ = some (.int .i64 f) := X0.cell 1 _ rfl
  go_wp2_with fail
  refine (D1 _ B0).mono ?_
  rintro e' w1 ⟨rfl, b1⟩
  have B1 := bel_trans B0 b1
  have X1 := X0.below b1
  have c2 : w1.cell? ⟨w.heap.size, 2, none⟩ = some (.int .i64 t) := X1.cell 2 _ rfl
  clear c1
  go_wp2_with fail
  refine (D2 _ B1).mono ?_
  rintro e' w2 ⟨rfl, b2⟩
  have B2 := bel_trans B1 b2
  have X2 := X1.below b2
  clear c2
  have d0 : w2.cell? ⟨w.heap.size, 0, none⟩ = some (.int .i64 2) := X2.cell 0 _ rfl
  have d1 : w2.cell? ⟨w.heap.size, 1, none⟩ = some (.int .i64 f) := X2.cell 1 _ rfl
  have d2 : w2.cell? ⟨w.heap.size, 2, none⟩ = some (.int .i64 t) := X2.cell 2 _ rfl
  have d3 : w2.cell? ⟨w.heap.size, 3, none⟩ = some (.int .i64 (i : Int)) := X2.cell 3 _ rfl
  have d4 : w2.cell? ⟨w.heap.size, 4, none⟩ = some (.int .i64 (j : Int)) := X2.cell 4 _ rfl
  obtain ⟨p0, p1, p2, p3⟩ := HP.out _ B2
  have B3 := B2.alloc B2.size (.cells #[.int .i64 x0, .int .i64 f, .string ⟨x2.toArray⟩, .string ⟨x3.toArray⟩] 48)
  have B4 := B3.alloc B3.size (.cells #[.int .i64 y0, .int .i64 t, .string ⟨x2.toArray⟩, .string ⟨y3.toArray⟩] 48)
  have X4 := (X2.alloc (.cells #[.int .i64 x0, .int .i64 f, .string ⟨x2.toArray⟩, .string ⟨x3.toArray⟩] 48)).alloc (.cells #[.int .i64 y0, .int .i64 t, .string ⟨x2.toArray⟩, .string ⟨y3.toArray⟩] 48)
  have Y4 := (SBox.new w2 48 #[.int .i64 x0, .int .i64 f, .string ⟨x2.toArray⟩, .string ⟨x3.toArray⟩]).alloc (.cells #[.int .i64 y0, .int .i64 t, .string ⟨x2.toArray⟩, .string ⟨y3.toArray⟩] 48)
  obtain ⟨q0, q1, q2, q3⟩ := HR.out _ B3
  have X3 := X2.alloc (.cells #[.int .i64 x0, .int .i64 f, .string ⟨x2.toArray⟩, .string ⟨x3.toArray⟩] 48)
  have Z4 := SBox.new (w2.alloc (.cells #[.int .i64 x0, .int .i64 f, .string ⟨x2.toArray⟩, .string ⟨x3.toArray⟩] 48)) 48 #[.int .i64 y0, .int .i64 t, .string ⟨x2.toArray⟩, .string ⟨y3.toArray⟩]
  have hz : (w2.alloc (.cells #[.int .i64 x0, .int .i64 f, .string ⟨x2.toArray⟩, .string ⟨x3.toArray⟩] 48)).heap.size = w2.heap.size + 1 := Array.size_push ..
  have m4 := X3.cell 4 _ rfl
  have x40 := X4.cell 0 _ rfl
  have x41 := X4.cell 1 _ rfl
  have x42 := X4.cell 2 _ rfl
  have y40 := Y4.cell 0 _ rfl
  have y41 := Y4.cell 1 _ rfl
  have y42 := Y4.cell 2 _ rfl
  have y43 := Y4.cell 3 _ rfl
  have z40 := Z4.cell 0 _ rfl
  have z41 := Z4.cell 1 _ rfl
  have z42 := Z4.cell 2 _ rfl
  have z43 := Z4.cell 3 _ rfl
  go_wp2_with fail
  go_ret
  exact ⟨rfl, B4⟩

set_option maxHeartbeats 4000000 in
theorem rh_r1 (w : World) (f t : Int) (i j : Nat) (n : Nat) (bb off : Nat) (ch : Nat) (ih : n ≤ ch) (jh : ch ≤ 9223372036854775807) (kh : n ≤ 140737488351232)
    (a b : Nat) (y0 : Int) (x2 x3 y3 : List UInt8) (e1 : (f == t) = false) (hi : i < n) (hj : j < n)
    (HP : Hid (∀ V, Below w.heap.size w V → V.cell? ⟨bb, off + i * 4, none⟩ = some (.int .i64 3) ∧ V.cell? ⟨bb, off + i * 4 + 1, none⟩ = some (.int .i64 f) ∧ V.cell? ⟨bb, off + i * 4 + 2, none⟩ = some (.string ⟨x2.toArray⟩) ∧ V.cell? ⟨bb, off + i * 4 + 3, none⟩ = some (.string ⟨x3.toArray⟩)))
    (HR : Hid (∀ V, Below w.heap.size w V → V.cell? ⟨bb, off + j * 4, none⟩ = some (.int .i64 y0) ∧ V.cell? ⟨bb, off + j * 4 + 1, none⟩ = some (.int .i64 t) ∧ V.cell? ⟨bb, off + j * 4 + 2, none⟩ = some (.string ⟨x2.toArray⟩) ∧ V.cell? ⟨bb, off + j * 4 + 3, none⟩ = some (.string ⟨y3.toArray⟩)))
    (D1 : ∀ W, Below w.heap.size w W → Calls Try.prog 36 #[.slice (some ⟨bb, off, none⟩) n ch, .int .i64 f] W fun e w' => e = .returned (.int .i64 (a : Int)) ∧ Below W.heap.size W w')
    (D2 : ∀ W, Below w.heap.size w W → Calls Try.prog 36 #[.slice (some ⟨bb, off, none⟩) n ch, .int .i64 t] W fun e w' => e = .returned (.int .i64 (b : Int)) ∧ Below W.heap.size W w')
    (v1 : (y0 == 2) = false) :
    Calls Try.prog 19 #[.slice (some ⟨bb, off, none⟩) n ch, .agg #[.int .i64 2, .int .i64 f, .int .i64 t, .int .i64 (i : Int), .int .i64 (j : Int)]] w fun e w' => e = .returned (.bool false) ∧ Below w.heap.size w w' := by
  have i1 : ¬ (a : Int) < 0 := by omega
  have i2 : ¬ (b : Int) < 0 := by omega
  have g2 : ¬ (i : Int) < 0 := by omega
  have g3 : ¬ (n : Int) ≤ (i : Int) := by omega
  have g4 : ¬ (j : Int) < 0 := by omega
  have g5 : ¬ (n : Int) ≤ (j : Int) := by omega
  have X0 := SBox.new w 24 #[.int .i64 2, .int .i64 f, .int .i64 t, .int .i64 (i : Int), .int .i64 (j : Int)]
  have B0 := (Below.refl w.heap.size w).alloc (Nat.le_refl _) (.cells #[.int .i64 2, .int .i64 f, .int .i64 t, .int .i64 (i : Int), .int .i64 (j : Int)] 24)
  go_enter Try.func19, Try.ntmps19
  have c1 : (w.alloc (.cells #[.int .i64 2, .int .i64 f, .int .i64 t, .int .i64 (i : Int), .int .i64 (j : Int)] 24)).cell? ⟨w.heap.size, 1, none⟩ = some (.int .i64 f) := X0.cell 1 _ rfl
  go_wp2_with fail
  refine (D1 _ B0).mono ?_
  rintro e' w1 ⟨rfl, b1⟩
  have B1 := bel_trans B0 b1
  have X1 := X0.below b1
  have c2 : w1.cell? ⟨w.heap.size, 2, none⟩ = some (.int .i64 t) := X1.cell 2 _ rfl
  clear c1
  go_wp2_with fail
  refine (D2 _ B1).mono ?_
  rintro e' w2 ⟨rfl, b2⟩
  have B2 := bel_trans B1 b2
  have X2 := X1.below b2
  clear c2
  have d0 : w2.cell? ⟨w.heap.size, 0, none⟩ = some (.int .i64 2) := X2.cell 0 _ rfl
  have d1 : w2.cell? ⟨w.heap.size, 1, none⟩ = some (.int .i64 f) := X2.cell 1 _ rfl
  have d2 : w2.cell? ⟨w.heap.size, 2, none⟩ = some (.int .i64 t) := X2.cell 2 _ rfl
  have d3 : w2.cell? ⟨w.heap.size, 3, none⟩ = some (.int .i64 (i : Int)) := X2.cell 3 _ rfl
  have d4 : w2.cell? ⟨w.heap.size, 4, none⟩ = some (.int .i64 (j : Int)) := X2.cell 4 _ rfl
  obtain ⟨p0, p1, p2, p3⟩ := HP.out _ B2
  have B3 := B2.alloc B2.size (.cells #[.int .i64 3, .int .i64 f, .string ⟨x2.toArray⟩, .string ⟨x3.toArray⟩] 48)
  have B4 := B3.alloc B3.size (.cells #[.int .i64 y0, .int .i64 t, .string ⟨x2.toArray⟩, .string ⟨y3.toArray⟩] 48)
  have X4 := (X2.alloc (.cells #[.int .i64 3, .int .i64 f, .string ⟨x2.toArray⟩, .string ⟨x3.toArray⟩] 48)).alloc (.cells #[.int .i64 y0, .int .i64 t, .string ⟨x2.toArray⟩, .string ⟨y3.toArray⟩] 48)
  have Y4 := (SBox.new w2 48 #[.int .i64 3, .int .i64 f, .string ⟨x2.toArray⟩, .string ⟨x3.toArray⟩]).alloc (.cells #[.int .i64 y0, .int .i64 t, .string ⟨x2.toArray⟩, .string ⟨y3.toArray⟩] 48)
  obtain ⟨q0, q1, q2, q3⟩ := HR.out _ B3
  have X3 := X2.alloc (.cells #[.int .i64 3, .int .i64 f, .string ⟨x2.toArray⟩, .string ⟨x3.toArray⟩] 48)
  have Z4 := SBox.new (w2.alloc (.cells #[.int .i64 3, .int .i64 f, .string ⟨x2.toArray⟩, .string ⟨x3.toArray⟩] 48)) 48 #[.int .i64 y0, .int .i64 t, .string ⟨x2.toArray⟩, .string ⟨y3.toArray⟩]
  have hz : (w2.alloc (.cells #[.int .i64 3, .int .i64 f, .string ⟨x2.toArray⟩, .string ⟨x3.toArray⟩] 48)).heap.size = w2.heap.size + 1 := Array.size_push ..
  have m4 := X3.cell 4 _ rfl
  have x40 := X4.cell 0 _ rfl
  have x41 := X4.cell 1 _ rfl
  have x42 := X4.cell 2 _ rfl
  have y40 := Y4.cell 0 _ rfl
  have y41 := Y4.cell 1 _ rfl
  have y42 := Y4.cell 2 _ rfl
  have y43 := Y4.cell 3 _ rfl
  have z40 := Z4.cell 0 _ rfl
  have z41 := Z4.cell 1 _ rfl
  have z42 := Z4.cell 2 _ rfl
  have z43 := Z4.cell 3 _ rfl
  go_wp2_with fail
  go_ret
  exact ⟨rfl, B4⟩

set_option maxHeartbeats 4000000 in
theorem rh_r2 (w : World) (f t : Int) (i j : Nat) (n : Nat) (bb off : Nat) (ch : Nat) (ih : n ≤ ch) (jh : ch ≤ 9223372036854775807) (kh : n ≤ 140737488351232)
    (a b : Nat)  (x2 x3 y3 : List UInt8) (e1 : (f == t) = false) (hi : i < n) (hj : j < n)
    (HP : Hid (∀ V, Below w.heap.size w V → V.cell? ⟨bb, off + i * 4, none⟩ = some (.int .i64 3) ∧ V.cell? ⟨bb, off + i * 4 + 1, none⟩ = some (.int .i64 f) ∧ V.cell? ⟨bb, off + i * 4 + 2, none⟩ = some (.string ⟨x2.toArray⟩) ∧ V.cell? ⟨bb, off + i * 4 + 3, none⟩ = some (.string ⟨x3.toArray⟩)))
    (HR : Hid (∀ V, Below w.heap.size w V → V.cell? ⟨bb, off + j * 4, none⟩ = some (.int .i64 2) ∧ V.cell? ⟨bb, off + j * 4 + 1, none⟩ = some (.int .i64 t) ∧ V.cell? ⟨bb, off + j * 4 + 2, none⟩ = some (.string ⟨x2.toArray⟩) ∧ V.cell? ⟨bb, off + j * 4 + 3, none⟩ = some (.string ⟨y3.toArray⟩)))
    (D1 : ∀ W, Below w.heap.size w W → Calls Try.prog 36 #[.slice (some ⟨bb, off, none⟩) n ch, .int .i64 f] W fun e w' => e = .returned (.int .i64 (a : Int)) ∧ Below W.heap.size W w')
    (D2 : ∀ W, Below w.heap.size w W → Calls Try.prog 36 #[.slice (some ⟨bb, off, none⟩) n ch, .int .i64 t] W fun e w' => e = .returned (.int .i64 (b : Int)) ∧ Below W.heap.size W w')
    (v2 : (x3 == y3) = false) :
    Calls Try.prog 19 #[.slice (some ⟨bb, off, none⟩) n ch, .agg #[.int .i64 2, .int .i64 f, .int .i64 t, .int .i64 (i : Int), .int .i64 (j : Int)]] w fun e w' => e = .returned (.bool false) ∧ Below w.heap.size w w' := by
  have i1 : ¬ (a : Int) < 0 := by omega
  have i2 : ¬ (b : Int) < 0 := by omega
  have g2 : ¬ (i : Int) < 0 := by omega
  have g3 : ¬ (n : Int) ≤ (i : Int) := by omega
  have g4 : ¬ (j : Int) < 0 := by omega
  have g5 : ¬ (n : Int) ≤ (j : Int) := by omega
  have X0 := SBox.new w 24 #[.int .i64 2, .int .i64 f, .int .i64 t, .int .i64 (i : Int), .int .i64 (j : Int)]
  have B0 := (Below.refl w.heap.size w).alloc (Nat.le_refl _) (.cells #[.int .i64 2, .int .i64 f, .int .i64 t, .int .i64 (i : Int), .int .i64 (j : Int)] 24)
  go_enter Try.func19, Try.ntmps19
  have c1 : (w.alloc (.cells #[.int .i64 2, .int .i64 f, .int .i64 t, .int .i64 (i : Int), .int .i64 (j : Int)] 24)).cell? ⟨w.heap.size, 1, none⟩ = some (.int .i64 f) := X0.cell 1 _ rfl
  go_wp2_with fail
  refine (D1 _ B0).mono ?_
  rintro e' w1 ⟨rfl, b1⟩
  have B1 := bel_trans B0 b1
  have X1 := X0.below b1
  have c2 : w1.cell? ⟨w.heap.size, 2, none⟩ = some (.int .i64 t) := X1.cell 2 _ rfl
  clear c1
  go_wp2_with fail
  refine (D2 _ B1).mono ?_
  rintro e' w2 ⟨rfl, b2⟩
  have B2 := bel_trans B1 b2
  have X2 := X1.below b2
  clear c2
  have d0 : w2.cell? ⟨w.heap.size, 0, none⟩ = some (.int .i64 2) := X2.cell 0 _ rfl
  have d1 : w2.cell? ⟨w.heap.size, 1, none⟩ = some (.int .i64 f) := X2.cell 1 _ rfl
  have d2 : w2.cell? ⟨w.heap.size, 2, none⟩ = some (.int .i64 t) := X2.cell 2 _ rfl
  have d3 : w2.cell? ⟨w.heap.size, 3, none⟩ = some (.int .i64 (i : Int)) := X2.cell 3 _ rfl
  have d4 : w2.cell? ⟨w.heap.size, 4, none⟩ = some (.int .i64 (j : Int)) := X2.cell 4 _ rfl
  obtain ⟨p0, p1, p2, p3⟩ := HP.out _ B2
  have B3 := B2.alloc B2.size (.cells #[.int .i64 3, .int .i64 f, .string ⟨x2.toArray⟩, .string ⟨x3.toArray⟩] 48)
  have B4 := B3.alloc B3.size (.cells #[.int .i64 2, .int .i64 t, .string ⟨x2.toArray⟩, .string ⟨y3.toArray⟩] 48)
  have X4 := (X2.alloc (.cells #[.int .i64 3, .int .i64 f, .string ⟨x2.toArray⟩, .string ⟨x3.toArray⟩] 48)).alloc (.cells #[.int .i64 2, .int .i64 t, .string ⟨x2.toArray⟩, .string ⟨y3.toArray⟩] 48)
  have Y4 := (SBox.new w2 48 #[.int .i64 3, .int .i64 f, .string ⟨x2.toArray⟩, .string ⟨x3.toArray⟩]).alloc (.cells #[.int .i64 2, .int .i64 t, .string ⟨x2.toArray⟩, .string ⟨y3.toArray⟩] 48)
  obtain ⟨q0, q1, q2, q3⟩ := HR.out _ B3
  have X3 := X2.alloc (.cells #[.int .i64 3, .int .i64 f, .string ⟨x2.toArray⟩, .string ⟨x3.toArray⟩] 48)
  have Z4 := SBox.new (w2.alloc (.cells #[.int .i64 3, .int .i64 f, .string ⟨x2.toArray⟩, .string ⟨x3.toArray⟩] 48)) 48 #[.int .i64 2, .int .i64 t, .string ⟨x2.toArray⟩, .string ⟨y3.toArray⟩]
  have hz : (w2.alloc (.cells #[.int .i64 3, .int .i64 f, .string ⟨x2.toArray⟩, .string ⟨x3.toArray⟩] 48)).heap.size = w2.heap.size + 1 := Array.size_push ..
  have m4 := X3.cell 4 _ rfl
  have x40 := X4.cell 0 _ rfl
  have x41 := X4.cell 1 _ rfl
  have x42 := X4.cell 2 _ rfl
  have y40 := Y4.cell 0 _ rfl
  have y41 := Y4.cell 1 _ rfl
  have y42 := Y4.cell 2 _ rfl
  have y43 := Y4.cell 3 _ rfl
  have z40 := Z4.cell 0 _ rfl
  have z41 := Z4.cell 1 _ rfl
  have z42 := Z4.cell 2 _ rfl
  have z43 := Z4.cell 3 _ rfl
  go_wp2_with fail
  go_ret
  exact ⟨rfl, B4⟩

set_option maxHeartbeats 4000000 in
theorem rh_r3 (w : World) (f t : Int) (i j : Nat) (n : Nat) (bb off : Nat) (ch : Nat) (ih : n ≤ ch) (jh : ch ≤ 9223372036854775807) (kh : n ≤ 140737488351232)
    (a b : Nat)  (x2 x3 : List UInt8) (e1 : (f == t) = false) (hi : i < n) (hj : j < n)
    (HP : Hid (∀ V, Below w.heap.size w V → V.cell? ⟨bb, off + i * 4, none⟩ = some (.int .i64 3) ∧ V.cell? ⟨bb, off + i * 4 + 1, none⟩ = some (.int .i64 f) ∧ V.cell? ⟨bb, off + i * 4 + 2, none⟩ = some (.string ⟨x2.toArray⟩) ∧ V.cell? ⟨bb, off + i * 4 + 3, none⟩ = some (.string ⟨x3.toArray⟩)))
    (HR : Hid (∀ V, Below w.heap.size w V → V.cell? ⟨bb, off + j * 4, none⟩ = some (.int .i64 2) ∧ V.cell? ⟨bb, off + j * 4 + 1, none⟩ = some (.int .i64 t) ∧ V.cell? ⟨bb, off + j * 4 + 2, none⟩ = some (.string ⟨x2.toArray⟩) ∧ V.cell? ⟨bb, off + j * 4 + 3, none⟩ = some (.string ⟨x3.toArray⟩)))
    (D1 : ∀ W, Below w.heap.size w W → Calls Try.prog 36 #[.slice (some ⟨bb, off, none⟩) n ch, .int .i64 f] W fun e w' => e = .returned (.int .i64 (a : Int)) ∧ Below W.heap.size W w')
    (D2 : ∀ W, Below w.heap.size w W → Calls Try.prog 36 #[.slice (some ⟨bb, off, none⟩) n ch, .int .i64 t] W fun e w' => e = .returned (.int .i64 (b : Int)) ∧ Below W.heap.size W w')
     :
    Calls Try.prog 19 #[.slice (some ⟨bb, off, none⟩) n ch, .agg #[.int .i64 2, .int .i64 f, .int .i64 t, .int .i64 (i : Int), .int .i64 (j : Int)]] w fun e w' => e = .returned (.bool true) ∧ Below w.heap.size w w' := by
  have i1 : ¬ (a : Int) < 0 := by omega
  have i2 : ¬ (b : Int) < 0 := by omega
  have g2 : ¬ (i : Int) < 0 := by omega
  have g3 : ¬ (n : Int) ≤ (i : Int) := by omega
  have g4 : ¬ (j : Int) < 0 := by omega
  have g5 : ¬ (n : Int) ≤ (j : Int) := by omega
  have X0 := SBox.new w 24 #[.int .i64 2, .int .i64 f, .int .i64 t, .int .i64 (i : Int), .int .i64 (j : Int)]
  have B0 := (Below.refl w.heap.size w).alloc (Nat.le_refl _) (.cells #[.int .i64 2, .int .i64 f, .int .i64 t, .int .i64 (i : Int), .int .i64 (j : Int)] 24)
  go_enter Try.func19, Try.ntmps19
  have c1 : (w.alloc (.cells #[.int .i64 2, .int .i64 f, .int .i64 t, .int .i64 (i : Int), .int .i64 (j : Int)] 24)).cell? ⟨w.heap.size, 1, none⟩ = some (.int .i64 f) := X0.cell 1 _ rfl
  go_wp2_with fail
  refine (D1 _ B0).mono ?_
  rintro e' w1 ⟨rfl, b1⟩
  have B1 := bel_trans B0 b1
  have X1 := X0.below b1
  have c2 : w1.cell? ⟨w.heap.size, 2, none⟩ = some (.int .i64 t) := X1.cell 2 _ rfl
  clear c1
  go_wp2_with fail
  refine (D2 _ B1).mono ?_
  rintro e' w2 ⟨rfl, b2⟩
  have B2 := bel_trans B1 b2
  have X2 := X1.below b2
  clear c2
  have d0 : w2.cell? ⟨w.heap.size, 0, none⟩ = some (.int .i64 2) := X2.cell 0 _ rfl
  have d1 : w2.cell? ⟨w.heap.size, 1, none⟩ = some (.int .i64 f) := X2.cell 1 _ rfl
  have d2 : w2.cell? ⟨w.heap.size, 2, none⟩ = some (.int .i64 t) := X2.cell 2 _ rfl
  have d3 : w2.cell? ⟨w.heap.size, 3, none⟩ = some (.int .i64 (i : Int)) := X2.cell 3 _ rfl
  have d4 : w2.cell? ⟨w.heap.size, 4, none⟩ = some (.int .i64 (j : Int)) := X2.cell 4 _ rfl
  obtain ⟨p0, p1, p2, p3⟩ := HP.out _ B2
  have B3 := B2.alloc B2.size (.cells #[.int .i64 3, .int .i64 f, .string ⟨x2.toArray⟩, .string ⟨x3.toArray⟩] 48)
  have B4 := B3.alloc B3.size (.cells #[.int .i64 2, .int .i64 t, .string ⟨x2.toArray⟩, .string ⟨x3.toArray⟩] 48)
  have X4 := (X2.alloc (.cells #[.int .i64 3, .int .i64 f, .string ⟨x2.toArray⟩, .string ⟨x3.toArray⟩] 48)).alloc (.cells #[.int .i64 2, .int .i64 t, .string ⟨x2.toArray⟩, .string ⟨x3.toArray⟩] 48)
  have Y4 := (SBox.new w2 48 #[.int .i64 3, .int .i64 f, .string ⟨x2.toArray⟩, .string ⟨x3.toArray⟩]).alloc (.cells #[.int .i64 2, .int .i64 t, .string ⟨x2.toArray⟩, .string ⟨x3.toArray⟩] 48)
  obtain ⟨q0, q1, q2, q3⟩ := HR.out _ B3
  have X3 := X2.alloc (.cells #[.int .i64 3, .int .i64 f, .string ⟨x2.toArray⟩, .string ⟨x3.toArray⟩] 48)
  have Z4 := SBox.new (w2.alloc (.cells #[.int .i64 3, .int .i64 f, .string ⟨x2.toArray⟩, .string ⟨x3.toArray⟩] 48)) 48 #[.int .i64 2, .int .i64 t, .string ⟨x2.toArray⟩, .string ⟨x3.toArray⟩]
  have hz : (w2.alloc (.cells #[.int .i64 3, .int .i64 f, .string ⟨x2.toArray⟩, .string ⟨x3.toArray⟩] 48)).heap.size = w2.heap.size + 1 := Array.size_push ..
  have m4 := X3.cell 4 _ rfl
  have x40 := X4.cell 0 _ rfl
  have x41 := X4.cell 1 _ rfl
  have x42 := X4.cell 2 _ rfl
  have y40 := Y4.cell 0 _ rfl
  have y41 := Y4.cell 1 _ rfl
  have y42 := Y4.cell 2 _ rfl
  have y43 := Y4.cell 3 _ rfl
  have z40 := Z4.cell 0 _ rfl
  have z41 := Z4.cell 1 _ rfl
  have z42 := Z4.cell 2 _ rfl
  have z43 := Z4.cell 3 _ rfl
  go_wp2_with fail
  go_ret
  exact ⟨rfl, B4⟩
end Go.Proofs.Yteehpkkkagdckaa
namespace Go.Proofs.Yteehpkkkagdckaa
set_option maxRecDepth 100000
open Go.RowKit
set_option linter.unusedVariables false
attribute [local go_sem] ba_size
set_option maxHeartbeats 4000000 in
theorem rh_n0 (w : World) (k f t : Int) (i j : Nat) (n : Nat) (bb off : Nat) (ch : Nat) (ih : n ≤ ch) (jh : ch ≤ 9223372036854775807) (kh : n ≤ 140737488351232)
    (a b : Nat) (x0 y0 : Int) (x2 x3 y3 : List UInt8) (e1 : (f == t) = false) (hi : i < n) (hj : j < n)
    (HP : Hid (∀ V, Below w.heap.size w V → V.cell? ⟨bb, off + i * 4, none⟩ = some (.int .i64 x0) ∧ V.cell? ⟨bb, off + i * 4 + 1, none⟩ = some (.int .i64 f) ∧ V.cell? ⟨bb, off + i * 4 + 2, none⟩ = some (.string ⟨x2.toArray⟩) ∧ V.cell? ⟨bb, off + i * 4 + 3, none⟩ = some (.string ⟨x3.toArray⟩)))
    (HR : Hid (∀ V, Below w.heap.size w V → V.cell? ⟨bb, off + j * 4, none⟩ = some (.int .i64 y0) ∧ V.cell? ⟨bb, off + j * 4 + 1, none⟩ = some (.int .i64 t) ∧ V.cell? ⟨bb, off + j * 4 + 2, none⟩ = some (.string ⟨x2.toArray⟩) ∧ V.cell? ⟨bb, off + j * 4 + 3, none⟩ = some (.string ⟨y3.toArray⟩)))
    (D1 : ∀ W, Below w.heap.size w W → Calls Try.prog 36 #[.slice (some ⟨bb, off, none⟩) n ch, .int .i64 f] W fun e w' => e = .returned (.int .i64 (a : Int)) ∧ Below W.heap.size W w')
    (D2 : ∀ W, Below w.heap.size w W → Calls Try.prog 36 #[.slice (some ⟨bb, off, none⟩) n ch, .int .i64 t] W fun e w' => e = .returned (.int .i64 (b : Int)) ∧ Below W.heap.size W w')
    (u1 : (k == 1) = false) (u2 : (k == 2) = false) (u3 : (k != 3) = true) :
    Calls Try.prog 19 #[.slice (some ⟨bb, off, none⟩) n ch, .agg #[.int .i64 k, .int .i64 f, .int .i64 t, .int .i64 (i : Int), .int .i64 (j : Int)]] w fun e w' => e = .returned (.bool false) ∧ Below w.heap.size w w' := by
  have i1 : ¬ (a : Int) < 0 := by omega
  have i2 : ¬ (b : Int) < 0 := by omega
  have g2 : ¬ (i : Int) < 0 := by omega
  have g3 : ¬ (n : Int) ≤ (i : Int) := by omega
  have g4 : ¬ (j : Int) < 0 := by omega
  have g5 : ¬ (n : Int) ≤ (j : Int) := by omega
  have X0 := SBox.new w 24 #[.int .i64 k, .int .i64 f, .int .i64 t, .int .i64 (i : Int), .int .i64 (j : Int)]
  have B0 := (Below.refl w.heap.size w).alloc (Nat.le_refl _) (.cells #[.int .i64 k, .int .i64 f, .int .i64 t, .int .i64 (i : Int), .int .i64 (j : Int)] 24)
  go_enter Try.func19, Try.ntmps19
  have c1 : (w.alloc (.cells #[.int .i64 k, .int .i64 f, .int .i64 t, .int .i64 (i : Int), .int .i64 (j : Int)] 24)).cell? ⟨w.heap.size, 1, none⟩ = some (.int .i64 f) := X0.cell 1 _ rfl
  go_wp2_with fail
  refine (D1 _ B0).mono ?_
  rintro e' w1 ⟨rfl, b1⟩
  have B1 := bel_trans B0 b1
  have X1 := X0.below b1
  have c2 : w1.cell? ⟨w.heap.size, 2, none⟩ = some (.int .i64 t) := X1.cell 2 _ rfl
  clear c1
  go_wp2_with fail
  refine (D2 _ B1).mono ?_
  rintro e' w2 ⟨rfl, b2⟩
  have B2 := bel_trans B1 b2
  have X2 := X1.below b2
  clear c2
  have d0 : w2.cell? ⟨w.heap.size, 0, none⟩ = some (.int .i64 k) := X2.cell 0 _ rfl
  have d1 : w2.cell? ⟨w.heap.size, 1, none⟩ = some (.int .i64 f) := X2.cell 1 _ rfl
  have d2 : w2.cell? ⟨w.heap.size, 2, none⟩ = some (.int .i64 t) := X2.cell 2 _ rfl
  have d3 : w2.cell? ⟨w.heap.size, 3, none⟩ = some (.int .i64 (i : Int)) := X2.cell 3 _ rfl
  have d4 : w2.cell? ⟨w.heap.size, 4, none⟩ = some (.int .i64 (j : Int)) := X2.cell 4 _ rfl
  obtain ⟨p0, p1, p2, p3⟩ := HP.out _ B2
  have B3 := B2.alloc B2.size (.cells #[.int .i64 x0, .int .i64 f, .string ⟨x2.toArray⟩, .string ⟨x3.toArray⟩] 48)
  have B4 := B3.alloc B3.size (.cells #[.int .i64 y0, .int .i64 t, .string ⟨x2.toArray⟩, .string ⟨y3.toArray⟩] 48)
  have X4 := (X2.alloc (.cells #[.int .i64 x0, .int .i64 f, .string ⟨x2.toArray⟩, .string ⟨x3.toArray⟩] 48)).alloc (.cells #[.int .i64 y0, .int .i64 t, .string ⟨x2.toArray⟩, .string ⟨y3.toArray⟩] 48)
  have Y4 := (SBox.new w2 48 #[.int .i64 x0, .int .i64 f, .string ⟨x2.toArray⟩, .string ⟨x3.toArray⟩]).alloc (.cells #[.int .i64 y0, .int .i64 t, .string ⟨x2.toArray⟩, .string ⟨y3.toArray⟩] 48)
  obtain ⟨q0, q1, q2, q3⟩ := HR.out _ B3
  have X3 := X2.alloc (.cells #[.int .i64 x0, .int .i64 f, .string ⟨x2.toArray⟩, .string ⟨x3.toArray⟩] 48)
  have Z4 := SBox.new (w2.alloc (.cells #[.int .i64 x0, .int .i64 f, .string ⟨x2.toArray⟩, .string ⟨x3.toArray⟩] 48)) 48 #[.int .i64 y0, .int .i64 t, .string ⟨x2.toArray⟩, .string ⟨y3.toArray⟩]
  have hz : (w2.alloc (.cells #[.int .i64 x0, .int .i64 f, .string ⟨x2.toArray⟩, .string ⟨x3.toArray⟩] 48)).heap.size = w2.heap.size + 1 := Array.size_push ..
  have m4 := X3.cell 4 _ rfl
  have x40 := X4.cell 0 _ rfl
  have x41 := X4.cell 1 _ rfl
  have x42 := X4.cell 2 _ rfl
  have y40 := Y4.cell 0 _ rfl
  have y41 := Y4.cell 1 _ rfl
  have y42 := Y4.cell 2 _ rfl
  have y43 := Y4.cell 3 _ rfl
  have z40 := Z4.cell 0 _ rfl
  have z41 := Z4.cell 1 _ rfl
  have z42 := Z4.cell 2 _ rfl
  have z43 := Z4.cell 3 _ rfl
  go_wp2_with fail
  go_ret
  exact ⟨rfl, B4⟩

set_option maxHeartbeats 4000000 in
theorem rh_n1 (w : World) (f t : Int) (i j : Nat) (n : Nat) (bb off : Nat) (ch : Nat) (ih : n ≤ ch) (jh : ch ≤ 9223372036854775807) (kh : n ≤ 140737488351232)
    (a b : Nat) (x0 y0 : Int) (x2 x3 y3 : List UInt8) (e1 : (f == t) = false) (hi : i < n) (hj : j < n)
    (HP : Hid (∀ V, Below w.heap.size w V → V.cell? ⟨bb, off + i * 4, none⟩ = some (.int .i64 x0) ∧ V.cell? ⟨bb, off + i * 4 + 1, none⟩ = some (.int .i64 f) ∧ V.cell? ⟨bb, off + i * 4 + 2, none⟩ = some (.string ⟨x2.toArray⟩) ∧ V.cell? ⟨bb, off + i * 4 + 3, none⟩ = some (.string ⟨x3.toArray⟩)))
    (HR : Hid (∀ V, Below w.heap.size w V → V.cell? ⟨bb, off + j * 4, none⟩ = some (.int .i64 y0) ∧ V.cell? ⟨bb, off + j * 4 + 1, none⟩ = some (.int .i64 t) ∧ V.cell? ⟨bb, off + j * 4 + 2, none⟩ = some (.string ⟨x2.toArray⟩) ∧ V.cell? ⟨bb, off + j * 4 + 3, none⟩ = some (.string ⟨y3.toArray⟩)))
    (D1 : ∀ W, Below w.heap.size w W → Calls Try.prog 36 #[.slice (some ⟨bb, off, none⟩) n ch, .int .i64 f] W fun e w' => e = .returned (.int .i64 (a : Int)) ∧ Below W.heap.size W w')
    (D2 : ∀ W, Below w.heap.size w W → Calls Try.prog 36 #[.slice (some ⟨bb, off, none⟩) n ch, .int .i64 t] W fun e w' => e = .returned (.int .i64 (b : Int)) ∧ Below W.heap.size W w')
    (v0 : (x0 != 2) = true) :
    Calls Try.prog 19 #[.slice (some ⟨bb, off, none⟩) n ch, .agg #[.int .i64 3, .int .i64 f, .int .i64 t, .int .i64 (i : Int), .int .i64 (j : Int)]] w fun e w' => e = .returned (.bool false) ∧ Below w.heap.size w w' := by
  have i1 : ¬ (a : Int) < 0 := by omega
  have i2 : ¬ (b : Int) < 0 := by omega
  have g2 : ¬ (i : Int) < 0 := by omega
  have g3 : ¬ (n : Int) ≤ (i : Int) := by omega
  have g4 : ¬ (j : Int) < 0 := by omega
  have g5 : ¬ (n : Int) ≤ (j : Int) := by omega
  have X0 := SBox.new w 24 #[.int .i64 3, .int .i64 f, .int .i64 t, .int .i64 (i : Int), .int .i64 (j : Int)]
  have B0 := (Below.refl w.heap.size w).alloc (Nat.le_refl _) (.cells #[.int .i64 3, .int .i64 f, .int .i64 t, .int .i64 (i : Int), .int .i64 (j : Int)] 24)
  go_enter Try.func19, Try.ntmps19
  have c1 : (w.alloc (.cells #[.int .i64 3, .int .i64 f, .int .i64 t, .int .i64 (i : Int), .int .i64 (j : Int)] 24)).cell? ⟨w.heap.size, 1, none⟩ = some (.int .i64 f) := X0.cell 1 _ rfl
  go_wp2_with fail
  refine (D1 _ B0).mono ?_
  rintro e' w1 ⟨rfl, b1⟩
  have B1 := bel_trans B0 b1
  have X1 := X0.below b1
  have c2 : w1.cell? ⟨w.heap.size, 2, none⟩ = some (.int .i64 t) := X1.cell 2 _ rfl
  clear c1
  go_wp2_with fail
  refine (D2 _ B1).mono ?_
  rintro e' w2 ⟨rfl, b2⟩
  have B2 := bel_trans B1 b2
  have X2 := X1.below b2
  clear c2
  have d0 : w2.cell? ⟨w.heap.size, 0, none⟩ = some (.int .i64 3) := X2.cell 0 _ rfl
  have d1 : w2.cell? ⟨w.heap.size, 1, none⟩ = some (.int .i64 f) := X2.cell 1 _ rfl
  have d2 : w2.cell? ⟨w.heap.size, 2, none⟩ = some (.int .i64 t) := X2.cell 2 _ rfl
  have d3 : w2.cell? ⟨w.heap.size, 3, none⟩ = some (.int .i64 (i : Int)) := X2.cell 3 _ rfl
  have d4 : w2.cell? ⟨w.heap.size, 4, none⟩ = some (.int .i64 (j : Int)) := X2.cell 4 _ rfl
  obtain ⟨p0, p1, p2, p3⟩ := HP.out _ B2
  have B3 := B2.alloc B2.size (.cells #[.int .i64 x0, .int .i64 f, .string ⟨x2.toArray⟩, .string ⟨x3.toArray⟩] 48)
  have B4 := B3.alloc B3.size (.cells #[.int .i64 y0, .int .i64 t, .string ⟨x2.toArray⟩, .string ⟨y3.toArray⟩] 48)
  have X4 := (X2.alloc (.cells #[.int .i64 x0, .int .i64 f, .string ⟨x2.toArray⟩, .string ⟨x3.toArray⟩] 48)).alloc (.cells #[.int .i64 y0, .int .i64 t, .string ⟨x2.toArray⟩, .string ⟨y3.toArray⟩] 48)
  have Y4 := (SBox.new w2 48 #[.int .i64 x0, .int .i64 f, .string ⟨x2.toArray⟩, .string ⟨x3.toArray⟩]).alloc (.cells #[.int .i64 y0, .int .i64 t, .string ⟨x2.toArray⟩, .string ⟨y3.toArray⟩] 48)
  obtain ⟨q0, q1, q2, q3⟩ := HR.out _ B3
  have X3 := X2.alloc (.cells #[.int .i64 x0, .int .i64 f, .string ⟨x2.toArray⟩, .string ⟨x3.toArray⟩] 48)
  have Z4 := SBox.new (w2.alloc (.cells #[.int .i64 x0, .int .i64 f, .string ⟨x2.toArray⟩, .string ⟨x3.toArray⟩] 48)) 48 #[.int .i64 y0, .int .i64 t, .string ⟨x2.toArray⟩, .string ⟨y3.toArray⟩]
  have hz : (w2.alloc (.cells #[.int .i64 x0, .int .i64 f, .string ⟨x2.toArray⟩, .string ⟨x3.toArray⟩] 48)).heap.size = w2.heap.size + 1 := Array.size_push ..
  have m4 := X3.cell 4 _ rfl
  have x40 := X4.cell 0 _ rfl
  have x41 := X4.cell 1 _ rfl
  have x42 := X4.cell 2 _ rfl
  have y40 := Y4.cell 0 _ rfl
  have y41 := Y4.cell 1 _ rfl
  have y42 := Y4.cell 2 _ rfl
  have y43 := Y4.cell 3 _ rfl
  have z40 := Z4.cell 0 _ rfl
  have z41 := Z4.cell 1 _ rfl
  have z42 := Z4.cell 2 _ rfl
  have z43 := Z4.cell 3 _ rfl
  go_wp2_with fail
  go_ret
  exact ⟨rfl, B4⟩

set_option maxHeartbeats 4000000 in
theorem rh_n2 (w : World) (f t : Int) (i j : Nat) (n : Nat) (bb off : Nat) (ch : Nat) (ih : n ≤ ch) (jh : ch ≤ 9223372036854775807) (kh : n ≤ 140737488351232)
    (a b : Nat) (y0 : Int) (x2 x3 y3 : List UInt8) (e1 : (f == t) = false) (hi : i < n) (hj : j < n)
    (HP : Hid (∀ V, Below w.heap.size w V → V.cell? ⟨bb, off + i * 4, none⟩ = some (.int .i64 2) ∧ V.cell? ⟨bb, off + i * 4 + 1, none⟩ = some (.int .i64 f) ∧ V.cell? ⟨bb, off + i * 4 + 2, none⟩ = some (.string ⟨x2.toArray⟩) ∧ V.cell? ⟨bb, off + i * 4 + 3, none⟩ = some (.string ⟨x3.toArray⟩)))
    (HR : Hid (∀ V, Below w.heap.size w V → V.cell? ⟨bb, off + j * 4, none⟩ = some (.int .i64 y0) ∧ V.cell? ⟨bb, off + j * 4 + 1, none⟩ = some (.int .i64 t) ∧ V.cell? ⟨bb, off + j * 4 + 2, none⟩ = some (.string ⟨x2.toArray⟩) ∧ V.cell? ⟨bb, off + j * 4 + 3, none⟩ = some (.string ⟨y3.toArray⟩)))
    (D1 : ∀ W, Below w.heap.size w W → Calls Try.prog 36 #[.slice (some ⟨bb, off, none⟩) n ch, .int .i64 f] W fun e w' => e = .returned (.int .i64 (a : Int)) ∧ Below W.heap.size W w')
    (D2 : ∀ W, Below w.heap.size w W → Calls Try.prog 36 #[.slice (some ⟨bb, off, none⟩) n ch, .int .i64 t] W fun e w' => e = .returned (.int .i64 (b : Int)) ∧ Below W.heap.size W w')
    (v1 : (y0 != 3) = true) :
    Calls Try.prog 19 #[.slice (some ⟨bb, off, none⟩) n ch, .agg #[.int .i64 3, .int .i64 f, .int .i64 t, .int .i64 (i : Int), .int .i64 (j : Int)]] w fun e w' => e = .returned (.bool false) ∧ Below w.heap.size w w' := by
  have i1 : ¬ (a : Int) < 0 := by omega
  have i2 : ¬ (b : Int) < 0 := by omega
  have g2 : ¬ (i : Int) < 0 := by omega
  have g3 : ¬ (n : Int) ≤ (i : Int) := by omega
  have g4 : ¬ (j : Int) < 0 := by omega
  have g5 : ¬ (n : Int) ≤ (j : Int) := by omega
  have X0 := SBox.new w 24 #[.int .i64 3, .int .i64 f, .int .i64 t, .int .i64 (i : Int), .int .i64 (j : Int)]
  have B0 := (Below.refl w.heap.size w).alloc (Nat.le_refl _) (.cells #[.int .i64 3, .int .i64 f, .int .i64 t, .int .i64 (i : Int), .int .i64 (j : Int)] 24)
  go_enter Try.func19, Try.ntmps19
  have c1 : (w.alloc (.cells #[.int .i64 3, .int .i64 f, .int .i64 t, .int .i64 (i : Int), .int .i64 (j : Int)] 24)).cell? ⟨w.heap.size, 1, none⟩ = some (.int .i64 f) := X0.cell 1 _ rfl
  go_wp2_with fail
  refine (D1 _ B0).mono ?_
  rintro e' w1 ⟨rfl, b1⟩
  have B1 := bel_trans B0 b1
  have X1 := X0.below b1
  have c2 : w1.cell? ⟨w.heap.size, 2, none⟩ = some (.int .i64 t) := X1.cell 2 _ rfl
  clear c1
  go_wp2_with fail
  refine (D2 _ B1).mono ?_
  rintro e' w2 ⟨rfl, b2⟩
  have B2 := bel_trans B1 b2
  have X2 := X1.below b2
  clear c2
  have d0 : w2.cell? ⟨w.heap.size, 0, none⟩ = some (.int .i64 3) := X2.cell 0 _ rfl
  have d1 : w2.cell? ⟨w.heap.size, 1, none⟩ = some (.int .i64 f) := X2.cell 1 _ rfl
  have d2 : w2.cell? ⟨w.heap.size, 2, none⟩ = some (.int .i64 t) := X2.cell 2 _ rfl
  have d3 : w2.cell? ⟨w.heap.size, 3, none⟩ = some (.int .i64 (i : Int)) := X2.cell 3 _ rfl
  have d4 : w2.cell? ⟨w.heap.size, 4, none⟩ = some (.int .i64 (j : Int)) := X2.cell 4 _ rfl
  obtain ⟨p0, p1, p2, p3⟩ := HP.out _ B2
  have B3 := B2.alloc B2.size (.cells #[.int .i64 2, .int .i64 f, .string ⟨x2.toArray⟩, .string ⟨x3.toArray⟩] 48)
  have B4 := B3.alloc B3.size (.cells #[.int .i64 y0, .int .i64 t, .string ⟨x2.toArray⟩, .string ⟨y3.toArray⟩] 48)
  have X4 := (X2.alloc (.cells #[.int .i64 2, .int .i64 f, .string ⟨x2.toArray⟩, .string ⟨x3.toArray⟩] 48)).alloc (.cells #[.int .i64 y0, .int .i64 t, .string ⟨x2.toArray⟩, .string ⟨y3.toArray⟩] 48)
  have Y4 := (SBox.new w2 48 #[.int .i64 2, .int .i64 f, .string ⟨x2.toArray⟩, .string ⟨x3.toArray⟩]).alloc (.cells #[.int .i64 y0, .int .i64 t, .string ⟨x2.toArray⟩, .string ⟨y3.toArray⟩] 48)
  obtain ⟨q0, q1, q2, q3⟩ := HR.out _ B3
  have X3 := X2.alloc (.cells #[.int .i64 2, .int .i64 f, .string ⟨x2.toArray⟩, .string ⟨x3.toArray⟩] 48)
  have Z4 := SBox.new (w2.alloc (.cells #[.int .i64 2, .int .i64 f, .string ⟨x2.toArray⟩, .string ⟨x3.toArray⟩] 48)) 48 #[.int .i64 y0, .int .i64 t, .string ⟨x2.toArray⟩, .string ⟨y3.toArray⟩]
  have hz : (w2.alloc (.cells #[.int .i64 2, .int .i64 f, .string ⟨x2.toArray⟩, .string ⟨x3.toArray⟩] 48)).heap.size = w2.heap.size + 1 := Array.size_push ..
  have m4 := X3.cell 4 _ rfl
  have x40 := X4.cell 0 _ rfl
  have x41 := X4.cell 1 _ rfl
  have x42 := X4.cell 2 _ rfl
  have y40 := Y4.cell 0 _ rfl
  have y41 := Y4.cell 1 _ rfl
  have y42 := Y4.cell 2 _ rfl
  have y43 := Y4.cell 3 _ rfl
  have z40 := Z4.cell 0 _ rfl
  have z41 := Z4.cell 1 _ rfl
  have z42 := Z4.cell 2 _ rfl
  have z43 := Z4.cell 3 _ rfl
  go_wp2_with fail
  go_ret
  exact ⟨rfl, B4⟩

set_option maxHeartbeats 4000000 in
theorem rh_n3 (w : World) (f t : Int) (i j : Nat) (n : Nat) (bb off : Nat) (ch : Nat) (ih : n ≤ ch) (jh : ch ≤ 9223372036854775807) (kh : n ≤ 140737488351232)
    (a b : Nat)  (x2 x3 y3 : List UInt8) (e1 : (f == t) = false) (hi : i < n) (hj : j < n)
    (HP : Hid (∀ V, Below w.heap.size w V → V.cell? ⟨bb, off + i * 4, none⟩ = some (.int .i64 2) ∧ V.cell? ⟨bb, off + i * 4 + 1, none⟩ = some (.int .i64 f) ∧ V.cell? ⟨bb, off + i * 4 + 2, none⟩ = some (.string ⟨x2.toArray⟩) ∧ V.cell? ⟨bb, off + i * 4 + 3, none⟩ = some (.string ⟨x3.toArray⟩)))
    (HR : Hid (∀ V, Below w.heap.size w V → V.cell? ⟨bb, off + j * 4, none⟩ = some (.int .i64 3) ∧ V.cell? ⟨bb, off + j * 4 + 1, none⟩ = some (.int .i64 t) ∧ V.cell? ⟨bb, off + j * 4 + 2, none⟩ = some (.string ⟨x2.toArray⟩) ∧ V.cell? ⟨bb, off + j * 4 + 3, none⟩ = some (.string ⟨y3.toArray⟩)))
    (D1 : ∀ W, Below w.heap.size w W → Calls Try.prog 36 #[.slice (some ⟨bb, off, none⟩) n ch, .int .i64 f] W fun e w' => e = .returned (.int .i64 (a : Int)) ∧ Below W.heap.size W w')
    (D2 : ∀ W, Below w.heap.size w W → Calls Try.prog 36 #[.slice (some ⟨bb, off, none⟩) n ch, .int .i64 t] W fun e w' => e = .returned (.int .i64 (b : Int)) ∧ Below W.heap.size W w')
    (v2 : x3.isEmpty = true) :
    Calls Try.prog 19 #[.slice (some ⟨bb, off, none⟩) n ch, .agg #[.int .i64 3, .int .i64 f, .int .i64 t, .int .i64 (i : Int), .int .i64 (j : Int)]] w fun e w' => e = .returned (.bool true) ∧ Below w.heap.size w w' := by
  have i1 : ¬ (a : Int) < 0 := by omega
  have i2 : ¬ (b : Int) < 0 := by omega
  have g2 : ¬ (i : Int) < 0 := by omega
  have g3 : ¬ (n : Int) ≤ (i : Int) := by omega
  have g4 : ¬ (j : Int) < 0 := by omega
  have g5 : ¬ (n : Int) ≤ (j : Int) := by omega
  have X0 := SBox.new w 24 #[.int .i64 3, .int .i64 f, .int .i64 t, .int .i64 (i : Int), .int .i64 (j : Int)]
  have B0 := (Below.refl w.heap.size w).alloc (Nat.le_refl _) (.cells #[.int .i64 3, .int .i64 f, .int .i64 t, .int .i64 (i : Int), .int .i64 (j : Int)] 24)
  go_enter Try.func19, Try.ntmps19
  have c1 : (w.alloc (.cells #[.int .i64 3, .int .i64 f, .int .i64 t, .int .i64 (i : Int), .int .i64 (j : Int)] 24)).cell? ⟨w.heap.size, 1, none⟩ = some (.int .i64 f) := X0.cell 1 _ rfl
  go_wp2_with fail
  refine (D1 _ B0).mono ?_
  rintro e' w1 ⟨rfl, b1⟩
  have B1 := bel_trans B0 b1
  have X1 := X0.below b1
  have c2 : w1.cell? ⟨w.heap.size, 2, none⟩ = some (.int .i64 t) := X1.cell 2 _ rfl
  clear c1
  go_wp2_with fail
  refine (D2 _ B1).mono ?_
  rintro e' w2 ⟨rfl, b2⟩
  have B2 := bel_trans B1 b2
  have X2 := X1.below b2
  clear c2
  have d0 : w2.cell? ⟨w.heap.size, 0, none⟩ = some (.int .i64 3) := X2.cell 0 _ rfl
  have d1 : w2.cell? ⟨w.heap.size, 1, none⟩ = some (.int .i64 f) := X2.cell 1 _ rfl
  have d2 : w2.cell? ⟨w.heap.size, 2, none⟩ = some (.int .i64 t) := X2.cell 2 _ rfl
  have d3 : w2.cell? ⟨w.heap.size, 3, none⟩ = some (.int .i64 (i : Int)) := X2.cell 3 _ rfl
  have d4 : w2.cell? ⟨w.heap.size, 4, none⟩ = some (.int .i64 (j : Int)) := X2.cell 4 _ rfl
  obtain ⟨p0, p1, p2, p3⟩ := HP.out _ B2
  have B3 := B2.alloc B2.size (.cells #[.int .i64 2, .int .i64 f, .string ⟨x2.toArray⟩, .string ⟨x3.toArray⟩] 48)
  have B4 := B3.alloc B3.size (.cells #[.int .i64 3, .int .i64 t, .string ⟨x2.toArray⟩, .string ⟨y3.toArray⟩] 48)
  have X4 := (X2.alloc (.cells #[.int .i64 2, .int .i64 f, .string ⟨x2.toArray⟩, .string ⟨x3.toArray⟩] 48)).alloc (.cells #[.int .i64 3, .int .i64 t, .string ⟨x2.toArray⟩, .string ⟨y3.toArray⟩] 48)
  have Y4 := (SBox.new w2 48 #[.int .i64 2, .int .i64 f, .string ⟨x2.toArray⟩, .string ⟨x3.toArray⟩]).alloc (.cells #[.int .i64 3, .int .i64 t, .string ⟨x2.toArray⟩, .string ⟨y3.toArray⟩] 48)
  obtain ⟨q0, q1, q2, q3⟩ := HR.out _ B3
  have X3 := X2.alloc (.cells #[.int .i64 2, .int .i64 f, .string ⟨x2.toArray⟩, .string ⟨x3.toArray⟩] 48)
  have Z4 := SBox.new (w2.alloc (.cells #[.int .i64 2, .int .i64 f, .string ⟨x2.toArray⟩, .string ⟨x3.toArray⟩] 48)) 48 #[.int .i64 3, .int .i64 t, .string ⟨x2.toArray⟩, .string ⟨y3.toArray⟩]
  have hz : (w2.alloc (.cells #[.int .i64 2, .int .i64 f, .string ⟨x2.toArray⟩, .string ⟨x3.toArray⟩] 48)).heap.size = w2.heap.size + 1 := Array.size_push ..
  have m4 := X3.cell 4 _ rfl
  have x40 := X4.cell 0 _ rfl
  have x41 := X4.cell 1 _ rfl
  have x42 := X4.cell 2 _ rfl
  have y40 := Y4.cell 0 _ rfl
  have y41 := Y4.cell 1 _ rfl
  have y42 := Y4.cell 2 _ rfl
  have y43 := Y4.cell 3 _ rfl
  have z40 := Z4.cell 0 _ rfl
  have z41 := Z4.cell 1 _ rfl
  have z42 := Z4.cell 2 _ rfl
  have z43 := Z4.cell 3 _ rfl
  go_wp2_with fail
  go_ret
  exact ⟨rfl, B4⟩
end Go.Proofs.Yteehpkkkagdckaa
namespace Go.Proofs.Yteehpkkkagdckaa
set_option maxRecDepth 100000
open Go.RowKit
set_option linter.unusedVariables false
attribute [local go_sem] ba_size
set_option maxHeartbeats 4000000 in
theorem rh_s0 (w : World) (f t : Int) (i j : Nat) (n : Nat) (bb off : Nat) (ch : Nat) (ih : n ≤ ch) (jh : ch ≤ 9223372036854775807) (kh : n ≤ 140737488351232)
    (a b : Nat)  (x2 x3 y3 : List UInt8) (e1 : (f == t) = false) (hi : i < n) (hj : j < n)
    (HP : Hid (∀ V, Below w.heap.size w V → V.cell? ⟨bb, off + i * 4, none⟩ = some (.int .i64 2) ∧ V.cell? ⟨bb, off + i * 4 + 1, none⟩ = some (.int .i64 f) ∧ V.cell? ⟨bb, off + i * 4 + 2, none⟩ = some (.string ⟨x2.toArray⟩) ∧ V.cell? ⟨bb, off + i * 4 + 3, none⟩ = some (.string ⟨x3.toArray⟩)))
    (HR : Hid (∀ V, Below w.heap.size w V → V.cell? ⟨bb, off + j * 4, none⟩ = some (.int .i64 3) ∧ V.cell? ⟨bb, off + j * 4 + 1, none⟩ = some (.int .i64 t) ∧ V.cell? ⟨bb, off + j * 4 + 2, none⟩ = some (.string ⟨x2.toArray⟩) ∧ V.cell? ⟨bb, off + j * 4 + 3, none⟩ = some (.string ⟨y3.toArray⟩)))
    (D1 : ∀ W, Below w.heap.size w W → Calls Try.prog 36 #[.slice (some ⟨bb, off, none⟩) n ch, .int .i64 f] W fun e w' => e = .returned (.int .i64 (a : Int)) ∧ Below W.heap.size W w')
    (D2 : ∀ W, Below w.heap.size w W → Calls Try.prog 36 #[.slice (some ⟨bb, off, none⟩) n ch, .int .i64 t] W fun e w' => e = .returned (.int .i64 (b : Int)) ∧ Below W.heap.size W w')
    (v2 : x3.isEmpty = false)
    (DW : ∀ W, Below w.heap.size w W → Calls Try.prog 40 #[.slice (some ⟨bb, off, none⟩) n ch, .string ⟨x2.toArray⟩, .string ⟨x3.toArray⟩] W fun e w' => e = .returned (.int .i64 (-1)) ∧ Below W.heap.size W w') :
    Calls Try.prog 19 #[.slice (some ⟨bb, off, none⟩) n ch, .agg #[.int .i64 3, .int .i64 f, .int .i64 t, .int .i64 (i : Int), .int .i64 (j : Int)]] w fun e w' => e = .returned (.bool false) ∧ Below w.heap.size w w' := by
  have i1 : ¬ (a : Int) < 0 := by omega
  have i2 : ¬ (b : Int) < 0 := by omega
  have g2 : ¬ (i : Int) < 0 := by omega
  have g3 : ¬ (n : Int) ≤ (i : Int) := by omega
  have g4 : ¬ (j : Int) < 0 := by omega
  have g5 : ¬ (n : Int) ≤ (j : Int) := by omega
  have X0 := SBox.new w 24 #[.int .i64 3, .int .i64 f, .int .i64 t, .int .i64 (i : Int), .int .i64 (j : Int)]
  have B0 := (Below.refl w.heap.size w).alloc (Nat.le_refl _) (.cells #[.int .i64 3, .int .i64 f, .int .i64 t, .int .i64 (i : Int), .int .i64 (j : Int)] 24)
  go_enter Try.func19, Try.ntmps19
  have c1 : (w.alloc (.cells #[.int .i64 3, .int .i64 f, .int .i64 t, .int .i64 (i : Int), .int .i64 (j : Int)] 24)).cell? ⟨w.heap.size, 1, none⟩ = some (.int .i64 f) := X0.cell 1 _ rfl
  go_wp2_with fail
  refine (D1 _ B0).mono ?_
  rintro e' w1 ⟨rfl, b1⟩
  have B1 := bel_trans B0 b1
  have X1 := X0.below b1
  have c2 : w1.cell? ⟨w.heap.size, 2, none⟩ = some (.int .i64 t) := X1.cell 2 _ rfl
  clear c1
  go_wp2_with fail
  refine (D2 _ B1).mono ?_
  rintro e' w2 ⟨rfl, b2⟩
  have B2 := bel_trans B1 b2
  have X2 := X1.below b2
  clear c2
  have d0 : w2.cell? ⟨w.heap.size, 0, none⟩ = some (.int .i64 3) := X2.cell 0 _ rfl
  have d1 : w2.cell? ⟨w.heap.size, 1, none⟩ = some (.int .i64 f) := X2.cell 1 _ rfl
  have d2 : w2.cell? ⟨w.heap.size, 2, none⟩ = some (.int .i64 t) := X2.cell 2 _ rfl
  have d3 : w2.cell? ⟨w.heap.size, 3, none⟩ = some (.int .i64 (i : Int)) := X2.cell 3 _ rfl
  have d4 : w2.cell? ⟨w.heap.size, 4, none⟩ = some (.int .i64 (j : Int)) := X2.cell 4 _ rfl
  obtain ⟨p0, p1, p2, p3⟩ := HP.out _ B2
  have B3 := B2.alloc B2.size (.cells #[.int .i64 2, .int .i64 f, .string ⟨x2.toArray⟩, .string ⟨x3.toArray⟩] 48)
  have B4 := B3.alloc B3.size (.cells #[.int .i64 3, .int .i64 t, .string ⟨x2.toArray⟩, .string ⟨y3.toArray⟩] 48)
  have X4 := (X2.alloc (.cells #[.int .i64 2, .int .i64 f, .string ⟨x2.toArray⟩, .string ⟨x3.toArray⟩] 48)).alloc (.cells #[.int .i64 3, .int .i64 t, .string ⟨x2.toArray⟩, .string ⟨y3.toArray⟩] 48)
  have Y4 := (SBox.new w2 48 #[.int .i64 2, .int .i64 f, .string ⟨x2.toArray⟩, .string ⟨x3.toArray⟩]).alloc (.cells #[.int .i64 3, .int .i64 t, .string ⟨x2.toArray⟩, .string ⟨y3.toArray⟩] 48)
  obtain ⟨q0, q1, q2, q3⟩ := HR.out _ B3
  have X3 := X2.alloc (.cells #[.int .i64 2, .int .i64 f, .string ⟨x2.toArray⟩, .string ⟨x3.toArray⟩] 48)
  have Z4 := SBox.new (w2.alloc (.cells #[.int .i64 2, .int .i64 f, .string ⟨x2.toArray⟩, .string ⟨x3.toArray⟩] 48)) 48 #[.int .i64 3, .int .i64 t, .string ⟨x2.toArray⟩, .string ⟨y3.toArray⟩]
  have hz : (w2.alloc (.cells #[.int .i64 2, .int .i64 f, .string ⟨x2.toArray⟩, .string ⟨x3.toArray⟩] 48)).heap.size = w2.heap.size + 1 := Array.size_push ..
  have m4 := X3.cell 4 _ rfl
  have x40 := X4.cell 0 _ rfl
  have x41 := X4.cell 1 _ rfl
  have x42 := X4.cell 2 _ rfl
  have y40 := Y4.cell 0 _ rfl
  have y41 := Y4.cell 1 _ rfl
  have y42 := Y4.cell 2 _ rfl
  have y43 := Y4.cell 3 _ rfl
  have z40 := Z4.cell 0 _ rfl
  have z41 := Z4.cell 1 _ rfl
  have z42 := Z4.cell 2 _ rfl
  have z43 := Z4.cell 3 _ rfl
  have t0 : ((w2.alloc (.cells #[.int .i64 2, .int .i64 f, .string ⟨x2.toArray⟩, .string ⟨x3.toArray⟩] 48)).alloc (.cells #[.int .i64 3, .int .i64 t, .string ⟨x2.toArray⟩, .string ⟨y3.toArray⟩] 48)).cell? ⟨w2.heap.size, 2, none⟩ = some (.string ⟨x2.toArray⟩) := Y4.cell 2 _ rfl
  go_wp2_with fail
  refine (DW _ B4).mono ?_
  rintro e' w5 ⟨rfl, b5⟩
  have B5 := bel_trans B4 b5
  have X5 := X4.below b5
  have g2' : w5.cell? ⟨w.heap.size, 2, none⟩ = some (.int .i64 t) := X5.cell 2 _ rfl
  clear t0 p0 p1 p2 p3 q0 q1 q2 q3 d0 d1 d2 d3 d4
  go_wp2_with fail
  go_quiet (fail)
  go_wp2_with fail
  go_ret
  exact ⟨rfl, below_drewN B5 _⟩

set_option maxHeartbeats 4000000 in
theorem rh_s1 (w : World) (f t : Int) (i j : Nat) (n : Nat) (bb off : Nat) (ch : Nat) (ih : n ≤ ch) (jh : ch ≤ 9223372036854775807) (kh : n ≤ 140737488351232)
    (a b : Nat)  (x2 x3 y3 : List UInt8) (e1 : (f == t) = false) (hi : i < n) (hj : j < n)
    (HP : Hid (∀ V, Below w.heap.size w V → V.cell? ⟨bb, off + i * 4, none⟩ = some (.int .i64 2) ∧ V.cell? ⟨bb, off + i * 4 + 1, none⟩ = some (.int .i64 f) ∧ V.cell? ⟨bb, off + i * 4 + 2, none⟩ = some (.string ⟨x2.toArray⟩) ∧ V.cell? ⟨bb, off + i * 4 + 3, none⟩ = some (.string ⟨x3.toArray⟩)))
    (HR : Hid (∀ V, Below w.heap.size w V → V.cell? ⟨bb, off + j * 4, none⟩ = some (.int .i64 3) ∧ V.cell? ⟨bb, off + j * 4 + 1, none⟩ = some (.int .i64 t) ∧ V.cell? ⟨bb, off + j * 4 + 2, none⟩ = some (.string ⟨x2.toArray⟩) ∧ V.cell? ⟨bb, off + j * 4 + 3, none⟩ = some (.string ⟨y3.toArray⟩)))
    (D1 : ∀ W, Below w.heap.size w W → Calls Try.prog 36 #[.slice (some ⟨bb, off, none⟩) n ch, .int .i64 f] W fun e w' => e = .returned (.int .i64 (a : Int)) ∧ Below W.heap.size W w')
    (D2 : ∀ W, Below w.heap.size w W → Calls Try.prog 36 #[.slice (some ⟨bb, off, none⟩) n ch, .int .i64 t] W fun e w' => e = .returned (.int .i64 (b : Int)) ∧ Below W.heap.size W w')
    (v2 : x3.isEmpty = false) (q : Nat) (hq : q < n) (z0 : Int) (z2 z3 : List UInt8) (HZ : Hid (∀ V, Below w.heap.size w V → V.cell? ⟨bb, off + q * 4, none⟩ = some (.int .i64 z0) ∧ V.cell? ⟨bb, off + q * 4 + 1, none⟩ = some (.int .i64 t) ∧ V.cell? ⟨bb, off + q * 4 + 2, none⟩ = some (.string ⟨z2.toArray⟩) ∧ V.cell? ⟨bb, off + q * 4 + 3, none⟩ = some (.string ⟨z3.toArray⟩)))
    (DW : ∀ W, Below w.heap.size w W → Calls Try.prog 40 #[.slice (some ⟨bb, off, none⟩) n ch, .string ⟨x2.toArray⟩, .string ⟨x3.toArray⟩] W fun e w' => e = .returned (.int .i64 (q : Int)) ∧ Below W.heap.size W w')  :
    Calls Try.prog 19 #[.slice (some ⟨bb, off, none⟩) n ch, .agg #[.int .i64 3, .int .i64 f, .int .i64 t, .int .i64 (i : Int), .int .i64 (j : Int)]] w fun e w' => e = .returned (.bool false) ∧ Below w.heap.size w w' := by
  have i1 : ¬ (a : Int) < 0 := by omega
  have i2 : ¬ (b : Int) < 0 := by omega
  have g2 : ¬ (i : Int) < 0 := by omega
  have g3 : ¬ (n : Int) ≤ (i : Int) := by omega
  have g4 : ¬ (j : Int) < 0 := by omega
  have g5 : ¬ (n : Int) ≤ (j : Int) := by omega
  have X0 := SBox.new w 24 #[.int .i64 3, .int .i64 f, .int .i64 t, .int .i64 (i : Int), .int .i64 (j : Int)]
  have B0 := (Below.refl w.heap.size w).alloc (Nat.le_refl _) (.cells #[.int .i64 3, .int .i64 f, .int .i64 t, .int .i64 (i : Int), .int .i64 (j : Int)] 24)
  go_enter Try.func19, Try.ntmps19
  have c1 : (w.alloc (.cells #[.int .i64 3, .int .i64 f, .int .i64 t, .int .i64 (i : Int), .int .i64 (j : Int)] 24)).cell? ⟨w.heap.size, 1, none⟩ = some (.int .i64 f) := X0.cell 1 _ rfl
  go_wp2_with fail
  refine (D1 _ B0).mono ?_
  rintro e' w1 ⟨rfl, b1⟩
  have B1 := bel_trans B0 b1
  have X1 := X0.below b1
  have c2 : w1.cell? ⟨w.heap.size, 2, none⟩ = some (.int .i64 t) := X1.cell 2 _ rfl
  clear c1
  go_wp2_with fail
  refine (D2 _ B1).mono ?_
  rintro e' w2 ⟨rfl, b2⟩
  have B2 := bel_trans B1 b2
  have X2 := X1.below b2
  clear c2
  have d0 : w2.cell? ⟨w.heap.size, 0, none⟩ = some (.int .i64 3) := X2.cell 0 _ rfl
  have d1 : w2.cell? ⟨w.heap.size, 1, none⟩ = some (.int .i64 f) := X2.cell 1 _ rfl
  have d2 : w2.cell? ⟨w.heap.size, 2, none⟩ = some (.int .i64 t) := X2.cell 2 _ rfl
  have d3 : w2.cell? ⟨w.heap.size, 3, none⟩ = some (.int .i64 (i : Int)) := X2.cell 3 _ rfl
  have d4 : w2.cell? ⟨w.heap.size, 4, none⟩ = some (.int .i64 (j : Int)) := X2.cell 4 _ rfl
  obtain ⟨p0, p1, p2, p3⟩ := HP.out _ B2
  have B3 := B2.alloc B2.size (.cells #[.int .i64 2, .int .i64 f, .string ⟨x2.toArray⟩, .string ⟨x3.toArray⟩] 48)
  have B4 := B3.alloc B3.size (.cells #[.int .i64 3, .int .i64 t, .string ⟨x2.toArray⟩, .string ⟨y3.toArray⟩] 48)
  have X4 := (X2.alloc (.cells #[.int .i64 2, .int .i64 f, .string ⟨x2.toArray⟩, .string ⟨x3.toArray⟩] 48)).alloc (.cells #[.int .i64 3, .int .i64 t, .string ⟨x2.toArray⟩, .string ⟨y3.toArray⟩] 48)
  have Y4 := (SBox.new w2 48 #[.int .i64 2, .int .i64 f, .string ⟨x2.toArray⟩, .string ⟨x3.toArray⟩]).alloc (.cells #[.int .i64 3, .int .i64 t, .string ⟨x2.toArray⟩, .string ⟨y3.toArray⟩] 48)
  obtain ⟨q0, q1, q2, q3⟩ := HR.out _ B3
  have X3 := X2.alloc (.cells #[.int .i64 2, .int .i64 f, .string ⟨x2.toArray⟩, .string ⟨x3.toArray⟩] 48)
  have Z4 := SBox.new (w2.alloc (.cells #[.int .i64 2, .int .i64 f, .string ⟨x2.toArray⟩, .string ⟨x3.toArray⟩] 48)) 48 #[.int .i64 3, .int .i64 t, .string ⟨x2.toArray⟩, .string ⟨y3.toArray⟩]
  have hz : (w2.alloc (.cells #[.int .i64 2, .int .i64 f, .string ⟨x2.toArray⟩, .string ⟨x3.toArray⟩] 48)).heap.size = w2.heap.size + 1 := Array.size_push ..
  have m4 := X3.cell 4 _ rfl
  have x40 := X4.cell 0 _ rfl
  have x41 := X4.cell 1 _ rfl
  have x42 := X4.cell 2 _ rfl
  have y40 := Y4.cell 0 _ rfl
  have y41 := Y4.cell 1 _ rfl
  have y42 := Y4.cell 2 _ rfl
  have y43 := Y4.cell 3 _ rfl
  have z40 := Z4.cell 0 _ rfl
  have z41 := Z4.cell 1 _ rfl
  have z42 := Z4.cell 2 _ rfl
  have z43 := Z4.cell 3 _ rfl
  have t0 : ((w2.alloc (.cells #[.int .i64 2, .int .i64 f, .string ⟨x2.toArray⟩, .string ⟨x3.toArray⟩] 48)).alloc (.cells #[.int .i64 3, .int .i64 t, .string ⟨x2.toArray⟩, .string ⟨y3.toArray⟩] 48)).cell? ⟨w2.heap.size, 2, none⟩ = some (.string ⟨x2.toArray⟩) := Y4.cell 2 _ rfl
  go_wp2_with fail
  refine (DW _ B4).mono ?_
  rintro e' w5 ⟨rfl, b5⟩
  have B5 := bel_trans B4 b5
  have X5 := X4.below b5
  have g2' : w5.cell? ⟨w.heap.size, 2, none⟩ = some (.int .i64 t) := X5.cell 2 _ rfl
  clear t0 p0 p1 p2 p3 q0 q1 q2 q3 d0 d1 d2 d3 d4
  have j1 : ¬ (q : Int) < 0 := by omega
  have j3 : ¬ (n : Int) ≤ (q : Int) := by omega
  obtain ⟨k0, k1, k2, k3⟩ := HZ.out _ B5
  go_wp2_with fail
  go_quiet (fail)
  go_wp2_with fail
  go_ret
  exact ⟨rfl, below_drewN B5 _⟩

set_option maxHeartbeats 4000000 in
theorem rh_s2 (w : World) (f t : Int) (i j : Nat) (n : Nat) (bb off : Nat) (ch : Nat) (ih : n ≤ ch) (jh : ch ≤ 9223372036854775807) (kh : n ≤ 140737488351232)
    (a b : Nat)  (x2 x3 y3 : List UInt8) (e1 : (f == t) = false) (hi : i < n) (hj : j < n)
    (HP : Hid (∀ V, Below w.heap.size w V → V.cell? ⟨bb, off + i * 4, none⟩ = some (.int .i64 2) ∧ V.cell? ⟨bb, off + i * 4 + 1, none⟩ = some (.int .i64 f) ∧ V.cell? ⟨bb, off + i * 4 + 2, none⟩ = some (.string ⟨x2.toArray⟩) ∧ V.cell? ⟨bb, off + i * 4 + 3, none⟩ = some (.string ⟨x3.toArray⟩)))
    (HR : Hid (∀ V, Below w.heap.size w V → V.cell? ⟨bb, off + j * 4, none⟩ = some (.int .i64 3) ∧ V.cell? ⟨bb, off + j * 4 + 1, none⟩ = some (.int .i64 t) ∧ V.cell? ⟨bb, off + j * 4 + 2, none⟩ = some (.string ⟨x2.toArray⟩) ∧ V.cell? ⟨bb, off + j * 4 + 3, none⟩ = some (.string ⟨y3.toArray⟩)))
    (D1 : ∀ W, Below w.heap.size w W → Calls Try.prog 36 #[.slice (some ⟨bb, off, none⟩) n ch, .int .i64 f] W fun e w' => e = .returned (.int .i64 (a : Int)) ∧ Below W.heap.size W w')
    (D2 : ∀ W, Below w.heap.size w W → Calls Try.prog 36 #[.slice (some ⟨bb, off, none⟩) n ch, .int .i64 t] W fun e w' => e = .returned (.int .i64 (b : Int)) ∧ Below W.heap.size W w')
    (v2 : x3.isEmpty = false) (q : Nat) (hq : q < n) (z0 z1 : Int) (z2 z3 : List UInt8) (HZ : Hid (∀ V, Below w.heap.size w V → V.cell? ⟨bb, off + q * 4, none⟩ = some (.int .i64 z0) ∧ V.cell? ⟨bb, off + q * 4 + 1, none⟩ = some (.int .i64 z1) ∧ V.cell? ⟨bb, off + q * 4 + 2, none⟩ = some (.string ⟨z2.toArray⟩) ∧ V.cell? ⟨bb, off + q * 4 + 3, none⟩ = some (.string ⟨z3.toArray⟩)))
    (DW : ∀ W, Below w.heap.size w W → Calls Try.prog 40 #[.slice (some ⟨bb, off, none⟩) n ch, .string ⟨x2.toArray⟩, .string ⟨x3.toArray⟩] W fun e w' => e = .returned (.int .i64 (q : Int)) ∧ Below W.heap.size W w') (v3 : (z1 == t) = false)
    (DC : ∀ W, Below w.heap.size w W → Calls Try.prog 36 #[.slice (some ⟨bb, off, none⟩) n ch, .int .i64 z1] W fun e w' => e = .returned (.int .i64 (-1)) ∧ Below W.heap.size W w') :
    Calls Try.prog 19 #[.slice (some ⟨bb, off, none⟩) n ch, .agg #[.int .i64 3, .int .i64 f, .int .i64 t, .int .i64 (i : Int), .int .i64 (j : Int)]] w fun e w' => e = .returned (.bool false) ∧ Below w.heap.size w w' := by
  have i1 : ¬ (a : Int) < 0 := by omega
  have i2 : ¬ (b : Int) < 0 := by omega
  have g2 : ¬ (i : Int) < 0 := by omega
  have g3 : ¬ (n : Int) ≤ (i : Int) := by omega
  have g4 : ¬ (j : Int) < 0 := by omega
  have g5 : ¬ (n : Int) ≤ (j : Int) := by omega
  have X0 := SBox.new w 24 #[.int .i64 3, .int .i64 f, .int .i64 t, .int .i64 (i : Int), .int .i64 (j : Int)]
  have B0 := (Below.refl w.heap.size w).alloc (Nat.le_refl _) (.cells #[.int .i64 3, .int .i64 f, .int .i64 t, .int .i64 (i : Int), .int .i64 (j : Int)] 24)
  go_enter Try.func19, Try.ntmps19
  have c1 : (w.alloc (.cells #[.int .i64 3, .int .i64 f, .int .i64 t, .int .i64 (i : Int), .int .i64 (j : Int)] 24)).cell? ⟨w.heap.size, 1, none⟩ = some (.int .i64 f) := X0.cell 1 _ rfl
  go_wp2_with fail
  refine (D1 _ B0).mono ?_
  rintro e' w1 ⟨rfl, b1⟩
  have B1 := bel_trans B0 b1
  have X1 := X0.below b1
  have c2 : w1.cell? ⟨w.heap.size, 2, none⟩ = some (.int .i64 t) := X1.cell 2 _ rfl
  clear c1
  go_wp2_with fail
  refine (D2 _ B1).mono ?_
  rintro e' w2 ⟨rfl, b2⟩
  have B2 := bel_trans B1 b2
  have X2 := X1.below b2
  clear c2
  have d0 : w2.cell? ⟨w.heap.size, 0, none⟩ = some (.int .i64 3) := X2.cell 0 _ rfl
  have d1 : w2.cell? ⟨w.heap.size, 1, none⟩ = some (.int .i64 f) := X2.cell 1 _ rfl
  have d2 : w2.cell? ⟨w.heap.size, 2, none⟩ = some (.int .i64 t) := X2.cell 2 _ rfl
  have d3 : w2.cell? ⟨w.heap.size, 3, none⟩ = some (.int .i64 (i : Int)) := X2.cell 3 _ rfl
  have d4 : w2.cell? ⟨w.heap.size, 4, none⟩ = some (.int .i64 (j : Int)) := X2.cell 4 _ rfl
  obtain ⟨p0, p1, p2, p3⟩ := HP.out _ B2
  have B3 := B2.alloc B2.size (.cells #[.int .i64 2, .int .i64 f, .string ⟨x2.toArray⟩, .string ⟨x3.toArray⟩] 48)
  have B4 := B3.alloc B3.size (.cells #[.int .i64 3, .int .i64 t, .string ⟨x2.toArray⟩, .string ⟨y3.toArray⟩] 48)
  have X4 := (X2.alloc (.cells #[.int .i64 2, .int .i64 f, .string ⟨x2.toArray⟩, .string ⟨x3.toArray⟩] 48)).alloc (.cells #[.int .i64 3, .int .i64 t, .string ⟨x2.toArray⟩, .string ⟨y3.toArray⟩] 48)
  have Y4 := (SBox.new w2 48 #[.int .i64 2, .int .i64 f, .string ⟨x2.toArray⟩, .string ⟨x3.toArray⟩]).alloc (.cells #[.int .i64 3, .int .i64 t, .string ⟨x2.toArray⟩, .string ⟨y3.toArray⟩] 48)
  obtain ⟨q0, q1, q2, q3⟩ := HR.out _ B3
  have X3 := X2.alloc (.cells #[.int .i64 2, .int .i64 f, .string ⟨x2.toArray⟩, .string ⟨x3.toArray⟩] 48)
  have Z4 := SBox.new (w2.alloc (.cells #[.int .i64 2, .int .i64 f, .string ⟨x2.toArray⟩, .string ⟨x3.toArray⟩] 48)) 48 #[.int .i64 3, .int .i64 t, .string ⟨x2.toArray⟩, .string ⟨y3.toArray⟩]
  have hz : (w2.alloc (.cells #[.int .i64 2, .int .i64 f, .string ⟨x2.toArray⟩, .string ⟨x3.toArray⟩] 48)).heap.size = w2.heap.size + 1 := Array.size_push ..
  have m4 := X3.cell 4 _ rfl
  have x40 := X4.cell 0 _ rfl
  have x41 := X4.cell 1 _ rfl
  have x42 := X4.cell 2 _ rfl
  have y40 := Y4.cell 0 _ rfl
  have y41 := Y4.cell 1 _ rfl
  have y42 := Y4.cell 2 _ rfl
  have y43 := Y4.cell 3 _ rfl
  have z40 := Z4.cell 0 _ rfl
  have z41 := Z4.cell 1 _ rfl
  have z42 := Z4.cell 2 _ rfl
  have z43 := Z4.cell 3 _ rfl
  have t0 : ((w2.alloc (.cells #[.int .i64 2, .int .i64 f, .string ⟨x2.toArray⟩, .string ⟨x3.toArray⟩] 48)).alloc (.cells #[.int .i64 3, .int .i64 t, .string ⟨x2.toArray⟩, .string ⟨y3.toArray⟩] 48)).cell? ⟨w2.heap.size, 2, none⟩ = some (.string ⟨x2.toArray⟩) := Y4.cell 2 _ rfl
  go_wp2_with fail
  refine (DW _ B4).mono ?_
  rintro e' w5 ⟨rfl, b5⟩
  have B5 := bel_trans B4 b5
  have X5 := X4.below b5
  have g2' : w5.cell? ⟨w.heap.size, 2, none⟩ = some (.int .i64 t) := X5.cell 2 _ rfl
  clear t0 p0 p1 p2 p3 q0 q1 q2 q3 d0 d1 d2 d3 d4
  have j1 : ¬ (q : Int) < 0 := by omega
  have j3 : ¬ (n : Int) ≤ (q : Int) := by omega
  obtain ⟨k0, k1, k2, k3⟩ := HZ.out _ B5
  go_wp2_with fail
  go_quiet (fail)
  generalize hV : World.drewN _ _ = V
  have BV : Below w.heap.size w V := by rw [← hV]; exact below_drewN B5 _
  clear hV k0 k1 k2 k3 g2'
  obtain ⟨_, l1, _, _⟩ := HZ.out _ BV
  go_wp2_with fail
  refine (DC _ BV).mono ?_
  rintro e' w6 ⟨rfl, b6⟩
  go_wp2_with fail
  go_ret
  exact ⟨rfl, bel_trans BV b6⟩

set_option maxHeartbeats 4000000 in
theorem rh_s3 (w : World) (f t : Int) (i j : Nat) (n : Nat) (bb off : Nat) (ch : Nat) (ih : n ≤ ch) (jh : ch ≤ 9223372036854775807) (kh : n ≤ 140737488351232)
    (a b : Nat)  (x2 x3 y3 : List UInt8) (e1 : (f == t) = false) (hi : i < n) (hj : j < n)
    (HP : Hid (∀ V, Below w.heap.size w V → V.cell? ⟨bb, off + i * 4, none⟩ = some (.int .i64 2) ∧ V.cell? ⟨bb, off + i * 4 + 1, none⟩ = some (.int .i64 f) ∧ V.cell? ⟨bb, off + i * 4 + 2, none⟩ = some (.string ⟨x2.toArray⟩) ∧ V.cell? ⟨bb, off + i * 4 + 3, none⟩ = some (.string ⟨x3.toArray⟩)))
    (HR : Hid (∀ V, Below w.heap.size w V → V.cell? ⟨bb, off + j * 4, none⟩ = some (.int .i64 3) ∧ V.cell? ⟨bb, off + j * 4 + 1, none⟩ = some (.int .i64 t) ∧ V.cell? ⟨bb, off + j * 4 + 2, none⟩ = some (.string ⟨x2.toArray⟩) ∧ V.cell? ⟨bb, off + j * 4 + 3, none⟩ = some (.string ⟨y3.toArray⟩)))
    (D1 : ∀ W, Below w.heap.size w W → Calls Try.prog 36 #[.slice (some ⟨bb, off, none⟩) n ch, .int .i64 f] W fun e w' => e = .returned (.int .i64 (a : Int)) ∧ Below W.heap.size W w')
    (D2 : ∀ W, Below w.heap.size w W → Calls Try.prog 36 #[.slice (some ⟨bb, off, none⟩) n ch, .int .i64 t] W fun e w' => e = .returned (.int .i64 (b : Int)) ∧ Below W.heap.size W w')
    (v2 : x3.isEmpty = false) (q : Nat) (hq : q < n) (z0 z1 : Int) (z2 z3 : List UInt8) (HZ : Hid (∀ V, Below w.heap.size w V → V.cell? ⟨bb, off + q * 4, none⟩ = some (.int .i64 z0) ∧ V.cell? ⟨bb, off + q * 4 + 1, none⟩ = some (.int .i64 z1) ∧ V.cell? ⟨bb, off + q * 4 + 2, none⟩ = some (.string ⟨z2.toArray⟩) ∧ V.cell? ⟨bb, off + q * 4 + 3, none⟩ = some (.string ⟨z3.toArray⟩)))
    (DW : ∀ W, Below w.heap.size w W → Calls Try.prog 40 #[.slice (some ⟨bb, off, none⟩) n ch, .string ⟨x2.toArray⟩, .string ⟨x3.toArray⟩] W fun e w' => e = .returned (.int .i64 (q : Int)) ∧ Below W.heap.size W w') (v3 : (z1 == t) = false) (c : Nat)
    (DC : ∀ W, Below w.heap.size w W → Calls Try.prog 36 #[.slice (some ⟨bb, off, none⟩) n ch, .int .i64 z1] W fun e w' => e = .returned (.int .i64 (c : Int)) ∧ Below W.heap.size W w') :
    Calls Try.prog 19 #[.slice (some ⟨bb, off, none⟩) n ch, .agg #[.int .i64 3, .int .i64 f, .int .i64 t, .int .i64 (i : Int), .int .i64 (j : Int)]] w fun e w' => e = .returned (.bool (decide (c < b))) ∧ Below w.heap.size w w' := by
  have i1 : ¬ (a : Int) < 0 := by omega
  have i2 : ¬ (b : Int) < 0 := by omega
  have g2 : ¬ (i : Int) < 0 := by omega
  have g3 : ¬ (n : Int) ≤ (i : Int) := by omega
  have g4 : ¬ (j : Int) < 0 := by omega
  have g5 : ¬ (n : Int) ≤ (j : Int) := by omega
  have X0 := SBox.new w 24 #[.int .i64 3, .int .i64 f, .int .i64 t, .int .i64 (i : Int), .int .i64 (j : Int)]
  have B0 := (Below.refl w.heap.size w).alloc (Nat.le_refl _) (.cells #[.int .i64 3, .int .i64 f, .int .i64 t, .int .i64 (i : Int), .int .i64 (j : Int)] 24)
  go_enter Try.func19, Try.ntmps19
  have c1 : (w.alloc (.cells #[.int .i64 3, .int .i64 f, .int .i64 t, .int .i64 (i : Int), .int .i64 (j : Int)] 24)).cell? ⟨w.heap.size, 1, none⟩ = some (.int .i64 f) := X0.cell 1 _ rfl
  go_wp2_with fail
  refine (D1 _ B0).mono ?_
  rintro e' w1 ⟨rfl, b1⟩
  have B1 := bel_trans B0 b1
  have X1 := X0.below b1
  have c2 : w1.cell? ⟨w.heap.size, 2, none⟩ = some (.int .i64 t) := X1.cell 2 _ rfl
  clear c1
  go_wp2_with fail
  refine (D2 _ B1).mono ?_
  rintro e' w2 ⟨rfl, b2⟩
  have B2 := bel_trans B1 b2
  have X2 := X1.below b2
  clear c2
  have d0 : w2.cell? ⟨w.heap.size, 0, none⟩ = some (.int .i64 3) := X2.cell 0 _ rfl
  have d1 : w2.cell? ⟨w.heap.size, 1, none⟩ = some (.int .i64 f) := X2.cell 1 _ rfl
  have d2 : w2.cell? ⟨w.heap.size, 2, none⟩ = some (.int .i64 t) := X2.cell 2 _ rfl
  have d3 : w2.cell? ⟨w.heap.size, 3, none⟩ = some (.int .i64 (i : Int)) := X2.cell 3 _ rfl
  have d4 : w2.cell? ⟨w.heap.size, 4, none⟩ = some (.int .i64 (j : Int)) := X2.cell 4 _ rfl
  obtain ⟨p0, p1, p2, p3⟩ := HP.out _ B2
  have B3 := B2.alloc B2.size (.cells #[.int .i64 2, .int .i64 f, .string ⟨x2.toArray⟩, .string ⟨x3.toArray⟩] 48)
  have B4 := B3.alloc B3.size (.cells #[.int .i64 3, .int .i64 t, .string ⟨x2.toArray⟩, .string ⟨y3.toArray⟩] 48)
  have X4 := (X2.alloc (.cells #[.int .i64 2, .int .i64 f, .string ⟨x2.toArray⟩, .string ⟨x3.toArray⟩] 48)).alloc (.cells #[.int .i64 3, .int .i64 t, .string ⟨x2.toArray⟩, .string ⟨y3.toArray⟩] 48)
  have Y4 := (SBox.new w2 48 #[.int .i64 2, .int .i64 f, .string ⟨x2.toArray⟩, .string ⟨x3.toArray⟩]).alloc (.cells #[.int .i64 3, .int .i64 t, .string ⟨x2.toArray⟩, .string ⟨y3.toArray⟩] 48)
  obtain ⟨q0, q1, q2, q3⟩ := HR.out _ B3
  have X3 := X2.alloc (.cells #[.int .i64 2, .int .i64 f, .string ⟨x2.toArray⟩, .string ⟨x3.toArray⟩] 48)
  have Z4 := SBox.new (w2.alloc (.cells #[.int .i64 2, .int .i64 f, .string ⟨x2.toArray⟩, .string ⟨x3.toArray⟩] 48)) 48 #[.int .i64 3, .int .i64 t, .string ⟨x2.toArray⟩, .string ⟨y3.toArray⟩]
  have hz : (w2.alloc (.cells #[.int .i64 2, .int .i64 f, .string ⟨x2.toArray⟩, .string ⟨x3.toArray⟩] 48)).heap.size = w2.heap.size + 1 := Array.size_push ..
  have m4 := X3.cell 4 _ rfl
  have x40 := X4.cell 0 _ rfl
  have x41 := X4.cell 1 _ rfl
  have x42 := X4.cell 2 _ rfl
  have y40 := Y4.cell 0 _ rfl
  have y41 := Y4.cell 1 _ rfl
  have y42 := Y4.cell 2 _ rfl
  have y43 := Y4.cell 3 _ rfl
  have z40 := Z4.cell 0 _ rfl
  have z41 := Z4.cell 1 _ rfl
  have z42 := Z4.cell 2 _ rfl
  have z43 := Z4.cell 3 _ rfl
  have j2 : (0 : Int) ≤ (c : Int) := by omega
  have t0 : ((w2.alloc (.cells #[.int .i64 2, .int .i64 f, .string ⟨x2.toArray⟩, .string ⟨x3.toArray⟩] 48)).alloc (.cells #[.int .i64 3, .int .i64 t, .string ⟨x2.toArray⟩, .string ⟨y3.toArray⟩] 48)).cell? ⟨w2.heap.size, 2, none⟩ = some (.string ⟨x2.toArray⟩) := Y4.cell 2 _ rfl
  go_wp2_with fail
  refine (DW _ B4).mono ?_
  rintro e' w5 ⟨rfl, b5⟩
  have B5 := bel_trans B4 b5
  have X5 := X4.below b5
  have g2' : w5.cell? ⟨w.heap.size, 2, none⟩ = some (.int .i64 t) := X5.cell 2 _ rfl
  clear t0 p0 p1 p2 p3 q0 q1 q2 q3 d0 d1 d2 d3 d4
  have j1 : ¬ (q : Int) < 0 := by omega
  have j3 : ¬ (n : Int) ≤ (q : Int) := by omega
  obtain ⟨k0, k1, k2, k3⟩ := HZ.out _ B5
  go_wp2_with fail
  go_quiet (fail)
  generalize hV : World.drewN _ _ = V
  have BV : Below w.heap.size w V := by rw [← hV]; exact below_drewN B5 _
  clear hV k0 k1 k2 k3 g2'
  obtain ⟨_, l1, _, _⟩ := HZ.out _ BV
  go_wp2_with fail
  refine (DC _ BV).mono ?_
  rintro e' w6 ⟨rfl, b6⟩
  go_wp2_with fail
  go_ret
  exact ⟨rfl, bel_trans BV b6⟩
end Go.Proofs.Yteehpkkkagdckaa
namespace Go.Proofs.Yteehpkkkagdckaa
set_option maxRecDepth 100000
open Go.RowKit
set_option linter.unusedVariables false
set_option maxHeartbeats 2000000 in
theorem rholdsK_any (h : List Ev) (w : World) (bb off ch n : Nat) (hn : h.length = n) (ih : n ≤ ch) (jh : ch ≤ 9223372036854775807) (kh : n ≤ 140737488351232) (k f t : Int) (g1 : f ≠ t) (i j a b : Nat) (hi : i < n) (hj : j < n)
    (HD : ∀ (t : Int) W, Below w.heap.size w W → Calls Try.prog 36 #[.slice (some ⟨bb, off, none⟩) n ch, .int .i64 t] W fun e w' => e = .returned (.int .i64 (oI (commL h t))) ∧ Below W.heap.size W w')
    (HW : ∀ (key val : List UInt8) W, Below w.heap.size w W → Calls Try.prog 40 #[.slice (some ⟨bb, off, none⟩) n ch, .string ⟨key.toArray⟩, .string ⟨val.toArray⟩] W fun e w' => e = .returned (.int .i64 (oI (writerL h key val))) ∧ Below W.heap.size W w')
    (HQ : ∀ j, j < n → ∀ V, Below w.heap.size w V → V.cell? ⟨bb, off + j * 4, none⟩ = some (.int .i64 (ev h j).1) ∧ V.cell? ⟨bb, off + j * 4 + 1, none⟩ = some (.int .i64 (ev h j).2.1) ∧ V.cell? ⟨bb, off + j * 4 + 2, none⟩ = some (.string ⟨(ev h j).2.2.1.toArray⟩) ∧ V.cell? ⟨bb, off + j * 4 + 3, none⟩ = some (.string ⟨(ev h j).2.2.2.toArray⟩))
    (ca : commL h f = some a) (cb : commL h t = some b) :
    Calls Try.prog 19 #[.slice (some ⟨bb, off, none⟩) n ch, .agg #[.int .i64 k, .int .i64 f, .int .i64 t, .int .i64 (i : Int), .int .i64 (j : Int)]] w fun e w' => e = .returned (.bool (holdsK h k f t (ev h i) (ev h j) a b)) ∧ Below w.heap.size w w' := by
  have e1 : (f == t) = false := beq_eq_false_iff_ne.2 g1
  have D1 := HD f
  have D2 := HD t
  rw [ca] at D1
  rw [cb] at D2
  simp only [oI] at D1 D2
  have HP := HQ i hi
  have HR := HQ j hj
  obtain ⟨⟨x0, x1, x2, x3⟩, hx⟩ : ∃ x, ev h i = x := ⟨_, rfl⟩
  obtain ⟨⟨y0, y1, y2, y3⟩, hy⟩ : ∃ x, ev h j = x := ⟨_, rfl⟩
  rw [hx] at HP ⊢
  rw [hy] at HR ⊢
  simp only at HP HR
  unfold holdsK
  simp only
  by_cases m1 : x2 = y2
  case neg =>
    rw [if_pos m1]
    exact rh_k1 w k f t i j n bb off ch ih jh kh a b x0 x1 y0 y1 x2 x3 y2 y3 e1 hi hj HP HR D1 D2 (by simpa using m1) (beq_eq_false_iff_ne.2 m1) m1 (decide_eq_false m1)
  subst m1
  rw [if_neg (by simp)]
  by_cases m2 : x1 = f
  case neg =>
    rw [if_pos m2]
    exact rh_k2 w k f t i j n bb off ch ih jh kh a b x0 x1 y0 y1 x2 x3 y3 e1 hi hj HP HR D1 D2 (by simpa using m2)
  subst m2
  rw [if_neg (by simp)]
  by_cases m3 : y1 = t
  case neg =>
    rw [if_pos m3]
    exact rh_k3 w k x1 t i j n bb off ch ih jh kh a b x0 y0 y1 x2 x3 y3 e1 hi hj HP HR D1 D2 (by simpa using m3)
  subst m3
  rw [if_neg (by simp)]
  by_cases r1 : k = 1
  · subst r1
    rw [if_pos rfl]
    by_cases s0 : x0 = 3
    case neg =>
      rw [decide_eq_false s0]
      exact rh_w0 w x1 y1 i j n bb off ch ih jh kh a b x0 y0 x2 x3 y3 e1 hi hj HP HR D1 D2 (beq_eq_false_iff_ne.2 s0)
    subst s0
    by_cases s1 : y0 = 3
    case neg =>
      rw [decide_eq_false s1]
      exact rh_w1 w x1 y1 i j n bb off ch ih jh kh a b y0 x2 x3 y3 e1 hi hj HP HR D1 D2 (beq_eq_false_iff_ne.2 s1)
    subst s1
    by_cases s2 : a < b
    · rw [decide_eq_true s2]
      exact rh_w3 w x1 y1 i j n bb off ch ih jh kh a b x2 x3 y3 e1 hi hj HP HR D1 D2 (by omega) s2
    · rw [decide_eq_false s2]
      exact rh_w2 w x1 y1 i j n bb off ch ih jh kh a b x2 x3 y3 e1 hi hj HP HR D1 D2 (by omega) s2
  rw [if_neg r1]
  by_cases r2 : k = 2
  · subst r2
    rw [if_pos rfl]
    by_cases s0 : x0 = 3
    case neg =>
      rw [decide_eq_false s0]
      exact rh_r0 w x1 y1 i j n bb off ch ih jh kh a b x0 y0 x2 x3 y3 e1 hi hj HP HR D1 D2 (beq_eq_false_iff_ne.2 s0)
    subst s0
    by_cases s1 : y0 = 2
    case neg =>
      rw [decide_eq_false s1]
      exact rh_r1 w x1 y1 i j n bb off ch ih jh kh a b y0 x2 x3 y3 e1 hi hj HP HR D1 D2 (beq_eq_false_iff_ne.2 s1)
    subst s1
    by_cases s2 : x3 = y3
    · subst s2
      rw [decide_eq_true (rfl : x3 = x3)]
      exact rh_r3 w x1 y1 i j n bb off ch ih jh kh a b x2 x3 e1 hi hj HP HR D1 D2
    · rw [decide_eq_false s2]
      exact rh_r2 w x1 y1 i j n bb off ch ih jh kh a b x2 x3 y3 e1 hi hj HP HR D1 D2 (beq_eq_false_iff_ne.2 s2)
  rw [if_neg r2]
  by_cases r3 : k = 3
  case neg =>
    rw [if_pos r3]
    exact rh_n0 w k x1 y1 i j n bb off ch ih jh kh a b x0 y0 x2 x3 y3 e1 hi hj HP HR D1 D2 (beq_eq_false_iff_ne.2 r1) (beq_eq_false_iff_ne.2 r2) (by simpa using r3)
  subst r3
  rw [if_neg (by simp)]
  by_cases s0 : x0 = 2
  case neg =>
    rw [if_pos s0]
    exact rh_n1 w x1 y1 i j n bb off ch ih jh kh a b x0 y0 x2 x3 y3 e1 hi hj HP HR D1 D2 (by simpa using s0)
  subst s0
  rw [if_neg (by simp)]
  by_cases s1 : y0 = 3
  case neg =>
    rw [if_pos s1]
    exact rh_n2 w x1 y1 i j n bb off ch ih jh kh a b y0 x2 x3 y3 e1 hi hj HP HR D1 D2 (by simpa using s1)
  subst s1
  rw [if_neg (by simp)]
  by_cases s2 : x3 = []
  · rw [if_pos s2]
    exact rh_n3 w x1 y1 i j n bb off ch ih jh kh a b x2 x3 y3 e1 hi hj HP HR D1 D2 (by rw [s2]; rfl)
  rw [if_neg s2]
  have v2 : x3.isEmpty = false := ne_nil7 x3 s2
  have DW := HW x2 x3
  rcases cw : writerL h x2 x3 with _ | q
  · rw [cw] at DW
    exact rh_s0 w x1 y1 i j n bb off ch ih jh kh a b x2 x3 y3 e1 hi hj HP HR D1 D2 v2 DW
  have hq : q < n := by rw [← hn]; exact ((fi_some _ _ _).1 cw).1
  rw [cw] at DW
  simp only [oI] at DW ⊢
  have HZ := HQ q hq
  have tz : tx h q = (ev h q).2.1 := rfl
  obtain ⟨⟨z0, z1, z2, z3⟩, hz⟩ : ∃ x, ev h q = x := ⟨_, rfl⟩
  rw [hz] at HZ tz
  simp only at HZ tz
  rw [tz]
  by_cases s3 : z1 = y1
  · subst s3
    rw [if_pos rfl]
    exact rh_s1 w x1 z1 i j n bb off ch ih jh kh a b x2 x3 y3 e1 hi hj HP HR D1 D2 v2 q hq z0 z2 z3 HZ DW
  rw [if_neg s3]
  have DC := HD z1
  rcases cz : commL h z1 with _ | c
  · rw [cz] at DC
    exact rh_s2 w x1 y1 i j n bb off ch ih jh kh a b x2 x3 y3 e1 hi hj HP HR D1 D2 v2 q hq z0 z1 z2 z3 HZ DW (beq_eq_false_iff_ne.2 s3) DC
  rw [cz] at DC
  simp only [oI] at DC ⊢
  exact rh_s3 w x1 y1 i j n bb off ch ih jh kh a b x2 x3 y3 e1 hi hj HP HR D1 D2 v2 q hq z0 z1 z2 z3 HZ DW (beq_eq_false_iff_ne.2 s3) c DC
set_option maxHeartbeats 2000000 in
theorem rholds_any (h : List Ev) (v : Value) (w : World) (hT : IsEvs w v h) (k f t I J : Int) :
    Calls Try.prog 19 #[v, .agg #[.int .i64 k, .int .i64 f, .int .i64 t, .int .i64 I, .int .i64 J]] w fun e w' => e = .returned (.bool (holdsC h (k, f, t, I, J))) ∧ Below w.heap.size w w' := by
  have HD : ∀ (t : Int) W, Below w.heap.size w W → Calls Try.prog 36 #[v, .int .i64 t] W fun e w' => e = .returned (.int .i64 (oI (commL h t))) ∧ Below W.heap.size W w' := fun t W hb => rcomm_any h v W (hT.below hb) t
  have HW : ∀ (key val : List UInt8) W, Below w.heap.size w W → Calls Try.prog 40 #[v, .string ⟨key.toArray⟩, .string ⟨val.toArray⟩] W fun e w' => e = .returned (.int .i64 (oI (writerL h key val))) ∧ Below W.heap.size W w' := fun key val W hb => rwriter_any h v W (hT.below hb) key val
  obtain ⟨ah, ch, rfl, ih, jh, kh, HCh⟩ := hT.reads
  unfold holdsC
  simp only
  obtain ⟨n, hn⟩ : ∃ n, h.length = n := ⟨_, rfl⟩
  rw [hn] at ih kh HD HW ⊢
  have D1 := HD f
  have D2 := HD t
  rcases ca : commL h f with _ | a
  · rw [ca] at D1
    exact rh_a w k f t I J n ah ch ih jh kh _ D1 D2
  rw [ca] at D1
  simp only [oI] at D1 ⊢
  rcases cb : commL h t with _ | b
  · rw [cb] at D2
    exact rh_b w k f t I J n ah ch ih jh kh a D1 D2
  rw [cb] at D2
  simp only [oI] at D2 ⊢
  by_cases g1 : f = t
  · subst g1
    rw [if_pos rfl]
    exact rh_c w k f I J n ah ch ih jh kh a b D1 D2
  have e1 : (f == t) = false := beq_eq_false_iff_ne.2 g1
  rw [if_neg g1]
  by_cases g2 : I < 0
  · rw [if_pos g2]
    exact rh_d w k f t I J n ah ch ih jh kh a b D1 D2 e1 g2
  rw [if_neg g2]
  by_cases g3 : (n : Int) ≤ I
  · rw [if_pos g3]
    exact rh_e w k f t I J n ah ch ih jh kh a b D1 D2 e1 g2 g3
  rw [if_neg g3]
  by_cases g4 : J < 0
  · rw [if_pos g4]
    exact rh_f w k f t I J n ah ch ih jh kh a b D1 D2 e1 g2 g3 g4
  rw [if_neg g4]
  by_cases g5 : (n : Int) ≤ J
  · rw [if_pos g5]
    exact rh_g w k f t I J n ah ch ih jh kh a b D1 D2 e1 g2 g3 g4 g5
  rw [if_neg g5]
  obtain ⟨i, rfl⟩ : ∃ i : Nat, I = (i : Int) := ⟨I.toNat, by omega⟩
  obtain ⟨j, rfl⟩ : ∃ j : Nat, J = (j : Int) := ⟨J.toNat, by omega⟩
  obtain ⟨bb, off, rfl, HQ⟩ := HCh.out (by omega)
  rw [hn] at HQ
  rw [Int.toNat_natCast, Int.toNat_natCast]
  exact rholdsK_any h w bb off ch n hn ih jh kh k f t g1 i j a b (by omega) (by omega) HD HW HQ.out ca cb
end Go.Proofs.Yteehpkkkagdckaa
