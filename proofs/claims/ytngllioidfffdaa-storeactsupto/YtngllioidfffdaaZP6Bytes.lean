/-
  What event.Bytes, and the closure that it makes, answer.
-/
import Derived.Test.YtngllioidfffdaaZP6Small
import Derived.Test.YtngllioidfffdaaZR6Bytes
import Derived.Test.YtngllioidfffdaaGC
import Derived.Test.YtngllioidfffdaaGJ
import Derived.Test.YtngllioidfffdaaGD
namespace Go.Proofs.Ytngllioidfffdaa
set_option maxRecDepth 100000
open Go.RowKit
set_option linter.unusedVariables false
attribute [local go_sem] ba_size ba_append
theorem grownT {a b c : World} {x : Option Nat} (h : a.grownBy b x) (k : b.grownBy c x) : a.grownBy c x :=
  ⟨k.os.trans h.os, k.tape.trans h.tape, k.output.trans h.output, Nat.le_trans h.size k.size, fun i hi hne => (k.block i (Nat.lt_of_lt_of_le hi h.size) hne).trans (h.block i hi hne)⟩
theorem grownB {a b : World} (x : Option Nat) (h : Below a.heap.size a b) : a.grownBy b x := ⟨h.os, h.tape, h.output, h.size, fun i hi _ => h.block i hi⟩
/-- The closure: the text, laid behind what the box holds. -/
theorem play_any (t s : List UInt8) (ht : ¬ 65535 < t.length) (hs : s.length ≤ 9223372036854000000) (W : World) (g : Nat) (hx : Boxed W g 9 (.string ⟨s.toArray⟩)) :
    Calls Try.prog 53 #[.string ⟨t.toArray⟩, .pointer (some ⟨g, 0, none⟩)] W fun e W' => e = .returned (.tuple #[]) ∧ W.grownBy W' (some g) ∧ Boxed W' g 9 (.string ⟨(s ++ (Lm.lenL t.length ++ t)).toArray⟩) := by
  have T1 := text_ok t ht W
  have l1 := Lm.lenL_le t.length
  have z1 : (Lm.lenL t.length ++ t).length ≤ 65538 := by rw [List.length_append]; omega
  obtain ⟨x, hX⟩ : ∃ x, Lm.lenL t.length ++ t = x := ⟨_, rfl⟩
  rw [hX] at T1 z1 ⊢
  clear hX l1
  have z3 : s.length + x.length ≤ 9223372036854775807 := by omega
  go_enter Try.func53, Try.ntmps53
  go_wp2_with fail
  refine T1.mono ?_
  rintro e w1 ⟨rfl, b1⟩
  have hx1 : Boxed w1 g 9 (.string ⟨s.toArray⟩) := boxed_below hx b1
  have d1 := hx1.cell
  have d2 := hx1.frozen
  go_wp2_with fail
  go_end0
  exact ⟨rfl, grownT (grownB (some g) b1) (grownBy_setCell' _ _ _), hx1.set _⟩
theorem SBox.grown {w w' : World} {g x : Nat} {t : TypeId} {cs : Array Value} (h : SBox w g t cs) (k : w.grownBy w' (some x)) (hne : g ≠ x) : SBox w' g t cs := (k.block g h.lt (by simpa using hne)).trans h
set_option maxHeartbeats 1000000 in
theorem pbytes6_any (k t : Int) (a b : List UInt8) (w : World) :
    Calls Try.prog 30 #[evA (k, t, a, b)] w fun e w' => e = .returned (.tuple #[.string ⟨(bytesE (k, t, a, b)).1.toArray⟩, .int .i64 ((bytesE (k, t, a, b)).2 : Int)]) ∧ Below w.heap.size w w' := by
  have al : ∀ o, Below w.heap.size w (w.alloc o) := fun o => (Below.refl _ w).alloc (Nat.le_refl _) o
  have M : Hid (∀ W, Calls Try.prog 52 #[.agg #[.int .i64 k, .int .i64 t, .string ⟨a.toArray⟩, .string ⟨b.toArray⟩]] W fun e w' => e = .returned (.bool (decide (mayE (k, t, a, b)))) ∧ Below W.heap.size W w') := fun W => pmay_any k t a b W
  have X0 := SBox.new w 30 #[.int .i64 k, .int .i64 t, .string ⟨a.toArray⟩, .string ⟨b.toArray⟩]
  have c2 := conv2
  by_cases hm : mayE (k, t, a, b)
  · rw [decide_eq_true hm] at M
    rw [bytesE_ok _ hm]
    obtain ⟨⟨k1, k2, t1, t2⟩, hr⟩ := hm
    simp only at k1 k2 t1 t2 hr
    have u1 : IntKind.u8.wrap k = k := by rw [IntKind.wrap_u8]; omega
    have u2 : IntKind.u8.wrap t = t := by rw [IntKind.wrap_u8]; omega
    by_cases hk : keyedE k
    · rw [if_pos hk] at hr
      have HE : Hid (bytE (k, t, a, b) = [UInt8.ofNat k.toNat, UInt8.ofNat t.toNat] ++ (Lm.lenL a.length ++ a) ++ (Lm.lenL b.length ++ b)) := by
        show _ = _
        unfold bytE txtE
        simp only
        rw [if_pos hk]
        simp
      have T := fun W => ptexts_key k hk W
      have l1 := Lm.lenL_le a.length
      have PL1 : Hid (∀ W g, Boxed W g 9 (.string ⟨[UInt8.ofNat k.toNat, UInt8.ofNat t.toNat].toArray⟩) → _) := fun W g h => play_any a [UInt8.ofNat k.toNat, UInt8.ofNat t.toNat] (by omega) (by simp) W g h
      have PL2 : Hid (∀ W g, Boxed W g 9 (.string ⟨([UInt8.ofNat k.toNat, UInt8.ofNat t.toNat] ++ (Lm.lenL a.length ++ a)).toArray⟩) → _) := fun W g h => play_any b ([UInt8.ofNat k.toNat, UInt8.ofNat t.toNat] ++ (Lm.lenL a.length ++ a)) (by omega) (by simp only [List.length_append, List.length_cons, List.length_nil]; omega) W g h
      obtain ⟨m, hm⟩ : ∃ m : Int, (if k = 2 then 0 else 1 : Int) = m := ⟨_, rfl⟩
      rw [hm] at T
      obtain ⟨s1, hs1⟩ : ∃ s, [UInt8.ofNat k.toNat, UInt8.ofNat t.toNat] ++ (Lm.lenL a.length ++ a) = s := ⟨_, rfl⟩
      rw [hs1] at PL1 PL2 HE
      obtain ⟨s2, hs2⟩ : ∃ s, s1 ++ (Lm.lenL b.length ++ b) = s := ⟨_, rfl⟩
      rw [hs2] at PL2 HE
      clear l1 hr hk hm hs1 hs2
      rw [HE.out]
      go_enter Try.func30, Try.ntmps30
      go_wp2_with fail
      refine (M.out _).mono ?_
      rintro e w1 ⟨rfl, b1⟩
      have B1 := bel_trans (al _) b1
      have X1 := X0.below b1
      have x0 := X1.cell 0 _ rfl
      have x1 := X1.cell 1 _ rfl
      have y0 := fun o => (X1.alloc o).cell 0 _ rfl
      have y1 := fun o => (X1.alloc o).cell 1 _ rfl
      have y00 := fun o o' => ((X1.alloc o).alloc o').cell 0 _ rfl
      go_wp2_with fail
      refine (T _).mono ?_
      rintro e w2 ⟨rfl, b2⟩
      have X2 := ((X1.alloc _).alloc _).below b2
      have S2 := boxed_below (Boxed.new _ _ _) b2
      have B1' := B1.alloc B1.size (.cells #[.int .u8 k, .int .u8 t] 5)
      have B2 := bel_trans (B1'.alloc B1'.size _) b2
      rw [World.size_alloc] at S2
      have z2 := X2.cell 2 _ rfl
      have h12 := B1.size
      go_wp2_with fail
      refine (PL1.out _ _ S2).mono ?_
      rintro e w3 ⟨rfl, g3, S3⟩
      have hlt : w.heap.size < w1.heap.size := X1.lt
      have X3 := X2.grown g3 (by omega)
      have z3 := X3.cell 3 _ rfl
      have B3 : Below w.heap.size w w3 := B2.grown g3 B2.size (fun k h => by cases h; omega)
      go_wp2_with fail
      refine (PL2.out _ _ S3).mono ?_
      rintro e w4 ⟨rfl, g4, S4⟩
      have B4 : Below w.heap.size w w4 := B3.grown g4 B3.size (fun k h => by cases h; omega)
      have s4 := S4.cell
      go_wp2_with fail
      go_ret2
      exact ⟨rfl, B4⟩
    · rw [if_neg hk] at hr
      obtain ⟨rfl, rfl⟩ := hr
      have HE : Hid (bytE (k, t, [], []) = [UInt8.ofNat k.toNat, UInt8.ofNat t.toNat]) := by
        show _ = _
        unfold bytE
        simp only
        rw [if_neg hk]
      rw [HE.out]
      have T := fun W => ptextsN k hk W
      clear hk
      go_enter Try.func30, Try.ntmps30
      go_wp2_with fail
      refine (M.out _).mono ?_
      rintro e w1 ⟨rfl, b1⟩
      have B1 := bel_trans (al _) b1
      have X1 := X0.below b1
      have x0 := X1.cell 0 _ rfl
      have x1 := X1.cell 1 _ rfl
      have y0 := fun o => (X1.alloc o).cell 0 _ rfl
      have y1 := fun o => (X1.alloc o).cell 1 _ rfl
      have y00 := fun o o' => ((X1.alloc o).alloc o').cell 0 _ rfl
      go_wp2_with fail
      refine (T _).mono ?_
      rintro e w2 ⟨rfl, b2⟩
      have S2 := boxed_below (Boxed.new _ _ _) b2
      have B1' := B1.alloc B1.size (.cells #[.int .u8 k, .int .u8 t] 5)
      have B2 := bel_trans (B1'.alloc B1'.size _) b2
      rw [World.size_alloc] at S2
      have s2 := S2.cell
      go_wp2_with fail
      go_ret2
      exact ⟨rfl, B2⟩
  · rw [decide_eq_false hm] at M
    rw [bytesE_no _ hm]
    clear hm
    go_enter Try.func30, Try.ntmps30
    go_wp2_with fail
    refine (M.out _).mono ?_
    rintro e w1 ⟨rfl, b1⟩
    have B1 := bel_trans (al _) b1
    go_wp2_with fail
    go_ret2
    exact ⟨rfl, B1⟩
end Go.Proofs.Ytngllioidfffdaa
