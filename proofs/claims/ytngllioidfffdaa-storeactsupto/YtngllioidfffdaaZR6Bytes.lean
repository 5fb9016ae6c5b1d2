/-
  What cartoucheref06.Bytes answers.
-/
import Derived.Test.YtngllioidfffdaaZR6May
import Derived.Test.YtngllioidfffdaaGJ
import Derived.Test.YtngllioidfffdaaGK
namespace Go.Proofs.Ytngllioidfffdaa
set_option maxRecDepth 100000
open Go.RowKit
set_option linter.unusedVariables false
attribute [local go_sem] ba_size ba_append
theorem conv2 (W : World) (x y : Int) (t : TypeId) :
    (convert 84 9 (.slice (some ⟨W.heap.size, 0, none⟩) 2 2)).run Try.prog (W.alloc (.cells #[.int .u8 x, .int .u8 y] t)) = .ok (.string ⟨[UInt8.ofNat x.toNat, UInt8.ofNat y.toNat].toArray⟩) (W.alloc (.cells #[.int .u8 x, .int .u8 y] t)) :=
  conv_row W _ t 0 2 2 [x, y] rfl (fun i hi => by
    have : i = 0 ∨ i = 1 := by omega
    rcases this with rfl | rfl <;> rfl)
abbrev evA (x : Ev) : Value := .agg #[.int .i64 x.1, .int .i64 x.2.1, .string ⟨x.2.2.1.toArray⟩, .string ⟨x.2.2.2.toArray⟩]
theorem bytesE_no (x : Ev) (h : ¬ mayE x) : bytesE x = ([], 1) := by unfold bytesE; rw [if_neg h]
theorem bytesE_ok (x : Ev) (h : mayE x) : bytesE x = (bytE x, 0) := by unfold bytesE; rw [if_pos h]
set_option maxHeartbeats 1000000 in
theorem rbytes6_any (k t : Int) (a b : List UInt8) (w : World) :
    Calls Try.prog 33 #[evA (k, t, a, b)] w fun e w' => e = .returned (.tuple #[.string ⟨(bytesE (k, t, a, b)).1.toArray⟩, .int .i64 ((bytesE (k, t, a, b)).2 : Int)]) ∧ Below w.heap.size w w' := by
  have al : ∀ o, Below w.heap.size w (w.alloc o) := fun o => (Below.refl _ w).alloc (Nat.le_refl _) o
  have M : Hid (∀ W, Calls Try.prog 32 #[.agg #[.int .i64 k, .int .i64 t, .string ⟨a.toArray⟩, .string ⟨b.toArray⟩]] W fun e w' => e = .returned (.bool (decide (mayE (k, t, a, b)))) ∧ Below W.heap.size W w') := fun W => rmay_any k t a b W
  have c2 := conv2
  by_cases hm : mayE (k, t, a, b)
  · rw [decide_eq_true hm] at M
    rw [bytesE_ok _ hm]
    obtain ⟨⟨k1, k2, t1, t2⟩, hr⟩ := hm
    simp only at k1 k2 t1 t2 hr
    have u1 : IntKind.u8.wrap k = k := by rw [IntKind.wrap_u8]; omega
    have u2 : IntKind.u8.wrap t = t := by rw [IntKind.wrap_u8]; omega
    by_cases hk : keyedE k
    · rw [if_pos hk] at hr
      have HE : Hid (bytE (k, t, a, b) = [UInt8.ofNat k.toNat, UInt8.ofNat t.toNat] ++ (Lm.lenL a.length ++ a) ++ (Lm.lenL b.length ++ b)) := by
        show _ = _
        unfold bytE txtE
        simp only
        rw [if_pos hk]
        simp
      have T1 := fun W => refText_ok a (by omega) W
      have T2 := fun W => refText_ok b (by omega) W
      have l1 := Lm.lenL_le a.length
      have l2 := Lm.lenL_le b.length
      have z1 : (Lm.lenL a.length ++ a).length ≤ 65538 := by rw [List.length_append]; omega
      have z2 : (Lm.lenL b.length ++ b).length ≤ 65538 := by rw [List.length_append]; omega
      obtain ⟨x, hx⟩ : ∃ x, Lm.lenL a.length ++ a = x := ⟨_, rfl⟩
      obtain ⟨y, hy⟩ : ∃ x, Lm.lenL b.length ++ b = x := ⟨_, rfl⟩
      rw [hx] at T1 HE z1
      rw [hy] at T2 HE z2
      rw [HE.out]
      clear hx hy l1 l2 hr
      have z3 : 2 + x.length ≤ 9223372036854775807 := by omega
      have z4 : 2 + x.length + y.length ≤ 9223372036854775807 := by omega
      unfold keyedE at hk
      rcases hk with rfl | rfl
      all_goals
        go_enter Try.func33, Try.ntmps33
        go_wp2_with fail
        refine (M.out _).mono ?_
        rintro e w1 ⟨rfl, b1⟩
        have B1 := bel_trans (al _) b1
        have x0 := box_cell b1 0 _ rfl
        have x1 := box_cell b1 1 _ rfl
        have y0 := box_cell_al b1 0 _ rfl
        have y2 := box_cell_al b1 2 _ rfl
        go_wp2_with fail
        refine (T1 _).mono ?_
        rintro e w2 ⟨rfl, b2⟩
        have b2' := bel_trans (b1.alloc b1.size _) b2
        have x3 := box_cell b2' 3 _ rfl
        go_wp2_with fail
        refine (T2 _).mono ?_
        rintro e w3 ⟨rfl, b3⟩
        have B3 := bel_trans (al _) (bel_trans b2' b3)
        go_wp2_with fail
        go_ret2
        exact ⟨rfl, B3⟩
    · rw [if_neg hk] at hr
      obtain ⟨rfl, rfl⟩ := hr
      have HE : Hid (bytE (k, t, [], []) = [UInt8.ofNat k.toNat, UInt8.ofNat t.toNat]) := by
        show _ = _
        unfold bytE
        simp only
        rw [if_neg hk]
      rw [HE.out]
      have q1 : (k == 2) = false := by rw [beq_eq_false_iff_ne]; exact fun h => hk (Or.inl h)
      have q2 : (k == 3) = false := by rw [beq_eq_false_iff_ne]; exact fun h => hk (Or.inr h)
      clear hk
      go_enter Try.func33, Try.ntmps33
      go_wp2_with fail
      refine (M.out _).mono ?_
      rintro e w1 ⟨rfl, b1⟩
      have B1 := bel_trans (al _) b1
      have x0 := box_cell b1 0 _ rfl
      have x1 := box_cell b1 1 _ rfl
      have y0 := box_cell_al b1 0 _ rfl
      go_wp2_with fail
      go_ret2
      exact ⟨rfl, B1.alloc B1.size _⟩
  · rw [decide_eq_false hm] at M
    rw [bytesE_no _ hm]
    clear hm
    go_enter Try.func33, Try.ntmps33
    go_wp2_with fail
    refine (M.out _).mono ?_
    rintro e w1 ⟨rfl, b1⟩
    have B1 := bel_trans (al _) b1
    go_wp2_with fail
    go_ret2
    exact ⟨rfl, B1⟩
end Go.Proofs.Ytngllioidfffdaa
