/-
  The walk of EventSizes.
-/
import Derived.Test.YtchneiefjjcccaaZShown6
import Derived.Test.YtchneiefjjcccaaZEvent3
import Derived.Deep.RegionHeld3
import Derived.BigQuiet
import Derived.Deep.QuietTactic
namespace Go.Proofs.Ytchneiefjjcccaa
set_option maxRecDepth 100000
open Go.RowKit
set_option linter.unusedVariables false
attribute [local go_sem] ba_size ba_append ba_get ba_extract
set_option maxHeartbeats 4000000 in
theorem sizes6_walk (C : P6C) (w : World) (x0 x1 : Int) (x2 x3 : List UInt8) (gx : goodE (x0, x1, x2, x3)) :
    Calls Try.prog 8 #[.agg #[.int .i64 x0, .int .i64 x1, .string ⟨x2.toArray⟩, .string ⟨x3.toArray⟩]] w fun e w' => e = .returned (.bool true) ∧ Below w.heap.size w w' := by
  have HSh : Hid (∀ W, Below w.heap.size w W → Calls Try.prog 10 #[] W fun e w' => e = .returned (.bool true) ∧ Below W.heap.size W w') := fun W h => shown6_any C W
  have HB : Hid (∀ W, Below w.heap.size w W → Calls Try.prog 11 #[.agg #[.int .i64 x0, .int .i64 x1, .string ⟨x2.toArray⟩, .string ⟨x3.toArray⟩]] W fun e w' => e = .returned (.tuple #[.string ⟨(bytesE (x0, x1, x2, x3)).1.toArray⟩, .int .i64 ((bytesE (x0, x1, x2, x3)).2 : Int)]) ∧ Below W.heap.size W w') := fun W h => C.bytes x0 x1 x2 x3 W gx
  by_cases hm : mayE (x0, x1, x2, x3)
  · rw [bytesE_ok _ hm] at HB
    have z := bytE_len _ hm
    have HC : Hid (∃ (p q : UInt8) (r : List UInt8), bytE (x0, x1, x2, x3) = p :: q :: r ∧ (p.toNat : Int) = x0 ∧ (q.toNat : Int) = x1 ∧ ((x0 = 2 ∨ x0 = 3) ∧ r.length = 2 + x2.length + x3.length ∨ ¬ (x0 = 2 ∨ x0 = 3) ∧ r = [])) := by
      obtain ⟨m1, m2, m3, m4⟩ := may_bytes _ hm
      simp only at m1 m2 m3 m4
      refine ⟨UInt8.ofNat x0.toNat, UInt8.ofNat x1.toNat, _, rfl, by rw [m1]; exact m3, by rw [m2]; exact m4, ?_⟩
      by_cases hk : x0 = 2 ∨ x0 = 3
      · left
        have h5 := ((mayE_key hk).1 hm).2
        refine ⟨hk, ?_⟩
        simp only
        rw [if_pos (show keyedE x0 from hk)]
        unfold txtE Lm.lenL
        rw [if_pos (by omega), if_pos (by omega)]
        simp only [List.length_append, List.length_cons, List.length_nil]
        omega
      · right
        refine ⟨hk, ?_⟩
        simp only
        rw [if_neg (show ¬ keyedE x0 from hk)]
    obtain ⟨p, q, r, k1, k2, k3, k4⟩ := HC.out
    rw [k1] at HB z
    obtain ⟨s, hs⟩ : ∃ s, p :: q :: r = s := ⟨_, rfl⟩
    have ls : s.length = r.length + 2 := by rw [← hs]; rfl
    have l0 : 0 < s.length := by omega
    have l1 : 1 < s.length := by omega
    have g0 : s[0] = p := by simp only [← hs]; rfl
    have g1 : s[1] = q := by simp only [← hs]; rfl
    rw [hs] at HB z
    simp only at HB
    have n0 : ((p.toNat : Int) != x0) = false := by rw [k2]; simp
    have n1 : ((q.toNat : Int) != x1) = false := by rw [k3]; simp
    have b0 := i64_byte p
    have b1 := i64_byte q
    have L2 : ¬ (s.length : Int) < 2 := by omega
    have L1 : ¬ (s.length : Int) ≤ 1 := by omega
    have L0 : ¬ (s.length : Int) ≤ 0 := by omega
    obtain ⟨_, _, gx2, gx3⟩ := gx
    simp only at gx2 gx3
    clear HC k1 hm hs
    rcases k4 with ⟨k4, k5⟩ | ⟨k4, k5⟩
    · have e1 : ((s.length : Int) == 4 + (x2.length : Int) + (x3.length : Int)) = true := by rw [beq_iff_eq]; omega
      have qk : (x0 == 2) = true ∨ (x0 == 2) = false ∧ (x0 == 3) = true := by
        rcases k4 with h | h
        · left; rw [h]; rfl
        · right; rw [h]; exact ⟨rfl, rfl⟩
      clear k2 k3 k5 ls k4
      rcases qk with q2 | ⟨q2, q3⟩
      all_goals
        have X_x := SBox.new w 23 #[.int .i64 x0, .int .i64 x1, .string ⟨x2.toArray⟩, .string ⟨x3.toArray⟩]
        have B_x := Below.alloc (Below.refl w.heap.size w) (Below.size (Below.refl w.heap.size w)) (.cells #[.int .i64 x0, .int .i64 x1, .string ⟨x2.toArray⟩, .string ⟨x3.toArray⟩] 23)
        go_enter Try.func8, Try.ntmps8
        go_wp2_with fail
        refine (HSh.out _ B_x).mono ?_
        rintro e w1 ⟨rfl, b1⟩
        have B1 := bel_trans B_x b1
        replace X_x := X_x.below b1
        have f_x0_1 := X_x.cell 0 _ rfl
        have f_x1_1 := X_x.cell 1 _ rfl
        have f_x2_1 := X_x.cell 2 _ rfl
        have f_x3_1 := X_x.cell 3 _ rfl
        go_wp2_with fail
        refine (HB.out _ B1).mono ?_
        rintro e w2 ⟨rfl, b2⟩
        have B2 := bel_trans B1 b2
        clear f_x0_1 f_x1_1 f_x2_1 f_x3_1
        replace X_x := X_x.below b2
        have f_x0_2 := X_x.cell 0 _ rfl
        have f_x1_2 := X_x.cell 1 _ rfl
        have f_x2_2 := X_x.cell 2 _ rfl
        have f_x3_2 := X_x.cell 3 _ rfl
        go_wp2_with fail
        go_quiet (fail)
        go_wp2_with fail
        go_ret
        exact ⟨rfl, below_drewN B2 _⟩
    · have e1 : ((s.length : Int) == 2) = true := by rw [beq_iff_eq, ls, k5]; rfl
      have q2 : (x0 == 2) = false := beq_eq_false_iff_ne.2 (fun h => k4 (Or.inl h))
      have q3 : (x0 == 3) = false := beq_eq_false_iff_ne.2 (fun h => k4 (Or.inr h))
      clear k2 k3 k5 ls k4
      have X_x := SBox.new w 23 #[.int .i64 x0, .int .i64 x1, .string ⟨x2.toArray⟩, .string ⟨x3.toArray⟩]
      have B_x := Below.alloc (Below.refl w.heap.size w) (Below.size (Below.refl w.heap.size w)) (.cells #[.int .i64 x0, .int .i64 x1, .string ⟨x2.toArray⟩, .string ⟨x3.toArray⟩] 23)
      go_enter Try.func8, Try.ntmps8
      go_wp2_with fail
      refine (HSh.out _ B_x).mono ?_
      rintro e w1 ⟨rfl, b1⟩
      have B1 := bel_trans B_x b1
      replace X_x := X_x.below b1
      have f_x0_1 := X_x.cell 0 _ rfl
      have f_x1_1 := X_x.cell 1 _ rfl
      have f_x2_1 := X_x.cell 2 _ rfl
      have f_x3_1 := X_x.cell 3 _ rfl
      go_wp2_with fail
      refine (HB.out _ B1).mono ?_
      rintro e w2 ⟨rfl, b2⟩
      have B2 := bel_trans B1 b2
      clear f_x0_1 f_x1_1 f_x2_1 f_x3_1
      replace X_x := X_x.below b2
      have f_x0_2 := X_x.cell 0 _ rfl
      have f_x1_2 := X_x.cell 1 _ rfl
      have f_x2_2 := X_x.cell 2 _ rfl
      have f_x3_2 := X_x.cell 3 _ rfl
      go_wp2_with fail
      go_quiet (fail)
      go_wp2_with fail
      go_ret
      exact ⟨rfl, below_drewN B2 _⟩
  · rw [bytesE_no _ hm] at HB
    clear hm
    simp only at HB
    have X_x := SBox.new w 23 #[.int .i64 x0, .int .i64 x1, .string ⟨x2.toArray⟩, .string ⟨x3.toArray⟩]
    have B_x := Below.alloc (Below.refl w.heap.size w) (Below.size (Below.refl w.heap.size w)) (.cells #[.int .i64 x0, .int .i64 x1, .string ⟨x2.toArray⟩, .string ⟨x3.toArray⟩] 23)
    go_enter Try.func8, Try.ntmps8
    go_wp2_with fail
    refine (HSh.out _ B_x).mono ?_
    rintro e w1 ⟨rfl, b1⟩
    have B1 := bel_trans B_x b1
    replace X_x := X_x.below b1
    have f_x0_1 := X_x.cell 0 _ rfl
    have f_x1_1 := X_x.cell 1 _ rfl
    have f_x2_1 := X_x.cell 2 _ rfl
    have f_x3_1 := X_x.cell 3 _ rfl
    go_wp2_with fail
    refine (HB.out _ B1).mono ?_
    rintro e w2 ⟨rfl, b2⟩
    have B2 := bel_trans B1 b2
    clear f_x0_1 f_x1_1 f_x2_1 f_x3_1
    replace X_x := X_x.below b2
    have f_x0_2 := X_x.cell 0 _ rfl
    have f_x1_2 := X_x.cell 1 _ rfl
    have f_x2_2 := X_x.cell 2 _ rfl
    have f_x3_2 := X_x.cell 3 _ rfl
    go_wp2_with fail
    go_ret
    exact ⟨rfl, B2⟩
end Go.Proofs.Ytchneiefjjcccaa
