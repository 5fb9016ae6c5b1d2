/-
  The walk of TreeClash.
-/
import Derived.Test.YtlkkdfopecbekaaDoorZShown3
import Derived.Test.YtlkkdfopecbekaaDoorZP3Ends
import Derived.Test.YtlkkdfopecbekaaDoorZRSumL
namespace Go.Proofs.YtlkkdfopecbekaaDoor
set_option maxRecDepth 100000
open Go.RowKit
set_option linter.unusedVariables false
attribute [local go_sem] ba_size
theorem clash_bound (n i : Int) (a : List UInt8) (ha : a.length ≤ 1125899906842500) (p : List (List UInt8)) (b : List UInt8) (hb : b.length ≤ 1125899906842500) (q : List (List UInt8)) (x y : List UInt8) (h : clashL sumL n i a p b q = some (x, y)) : x.length ≤ 1125899906842600 ∧ y.length ≤ 1125899906842600 := by
  unfold clashL at h
  by_cases hc : (climbL sumL n i a p).2 ≠ 0 ∨ (climbL sumL n i b q).2 ≠ 0
  · rw [if_pos hc] at h; cases h
  · rw [if_neg hc] at h
    have r1 := (climb_rows sumL sumL_len32 n i a p (by omega)).2.2
    have r2 := (climb_rows sumL sumL_len32 n i b q (by omega)).2.2
    exact backL_bound sumL _ _ 1125899906842600 (fun t ht => by have := r1 t ht; omega) (fun t ht => by have := r2 t ht; omega) x y _ h
set_option maxHeartbeats 4000000 in
theorem clash_walk (w : World) (root : List UInt8) (hr : root.length ≤ 140737488351232) (n i : Int) (a : List UInt8) (ha : a.length ≤ 140737488351232) (vp : Value) (p : List (List UInt8)) (hTp : IsTxt w vp p) (hBp : ∀ s ∈ p, s.length ≤ 140737488351232) (b : List UInt8) (hb : b.length ≤ 140737488351232) (vq : Value) (q : List (List UInt8)) (hTq : IsTxt w vq q) (hBq : ∀ s ∈ q, s.length ≤ 140737488351232) (hG : G w) :
    Calls Tryd.prog 7 #[.agg #[.string ⟨root.toArray⟩, .int .i64 n, .int .i64 i, .string ⟨a.toArray⟩, vp, .string ⟨b.toArray⟩, vq]] w fun e w' => e = .returned (.bool true) ∧ Below w.heap.size w w' := by
  have hg3 := hG.size
  have al : ∀ o, Below w.heap.size w (w.alloc o) := fun o => (Below.refl _ w).alloc (Nat.le_refl _) o
  have HSh : Hid (∀ W, Below w.heap.size w W → Calls Tryd.prog 12 #[] W fun e w' => e = .returned (.bool true) ∧ Below W.heap.size W w') := fun W h => shown3_any W (hG.below h hg3)
  have HC1 : Hid (∀ W, Below w.heap.size w W → Calls Tryd.prog 25 #[.string ⟨root.toArray⟩, .int .i64 n, .int .i64 i, .string ⟨a.toArray⟩, vp] W fun e w' => e = .returned (.int .i64 (checkL sumL root n i a p : Int)) ∧ Below W.heap.size W w') := fun W h => pcheck_any root n i a (by omega) p vp W (hG.below h hg3) (hTp.below h)
  have HC2 : Hid (∀ W, Below w.heap.size w W → Calls Tryd.prog 25 #[.string ⟨root.toArray⟩, .int .i64 n, .int .i64 i, .string ⟨b.toArray⟩, vq] W fun e w' => e = .returned (.int .i64 (checkL sumL root n i b q : Int)) ∧ Below W.heap.size W w') := fun W h => pcheck_any root n i b (by omega) q vq W (hG.below h hg3) (hTq.below h)
  have HCl : Hid (∀ W, Below w.heap.size w W → Calls Tryd.prog 27 #[.int .i64 n, .int .i64 i, .string ⟨a.toArray⟩, vp, .string ⟨b.toArray⟩, vq] W fun e w' => e = .returned (unV (clashL sumL n i a p b q)) ∧ Below W.heap.size W w') := fun W h => pClash_any n i a (by omega) p vp b (by omega) q vq W (hG.below h hg3) (hTp.below h) (hTq.below h)
  have hcs := clash_some sumL sumL_len32 root n i a p b q
  have hho := clashL_honest sumL n i a p b q
  have hbo := clash_bound n i a (by omega) p b (by omega) q
  obtain ⟨k1, hk1⟩ : ∃ k, checkL sumL root n i a p = k := ⟨_, rfl⟩
  obtain ⟨k2, hk2⟩ : ∃ k, checkL sumL root n i b q = k := ⟨_, rfl⟩
  obtain ⟨O, hO⟩ : ∃ O, clashL sumL n i a p b q = O := ⟨_, rfl⟩
  rw [hk1] at HC1 hcs
  rw [hk2] at HC2 hcs
  rw [hO] at HCl hcs hho hbo
  obtain ⟨ap, cp, rfl, _, _, _⟩ := hTp.len
  obtain ⟨aq, cq, rfl, _, _, _⟩ := hTq.len
  clear hk1 hk2 hO hTp hTq hBp hBq
  by_cases hab : a = b
  · have heb : (a == b) = true := by rw [hab]; exact beq_self_eq_true b
    clear hcs hho hbo HC1 HC2 HCl hab
    go_enter Tryd.func7, Tryd.ntmps7
    go_wp2_with fail
    refine (HSh.out _ (al _)).mono ?_
    rintro e w1 ⟨rfl, b1⟩
    have B1 := bel_trans (al _) b1
    go_wp2_with fail
    go_ret
    exact ⟨rfl, B1⟩
  · have heb : (a == b) = false := beq_eq_false_iff_ne.2 hab
    by_cases h1 : k1 = 0
    · subst h1
      by_cases h2 : k2 = 0
      · subst h2
        obtain ⟨⟨x, y⟩, rfl⟩ := hcs hab rfl rfl
        obtain ⟨hxy, hs⟩ := hho x y rfl
        obtain ⟨lx, ly⟩ := hbo x y rfl
        have exy : (x == y) = false := beq_eq_false_iff_ne.2 hxy
        have S1 := fun w1 => rsG_any x (by omega) w1
        have S2 := fun w1 => rsG_any y (by omega) w1
        obtain ⟨u, hu⟩ : ∃ u, sumL x = u := ⟨_, rfl⟩
        rw [hu] at S1 hs
        rw [← hs] at S2
        clear hcs hho hbo hab hxy hs hu
        go_enter Tryd.func7, Tryd.ntmps7
        go_wp2_with fail
        refine (HSh.out _ (al _)).mono ?_
        rintro e w1 ⟨rfl, b1⟩
        have B1 := bel_trans (al _) b1
        go_wp2_with fail
        refine (HC1.out w1 B1).mono ?_
        rintro e w2 ⟨rfl, b2⟩
        have B2 := bel_trans B1 b2
        go_wp2_with fail
        refine (HC2.out w2 B2).mono ?_
        rintro e w3 ⟨rfl, b3⟩
        have B3 := bel_trans B2 b3
        go_wp2_with fail
        refine (HCl.out w3 B3).mono ?_
        rintro e w4 ⟨rfl, b4⟩
        have B4 := bel_trans B3 b4
        simp only [unV]
        go_wp2_with fail
        refine (S1 w4).mono ?_
        rintro e w5 ⟨rfl, b5⟩
        have B5 := bel_trans B4 b5
        go_wp2_with fail
        refine (S2 w5).mono ?_
        rintro e w6 ⟨rfl, b6⟩
        go_wp2_with fail
        go_ret
        exact ⟨rfl, bel_trans B5 b6⟩
      · have i1 : ((k2 : Int) != 0) = true := by rw [bne_iff_ne]; omega
        have i2 : ¬ (k2 : Int) = 0 := by omega
        clear hcs hho hbo hab HCl
        go_enter Tryd.func7, Tryd.ntmps7
        go_wp2_with fail
        refine (HSh.out _ (al _)).mono ?_
        rintro e w1 ⟨rfl, b1⟩
        have B1 := bel_trans (al _) b1
        go_wp2_with fail
        refine (HC1.out w1 B1).mono ?_
        rintro e w2 ⟨rfl, b2⟩
        have B2 := bel_trans B1 b2
        go_wp2_with fail
        refine (HC2.out w2 B2).mono ?_
        rintro e w3 ⟨rfl, b3⟩
        have B3 := bel_trans B2 b3
        go_wp2_with fail
        go_ret
        exact ⟨rfl, B3⟩
    · have i1 : ((k1 : Int) != 0) = true := by rw [bne_iff_ne]; omega
      have i2 : ¬ (k1 : Int) = 0 := by omega
      clear hcs hho hbo hab HCl HC2
      go_enter Tryd.func7, Tryd.ntmps7
      go_wp2_with fail
      refine (HSh.out _ (al _)).mono ?_
      rintro e w1 ⟨rfl, b1⟩
      have B1 := bel_trans (al _) b1
      go_wp2_with fail
      refine (HC1.out w1 B1).mono ?_
      rintro e w2 ⟨rfl, b2⟩
      have B2 := bel_trans B1 b2
      go_wp2_with fail
      go_ret
      exact ⟨rfl, B2⟩
end Go.Proofs.YtlkkdfopecbekaaDoor
