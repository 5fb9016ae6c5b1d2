/-
  The walk of TaintShows.
-/
import Derived.Test.YtljgflgfcbmgiaaZShown9
import Derived.Test.YtljgflgfcbmgiaaZR9All
import Derived.Test.YtljgflgfcbmgiaaZR8Life
import Derived.Test.YtljgflgfcbmgiaaZR8Formed
import Derived.Test.YtljgflgfcbmgiaaZBads9d
import Derived.Deep.RegionHeld3
import Derived.BigQuiet
import Derived.Deep.QuietTactic
namespace Go.Proofs.Ytljgflgfcbmgiaa
set_option maxRecDepth 100000
open Go.RowKit
set_option linter.unusedVariables false
attribute [local go_sem] ba_size ba_append ba_get ba_extract
set_option maxHeartbeats 8000000 in
theorem shows9_walk (C : P9C) (w : World) (vh : Value) (h : List Ev) (Th : IsEvs w vh h) (Gh : ∀ x ∈ h, goodE x) (i : Int) (gi : okI i) :
    Calls Try.prog 4 #[vh, .int .i64 i] w fun e w' => e = .returned (.bool true) ∧ Below w.heap.size w w' := by
  have HSh : Hid (∀ W, Below w.heap.size w W → Calls Try.prog 9 #[] W fun e w' => e = .returned (.bool true) ∧ Below W.heap.size W w') := fun W h => shown9_any C W
  have HF : Hid (∀ W, Below w.heap.size w W → Calls Try.prog 10 #[vh] W fun e w' => e = .returned (.bool (decide (h.length ≤ 300))) ∧ Below W.heap.size W w') := fun W hb => few9_any vh h W (Th.below hb)
  have RM : Hid (∀ W, Below w.heap.size w W → Calls Try.prog 19 #[vh] W fun e w' => e = .returned (.tuple #[.int .i64 ((formedL h).1 : Int), .int .i64 ((formedL h).2 : Int)]) ∧ Below W.heap.size W w') := fun W hb => rformed_any h vh W (Th.below hb)
  by_cases h1 : h.length ≤ 300
  · rw [decide_eq_true h1] at HF
    by_cases h2 : (formedL h).2 = 0
    · have hw := (formed_ok h).1 h2
      rw [formed_wf h hw] at RM
      simp only at RM
      have HA : Hid (∀ W, Below w.heap.size w W → Calls Try.prog 15 #[vh, .int .i64 i] W fun e w' => e = .returned (badA (atI h i)) ∧ Below W.heap.size W w') := fun W hb => C.at_ h vh W i (Th.below hb) Gh h1 gi
      have HFi : Hid (∀ t W, Below w.heap.size w W → Calls Try.prog 20 #[vh, .int .i64 t] W fun e w' => e = .returned (.tuple #[lifA (findP h t).1, .bool (findP h t).2]) ∧ Below W.heap.size W w') := fun t W hb => rfind_any h vh W (Th.below hb) t
      by_cases hz : atI h i = (0, 0, 0)
      · rw [hz] at HA
        try simp only at HA
        clear hz hw h2
        obtain ⟨ah, ch, rfl, ih, jh, kh, HCh⟩ := Th.reads
        go_enter Try.func4, Try.ntmps4
        go_wp2_with fail
        refine (HSh.out _ (Below.refl w.heap.size w)).mono ?_
        rintro e w1 ⟨rfl, b1⟩
        have B1 := bel_trans (Below.refl w.heap.size w) b1
        go_wp2_with fail
        refine (HF.out _ B1).mono ?_
        rintro e w2 ⟨rfl, b2⟩
        have B2 := bel_trans B1 b2
        go_wp2_with fail
        refine (RM.out _ B2).mono ?_
        rintro e w3 ⟨rfl, b3⟩
        have B3 := bel_trans B2 b3
        go_wp2_with fail
        refine (HA.out _ B3).mono ?_
        rintro e w4 ⟨rfl, b4⟩
        have B4 := bel_trans B3 b4
        have X_b := SBox.new w4 29 #[.int .i64 0, .int .i64 0, .int .i64 0]
        have B4' := B4.alloc B4.size (.cells #[.int .i64 0, .int .i64 0, .int .i64 0] 29)
        have f_b0_4 := X_b.cell 0 _ rfl
        have f_b1_4 := X_b.cell 1 _ rfl
        have f_b2_4 := X_b.cell 2 _ rfl
        go_wp2_with fail
        go_ret
        exact ⟨rfl, B4'⟩
      · have hi0 : 0 ≤ i := Classical.byContradiction fun hh => hz (by unfold atI; rw [if_neg hh])
        obtain ⟨q, rfl⟩ : ∃ q : Nat, i = (q : Int) := ⟨i.toNat, by omega⟩
        rw [atI_nat] at hz HA
        obtain ⟨j, k, x1, y1, x2, x3, y3, f, e, f', e', c, hq1, hj1, hat, hx, hy, hf, hf', hcase⟩ := shows_all hw q hz
        rw [hat] at HA
        try simp only at HA
        have D1 := fun W hb => HFi.out x1 W hb
        have D2 := fun W hb => HFi.out y1 W hb
        rw [findP_of hf] at D1
        rw [findP_of hf'] at D2
        simp only at D1 D2
        have HX : Hid (ev h q = (2, x1, x2, x3)) := hx
        have HY : Hid (ev h j = (3, y1, x2, y3)) := hy
        have HQ1 : Hid (q < h.length) := hq1
        have HJ1 : Hid (j < h.length) := hj1
        clear hz hw h2 hat hx hy hf hf' HFi hi0
        obtain ⟨ah, ch, rfl, ih, jh, kh, HCh⟩ := Th.reads
        obtain ⟨n, hn⟩ : ∃ n, h.length = n := ⟨_, rfl⟩
        have HN : Hid (h.length = n) := hn
        simp only [hn] at HF RM HA D1 D2 h1 ih kh hq1 hj1 ⊢
        clear hn
        obtain ⟨bb, off, rfl, HQ⟩ := HCh.out (by have := HN.out; omega)
        have j1 : ¬ (n : Int) ≤ (q : Int) := by omega
        have j2 : ¬ n ≤ q := by omega
        have j3 : ¬ (q : Int) < 0 := by omega
        have k1 : ¬ (n : Int) ≤ (j : Int) := by omega
        have k2 : ¬ n ≤ j := by omega
        have k3 : ¬ (j : Int) < 0 := by omega
        have ex : (x2 != x2) = false := by simp
        have eq1 : ((q : Int) != (q : Int)) = false := by simp
        rcases hcase with ⟨rfl, rfl, rfl, hne⟩ | ⟨rfl, rfl, hv, hne⟩ | ⟨rfl, rfl, hjq, hv⟩ | ⟨rfl, rfl, hjq, rfl⟩
        · have e1 : (y3 == y3) = true := beq_self_eq_true _
          have e2 : (y1 != x1) = true := by simpa using hne
          have e3 : (y1 == x1) = false := beq_eq_false_iff_ne.2 hne
          clear hne
          go_enter Try.func4, Try.ntmps4
          go_wp2_with fail
          refine (HSh.out _ (Below.refl w.heap.size w)).mono ?_
          rintro e w1 ⟨rfl, b1⟩
          have B1 := bel_trans (Below.refl w.heap.size w) b1
          go_wp2_with fail
          refine (HF.out _ B1).mono ?_
          rintro e w2 ⟨rfl, b2⟩
          have B2 := bel_trans B1 b2
          go_wp2_with fail
          refine (RM.out _ B2).mono ?_
          rintro e w3 ⟨rfl, b3⟩
          have B3 := bel_trans B2 b3
          go_wp2_with fail
          refine (HA.out _ B3).mono ?_
          rintro e w4 ⟨rfl, b4⟩
          have B4 := bel_trans B3 b4
          have X_b := SBox.new w4 29 #[.int .i64 1, .int .i64 (q : Int), .int .i64 (j : Int)]
          have B4' := B4.alloc B4.size (.cells #[.int .i64 1, .int .i64 (q : Int), .int .i64 (j : Int)] 29)
          have f_b0_4 := X_b.cell 0 _ rfl
          have f_b1_4 := X_b.cell 1 _ rfl
          have f_b2_4 := X_b.cell 2 _ rfl
          obtain ⟨s0_4, s1_4, s2_4, s3_4⟩ := HQ.out q HQ1.out _ B4'
          rw [HX.out] at s0_4 s1_4 s2_4 s3_4
          simp only at s0_4 s1_4 s2_4 s3_4
          obtain ⟨t0_4, t1_4, t2_4, t3_4⟩ := HQ.out j HJ1.out _ B4'
          rw [HY.out] at t0_4 t1_4 t2_4 t3_4
          simp only at t0_4 t1_4 t2_4 t3_4
          go_wp2_with fail
          go_quiet (fail)
          clear f_b0_4 f_b1_4 f_b2_4 s0_4 s1_4 s2_4 s3_4 t0_4 t1_4 t2_4 t3_4
          generalize hV : World.drewN _ _ = V
          have BV : Below w.heap.size w V := by rw [← hV]; exact below_drewN B4' _
          replace X_b : SBox V w4.heap.size 29 #[.int .i64 1, .int .i64 (q : Int), .int .i64 (j : Int)] := by rw [← hV]; exact X_b.below (below_drewN (Below.refl _ _) _)
          clear hV
          have f_b0_5 := X_b.cell 0 _ rfl
          have f_b1_5 := X_b.cell 1 _ rfl
          have f_b2_5 := X_b.cell 2 _ rfl
          obtain ⟨s0_5, s1_5, s2_5, s3_5⟩ := HQ.out q HQ1.out _ BV
          rw [HX.out] at s0_5 s1_5 s2_5 s3_5
          simp only at s0_5 s1_5 s2_5 s3_5
          obtain ⟨t0_5, t1_5, t2_5, t3_5⟩ := HQ.out j HJ1.out _ BV
          rw [HY.out] at t0_5 t1_5 t2_5 t3_5
          simp only at t0_5 t1_5 t2_5 t3_5
          go_wp2_with fail
          refine (D1 _ BV).mono ?_
          rintro e w6 ⟨rfl, b6⟩
          have B6 := bel_trans BV b6
          clear f_b0_5 f_b1_5 f_b2_5 s0_5 s1_5 s2_5 s3_5 t0_5 t1_5 t2_5 t3_5
          replace X_b := X_b.below b6
          replace X_b := X_b.alloc (.cells #[.int .i64 x1, .int .i64 (f : Int), .int .i64 (e : Int), .bool true] 39)
          have X_m := SBox.new w6 39 #[.int .i64 x1, .int .i64 (f : Int), .int .i64 (e : Int), .bool true]
          have B6' := B6.alloc B6.size (.cells #[.int .i64 x1, .int .i64 (f : Int), .int .i64 (e : Int), .bool true] 39)
          have f_b0_6 := X_b.cell 0 _ rfl
          have f_b1_6 := X_b.cell 1 _ rfl
          have f_b2_6 := X_b.cell 2 _ rfl
          have f_m0_6 := X_m.cell 0 _ rfl
          have f_m1_6 := X_m.cell 1 _ rfl
          have f_m2_6 := X_m.cell 2 _ rfl
          have f_m3_6 := X_m.cell 3 _ rfl
          obtain ⟨s0_6, s1_6, s2_6, s3_6⟩ := HQ.out q HQ1.out _ B6'
          rw [HX.out] at s0_6 s1_6 s2_6 s3_6
          simp only at s0_6 s1_6 s2_6 s3_6
          obtain ⟨t0_6, t1_6, t2_6, t3_6⟩ := HQ.out j HJ1.out _ B6'
          rw [HY.out] at t0_6 t1_6 t2_6 t3_6
          simp only at t0_6 t1_6 t2_6 t3_6
          go_wp2_with fail
          refine (D2 _ B6').mono ?_
          rintro e w7 ⟨rfl, b7⟩
          have B7 := bel_trans B6' b7
          clear f_b0_6 f_b1_6 f_b2_6 f_m0_6 f_m1_6 f_m2_6 f_m3_6 s0_6 s1_6 s2_6 s3_6 t0_6 t1_6 t2_6 t3_6
          replace X_b := X_b.below b7
          replace X_m := X_m.below b7
          replace X_b := X_b.alloc (.cells #[.int .i64 y1, .int .i64 (f' : Int), .int .i64 (e' : Int), .bool false] 39)
          replace X_m := X_m.alloc (.cells #[.int .i64 y1, .int .i64 (f' : Int), .int .i64 (e' : Int), .bool false] 39)
          have X_z := SBox.new w7 39 #[.int .i64 y1, .int .i64 (f' : Int), .int .i64 (e' : Int), .bool false]
          have B7' := B7.alloc B7.size (.cells #[.int .i64 y1, .int .i64 (f' : Int), .int .i64 (e' : Int), .bool false] 39)
          have f_b0_7 := X_b.cell 0 _ rfl
          have f_b1_7 := X_b.cell 1 _ rfl
          have f_b2_7 := X_b.cell 2 _ rfl
          have f_m0_7 := X_m.cell 0 _ rfl
          have f_m1_7 := X_m.cell 1 _ rfl
          have f_m2_7 := X_m.cell 2 _ rfl
          have f_m3_7 := X_m.cell 3 _ rfl
          have f_z0_7 := X_z.cell 0 _ rfl
          have f_z1_7 := X_z.cell 1 _ rfl
          have f_z2_7 := X_z.cell 2 _ rfl
          have f_z3_7 := X_z.cell 3 _ rfl
          obtain ⟨s0_7, s1_7, s2_7, s3_7⟩ := HQ.out q HQ1.out _ B7'
          rw [HX.out] at s0_7 s1_7 s2_7 s3_7
          simp only at s0_7 s1_7 s2_7 s3_7
          obtain ⟨t0_7, t1_7, t2_7, t3_7⟩ := HQ.out j HJ1.out _ B7'
          rw [HY.out] at t0_7 t1_7 t2_7 t3_7
          simp only at t0_7 t1_7 t2_7 t3_7
          go_wp2_with fail
          go_quiet (fail)
          go_wp2_with fail
          go_ret
          exact ⟨rfl, below_drewN B7' _⟩
        · have e1 : (y3 != x3) = true := by simpa using hv
          have e0 : (y3 == x3) = false := beq_eq_false_iff_ne.2 hv
          have e2 : (y1 != x1) = true := by simpa using hne
          have e3 : (y1 == x1) = false := beq_eq_false_iff_ne.2 hne
          clear hne hv
          go_enter Try.func4, Try.ntmps4
          go_wp2_with fail
          refine (HSh.out _ (Below.refl w.heap.size w)).mono ?_
          rintro e w1 ⟨rfl, b1⟩
          have B1 := bel_trans (Below.refl w.heap.size w) b1
          go_wp2_with fail
          refine (HF.out _ B1).mono ?_
          rintro e w2 ⟨rfl, b2⟩
          have B2 := bel_trans B1 b2
          go_wp2_with fail
          refine (RM.out _ B2).mono ?_
          rintro e w3 ⟨rfl, b3⟩
          have B3 := bel_trans B2 b3
          go_wp2_with fail
          refine (HA.out _ B3).mono ?_
          rintro e w4 ⟨rfl, b4⟩
          have B4 := bel_trans B3 b4
          have X_b := SBox.new w4 29 #[.int .i64 2, .int .i64 (q : Int), .int .i64 (j : Int)]
          have B4' := B4.alloc B4.size (.cells #[.int .i64 2, .int .i64 (q : Int), .int .i64 (j : Int)] 29)
          have f_b0_4 := X_b.cell 0 _ rfl
          have f_b1_4 := X_b.cell 1 _ rfl
          have f_b2_4 := X_b.cell 2 _ rfl
          obtain ⟨s0_4, s1_4, s2_4, s3_4⟩ := HQ.out q HQ1.out _ B4'
          rw [HX.out] at s0_4 s1_4 s2_4 s3_4
          simp only at s0_4 s1_4 s2_4 s3_4
          obtain ⟨t0_4, t1_4, t2_4, t3_4⟩ := HQ.out j HJ1.out _ B4'
          rw [HY.out] at t0_4 t1_4 t2_4 t3_4
          simp only at t0_4 t1_4 t2_4 t3_4
          go_wp2_with fail
          go_quiet (fail)
          clear f_b0_4 f_b1_4 f_b2_4 s0_4 s1_4 s2_4 s3_4 t0_4 t1_4 t2_4 t3_4
          generalize hV : World.drewN _ _ = V
          have BV : Below w.heap.size w V := by rw [← hV]; exact below_drewN B4' _
          replace X_b : SBox V w4.heap.size 29 #[.int .i64 2, .int .i64 (q : Int), .int .i64 (j : Int)] := by rw [← hV]; exact X_b.below (below_drewN (Below.refl _ _) _)
          clear hV
          have f_b0_5 := X_b.cell 0 _ rfl
          have f_b1_5 := X_b.cell 1 _ rfl
          have f_b2_5 := X_b.cell 2 _ rfl
          obtain ⟨s0_5, s1_5, s2_5, s3_5⟩ := HQ.out q HQ1.out _ BV
          rw [HX.out] at s0_5 s1_5 s2_5 s3_5
          simp only at s0_5 s1_5 s2_5 s3_5
          obtain ⟨t0_5, t1_5, t2_5, t3_5⟩ := HQ.out j HJ1.out _ BV
          rw [HY.out] at t0_5 t1_5 t2_5 t3_5
          simp only at t0_5 t1_5 t2_5 t3_5
          go_wp2_with fail
          refine (D1 _ BV).mono ?_
          rintro e w6 ⟨rfl, b6⟩
          have B6 := bel_trans BV b6
          clear f_b0_5 f_b1_5 f_b2_5 s0_5 s1_5 s2_5 s3_5 t0_5 t1_5 t2_5 t3_5
          replace X_b := X_b.below b6
          replace X_b := X_b.alloc (.cells #[.int .i64 x1, .int .i64 (f : Int), .int .i64 (e : Int), .bool true] 39)
          have X_m := SBox.new w6 39 #[.int .i64 x1, .int .i64 (f : Int), .int .i64 (e : Int), .bool true]
          have B6' := B6.alloc B6.size (.cells #[.int .i64 x1, .int .i64 (f : Int), .int .i64 (e : Int), .bool true] 39)
          have f_b0_6 := X_b.cell 0 _ rfl
          have f_b1_6 := X_b.cell 1 _ rfl
          have f_b2_6 := X_b.cell 2 _ rfl
          have f_m0_6 := X_m.cell 0 _ rfl
          have f_m1_6 := X_m.cell 1 _ rfl
          have f_m2_6 := X_m.cell 2 _ rfl
          have f_m3_6 := X_m.cell 3 _ rfl
          obtain ⟨s0_6, s1_6, s2_6, s3_6⟩ := HQ.out q HQ1.out _ B6'
          rw [HX.out] at s0_6 s1_6 s2_6 s3_6
          simp only at s0_6 s1_6 s2_6 s3_6
          obtain ⟨t0_6, t1_6, t2_6, t3_6⟩ := HQ.out j HJ1.out _ B6'
          rw [HY.out] at t0_6 t1_6 t2_6 t3_6
          simp only at t0_6 t1_6 t2_6 t3_6
          go_wp2_with fail
          refine (D2 _ B6').mono ?_
          rintro e w7 ⟨rfl, b7⟩
          have B7 := bel_trans B6' b7
          clear f_b0_6 f_b1_6 f_b2_6 f_m0_6 f_m1_6 f_m2_6 f_m3_6 s0_6 s1_6 s2_6 s3_6 t0_6 t1_6 t2_6 t3_6
          replace X_b := X_b.below b7
          replace X_m := X_m.below b7
          replace X_b := X_b.alloc (.cells #[.int .i64 y1, .int .i64 (f' : Int), .int .i64 (e' : Int), .bool true] 39)
          replace X_m := X_m.alloc (.cells #[.int .i64 y1, .int .i64 (f' : Int), .int .i64 (e' : Int), .bool true] 39)
          have X_z := SBox.new w7 39 #[.int .i64 y1, .int .i64 (f' : Int), .int .i64 (e' : Int), .bool true]
          have B7' := B7.alloc B7.size (.cells #[.int .i64 y1, .int .i64 (f' : Int), .int .i64 (e' : Int), .bool true] 39)
          have f_b0_7 := X_b.cell 0 _ rfl
          have f_b1_7 := X_b.cell 1 _ rfl
          have f_b2_7 := X_b.cell 2 _ rfl
          have f_m0_7 := X_m.cell 0 _ rfl
          have f_m1_7 := X_m.cell 1 _ rfl
          have f_m2_7 := X_m.cell 2 _ rfl
          have f_m3_7 := X_m.cell 3 _ rfl
          have f_z0_7 := X_z.cell 0 _ rfl
          have f_z1_7 := X_z.cell 1 _ rfl
          have f_z2_7 := X_z.cell 2 _ rfl
          have f_z3_7 := X_z.cell 3 _ rfl
          obtain ⟨s0_7, s1_7, s2_7, s3_7⟩ := HQ.out q HQ1.out _ B7'
          rw [HX.out] at s0_7 s1_7 s2_7 s3_7
          simp only at s0_7 s1_7 s2_7 s3_7
          obtain ⟨t0_7, t1_7, t2_7, t3_7⟩ := HQ.out j HJ1.out _ B7'
          rw [HY.out] at t0_7 t1_7 t2_7 t3_7
          simp only at t0_7 t1_7 t2_7 t3_7
          go_wp2_with fail
          go_quiet (fail)
          go_wp2_with fail
          go_ret
          exact ⟨rfl, below_drewN B7' _⟩
        · have e1 : (y3 != x3) = true := by simpa using hv
          have e0 : (y3 == x3) = false := beq_eq_false_iff_ne.2 hv
          have e2 : (y1 == y1) = true := beq_self_eq_true _
          have e4 : (j : Int) < (q : Int) := by omega
          clear hv
          go_enter Try.func4, Try.ntmps4
          go_wp2_with fail
          refine (HSh.out _ (Below.refl w.heap.size w)).mono ?_
          rintro e w1 ⟨rfl, b1⟩
          have B1 := bel_trans (Below.refl w.heap.size w) b1
          go_wp2_with fail
          refine (HF.out _ B1).mono ?_
          rintro e w2 ⟨rfl, b2⟩
          have B2 := bel_trans B1 b2
          go_wp2_with fail
          refine (RM.out _ B2).mono ?_
          rintro e w3 ⟨rfl, b3⟩
          have B3 := bel_trans B2 b3
          go_wp2_with fail
          refine (HA.out _ B3).mono ?_
          rintro e w4 ⟨rfl, b4⟩
          have B4 := bel_trans B3 b4
          have X_b := SBox.new w4 29 #[.int .i64 3, .int .i64 (q : Int), .int .i64 (j : Int)]
          have B4' := B4.alloc B4.size (.cells #[.int .i64 3, .int .i64 (q : Int), .int .i64 (j : Int)] 29)
          have f_b0_4 := X_b.cell 0 _ rfl
          have f_b1_4 := X_b.cell 1 _ rfl
          have f_b2_4 := X_b.cell 2 _ rfl
          obtain ⟨s0_4, s1_4, s2_4, s3_4⟩ := HQ.out q HQ1.out _ B4'
          rw [HX.out] at s0_4 s1_4 s2_4 s3_4
          simp only at s0_4 s1_4 s2_4 s3_4
          obtain ⟨t0_4, t1_4, t2_4, t3_4⟩ := HQ.out j HJ1.out _ B4'
          rw [HY.out] at t0_4 t1_4 t2_4 t3_4
          simp only at t0_4 t1_4 t2_4 t3_4
          go_wp2_with fail
          go_quiet (fail)
          clear f_b0_4 f_b1_4 f_b2_4 s0_4 s1_4 s2_4 s3_4 t0_4 t1_4 t2_4 t3_4
          generalize hV : World.drewN _ _ = V
          have BV : Below w.heap.size w V := by rw [← hV]; exact below_drewN B4' _
          replace X_b : SBox V w4.heap.size 29 #[.int .i64 3, .int .i64 (q : Int), .int .i64 (j : Int)] := by rw [← hV]; exact X_b.below (below_drewN (Below.refl _ _) _)
          clear hV
          have f_b0_5 := X_b.cell 0 _ rfl
          have f_b1_5 := X_b.cell 1 _ rfl
          have f_b2_5 := X_b.cell 2 _ rfl
          obtain ⟨s0_5, s1_5, s2_5, s3_5⟩ := HQ.out q HQ1.out _ BV
          rw [HX.out] at s0_5 s1_5 s2_5 s3_5
          simp only at s0_5 s1_5 s2_5 s3_5
          obtain ⟨t0_5, t1_5, t2_5, t3_5⟩ := HQ.out j HJ1.out _ BV
          rw [HY.out] at t0_5 t1_5 t2_5 t3_5
          simp only at t0_5 t1_5 t2_5 t3_5
          go_wp2_with fail
          refine (D1 _ BV).mono ?_
          rintro e w6 ⟨rfl, b6⟩
          have B6 := bel_trans BV b6
          clear f_b0_5 f_b1_5 f_b2_5 s0_5 s1_5 s2_5 s3_5 t0_5 t1_5 t2_5 t3_5
          replace X_b := X_b.below b6
          replace X_b := X_b.alloc (.cells #[.int .i64 y1, .int .i64 (f : Int), .int .i64 (e : Int), .bool true] 39)
          have X_m := SBox.new w6 39 #[.int .i64 y1, .int .i64 (f : Int), .int .i64 (e : Int), .bool true]
          have B6' := B6.alloc B6.size (.cells #[.int .i64 y1, .int .i64 (f : Int), .int .i64 (e : Int), .bool true] 39)
          have f_b0_6 := X_b.cell 0 _ rfl
          have f_b1_6 := X_b.cell 1 _ rfl
          have f_b2_6 := X_b.cell 2 _ rfl
          have f_m0_6 := X_m.cell 0 _ rfl
          have f_m1_6 := X_m.cell 1 _ rfl
          have f_m2_6 := X_m.cell 2 _ rfl
          have f_m3_6 := X_m.cell 3 _ rfl
          obtain ⟨s0_6, s1_6, s2_6, s3_6⟩ := HQ.out q HQ1.out _ B6'
          rw [HX.out] at s0_6 s1_6 s2_6 s3_6
          simp only at s0_6 s1_6 s2_6 s3_6
          obtain ⟨t0_6, t1_6, t2_6, t3_6⟩ := HQ.out j HJ1.out _ B6'
          rw [HY.out] at t0_6 t1_6 t2_6 t3_6
          simp only at t0_6 t1_6 t2_6 t3_6
          go_wp2_with fail
          refine (D2 _ B6').mono ?_
          rintro e w7 ⟨rfl, b7⟩
          have B7 := bel_trans B6' b7
          clear f_b0_6 f_b1_6 f_b2_6 f_m0_6 f_m1_6 f_m2_6 f_m3_6 s0_6 s1_6 s2_6 s3_6 t0_6 t1_6 t2_6 t3_6
          replace X_b := X_b.below b7
          replace X_m := X_m.below b7
          replace X_b := X_b.alloc (.cells #[.int .i64 y1, .int .i64 (f' : Int), .int .i64 (e' : Int), .bool c] 39)
          replace X_m := X_m.alloc (.cells #[.int .i64 y1, .int .i64 (f' : Int), .int .i64 (e' : Int), .bool c] 39)
          have X_z := SBox.new w7 39 #[.int .i64 y1, .int .i64 (f' : Int), .int .i64 (e' : Int), .bool c]
          have B7' := B7.alloc B7.size (.cells #[.int .i64 y1, .int .i64 (f' : Int), .int .i64 (e' : Int), .bool c] 39)
          have f_b0_7 := X_b.cell 0 _ rfl
          have f_b1_7 := X_b.cell 1 _ rfl
          have f_b2_7 := X_b.cell 2 _ rfl
          have f_m0_7 := X_m.cell 0 _ rfl
          have f_m1_7 := X_m.cell 1 _ rfl
          have f_m2_7 := X_m.cell 2 _ rfl
          have f_m3_7 := X_m.cell 3 _ rfl
          have f_z0_7 := X_z.cell 0 _ rfl
          have f_z1_7 := X_z.cell 1 _ rfl
          have f_z2_7 := X_z.cell 2 _ rfl
          have f_z3_7 := X_z.cell 3 _ rfl
          obtain ⟨s0_7, s1_7, s2_7, s3_7⟩ := HQ.out q HQ1.out _ B7'
          rw [HX.out] at s0_7 s1_7 s2_7 s3_7
          simp only at s0_7 s1_7 s2_7 s3_7
          obtain ⟨t0_7, t1_7, t2_7, t3_7⟩ := HQ.out j HJ1.out _ B7'
          rw [HY.out] at t0_7 t1_7 t2_7 t3_7
          simp only at t0_7 t1_7 t2_7 t3_7
          go_wp2_with fail
          go_quiet (fail)
          go_wp2_with fail
          go_ret
          exact ⟨rfl, below_drewN B7' _⟩
        · have e1 : (y3 == y3) = true := beq_self_eq_true _
          have e2 : (y1 == y1) = true := beq_self_eq_true _
          have e4 : (q : Int) < (j : Int) := by omega
          go_enter Try.func4, Try.ntmps4
          go_wp2_with fail
          refine (HSh.out _ (Below.refl w.heap.size w)).mono ?_
          rintro e w1 ⟨rfl, b1⟩
          have B1 := bel_trans (Below.refl w.heap.size w) b1
          go_wp2_with fail
          refine (HF.out _ B1).mono ?_
          rintro e w2 ⟨rfl, b2⟩
          have B2 := bel_trans B1 b2
          go_wp2_with fail
          refine (RM.out _ B2).mono ?_
          rintro e w3 ⟨rfl, b3⟩
          have B3 := bel_trans B2 b3
          go_wp2_with fail
          refine (HA.out _ B3).mono ?_
          rintro e w4 ⟨rfl, b4⟩
          have B4 := bel_trans B3 b4
          have X_b := SBox.new w4 29 #[.int .i64 4, .int .i64 (q : Int), .int .i64 (j : Int)]
          have B4' := B4.alloc B4.size (.cells #[.int .i64 4, .int .i64 (q : Int), .int .i64 (j : Int)] 29)
          have f_b0_4 := X_b.cell 0 _ rfl
          have f_b1_4 := X_b.cell 1 _ rfl
          have f_b2_4 := X_b.cell 2 _ rfl
          obtain ⟨s0_4, s1_4, s2_4, s3_4⟩ := HQ.out q HQ1.out _ B4'
          rw [HX.out] at s0_4 s1_4 s2_4 s3_4
          simp only at s0_4 s1_4 s2_4 s3_4
          obtain ⟨t0_4, t1_4, t2_4, t3_4⟩ := HQ.out j HJ1.out _ B4'
          rw [HY.out] at t0_4 t1_4 t2_4 t3_4
          simp only at t0_4 t1_4 t2_4 t3_4
          go_wp2_with fail
          go_quiet (fail)
          clear f_b0_4 f_b1_4 f_b2_4 s0_4 s1_4 s2_4 s3_4 t0_4 t1_4 t2_4 t3_4
          generalize hV : World.drewN _ _ = V
          have BV : Below w.heap.size w V := by rw [← hV]; exact below_drewN B4' _
          replace X_b : SBox V w4.heap.size 29 #[.int .i64 4, .int .i64 (q : Int), .int .i64 (j : Int)] := by rw [← hV]; exact X_b.below (below_drewN (Below.refl _ _) _)
          clear hV
          have f_b0_5 := X_b.cell 0 _ rfl
          have f_b1_5 := X_b.cell 1 _ rfl
          have f_b2_5 := X_b.cell 2 _ rfl
          obtain ⟨s0_5, s1_5, s2_5, s3_5⟩ := HQ.out q HQ1.out _ BV
          rw [HX.out] at s0_5 s1_5 s2_5 s3_5
          simp only at s0_5 s1_5 s2_5 s3_5
          obtain ⟨t0_5, t1_5, t2_5, t3_5⟩ := HQ.out j HJ1.out _ BV
          rw [HY.out] at t0_5 t1_5 t2_5 t3_5
          simp only at t0_5 t1_5 t2_5 t3_5
          go_wp2_with fail
          refine (D1 _ BV).mono ?_
          rintro e w6 ⟨rfl, b6⟩
          have B6 := bel_trans BV b6
          clear f_b0_5 f_b1_5 f_b2_5 s0_5 s1_5 s2_5 s3_5 t0_5 t1_5 t2_5 t3_5
          replace X_b := X_b.below b6
          replace X_b := X_b.alloc (.cells #[.int .i64 y1, .int .i64 (f : Int), .int .i64 (e : Int), .bool true] 39)
          have X_m := SBox.new w6 39 #[.int .i64 y1, .int .i64 (f : Int), .int .i64 (e : Int), .bool true]
          have B6' := B6.alloc B6.size (.cells #[.int .i64 y1, .int .i64 (f : Int), .int .i64 (e : Int), .bool true] 39)
          have f_b0_6 := X_b.cell 0 _ rfl
          have f_b1_6 := X_b.cell 1 _ rfl
          have f_b2_6 := X_b.cell 2 _ rfl
          have f_m0_6 := X_m.cell 0 _ rfl
          have f_m1_6 := X_m.cell 1 _ rfl
          have f_m2_6 := X_m.cell 2 _ rfl
          have f_m3_6 := X_m.cell 3 _ rfl
          obtain ⟨s0_6, s1_6, s2_6, s3_6⟩ := HQ.out q HQ1.out _ B6'
          rw [HX.out] at s0_6 s1_6 s2_6 s3_6
          simp only at s0_6 s1_6 s2_6 s3_6
          obtain ⟨t0_6, t1_6, t2_6, t3_6⟩ := HQ.out j HJ1.out _ B6'
          rw [HY.out] at t0_6 t1_6 t2_6 t3_6
          simp only at t0_6 t1_6 t2_6 t3_6
          go_wp2_with fail
          refine (D2 _ B6').mono ?_
          rintro e w7 ⟨rfl, b7⟩
          have B7 := bel_trans B6' b7
          clear f_b0_6 f_b1_6 f_b2_6 f_m0_6 f_m1_6 f_m2_6 f_m3_6 s0_6 s1_6 s2_6 s3_6 t0_6 t1_6 t2_6 t3_6
          replace X_b := X_b.below b7
          replace X_m := X_m.below b7
          replace X_b := X_b.alloc (.cells #[.int .i64 y1, .int .i64 (f' : Int), .int .i64 (e' : Int), .bool c] 39)
          replace X_m := X_m.alloc (.cells #[.int .i64 y1, .int .i64 (f' : Int), .int .i64 (e' : Int), .bool c] 39)
          have X_z := SBox.new w7 39 #[.int .i64 y1, .int .i64 (f' : Int), .int .i64 (e' : Int), .bool c]
          have B7' := B7.alloc B7.size (.cells #[.int .i64 y1, .int .i64 (f' : Int), .int .i64 (e' : Int), .bool c] 39)
          have f_b0_7 := X_b.cell 0 _ rfl
          have f_b1_7 := X_b.cell 1 _ rfl
          have f_b2_7 := X_b.cell 2 _ rfl
          have f_m0_7 := X_m.cell 0 _ rfl
          have f_m1_7 := X_m.cell 1 _ rfl
          have f_m2_7 := X_m.cell 2 _ rfl
          have f_m3_7 := X_m.cell 3 _ rfl
          have f_z0_7 := X_z.cell 0 _ rfl
          have f_z1_7 := X_z.cell 1 _ rfl
          have f_z2_7 := X_z.cell 2 _ rfl
          have f_z3_7 := X_z.cell 3 _ rfl
          obtain ⟨s0_7, s1_7, s2_7, s3_7⟩ := HQ.out q HQ1.out _ B7'
          rw [HX.out] at s0_7 s1_7 s2_7 s3_7
          simp only at s0_7 s1_7 s2_7 s3_7
          obtain ⟨t0_7, t1_7, t2_7, t3_7⟩ := HQ.out j HJ1.out _ B7'
          rw [HY.out] at t0_7 t1_7 t2_7 t3_7
          simp only at t0_7 t1_7 t2_7 t3_7
          go_wp2_with fail
          go_quiet (fail)
          go_wp2_with fail
          go_ret
          exact ⟨rfl, below_drewN B7' _⟩
    · obtain ⟨⟨f1, f2⟩, hf⟩ : ∃ y, formedL h = y := ⟨_, rfl⟩
      rw [hf] at RM h2
      simp only at RM h2
      have j2 : ((f2 : Int) != 0) = true := by rw [bne_iff_ne]; omega
      clear hf h2
      obtain ⟨ah, ch, rfl, ih, jh, kh, HCh⟩ := Th.reads
      go_enter Try.func4, Try.ntmps4
      go_wp2_with fail
      refine (HSh.out _ (Below.refl w.heap.size w)).mono ?_
      rintro e w1 ⟨rfl, b1⟩
      have B1 := bel_trans (Below.refl w.heap.size w) b1
      go_wp2_with fail
      refine (HF.out _ B1).mono ?_
      rintro e w2 ⟨rfl, b2⟩
      have B2 := bel_trans B1 b2
      go_wp2_with fail
      refine (RM.out _ B2).mono ?_
      rintro e w3 ⟨rfl, b3⟩
      have B3 := bel_trans B2 b3
      go_wp2_with fail
      go_ret
      exact ⟨rfl, B3⟩
  · obtain ⟨⟨f1, f2⟩, hf⟩ : ∃ y, formedL h = y := ⟨_, rfl⟩
    rw [hf] at RM
    simp only at RM
    clear hf
    rw [decide_eq_false h1] at HF
    obtain ⟨ah, ch, rfl, ih, jh, kh, HCh⟩ := Th.reads
    go_enter Try.func4, Try.ntmps4
    go_wp2_with fail
    refine (HSh.out _ (Below.refl w.heap.size w)).mono ?_
    rintro e w1 ⟨rfl, b1⟩
    have B1 := bel_trans (Below.refl w.heap.size w) b1
    go_wp2_with fail
    refine (HF.out _ B1).mono ?_
    rintro e w2 ⟨rfl, b2⟩
    have B2 := bel_trans B1 b2
    go_wp2_with fail
    refine (RM.out _ B2).mono ?_
    rintro e w3 ⟨rfl, b3⟩
    have B3 := bel_trans B2 b3
    go_wp2_with fail
    go_ret
    exact ⟨rfl, B3⟩
end Go.Proofs.Ytljgflgfcbmgiaa
