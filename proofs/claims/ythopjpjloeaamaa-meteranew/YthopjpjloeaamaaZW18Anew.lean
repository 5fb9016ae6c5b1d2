/-
  The walk of MeterAnew.
-/
import Derived.Test.YthopjpjloeaamaaZShown18
import Derived.Test.YthopjpjloeaamaaZChg18
import Derived.Test.YthopjpjloeaamaaZFar
namespace Go.Proofs.Ythopjpjloeaamaa
set_option maxRecDepth 100000
open Go.RowKit
set_option linter.unusedVariables false
attribute [local go_sem] ba_size farW_cell
set_option maxHeartbeats 4000000 in
theorem anew18_walk (m : Mt) (now c : Int) (hnow : 0 ≤ now ∧ now ≤ 18446744073709551615) (hm : goodM m) (w : World) :
    Calls Try.prog 6 #[mtV m, .int .u64 now, .int .i64 c] w fun e w' => e = .returned (.bool true) ∧ Below w.heap.size w w' := by
  by_cases h0 : (chgM m now c).2 = 0
  · obtain ⟨y1, y2, y3, y4⟩ := chg_yes h0
    have C1 := fun W => pchg18_any m now c hm W
    have C4 := fun W => pleft18_any m now W
    have C5 := fun W => pleft18_any (max m.1 now, leftM m now - c) now W
    have C6 := fun W => pleft18_any (max m.1 now, leftM m now - c) (max m.1 now + 1) W
    have y5 : leftM (max m.1 now, leftM m now - c) (max m.1 now + 1) = 150 := by
      show (if max m.1 now < max m.1 now + 1 then 150 else leftM m now - c) = _
      rw [if_pos (by omega)]
    rw [y3] at C1
    rw [y4] at C5
    rw [y5] at C6
    clear y3 y4 y5 h0
    have hl := leftM_good hm now
    have hm1 := hm.1
    obtain ⟨a2, ha2⟩ : ∃ a, max m.1 now = a := ⟨_, rfl⟩
    have hr : 0 ≤ a2 ∧ a2 ≤ 18446744073709551615 := by omega
    rw [ha2] at C1 C5 C6
    obtain ⟨x, hx⟩ : ∃ x, leftM m now = x := ⟨_, rfl⟩
    rw [hx] at C1 C4 C5 C6 hl y2
    obtain ⟨a, l⟩ := m
    clear hx ha2 hm hm1
    unfold mtV mtC at C1 C4 C5 C6 ⊢
    simp only at C1 C4 C5 C6 ⊢
    obtain ⟨l2, hl2⟩ : ∃ y, x - c = y := ⟨_, rfl⟩
    have z1 : wrap64 (x - c) = l2 := by rw [← hl2]; unfold wrap64; omega
    rw [hl2] at C1 C5 C6
    clear hl2 hl y1 y2
    have CS : ∀ (W : World) (A N v : Value), ((A, N, v) = (.agg #[.int .u64 a2, .int .i64 l2], .int .u64 now, .int .i64 l2) ∨ (A, N, v) = (.agg #[.int .u64 a, .int .i64 l], .int .u64 now, .int .i64 x) ∨ (A, N, v) = (.agg #[.int .u64 a2, .int .i64 l2], .int .u64 (a2 + 1), .int .i64 150)) → Calls Try.prog 13 #[A, N] W fun e w' => e = .returned v ∧ Below W.heap.size W w' := fun W A N v h => by
      simp only [Prod.mk.injEq] at h
      rcases h with ⟨rfl, rfl, rfl⟩ | ⟨rfl, rfl, rfl⟩ | ⟨rfl, rfl, rfl⟩
      · exact C5 W
      · exact C4 W
      · exact C6 W
    clear C4 C5 C6
    have HC := Lib.hid CS
    clear CS
    have g1 : (l2 == l2) = true := by simp
    have X := SBox.new w 24 #[.int .u64 a, .int .i64 l]
    have B := mbel1 w (.cells #[.int .u64 a, .int .i64 l] 24)
    by_cases hg : a2 = 18446744073709551615
    · have g3 : (a2 == 18446744073709551615) = true := by rw [hg]; rfl
      clear hg
      go_enter Try.func6, Try.ntmps6
      go_wp2_with fail
      refine (shown18_any _).mono ?_
      rintro e W1 ⟨rfl, b1⟩
      replace X := X.below b1
      replace B := B.trans (b1.mono B.size)
      clear b1
      have c0 := X.cell 0 _ rfl
      have c1 := X.cell 1 _ rfl
      go_wp2_with fail
      refine (C1 _).mono ?_
      rintro e W2 ⟨rfl, b1⟩
      clear c0 c1
      replace X := X.below b1
      replace B := B.trans (b1.mono B.size)
      clear b1 C1
      have Y := SBox.new W2 24 #[.int .u64 a2, .int .i64 l2]
      replace X := X.alloc (.cells #[.int .u64 a2, .int .i64 l2] 24)
      replace B := B.alloc B.size (.cells #[.int .u64 a2, .int .i64 l2] 24)
      have c0 := X.cell 0 _ rfl
      have c1 := X.cell 1 _ rfl
      have d0 := Y.cell 0 _ rfl
      have d1 := Y.cell 1 _ rfl
      go_wp2_with fail
      refine region_far (by kernel_rfl) (by kernel_rfl) ?_
      repeat (first | go_big_quiet_skip | (go_big_quiet_want; go_big_quiet_op; first | go_big_quiet_on | go_big_quiet_call (first | (go_at_call 13; refine calls_far (HC.out _ _ _ (.int .i64 l2) ?_); exact Or.inl rfl) | (go_at_call 13; refine calls_far (HC.out _ _ _ (.int .i64 x) ?_); exact Or.inr (Or.inl rfl)) | (go_at_call 13; refine calls_far (HC.out _ _ _ (.int .i64 150) ?_); exact Or.inr (Or.inr rfl)))))
      refine wpQuiet_nil ?_
      rintro w' ⟨U, rfl⟩
      have BZ := B.trans ((farW_bel (W2.alloc (.cells #[.int .u64 a2, .int .i64 l2] 24)) U).mono B.size)
      generalize farW (W2.alloc (.cells #[.int .u64 a2, .int .i64 l2] 24)) U = wZ at BZ ⊢
      go_wp2_with fail
      go_ret
      exact ⟨rfl, BZ⟩
    · have g3 : (a2 == 18446744073709551615) = false := beq_eq_false_iff_ne.2 hg
      have g4 : a2 + 1 ≤ 18446744073709551615 := by omega
      clear hg
      go_enter Try.func6, Try.ntmps6
      go_wp2_with fail
      refine (shown18_any _).mono ?_
      rintro e W1 ⟨rfl, b1⟩
      replace X := X.below b1
      replace B := B.trans (b1.mono B.size)
      clear b1
      have c0 := X.cell 0 _ rfl
      have c1 := X.cell 1 _ rfl
      go_wp2_with fail
      refine (C1 _).mono ?_
      rintro e W2 ⟨rfl, b1⟩
      clear c0 c1
      replace X := X.below b1
      replace B := B.trans (b1.mono B.size)
      clear b1 C1
      have Y := SBox.new W2 24 #[.int .u64 a2, .int .i64 l2]
      replace X := X.alloc (.cells #[.int .u64 a2, .int .i64 l2] 24)
      replace B := B.alloc B.size (.cells #[.int .u64 a2, .int .i64 l2] 24)
      have c0 := X.cell 0 _ rfl
      have c1 := X.cell 1 _ rfl
      have d0 := Y.cell 0 _ rfl
      have d1 := Y.cell 1 _ rfl
      go_wp2_with fail
      refine region_far (by kernel_rfl) (by kernel_rfl) ?_
      repeat (first | go_big_quiet_skip | (go_big_quiet_want; go_big_quiet_op; first | go_big_quiet_on | go_big_quiet_call (first | (go_at_call 13; refine calls_far (HC.out _ _ _ (.int .i64 l2) ?_); exact Or.inl rfl) | (go_at_call 13; refine calls_far (HC.out _ _ _ (.int .i64 x) ?_); exact Or.inr (Or.inl rfl)) | (go_at_call 13; refine calls_far (HC.out _ _ _ (.int .i64 150) ?_); exact Or.inr (Or.inr rfl)))))
      refine wpQuiet_nil ?_
      rintro w' ⟨U, rfl⟩
      have BZ := B.trans ((farW_bel (W2.alloc (.cells #[.int .u64 a2, .int .i64 l2] 24)) U).mono B.size)
      generalize farW (W2.alloc (.cells #[.int .u64 a2, .int .i64 l2] 24)) U = wZ at BZ ⊢
      go_wp2_with fail
      go_ret
      exact ⟨rfl, BZ⟩
  · have y3 := chg_no h0
    have C1 := fun W => pchg18_any m now c hm W
    obtain ⟨e2, he2⟩ : ∃ e, (chgM m now c).2 = e := ⟨_, rfl⟩
    rw [y3, he2] at C1
    rw [he2] at h0
    obtain ⟨a, l⟩ := m
    unfold mtV mtC at C1 ⊢
    simp only at C1 ⊢
    have g1 : (e2 != 0) = true := bne_iff_ne.2 h0
    clear y3 he2 h0 hm
    have Q1 : ∀ W : World, Sem.run Try.prog (binOp .eql 24 (.agg #[.int .u64 a, .int .i64 l]) (.agg #[.int .u64 a, .int .i64 l])) W = .ok (.bool true) W := fun W => by rw [run_mteql, decide_eq_true rfl]
    have X := SBox.new w 24 #[.int .u64 a, .int .i64 l]
    have B := mbel1 w (.cells #[.int .u64 a, .int .i64 l] 24)
    go_enter Try.func6, Try.ntmps6
    go_wp2_with fail
    refine (shown18_any _).mono ?_
    rintro e W1 ⟨rfl, b1⟩
    replace X := X.below b1
    replace B := B.trans (b1.mono B.size)
    clear b1
    have c0 := X.cell 0 _ rfl
    have c1 := X.cell 1 _ rfl
    go_wp2_with fail
    refine (C1 _).mono ?_
    rintro e W2 ⟨rfl, b1⟩
    clear c0 c1
    replace X := X.below b1
    replace B := B.trans (b1.mono B.size)
    clear b1 C1
    have Y := SBox.new W2 24 #[.int .u64 a, .int .i64 l]
    replace X := X.alloc (.cells #[.int .u64 a, .int .i64 l] 24)
    replace B := B.alloc B.size (.cells #[.int .u64 a, .int .i64 l] 24)
    have c0 := X.cell 0 _ rfl
    have c1 := X.cell 1 _ rfl
    have d0 := Y.cell 0 _ rfl
    have d1 := Y.cell 1 _ rfl
    go_wp2_with fail
    go_ret
    exact ⟨rfl, B⟩
end Go.Proofs.Ythopjpjloeaamaa
