/-
  The walk of MeterZero.
-/
import Derived.Test.YthopjpjloeaamaaZShown18
import Derived.Test.YthopjpjloeaamaaZChg18
import Derived.Test.YthopjpjloeaamaaZFar
namespace Go.Proofs.Ythopjpjloeaamaa
set_option maxRecDepth 100000
open Go.RowKit
set_option linter.unusedVariables false
attribute [local go_sem] ba_size farW_cell
set_option maxHeartbeats 4000000 in
theorem zero18_walk (m : Mt) (now : Int) (hm : goodM m) (w : World) :
    Calls Try.prog 7 #[mtV m, .int .u64 now] w fun e w' => e = .returned (.bool true) ∧ Below w.heap.size w w' := by
  have C1 := fun W => pchg18_any m now 0 hm W
  have C4 := fun W => pleft18_any m now W
  obtain ⟨x, hx⟩ : ∃ x, leftM m now = x := ⟨_, rfl⟩
  by_cases h0 : x < 0
  · have y3 : chgM m now 0 = (m, 12) := by unfold chgM; rw [if_neg (by omega), if_pos (by omega)]
    rw [y3] at C1
    rw [hx] at C4
    obtain ⟨a, l⟩ := m
    unfold mtV mtC at C1 C4 ⊢
    simp only at C1 C4 ⊢
    clear y3 hx hm
    have Q1 : ∀ W : World, Sem.run Try.prog (binOp .eql 24 (.agg #[.int .u64 a, .int .i64 l]) (.agg #[.int .u64 a, .int .i64 l])) W = .ok (.bool true) W := fun W => by rw [run_mteql, decide_eq_true rfl]
    have X := SBox.new w 24 #[.int .u64 a, .int .i64 l]
    have B := mbel1 w (.cells #[.int .u64 a, .int .i64 l] 24)
    go_enter Try.func7, Try.ntmps7
    go_wp2_with fail
    refine (shown18_any _).mono ?_
    rintro e W1 ⟨rfl, b1⟩
    replace X := X.below b1
    replace B := B.trans (b1.mono B.size)
    clear b1
    have c0 := X.cell 0 _ rfl
    have c1 := X.cell 1 _ rfl
    go_wp2_with fail
    refine (C1 _).mono ?_
    rintro e W2 ⟨rfl, b1⟩
    clear c0 c1
    replace X := X.below b1
    replace B := B.trans (b1.mono B.size)
    clear b1 C1
    have Y := SBox.new W2 24 #[.int .u64 a, .int .i64 l]
    replace X := X.alloc (.cells #[.int .u64 a, .int .i64 l] 24)
    replace B := B.alloc B.size (.cells #[.int .u64 a, .int .i64 l] 24)
    have c0 := X.cell 0 _ rfl
    have c1 := X.cell 1 _ rfl
    go_wp2_with fail
    refine (C4 _).mono ?_
    rintro e W3 ⟨rfl, b1⟩
    clear c0 c1
    replace X := X.below b1
    replace Y := Y.below b1
    replace B := B.trans (b1.mono B.size)
    clear b1 C4
    have c0 := X.cell 0 _ rfl
    have c1 := X.cell 1 _ rfl
    have d0 := Y.cell 0 _ rfl
    have d1 := Y.cell 1 _ rfl
    go_wp2_with fail
    go_ret
    exact ⟨rfl, B⟩
  · obtain ⟨a2, ha2⟩ : ∃ a, max m.1 now = a := ⟨_, rfl⟩
    have y3 : chgM m now 0 = ((a2, x), 0) := by unfold chgM; rw [if_neg (by omega), if_neg (by omega), hx, ha2, Int.sub_zero]
    have y4 : leftM (a2, x) now = x := by
      show (if a2 < now then 150 else x) = _
      rw [if_neg (by omega)]
    have C5 := fun W => pleft18_any (a2, x) now W
    rw [y3] at C1
    rw [hx] at C4
    rw [y4] at C5
    obtain ⟨a, l⟩ := m
    unfold mtV mtC at C1 C4 C5 ⊢
    simp only at C1 C4 C5 ⊢
    clear y3 y4 hx ha2 hm
    have CS : ∀ (W : World) (A N v : Value), ((A, N, v) = (.agg #[.int .u64 a2, .int .i64 x], .int .u64 now, .int .i64 x) ∨ (A, N, v) = (.agg #[.int .u64 a, .int .i64 l], .int .u64 now, .int .i64 x)) → Calls Try.prog 13 #[A, N] W fun e w' => e = .returned v ∧ Below W.heap.size W w' := fun W A N v h => by
      simp only [Prod.mk.injEq] at h
      rcases h with ⟨rfl, rfl, rfl⟩ | ⟨rfl, rfl, rfl⟩
      · exact C5 W
      · exact C4 W
    have HC := Lib.hid CS
    clear CS C5
    have g1 : (x == x) = true := by simp
    have X := SBox.new w 24 #[.int .u64 a, .int .i64 l]
    have B := mbel1 w (.cells #[.int .u64 a, .int .i64 l] 24)
    go_enter Try.func7, Try.ntmps7
    go_wp2_with fail
    refine (shown18_any _).mono ?_
    rintro e W1 ⟨rfl, b1⟩
    replace X := X.below b1
    replace B := B.trans (b1.mono B.size)
    clear b1
    have c0 := X.cell 0 _ rfl
    have c1 := X.cell 1 _ rfl
    go_wp2_with fail
    refine (C1 _).mono ?_
    rintro e W2 ⟨rfl, b1⟩
    clear c0 c1
    replace X := X.below b1
    replace B := B.trans (b1.mono B.size)
    clear b1 C1
    have Y := SBox.new W2 24 #[.int .u64 a2, .int .i64 x]
    replace X := X.alloc (.cells #[.int .u64 a2, .int .i64 x] 24)
    replace B := B.alloc B.size (.cells #[.int .u64 a2, .int .i64 x] 24)
    have c0 := X.cell 0 _ rfl
    have c1 := X.cell 1 _ rfl
    go_wp2_with fail
    refine (C4 _).mono ?_
    rintro e W3 ⟨rfl, b1⟩
    clear c0 c1
    replace X := X.below b1
    replace Y := Y.below b1
    replace B := B.trans (b1.mono B.size)
    clear b1 C4
    have c0 := X.cell 0 _ rfl
    have c1 := X.cell 1 _ rfl
    have d0 := Y.cell 0 _ rfl
    have d1 := Y.cell 1 _ rfl
    go_wp2_with fail
    refine region_far (by kernel_rfl) (by kernel_rfl) ?_
    repeat (first | go_big_quiet_skip | (go_big_quiet_want; go_big_quiet_op; first | go_big_quiet_on | go_big_quiet_call (first | (go_at_call 13; refine calls_far (HC.out _ _ _ (.int .i64 x) ?_); exact Or.inl rfl) | (go_at_call 13; refine calls_far (HC.out _ _ _ (.int .i64 x) ?_); exact Or.inr rfl))))
    refine wpQuiet_nil ?_
    rintro w' ⟨U, rfl⟩
    have BZ := B.trans ((farW_bel W3 U).mono B.size)
    generalize farW W3 U = wZ at BZ ⊢
    go_wp2_with fail
    go_ret
    exact ⟨rfl, BZ⟩
end Go.Proofs.Ythopjpjloeaamaa
