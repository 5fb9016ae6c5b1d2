/-
  The walk of MeterCharges.
-/
import Derived.Test.YthopjpjloeaamaaZShown18
import Derived.Test.YthopjpjloeaamaaZR18Chg
import Derived.Test.YthopjpjloeaamaaZFar
namespace Go.Proofs.Ythopjpjloeaamaa
set_option maxRecDepth 100000
open Go.RowKit
set_option linter.unusedVariables false
attribute [local go_sem] ba_size farW_cell
set_option maxHeartbeats 4000000 in
theorem charges18_walk (m : Mt) (now c : Int) (hm : goodM m) (w : World) :
    Calls Try.prog 3 #[mtV m, .int .u64 now, .int .i64 c] w fun e w' => e = .returned (.bool true) ∧ Below w.heap.size w w' := by
  have C1 := fun W => pchg18_any m now c hm W
  have C2 := fun W => rchg18_any m now c hm W
  have C3 := fun W => pfull18_any now W
  have C4 := fun W => pleft18_any m now W
  have C5 := fun W => rleft18_any m now W
  obtain ⟨x, hx⟩ : ∃ x, leftM m now = x := ⟨_, rfl⟩
  obtain ⟨⟨⟨a2, l2⟩, e2⟩, hy⟩ : ∃ x, chgM m now c = x := ⟨_, rfl⟩
  rw [hx] at C4 C5
  rw [hy] at C1 C2
  obtain ⟨a, l⟩ := m
  unfold mtV mtC at C1 C2 C3 C4 C5 ⊢
  simp only at C1 C2 C3 C4 C5 ⊢
  clear hx hy hm
  have Q1 : ∀ W : World, Sem.run Try.prog (binOp .eql 24 (.agg #[.int .u64 a2, .int .i64 l2]) (.agg #[.int .u64 a2, .int .i64 l2])) W = .ok (.bool true) W := fun W => by rw [run_mteql, decide_eq_true rfl]
  have Q2 : ∀ W : World, Sem.run Try.prog (binOp .eql 24 (.agg #[.int .u64 now, .int .i64 150]) (.agg #[.int .u64 now, .int .i64 150])) W = .ok (.bool true) W := fun W => by rw [run_mteql, decide_eq_true rfl]
  have g2 : (e2 == e2) = true := by simp
  have g3 : (x == x) = true := by simp
  have X := SBox.new w 24 #[.int .u64 a, .int .i64 l]
  have B := mbel1 w (.cells #[.int .u64 a, .int .i64 l] 24)
  go_enter Try.func3, Try.ntmps3
  go_wp2_with fail
  refine (shown18_any _).mono ?_
  rintro e W1 ⟨rfl, b1⟩
  replace X := X.below b1
  replace B := B.trans (b1.mono B.size)
  clear b1
  have c0 := X.cell 0 _ rfl
  have c1 := X.cell 1 _ rfl
  go_wp2_with fail
  refine (C1 _).mono ?_
  rintro e W2 ⟨rfl, b1⟩
  clear c0 c1
  replace X := X.below b1
  replace B := B.trans (b1.mono B.size)
  clear b1 C1
  have Y := SBox.new W2 24 #[.int .u64 a2, .int .i64 l2]
  replace X := X.alloc (.cells #[.int .u64 a2, .int .i64 l2] 24)
  replace B := B.alloc B.size (.cells #[.int .u64 a2, .int .i64 l2] 24)
  have c0 := X.cell 0 _ rfl
  have c1 := X.cell 1 _ rfl
  go_wp2_with fail
  refine (C2 _).mono ?_
  rintro e W3 ⟨rfl, b1⟩
  clear c0 c1
  replace X := X.below b1
  replace Y := Y.below b1
  replace B := B.trans (b1.mono B.size)
  clear b1 C2
  have Z := SBox.new W3 24 #[.int .u64 a2, .int .i64 l2]
  replace X := X.alloc (.cells #[.int .u64 a2, .int .i64 l2] 24)
  replace Y := Y.alloc (.cells #[.int .u64 a2, .int .i64 l2] 24)
  replace B := B.alloc B.size (.cells #[.int .u64 a2, .int .i64 l2] 24)
  go_wp2_with fail
  refine (C3 _).mono ?_
  rintro e W4 ⟨rfl, b1⟩
  replace X := X.below b1
  replace Y := Y.below b1
  replace Z := Z.below b1
  replace B := B.trans (b1.mono B.size)
  clear b1 C3
  have c0 := X.cell 0 _ rfl
  have c1 := X.cell 1 _ rfl
  have d0 := Y.cell 0 _ rfl
  have d1 := Y.cell 1 _ rfl
  have z0 := Z.cell 0 _ rfl
  have z1 := Z.cell 1 _ rfl
  go_wp2_with fail
  refine region_far (by kernel_rfl) (by kernel_rfl) ?_
  repeat (first | go_big_quiet_skip | (go_big_quiet_want; go_big_quiet_op; first | go_big_quiet_on | go_big_quiet_call (first | (go_at_call 13; exact calls_far (C4 _)) | (go_at_call 14; exact calls_far (C5 _)))))
  refine wpQuiet_nil ?_
  rintro w' ⟨U, rfl⟩
  have BZ := B.trans ((farW_bel W4 U).mono B.size)
  generalize farW W4 U = wZ at BZ ⊢
  go_wp2_with fail
  go_ret
  exact ⟨rfl, BZ⟩
end Go.Proofs.Ythopjpjloeaamaa
