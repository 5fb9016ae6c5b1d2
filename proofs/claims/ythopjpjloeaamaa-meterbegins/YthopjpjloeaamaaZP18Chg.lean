/-
  What meter.Full, Left and Charge answer.
-/
import Derived.Test.YthopjpjloeaamaaZMeter18
namespace Go.Proofs.Ythopjpjloeaamaa
set_option maxRecDepth 100000
open Go.RowKit
set_option linter.unusedVariables false
theorem pfull18_any (now : Int) (w : World) :
    Calls Try.prog 12 #[.int .u64 now] w fun e w' => e = .returned (mtV (now, 150)) ∧ Below w.heap.size w w' := by
  unfold mtV mtC
  go_enter Try.func12, Try.ntmps12
  go_wp2_with fail
  exact bodyPost_ret (results_mt Try.results12 _ _ w.heap.size _ rfl rfl (SBox.new w _ _)) rfl ⟨rfl, mbel1 w _⟩
theorem pleft18_any (m : Mt) (now : Int) (w : World) :
    Calls Try.prog 13 #[mtV m, .int .u64 now] w fun e w' => e = .returned (.int .i64 (leftM m now)) ∧ Below w.heap.size w w' := by
  obtain ⟨a, l⟩ := m
  unfold mtV mtC leftM
  simp only
  by_cases h : a < now
  · rw [if_pos h]
    go_enter Try.func13, Try.ntmps13
    go_wp2_with fail
    go_ret
    exact ⟨rfl, mbel1 w _⟩
  · rw [if_neg h]
    go_enter Try.func13, Try.ntmps13
    go_wp2_with fail
    go_ret
    exact ⟨rfl, mbel1 w _⟩
theorem pchg18_any (m : Mt) (now c : Int) (hm : goodM m) (w : World) :
    Calls Try.prog 10 #[mtV m, .int .u64 now, .int .i64 c] w fun e w' => e = .returned (.tuple #[mtV (chgM m now c).1, .int .i64 (chgM m now c).2]) ∧ Below w.heap.size w w' := by
  have hl := leftM_good hm now
  have C := fun W => pleft18_any m now W
  obtain ⟨a, l⟩ := m
  obtain ⟨x, hx⟩ : ∃ x, leftM (a, l) now = x := ⟨_, rfl⟩
  unfold chgM mtV mtC
  unfold mtV mtC at C
  rw [hx] at C hl ⊢
  simp only at C
  clear hm hx
  have hw : ¬ c < 0 → ¬ x < c → wrap64 (x - c) = x - c := fun h1 h2 => by unfold wrap64; omega
  have X0 := SBox.new w 24 #[.int .u64 a, .int .i64 l]
  have X1 := msbox2 w (.cells #[.int .u64 a, .int .i64 l] 24) 24 #[.int .u64 0, .int .i64 0]
  have B := mbel2 w (.cells #[.int .u64 a, .int .i64 l] 24) (.cells #[.int .u64 0, .int .i64 0] 24)
  replace X0 := X0.alloc (.cells #[.int .u64 0, .int .i64 0] 24)
  by_cases h : c < 0
  · rw [if_pos h]
    go_enter Try.func10, Try.ntmps10
    go_wp2_with fail
    refine (C _).mono ?_
    rintro e W ⟨rfl, b⟩
    replace X0 := X0.below b
    replace X1 := X1.below b
    replace B := B.trans (b.mono B.size)
    have c0 := X0.cell 0 _ rfl
    have c1 := X0.cell 1 _ rfl
    have e0 := X1.cell 0 _ rfl
    have e1 := X1.cell 1 _ rfl
    have f0 := X1.frozen 0
    have f1 := X1.frozen 1
    have n0 := X1.lt
    go_wp2_with fail
    exact bodyPost_ret (results_mt2 Try.results10 _ _ (w.heap.size + 1) _ rfl rfl (X1.put2 _ _)) rfl ⟨rfl, bel_put2 B (by omega) _ _⟩
  · rw [if_neg h]
    by_cases h2 : x < c
    · rw [if_pos h2]
      go_enter Try.func10, Try.ntmps10
      go_wp2_with fail
      refine (C _).mono ?_
      rintro e W ⟨rfl, b⟩
      replace X0 := X0.below b
      replace X1 := X1.below b
      replace B := B.trans (b.mono B.size)
      have c0 := X0.cell 0 _ rfl
      have c1 := X0.cell 1 _ rfl
      have e0 := X1.cell 0 _ rfl
      have e1 := X1.cell 1 _ rfl
      have f0 := X1.frozen 0
      have f1 := X1.frozen 1
      have n0 := X1.lt
      go_wp2_with fail
      exact bodyPost_ret (results_mt2 Try.results10 _ _ (w.heap.size + 1) _ rfl rfl (X1.put2 _ _)) rfl ⟨rfl, bel_put2 B (by omega) _ _⟩
    · rw [if_neg h2]
      go_enter Try.func10, Try.ntmps10
      go_wp2_with fail
      refine (C _).mono ?_
      rintro e W ⟨rfl, b⟩
      replace X0 := X0.below b
      replace X1 := X1.below b
      replace B := B.trans (b.mono B.size)
      have c0 := X0.cell 0 _ rfl
      have c1 := X0.cell 1 _ rfl
      have e0 := X1.cell 0 _ rfl
      have e1 := X1.cell 1 _ rfl
      have f0 := X1.frozen 0
      have f1 := X1.frozen 1
      have n0 := X1.lt
      have hw2 := hw h h2
      go_wp2_with fail
      all_goals exact bodyPost_ret (results_mt2 Try.results10 _ _ (w.heap.size + 1) _ rfl rfl (X1.put2 _ _)) rfl ⟨by simp; omega, bel_put2 B (by omega) _ _⟩
end Go.Proofs.Ythopjpjloeaamaa
