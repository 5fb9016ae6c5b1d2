/-
  What the document's answer of stage 18 says is left, and charges.
-/
import Derived.Test.YthopjpjloeaamaaZMeter18
namespace Go.Proofs.Ythopjpjloeaamaa
set_option maxRecDepth 100000
open Go.RowKit
set_option linter.unusedVariables false
theorem rleft18_any (m : Mt) (now : Int) (w : World) :
    Calls Try.prog 14 #[mtV m, .int .u64 now] w fun e w' => e = .returned (.int .i64 (leftM m now)) ∧ Below w.heap.size w w' := by
  obtain ⟨a, l⟩ := m
  unfold mtV mtC leftM
  simp only
  by_cases h : a < now
  · rw [if_pos h]
    go_enter Try.func14, Try.ntmps14
    go_wp2_with fail
    go_ret
    exact ⟨rfl, mbel1 w _⟩
  · rw [if_neg h]
    go_enter Try.func14, Try.ntmps14
    go_wp2_with fail
    go_ret
    exact ⟨rfl, mbel1 w _⟩
theorem rchg18_any (m : Mt) (now c : Int) (hm : goodM m) (w : World) :
    Calls Try.prog 11 #[mtV m, .int .u64 now, .int .i64 c] w fun e w' => e = .returned (.tuple #[mtV (chgM m now c).1, .int .i64 (chgM m now c).2]) ∧ Below w.heap.size w w' := by
  have hl := leftM_good hm now
  have C := fun W => rleft18_any m now W
  obtain ⟨a, l⟩ := m
  obtain ⟨x, hx⟩ : ∃ x, leftM (a, l) now = x := ⟨_, rfl⟩
  unfold chgM mtV mtC
  unfold mtV mtC at C
  rw [hx] at C hl ⊢
  simp only at C
  clear hm hx
  have hw : ¬ c < 0 → ¬ x < c → wrap64 (x - c) = x - c := fun h1 h2 => by unfold wrap64; omega
  have X0 := SBox.new w 24 #[.int .u64 a, .int .i64 l]
  have X1 := msbox2 w (.cells #[.int .u64 a, .int .i64 l] 24) 24 #[.int .u64 0, .int .i64 0]
  have B := mbel2 w (.cells #[.int .u64 a, .int .i64 l] 24) (.cells #[.int .u64 0, .int .i64 0] 24)
  replace X0 := X0.alloc (.cells #[.int .u64 0, .int .i64 0] 24)
  by_cases h : c < 0
  · rw [if_pos h]
    have c0 := X0.cell 0 _ rfl
    have c1 := X0.cell 1 _ rfl
    have gc0 := X0.frozen 0
    have gc1 := X0.frozen 1
    have e0 := X1.cell 0 _ rfl
    have e1 := X1.cell 1 _ rfl
    have ge0 := X1.frozen 0
    have ge1 := X1.frozen 1
    have n1 := X1.lt
    go_enter Try.func11, Try.ntmps11
    go_wp2_with fail
    exact bodyPost_ret (results_mt2 Try.results11 _ _ (w.heap.size + 1) _ rfl rfl (msbox2 _ _ _ _)) rfl ⟨rfl, mbel2 w _ _⟩
  · rw [if_neg h]
    by_cases h2 : x < c
    · rw [if_pos h2]
      go_enter Try.func11, Try.ntmps11
      go_wp2_with fail
      refine (C _).mono ?_
      rintro e W ⟨rfl, b⟩
      replace X0 := X0.below b
      replace X1 := X1.below b
      replace B := B.trans (b.mono B.size)
      clear b
      have c0 := X0.cell 0 _ rfl
      have c1 := X0.cell 1 _ rfl
      have gc0 := X0.frozen 0
      have gc1 := X0.frozen 1
      have e0 := X1.cell 0 _ rfl
      have e1 := X1.cell 1 _ rfl
      have ge0 := X1.frozen 0
      have ge1 := X1.frozen 1
      have n1 := X1.lt
      go_wp2_with fail
      exact bodyPost_ret (results_mt2 Try.results11 _ _ (w.heap.size + 1) _ rfl rfl (X1.put2 _ _)) rfl ⟨rfl, bel_put2 B (by omega) _ _⟩
    · rw [if_neg h2]
      have hw2 := hw h h2
      by_cases h3 : a < now
      · have h4 : max a now = now := by omega
        simp only [h4]
        go_enter Try.func11, Try.ntmps11
        go_wp2_with fail
        refine (C _).mono ?_
        rintro e W ⟨rfl, b⟩
        replace X0 := X0.below b
        replace X1 := X1.below b
        replace B := B.trans (b.mono B.size)
        clear b
        have c0 := X0.cell 0 _ rfl
        have c1 := X0.cell 1 _ rfl
        have gc0 := X0.frozen 0
        have gc1 := X0.frozen 1
        have e0 := X1.cell 0 _ rfl
        have e1 := X1.cell 1 _ rfl
        have ge0 := X1.frozen 0
        have ge1 := X1.frozen 1
        have n1 := X1.lt
        go_wp2_with fail
        have Y0 := (X0.set 0 (.int .u64 now)).set 1 (.int .i64 (x - c))
        have Y1 := (X1.other w.heap.size 0 (.int .u64 now) (by omega)).other w.heap.size 1 (.int .i64 (x - c)) (by omega)
        exact bodyPost_ret (results_mt2 Try.results11 _ _ (w.heap.size + 1) _ rfl rfl (Y1.put2 _ _)) rfl ⟨rfl, bel_put2 (bel_put2 B (Nat.le_refl _) _ _) (by omega) _ _⟩
      · have h4 : max a now = a := by omega
        simp only [h4]
        go_enter Try.func11, Try.ntmps11
        go_wp2_with fail
        refine (C _).mono ?_
        rintro e W ⟨rfl, b⟩
        replace X0 := X0.below b
        replace X1 := X1.below b
        replace B := B.trans (b.mono B.size)
        clear b
        have c0 := X0.cell 0 _ rfl
        have c1 := X0.cell 1 _ rfl
        have gc0 := X0.frozen 0
        have gc1 := X0.frozen 1
        have e0 := X1.cell 0 _ rfl
        have e1 := X1.cell 1 _ rfl
        have ge0 := X1.frozen 0
        have ge1 := X1.frozen 1
        have n1 := X1.lt
        go_wp2_with fail
        have Y1 := X1.other w.heap.size 1 (.int .i64 (x - c)) (by omega)
        exact bodyPost_ret (results_mt2 Try.results11 _ _ (w.heap.size + 1) _ rfl rfl (Y1.put2 _ _)) rfl ⟨rfl, bel_put2 (B.setCell (p := ⟨w.heap.size, 1, none⟩) (Nat.le_refl _) _) (by omega) _ _⟩
end Go.Proofs.Ythopjpjloeaamaa
