/-
  What edges.Holds answers, of whatever edge.
-/
import Derived.Test.YteehpkkkagdckaaZP10HoldsA
namespace Go.Proofs.Yteehpkkkagdckaa
set_option maxRecDepth 100000
open Go.RowKit Go.Maps
set_option linter.unusedVariables false
attribute [local go_sem] ba_size
theorem hold_place (h : List Ev) (k f t I J : Int) (hh : holdsL h (k, f, t, I, J)) : (0 ≤ I ∧ I < (h.length : Int)) ∧ (0 ≤ J ∧ J < (h.length : Int)) ∧ f ≠ t := by
  obtain ⟨a', b', i', j', q1, q2, q3, q4, q5, q6, q7, _⟩ := hh
  simp only at q3 q4 q5
  exact ⟨by omega, by omega, q3⟩
set_option maxHeartbeats 4000000 in
theorem pholds_any (h : List Ev) (v : Value) (w : World) (k f t I J : Int) (hT : IsEvs w v h) :
    Calls Try.prog 18 #[v, .agg #[.int .i64 k, .int .i64 f, .int .i64 t, .int .i64 I, .int .i64 J]] w fun e w' => e = .returned (.bool (holdsC h (k, f, t, I, J))) ∧ Below w.heap.size w w' := by
  by_cases hI : 0 ≤ I ∧ I < (h.length : Int)
  · by_cases hJ : 0 ≤ J ∧ J < (h.length : Int)
    · by_cases hft : f = t
      · rw [hold_no h _ (fun hh => (hold_place h _ _ _ _ _ hh).2.2 hft)]
        subst hft
        obtain ⟨a, cap, rfl, _⟩ := hT.some_at
        have CI := fun W => pplace_any a h.length cap I W
        have CJ := fun W => pplace_any a h.length cap J W
        rw [decide_eq_true hI] at CI
        rw [decide_eq_true hJ] at CJ
        obtain ⟨n, hn⟩ : ∃ n, h.length = n := ⟨_, rfl⟩
        rw [hn] at CI CJ ⊢
        clear hn hT hI hJ
        have X0 := SBox.new w 24 #[.int .i64 k, .int .i64 f, .int .i64 f, .int .i64 I, .int .i64 J]
        have B0 := (Below.refl w.heap.size w).alloc (Nat.le_refl _) (.cells #[.int .i64 k, .int .i64 f, .int .i64 f, .int .i64 I, .int .i64 J] 24)
        have c1 := X0.cell 1 _ rfl
        have c2 := X0.cell 2 _ rfl
        have c3 := X0.cell 3 _ rfl
        have c4 := X0.cell 4 _ rfl
        clear X0
        go_enter Try.func18, Try.ntmps18
        go_wp2_with fail
        refine (CI _).mono ?_
        rintro e1 w1 ⟨rfl, rfl⟩
        go_wp2_with fail
        refine (CJ _).mono ?_
        rintro e1 w1 ⟨rfl, rfl⟩
        go_wp2_with fail
        go_ret
        exact ⟨rfl, B0⟩
      · obtain ⟨i, rfl⟩ : ∃ i : Nat, I = (i : Int) := ⟨I.toNat, by omega⟩
        obtain ⟨j, rfl⟩ : ∃ j : Nat, J = (j : Int) := ⟨J.toNat, by omega⟩
        exact pholds_in h v w k f t i j hT (by omega) (by omega) hft
    · rw [hold_no h _ (fun hh => hJ (hold_place h _ _ _ _ _ hh).2.1)]
      obtain ⟨a, cap, rfl, _⟩ := hT.some_at
      have CI := fun W => pplace_any a h.length cap I W
      have CJ := fun W => pplace_any a h.length cap J W
      rw [decide_eq_true hI] at CI
      rw [decide_eq_false hJ] at CJ
      obtain ⟨n, hn⟩ : ∃ n, h.length = n := ⟨_, rfl⟩
      rw [hn] at CI CJ ⊢
      clear hn hT hI hJ
      have X0 := SBox.new w 24 #[.int .i64 k, .int .i64 f, .int .i64 t, .int .i64 I, .int .i64 J]
      have B0 := (Below.refl w.heap.size w).alloc (Nat.le_refl _) (.cells #[.int .i64 k, .int .i64 f, .int .i64 t, .int .i64 I, .int .i64 J] 24)
      have c1 := X0.cell 1 _ rfl
      have c2 := X0.cell 2 _ rfl
      have c3 := X0.cell 3 _ rfl
      have c4 := X0.cell 4 _ rfl
      clear X0
      go_enter Try.func18, Try.ntmps18
      go_wp2_with fail
      refine (CI _).mono ?_
      rintro e1 w1 ⟨rfl, rfl⟩
      go_wp2_with fail
      refine (CJ _).mono ?_
      rintro e1 w1 ⟨rfl, rfl⟩
      go_wp2_with fail
      go_ret
      exact ⟨rfl, B0⟩
  · rw [hold_no h _ (fun hh => hI (hold_place h _ _ _ _ _ hh).1)]
    obtain ⟨a, cap, rfl, _⟩ := hT.some_at
    have CI := fun W => pplace_any a h.length cap I W
    rw [decide_eq_false hI] at CI
    obtain ⟨n, hn⟩ : ∃ n, h.length = n := ⟨_, rfl⟩
    rw [hn] at CI ⊢
    clear hn hT hI
    have X0 := SBox.new w 24 #[.int .i64 k, .int .i64 f, .int .i64 t, .int .i64 I, .int .i64 J]
    have B0 := (Below.refl w.heap.size w).alloc (Nat.le_refl _) (.cells #[.int .i64 k, .int .i64 f, .int .i64 t, .int .i64 I, .int .i64 J] 24)
    have c1 := X0.cell 1 _ rfl
    have c2 := X0.cell 2 _ rfl
    have c3 := X0.cell 3 _ rfl
    have c4 := X0.cell 4 _ rfl
    clear X0
    go_enter Try.func18, Try.ntmps18
    go_wp2_with fail
    refine (CI _).mono ?_
    rintro e1 w1 ⟨rfl, rfl⟩
    go_wp2_with fail
    go_ret
    exact ⟨rfl, B0⟩
end Go.Proofs.Yteehpkkkagdckaa
