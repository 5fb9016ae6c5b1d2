/-
  Passes in lists, more: what is taken apart, as a function answers it; what a key gives.
-/
import Derived.Test.YtihggfkenhkglaaDoorGA
import Derived.Test.YtihggfkenhkglaaDoorZP2Keyed
namespace Go.Proofs.YtihggfkenhkglaaDoor
set_option maxRecDepth 100000
set_option linter.unusedVariables false
theorem takeNumL_bd (l : List UInt8) : (Lm.takeNumL l).1 < 18446744073709551616 ∧ (Lm.takeNumL l).2.1.length ≤ l.length := by
  rcases hx : Lm.takeNumL l with ⟨y, r, e⟩
  by_cases he : e = 0
  · subst he
    obtain ⟨h1, h2⟩ := Lm.num_take l y r hx
    refine ⟨h2, ?_⟩
    rw [← h1]
    simp
  · cases l with
    | nil => rw [Lm.takeNumL] at hx; cases hx; simp
    | cons n q =>
      rw [Lm.takeNumL] at hx
      split at hx
      · cases hx; simp
      · split at hx
        · cases hx; simp
        · split at hx
          · cases hx; simp
          · cases hx; exact absurd rfl he
theorem takeText_16 (s : List UInt8) (h : (Lm.takeTextL s 16).2.2 = 0) : (Lm.takeTextL s 16).1.length ≤ 16 := by
  unfold Lm.takeTextL at h ⊢
  by_cases h1 : (Lm.takeLenL s 16).2.2 ≠ 0
  · rw [if_pos h1]; simp
  · rw [if_neg h1] at h ⊢
    by_cases h2 : (Lm.takeLenL s 16).2.1.length < (Lm.takeLenL s 16).1
    · rw [if_pos h2]; simp
    · rw [if_neg h2]
      have : (Lm.takeLenL s 16).1 ≤ 16 := by
        unfold Lm.takeLenL at h1 ⊢
        by_cases g1 : (Lm.sizeL s).2.2 ≠ 0
        · rw [if_pos g1]; simp
        · rw [if_neg g1] at h1 ⊢
          by_cases g2 : (16 : Int) < ((Lm.sizeL s).1 : Int)
          · rw [if_pos g2]; simp
          · rw [if_neg g2]; omega
      simp
      omega
/-- What Take answers. -/
def takeR (s : List UInt8) : List UInt8 × Nat × List UInt8 × Nat :=
  match takeP s with
  | none => ([], 0, [], 3)
  | some (t, u, v) => (t, u, v, 0)
theorem takeR_bad1 (s : List UInt8) (h : (Lm.takeTextL s 16).2.2 ≠ 0 ∨ (Lm.takeTextL s 16).1.length = 0) : takeR s = ([], 0, [], 3) := by
  unfold takeR takeP; rw [if_pos h]
theorem takeR_bad2 (s : List UInt8) (h : (Lm.takeNumL (Lm.takeTextL s 16).2.1).2.2 ≠ 0 ∨ (Lm.takeNumL (Lm.takeTextL s 16).2.1).2.1.length ≠ 32) : takeR s = ([], 0, [], 3) := by
  unfold takeR takeP
  by_cases h1 : (Lm.takeTextL s 16).2.2 ≠ 0 ∨ (Lm.takeTextL s 16).1.length = 0
  · rw [if_pos h1]
  · rw [if_neg h1, if_pos h]
theorem takeR_good (s : List UInt8) (h1 : (Lm.takeTextL s 16).2.2 = 0) (h2 : 1 ≤ (Lm.takeTextL s 16).1.length) (h3 : (Lm.takeNumL (Lm.takeTextL s 16).2.1).2.2 = 0) (h4 : (Lm.takeNumL (Lm.takeTextL s 16).2.1).2.1.length = 32) : takeR s = ((Lm.takeTextL s 16).1, (Lm.takeNumL (Lm.takeTextL s 16).2.1).1, (Lm.takeNumL (Lm.takeTextL s 16).2.1).2.1, 0) := by
  unfold takeR takeP
  rw [if_neg (by omega), if_neg (by omega)]
/-- What is taken: bounds. -/
theorem takeP_bd (s t v : List UInt8) (u : Nat) (h : takeP s = some (t, u, v)) : mayT t ∧ u < 18446744073709551616 ∧ v.length = 32 := by
  have h1 := takeP_seal s t v u h
  unfold takeP at h
  by_cases g1 : (Lm.takeTextL s 16).2.2 ≠ 0 ∨ (Lm.takeTextL s 16).1.length = 0
  · rw [if_pos g1] at h; cases h
  · rw [if_neg g1] at h
    by_cases g2 : (Lm.takeNumL (Lm.takeTextL s 16).2.1).2.2 ≠ 0 ∨ (Lm.takeNumL (Lm.takeTextL s 16).2.1).2.1.length ≠ 32
    · rw [if_pos g2] at h; cases h
    · rw [if_neg g2] at h
      have b := takeText_16 s (by omega)
      have c := takeNumL_bd (Lm.takeTextL s 16).2.1
      simp only [Option.some.injEq, Prod.mk.injEq] at h
      obtain ⟨rfl, rfl, rfl⟩ := h
      exact ⟨⟨h1.2.1, b⟩, c.1, h1.1⟩
/-- What Keyed answers. -/
def keyP (k s : List UInt8) : List UInt8 × Nat := if mayK k then (keyL k s, 0) else ([], 1)
theorem keyL_32 (k s : List UInt8) : (keyL k s).length = 32 := by unfold keyL; exact fl_len _ _
end Go.Proofs.YtihggfkenhkglaaDoor
