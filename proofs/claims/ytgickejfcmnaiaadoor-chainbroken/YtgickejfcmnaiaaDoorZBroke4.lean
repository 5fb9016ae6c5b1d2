/-
  A link of a row set anew, as cells: of no program.
-/
import Derived.Test.YtgickejfcmnaiaaDoorZGrow4
namespace Go.Proofs.YtgickejfcmnaiaaDoor
set_option maxRecDepth 100000
open Go.RowKit
set_option linter.unusedVariables false
theorem lnkV_set : ∀ (L : List Lk) (i : Nat) (h : i < L.length) (r : List UInt8), (lnkV L).set (i * 2) (.string ⟨r.toArray⟩) = lnkV (L.set i (r, L[i].2))
  | [], i, h, r => by simp at h
  | x :: L, 0, h, r => rfl
  | x :: L, i + 1, h, r => by
    rw [show (i + 1) * 2 = (i * 2 + 1) + 1 by omega, lnkV, List.set_cons_succ, List.set_cons_succ, lnkV_set L i (by simp at h; omega) r, List.set_cons_succ]
    rfl
theorem lnk_cells_at {w : World} {b0 off0 : Nat} {L : List Lk} (HC : ∀ k (h : k < L.length), ∃ b off, some (⟨b0, off0, none⟩ : Addr) = some ⟨b, off, none⟩ ∧ b < w.heap.size ∧ w.cell? ⟨b, off + k * 2, none⟩ = some (.string ⟨L[k].1.toArray⟩) ∧ w.cell? ⟨b, off + k * 2 + 1, none⟩ = some (.string ⟨L[k].2.toArray⟩)) : ∀ j u, (lnkV L)[j]? = some u → w.cell? ⟨b0, off0 + j, none⟩ = some u := by
  intro j u hu
  have hj : j < L.length * 2 := by
    have := (List.getElem?_eq_some_iff.1 hu).1
    rw [lnkV_length] at this; exact this
  obtain ⟨k, hk⟩ : ∃ k, j / 2 = k := ⟨_, rfl⟩
  have hkl : k < L.length := by omega
  obtain ⟨b, off, had, hlt, hc1, hc2⟩ := HC k hkl
  obtain ⟨rfl, rfl⟩ : b0 = b ∧ off0 = off := by simpa using had
  have g := lnkV_get L k hkl
  have h2 : j = k * 2 ∨ j = k * 2 + 1 := by omega
  rcases h2 with rfl | rfl
  · rw [g.1] at hu
    cases hu
    exact hc1
  · rw [g.2] at hu
    cases hu
    exact hc2
end Go.Proofs.YtgickejfcmnaiaaDoor
