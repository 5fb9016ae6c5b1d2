/-
  Rows of steps, cut and joined: of no program.
-/
import Derived.Test.YtpfpkpaodlmlaaaGF
namespace Go.Proofs.Ytpfpkpaodlmlaaa
set_option maxRecDepth 100000
open Go.RowKit
set_option linter.unusedVariables false
theorem IsRec.cut {α : Type} {sz : Nat} {enc : α → List Value} {w : World} {b off cap : Nat} {L : List α} (h : IsRec sz enc w (.slice (some ⟨b, off, none⟩) L.length cap) L) (i j : Nat) (hij : i ≤ j) (hj : j ≤ L.length) : IsRec sz enc w (.slice (some ⟨b, off + i * sz, none⟩) (j - i) (cap - i)) ((L.drop i).take (j - i)) := by
  obtain ⟨a', n, c, hv, h1, h2, h3, h4, h6⟩ := h
  obtain ⟨rfl, rfl, rfl⟩ : a' = some ⟨b, off, none⟩ ∧ n = L.length ∧ c = cap := by simpa [eq_comm] using hv
  refine ⟨_, _, _, rfl, by rw [List.length_take, List.length_drop]; omega, by omega, by omega, by omega, ?_⟩
  rcases h6 with h6 | ⟨b', off', ha, hlt, hc⟩
  · exact .inl (by omega)
  · obtain ⟨rfl, rfl⟩ : b = b' ∧ off = off' := by simpa using ha
    by_cases h0 : j - i = 0
    · exact .inl h0
    · refine .inr ⟨b, off + i * sz, rfl, hlt, fun k hk y u hu => ?_⟩
      rw [List.length_take, List.length_drop] at hk
      rw [List.getElem_take, List.getElem_drop] at hu
      have := hc (i + k) (by omega) y u hu
      rw [Nat.add_mul, ← Nat.add_assoc] at this
      exact this
theorem StOf.drop {W : World} {L' : List SVt} {L : List Stp} (h : StOf W L' L) (k : Nat) : StOf W (L'.drop k) (L.drop k) := ⟨by rw [List.length_drop, List.length_drop, h.1], fun i x s hx hs => by
  rw [List.getElem?_drop] at hx hs
  exact h.2 _ x s hx hs⟩
theorem StOf.first {W : World} {L' : List SVt} {L : List Stp} (h : StOf W L' L) (k : Nat) : StOf W (L'.take k) (L.take k) := ⟨by rw [List.length_take, List.length_take, h.1], fun i x s hx hs => by
  rw [List.getElem?_take] at hx hs
  split at hx
  · rename_i hi
    rw [if_pos hi] at hs
    exact h.2 i x s hx hs
  · cases hx⟩
theorem StOf.join {W : World} {L' M' : List SVt} {L M : List Stp} (h : StOf W L' L) (k : StOf W M' M) : StOf W (L' ++ M') (L ++ M) := ⟨by rw [List.length_append, List.length_append, h.1, k.1], fun i x s hx hs => by
  rcases Nat.lt_or_ge i L'.length with hi | hi
  · rw [List.getElem?_append_left hi] at hx
    rw [List.getElem?_append_left (by rw [← h.1]; exact hi)] at hs
    exact h.2 i x s hx hs
  · rw [List.getElem?_append_right hi] at hx
    rw [List.getElem?_append_right (by rw [← h.1]; exact hi), ← h.1] at hs
    exact k.2 _ x s hx hs⟩
theorem IsSts.cut {w : World} {b off cap n : Nat} {L : List Stp} (h : IsSts w (.slice (some ⟨b, off, none⟩) n cap) L) (hn : L.length = n) (i j : Nat) (hij : i ≤ j) (hj : j ≤ n) : IsSts w (.slice (some ⟨b, off + i * 3, none⟩) (j - i) (cap - i)) ((L.drop i).take (j - i)) := by
  obtain ⟨L', h1, h2⟩ := h
  have hl : L'.length = n := h2.1.trans hn
  subst hl
  exact ⟨_, IsRec.cut h1 i j hij hj, (h2.drop i).first _⟩
/-- One step of a row, as a row. -/
theorem IsSts.one {w : World} {b off cap n : Nat} {L : List Stp} (h : IsSts w (.slice (some ⟨b, off, none⟩) n cap) L) (hn : L.length = n) (i : Nat) (hi : i < L.length) : IsSts w (.slice (some ⟨b, off + i * 3, none⟩) 1 (cap - i)) [L[i]] := by
  have e := h.cut hn i (i + 1) (by omega) (by omega)
  rw [show i + 1 - i = 1 by omega, List.drop_eq_getElem_cons hi] at e
  exact e
end Go.Proofs.Ytpfpkpaodlmlaaa
