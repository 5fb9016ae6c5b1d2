/-
  Rows of steps, appended: of no program.
-/
import Derived.Test.YtpfpkpaodlmlaaaZSts11
namespace Go.Proofs.Ytpfpkpaodlmlaaa
set_option maxRecDepth 100000
open Go.RowKit
set_option linter.unusedVariables false
theorem own_none11 (w : World) (e k : Nat) : (w.alloc (.cells #[] e)).ownsRow w.heap.size e k (.slice (some ⟨w.heap.size, 0, none⟩) 0 0) 0 [] :=
  ⟨by simp, .inr ⟨w.heap.size, 0, #[], rfl, Nat.le_refl _, SBox.new w e #[], Nat.le_refl _, by unfold maxLen; omega, by simp, by simp⟩⟩
theorem own_slice11j {W : World} {B e k n : Nat} {v : Value} {xs : List Value} (h : W.ownsRow B e k v n xs) : ∃ g c, v = .slice g n c ∧ n ≤ c ∧ c ≤ 9223372036854775807 ∧ (0 < n → ∃ b, g = some ⟨b, 0, none⟩) := by
  rcases h.2 with ⟨rfl, rfl⟩ | ⟨g, cap, cur, rfl, _, _, hc, hm, _⟩
  · exact ⟨_, _, rfl, Nat.le_refl _, by omega, fun h => absurd h (by omega)⟩
  · exact ⟨_, _, rfl, hc, by unfold maxLen at hm; omega, fun _ => ⟨_, rfl⟩⟩
/-- The cells of a row of records, in order. -/
theorem IsRec.src11 {α : Type} {sz : Nat} {enc : α → List Value} (hz : ∀ x, (enc x).length = sz) (hs : 0 < sz) {w W : World} {ad : Addr} {n c : Nat} {L : List α} (h : IsRec sz enc w (.slice (some ad) n c) L) (hb : Below w.heap.size w W) : ∀ j u, (recV enc L)[j]? = some u → W.cell? (ad.add j) = some u := by
  intro j u hu
  have hj : j < L.length * sz := by
    have := (List.getElem?_eq_some_iff.1 hu).1
    rwa [recV_length hz] at this
  have hi : j / sz < L.length := (Nat.div_lt_iff_lt_mul hs).2 hj
  have hm : j % sz < sz := Nat.mod_lt _ hs
  have e : j / sz * sz + j % sz = j := by rw [Nat.mul_comm]; exact Nat.div_add_mod j sz
  have g := recV_get hz L (j / sz) hi (j % sz) hm
  rw [e, hu] at g
  obtain ⟨a', n', c', hv, h1, h2, h3, h4, h6⟩ := h
  obtain ⟨rfl, rfl, rfl⟩ : a' = some ad ∧ n' = n ∧ c' = c := by simpa [eq_comm] using hv
  rcases h6 with h6 | ⟨b, off, ha, hlt, hc⟩
  · exact absurd hi (by rw [h1, h6]; exact Nat.not_lt_zero _)
  · obtain rfl : ad = ⟨b, off, none⟩ := by simpa using ha
    have := hc (j / sz) hi (j % sz) u g.symm
    rw [Nat.add_assoc, e] at this
    have ea : (⟨b, off, none⟩ : Addr).add j = ⟨b, off + j, none⟩ := by simp [Addr.add]
    rw [ea]
    exact (hb.cell (p := ⟨b, off + j, none⟩) hlt).trans this
theorem StOf.cells {W : World} {L' : List SVt} {L : List Stp} (h : StOf W L' L) : ∀ u ∈ recV stV L', u.oneCell' = true := by
  intro u hu
  obtain ⟨x, hx, hu⟩ := List.mem_flatMap.1 hu
  obtain ⟨i, hi, rfl⟩ := List.getElem_of_mem hx
  have hi' : i < L.length := by rw [← h.1]; exact hi
  obtain ⟨_, _, _, hv, _⟩ := (h.2 i _ _ (List.getElem?_eq_getElem hi) (List.getElem?_eq_getElem hi')).eds
  unfold stV at hu
  simp only [List.mem_cons, List.not_mem_nil, or_false] at hu
  rcases hu with rfl | rfl | rfl
  · rfl
  · rfl
  · rw [hv]; rfl
end Go.Proofs.Ytpfpkpaodlmlaaa
