/-
  The cells of a row of records, as what is appended; an empty row, made: of no program.
-/
import Derived.Test.YthopjpjloeaamaaZRecs
import Derived.Test.YthopjpjloeaamaaZBoxes
namespace Go.Proofs.Ythopjpjloeaamaa
set_option maxRecDepth 100000
open Go.RowKit
set_option linter.unusedVariables false
theorem own_empty8 (w : World) (e k : Nat) : (w.alloc (.cells #[] e)).ownsRow w.heap.size e k (.slice (some ⟨w.heap.size, 0, none⟩) 0 0) 0 [] :=
  ⟨by simp, .inr ⟨w.heap.size, 0, #[], rfl, Nat.le_refl _, SBox.new w e #[], Nat.le_refl _, by unfold maxLen; omega, by simp, by simp⟩⟩
theorem rec_src8 {α : Type} {sz : Nat} {enc : α → List Value} (hz : ∀ x, (enc x).length = sz) (hs : 0 < sz) {W : World} {b off : Nat} {L : List α} (h : ∀ i (h : i < L.length) j u, (enc L[i])[j]? = some u → W.cell? ⟨b, off + i * sz + j, none⟩ = some u) : ∀ j u, (recV enc L)[j]? = some u → W.cell? ((⟨b, off, none⟩ : Addr).add j) = some u := by
  intro j u hu
  have hj : j < L.length * sz := by
    have := (List.getElem?_eq_some_iff.1 hu).1
    rwa [recV_length hz] at this
  have hi : j / sz < L.length := (Nat.div_lt_iff_lt_mul hs).2 hj
  have hm : j % sz < sz := Nat.mod_lt _ hs
  have e : j / sz * sz + j % sz = j := by rw [Nat.mul_comm]; exact Nat.div_add_mod j sz
  have g := recV_get hz L (j / sz) hi (j % sz) hm
  rw [e, hu] at g
  have := h (j / sz) hi (j % sz) u g.symm
  rw [Nat.add_assoc, e] at this
  have ea : (⟨b, off, none⟩ : Addr).add j = ⟨b, off + j, none⟩ := by simp [Addr.add]
  rw [ea]
  exact this
/-- Of a slice that is a row of records: its cells, at whatever later world. -/
theorem IsRec.src {α : Type} {sz : Nat} {enc : α → List Value} (hz : ∀ x, (enc x).length = sz) (hs : 0 < sz) {w W : World} {ad : Addr} {n c : Nat} {L : List α} (h : IsRec sz enc w (.slice (some ad) n c) L) (hb : Below w.heap.size w W) : ∀ j u, (recV enc L)[j]? = some u → W.cell? (ad.add j) = some u := by
  by_cases h0 : L = []
  · subst h0; intro j u hu; simp [recV] at hu
  · obtain ⟨a, n', c', hv, h1, _, _, _, h6⟩ := h
    obtain ⟨rfl, rfl, rfl⟩ : a = some ad ∧ n' = n ∧ c' = c := by simpa [eq_comm] using hv
    rcases h6 with h6 | ⟨b, off, hb', hlt, hc⟩
    · exact absurd (List.length_eq_zero_iff.1 (by omega)) h0
    · obtain rfl : ad = ⟨b, off, none⟩ := by simpa using hb'
      refine rec_src8 hz hs (fun i hi j u hu => ?_)
      exact (hb.cell (p := ⟨b, off + i * sz + j, none⟩) hlt).trans (hc i hi j u hu)
theorem own_slice9 {W : World} {B e k n : Nat} {v : Value} {xs : List Value} (h : W.ownsRow B e k v n xs) : ∃ g c, v = .slice g n c ∧ n ≤ c := by
  rcases h.2 with ⟨rfl, rfl⟩ | ⟨g, cap, cur, rfl, _, _, hc, _⟩
  · exact ⟨_, _, rfl, Nat.le_refl _⟩
  · exact ⟨_, _, rfl, hc⟩
end Go.Proofs.Ythopjpjloeaamaa
