/-
  A row of events with another one behind it: in lists, and as rows that are appended.
-/
import Derived.Test.YtchneiefjjcccaaZShown6
import Derived.Test.YtchneiefjjcccaaZEvent3
import Derived.OwnWalk
import Derived.Laws.AppendOwnNone
namespace Go.Proofs.Ytchneiefjjcccaa
set_option maxRecDepth 100000
open Go.RowKit
set_option linter.unusedVariables false
attribute [local go_sem] ba_size ba_append ba_get ba_extract
theorem evs_own_empty (w : World) (e k : Nat) : (w.alloc (.cells #[] e)).ownsRow w.heap.size e k (.slice (some ⟨w.heap.size, 0, none⟩) 0 0) 0 [] :=
  ⟨by simp, .inr ⟨w.heap.size, 0, #[], rfl, Nat.le_refl _, SBox.new w e #[], Nat.le_refl _, by unfold maxLen; omega, by simp, by simp⟩⟩
/-- The cells of a row of records, in order. -/
theorem rec_src {α : Type} {sz : Nat} {enc : α → List Value} (hz : ∀ x, (enc x).length = sz) (hs : 0 < sz) {W : World} {b off : Nat} {L : List α} (h : ∀ i (h : i < L.length) j u, (enc L[i])[j]? = some u → W.cell? ⟨b, off + i * sz + j, none⟩ = some u) : ∀ j u, (recV enc L)[j]? = some u → W.cell? ((⟨b, off, none⟩ : Addr).add j) = some u := by
  intro j u hu
  have hj : j < L.length * sz := by
    have := (List.getElem?_eq_some_iff.1 hu).1
    rwa [recV_length hz] at this
  have hi : j / sz < L.length := (Nat.div_lt_iff_lt_mul hs).2 hj
  have hm : j % sz < sz := Nat.mod_lt _ hs
  have e : j / sz * sz + j % sz = j := by rw [Nat.mul_comm]; exact Nat.div_add_mod j sz
  have g := recV_get hz L (j / sz) hi (j % sz) hm
  rw [e, hu] at g
  have := h (j / sz) hi (j % sz) u g.symm
  rw [Nat.add_assoc, e] at this
  have ea : (⟨b, off, none⟩ : Addr).add j = ⟨b, off + j, none⟩ := by simp [Addr.add]
  rw [ea]
  exact this
theorem rec_src2 {α : Type} {sz : Nat} {enc : α → List Value} (hz : ∀ x, (enc x).length = sz) (hs : 0 < sz) {w W : World} {ad : Addr} {L : List α} (HC : ∀ k (h : k < L.length), ∃ b off, some ad = some ⟨b, off, none⟩ ∧ b < w.heap.size ∧ ∀ j u, (enc L[k])[j]? = some u → w.cell? ⟨b, off + k * sz + j, none⟩ = some u) (hb : Below w.heap.size w W) : ∀ j u, (recV enc L)[j]? = some u → W.cell? (ad.add j) = some u := by
  by_cases h0 : L = []
  · subst h0; intro j u hu; simp [recV] at hu
  · have hl : 0 < L.length := List.length_pos_iff.2 h0
    obtain ⟨b, off, had, hlt, _⟩ := HC 0 hl
    obtain rfl : ad = ⟨b, off, none⟩ := by simpa using had
    refine rec_src hz hs (fun i hi j u hu => ?_)
    obtain ⟨b', off', had', hlt', hc⟩ := HC i hi
    obtain ⟨rfl, rfl⟩ : b = b' ∧ off = off' := by simpa using had'
    exact (hb.cell (p := ⟨b, off + i * sz + j, none⟩) hlt').trans (hc j u hu)
theorem own_slice {W : World} {B e k n : Nat} {v : Value} {xs : List Value} (h : W.ownsRow B e k v n xs) : ∃ g c, v = .slice g n c ∧ n ≤ c := by
  rcases h.2 with ⟨rfl, rfl⟩ | ⟨g, cap, cur, rfl, _, _, hc, _⟩
  · exact ⟨_, _, rfl, Nat.le_refl _⟩
  · exact ⟨_, _, rfl, hc⟩
theorem joins_bad (a b : List Ev) (h : (leavesE a).2 ≠ 0 ∨ (leavesE b).2 ≠ 0) : (leavesE (a ++ b)).2 ≠ 0 := by
  by_cases h1 : 256 < (a ++ b).length
  · rw [leavesE_big _ h1]; simp
  · have hl : a.length + b.length ≤ 256 := by rw [List.length_append] at h1; omega
    by_cases h2 : allMay (a ++ b)
    · exfalso
      have ha : allMay a := fun x hx => h2 x (List.mem_append_left _ hx)
      have hb : allMay b := fun x hx => h2 x (List.mem_append_right _ hx)
      rw [leavesE_ok a (by omega) ha, leavesE_ok b (by omega) hb] at h
      simp at h
    · unfold leavesE
      rw [if_neg h1, if_neg h2]
      simp
theorem leaves_zero (a : List Ev) (h : (leavesE a).2 = 0) : a.length ≤ 256 ∧ allMay a := by
  unfold leavesE at h
  by_cases h1 : 256 < a.length
  · rw [if_pos h1] at h; simp at h
  · rw [if_neg h1] at h
    by_cases h2 : allMay a
    · exact ⟨by omega, h2⟩
    · rw [if_neg h2] at h; simp at h
theorem allMay_append (a b : List Ev) (ha : allMay a) (hb : allMay b) : allMay (a ++ b) := by
  intro x hx
  rcases List.mem_append.1 hx with h | h
  · exact ha x h
  · exact hb x h
end Go.Proofs.Ytchneiefjjcccaa
