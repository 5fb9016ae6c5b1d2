/-
  Rows of texts, cut and grown: of no program.
-/
import Derived.Test.YtchneiefjjcccaaZStrs
import Derived.Test.YtchneiefjjcccaaZOwns
import Derived.Test.YtchneiefjjcccaaZBase
namespace Go.Proofs.Ytchneiefjjcccaa
set_option maxRecDepth 100000
open Go.RowKit
set_option linter.unusedVariables false
/-- A slice of n texts: each of its cells holds the text; none is greater than this world holds. -/
def IsTxt (w : World) (v : Value) (ss : List (List UInt8)) : Prop :=
  ∃ a n cap, v = .slice a n cap ∧ ss.length = n ∧ n ≤ cap ∧ cap ≤ 9223372036854775807 ∧ n ≤ 140737488351232 ∧ (∀ s ∈ ss, s.length ≤ 1125899906842624) ∧
  (n = 0 ∨ ∃ b off, a = some ⟨b, off, none⟩ ∧ b < w.heap.size ∧ ∀ i (h : i < ss.length), w.cell? ⟨b, off + i, none⟩ = some (.string ⟨ss[i].toArray⟩))
theorem IsTxt.below {w w' : World} {v : Value} {ss : List (List UInt8)} (h : IsTxt w v ss) (hb : Below w.heap.size w w') : IsTxt w' v ss := by
  obtain ⟨a, n, cap, hv, h1, h2, h3, h4, h5, h6⟩ := h
  refine ⟨a, n, cap, hv, h1, h2, h3, h4, h5, ?_⟩
  rcases h6 with h6 | ⟨b, off, ha, hlt, hc⟩
  · exact .inl h6
  · refine .inr ⟨b, off, ha, Nat.lt_of_lt_of_le hlt hb.size, fun i hi => ?_⟩
    rw [hb.cell (p := ⟨b, off + i, none⟩) hlt]
    exact hc i hi
/-- Not empty: where it lies. -/
theorem IsTxt.at {w : World} {v : Value} {ss : List (List UInt8)} (h : IsTxt w v ss) (h0 : 0 < ss.length) : ∃ b off cap, v = .slice (some ⟨b, off, none⟩) ss.length cap ∧ b < w.heap.size ∧ ss.length ≤ cap ∧ cap ≤ 9223372036854775807 ∧ ss.length ≤ 140737488351232 ∧ Hid (∀ i (h : i < ss.length), w.cell? ⟨b, off + i, none⟩ = some (.string ⟨ss[i].toArray⟩)) := by
  obtain ⟨a, n, cap, rfl, rfl, h2, h3, h4, h5, h6⟩ := h
  rcases h6 with h6 | ⟨b, off, rfl, hlt, hc⟩
  · omega
  · exact ⟨b, off, cap, rfl, hlt, h2, h3, h4, hc⟩
theorem IsTxt.len {w : World} {v : Value} {ss : List (List UInt8)} (h : IsTxt w v ss) : ∃ a cap, v = .slice a ss.length cap ∧ ss.length ≤ cap ∧ cap ≤ 9223372036854775807 ∧ ss.length ≤ 140737488351232 := by
  obtain ⟨a, n, cap, rfl, rfl, h2, h3, h4, h5, h6⟩ := h
  exact ⟨a, cap, rfl, h2, h3, h4⟩
theorem IsTxt.bound {w : World} {v : Value} {ss : List (List UInt8)} (h : IsTxt w v ss) : ∀ s ∈ ss, s.length ≤ 1125899906842624 := by
  obtain ⟨a, n, cap, rfl, rfl, h2, h3, h4, h5, h6⟩ := h
  exact h5
theorem IsTxt.take {w : World} {b off cap : Nat} {ss : List (List UInt8)} (h : IsTxt w (.slice (some ⟨b, off, none⟩) ss.length cap) ss) (k : Nat) (hk : k ≤ ss.length) (h0 : 0 < ss.length) : IsTxt w (.slice (some ⟨b, off, none⟩) k cap) (ss.take k) := by
  obtain ⟨a, n, c, hv, h1, h2, h3, h4, h5, h6⟩ := h
  obtain ⟨rfl, rfl, rfl⟩ : a = some ⟨b, off, none⟩ ∧ n = ss.length ∧ c = cap := by simpa [eq_comm] using hv
  refine ⟨_, _, _, rfl, by simp; omega, by omega, h3, by omega, fun s hs => h5 s (List.mem_of_mem_take hs), ?_⟩
  rcases h6 with h6 | ⟨b', off', ha, hlt, hc⟩
  · omega
  · obtain ⟨rfl, rfl⟩ : b = b' ∧ off = off' := by simpa using ha
    refine .inr ⟨b, off, rfl, hlt, fun i hi => ?_⟩
    rw [hc i (by simp at hi; omega), List.getElem_take]
theorem IsTxt.drop {w : World} {b off cap : Nat} {ss : List (List UInt8)} (h : IsTxt w (.slice (some ⟨b, off, none⟩) ss.length cap) ss) (k : Nat) (hk : k ≤ ss.length) (h0 : 0 < ss.length) : IsTxt w (.slice (some ⟨b, off + k, none⟩) (ss.length - k) (cap - k)) (ss.drop k) := by
  obtain ⟨a, n, c, hv, h1, h2, h3, h4, h5, h6⟩ := h
  obtain ⟨rfl, rfl, rfl⟩ : a = some ⟨b, off, none⟩ ∧ n = ss.length ∧ c = cap := by simpa [eq_comm] using hv
  refine ⟨_, _, _, rfl, by simp, by omega, by omega, by omega, fun s hs => h5 s (List.mem_of_mem_drop hs), ?_⟩
  rcases h6 with h6 | ⟨b', off', ha, hlt, hc⟩
  · omega
  · obtain ⟨rfl, rfl⟩ : b = b' ∧ off = off' := by simpa using ha
    refine .inr ⟨b, off + k, rfl, hlt, fun i hi => ?_⟩
    rw [Nat.add_assoc, hc (k + i) (by simp at hi; omega), List.getElem_drop]
theorem IsTxt.nil (w : World) : IsTxt w (.slice none 0 0) [] := ⟨none, 0, 0, rfl, rfl, by omega, by omega, by omega, (fun s hs => by cases hs), .inl rfl⟩
/-- What is owned reads as a slice of texts. -/
theorem IsTxt.own {w : World} {B : Nat} {v : Value} {n : Nat} {l : List (List UInt8)} (h : w.ownsRow B 9 1 v n (strV l)) (hn : n ≤ 140737488351232) (hl : ∀ t ∈ l, t.length ≤ 1125899906842624) : IsTxt w v l := by
  obtain ⟨h1, h2⟩ := h
  rw [strV_length] at h1
  rcases h2 with ⟨rfl, rfl⟩ | ⟨g, cap, cur, rfl, hbg, hg, hnc, hcm, hcs, htake⟩
  · obtain rfl : l = [] := List.length_eq_zero_iff.1 (by omega)
    exact IsTxt.nil w
  · refine ⟨_, _, _, rfl, by omega, hnc, by unfold maxLen at hcm; omega, hn, hl, .inr ⟨g, 0, rfl, (Array.getElem?_eq_some_iff.1 hg).1, ?_⟩⟩
    intro i hi
    rw [Lib.cell_of_heap hg, Nat.zero_add]
    have e : cur.toList[i]? = (strV l)[i]? := by
      rw [← htake, List.getElem?_take_of_lt (by omega)]
    rw [← Array.getElem?_toList, e]
    simp [strV, hi]
theorem IsTxt.some_at {w : World} {v : Value} {ss : List (List UInt8)} (h : IsTxt w v ss) : ∃ a cap, v = .slice a ss.length cap ∧ ss.length ≤ cap ∧ cap ≤ 9223372036854775807 ∧ ss.length ≤ 140737488351232 ∧ Hid (∀ k (h : k < ss.length), ∃ b off, a = some ⟨b, off, none⟩ ∧ b < w.heap.size ∧ w.cell? ⟨b, off + k, none⟩ = some (.string ⟨ss[k].toArray⟩)) := by
  obtain ⟨a, n, cap, rfl, rfl, h2, h3, h4, h5, h6⟩ := h
  refine ⟨a, cap, rfl, h2, h3, h4, ?_⟩
  intro k hk
  rcases h6 with h6 | ⟨b, off, rfl, hlt, hc⟩
  · omega
  · exact ⟨b, off, rfl, hlt, hc k hk⟩
end Go.Proofs.Ytchneiefjjcccaa
