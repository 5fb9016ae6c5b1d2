/-
  A slice of texts among the arguments, or in a struct's field, opened as rows of texts.
-/
import Derived.Test.YtlaidbaghjlpfaaGB
import Derived.Test.YtlaidbaghjlpfaaZOpen
namespace Go.Proofs.Ytlaidbaghjlpfaa
set_option maxRecDepth 100000
open Go.ChangeShapes Go.WideShapes Go.ChangeAt Go.RowKit
set_option linter.unusedVariables false
theorem txt_cells {H : Type} {enc : TypeId × Value → H} {W : World} {m : Nat} {c : Value} {d : DataW H} {p : List MemPlace}
    (hf : DataW.trod enc Try.prog W 0 (fun _ => true) true m 36 [c] = some (d, p)) (hw : (DataW.weights Try.prog 36 d).all (· ≤ reachBytes) = true) : ∃ ss : List (List UInt8), IsTxt W c ss ∧ ∀ s ∈ ss, s.length ≤ 140737488351232 := by
  rcases open_strings Try.underlying36 Try.underlying9 (by kernel_rfl) hf with ⟨hcs, _⟩ | ⟨x, len, cap, ss, hcs, _, hl, hm, hz, hx, hcell, hws⟩
  · simp at hcs
    subst hcs
    exact ⟨[], IsTxt.nil W, by simp⟩
  · simp at hcs
    subst hcs
    simp only [if_true] at hz
    have hd : d = .slice (strs (ss.take len)) (strs (ss.drop len)) := congrArg Prod.fst hx
    subst hd
    simp only [DataW.weights, Try.underlying36, List.all_cons, Bool.and_eq_true, decide_eq_true_eq, List.all_append] at hw
    obtain ⟨hw1, hw2, hw3⟩ := hw
    have hb : Try.prog.bytesOf 9 = 16 := by kernel_rfl
    rw [hb] at hw1
    simp only [strs, List.length_map, List.length_take, List.length_drop, reachBytes] at hw1
    have hsz := weights_strs _ hw2
    have hbd : ∀ s ∈ (ss.take len).map (fun s => s.data.toList), s.length ≤ 140737488351232 := by
      intro s hs
      obtain ⟨y, hy, rfl⟩ := List.mem_map.1 hs
      have := hsz y hy
      simpa using this
    refine ⟨(ss.take len).map (fun s => s.data.toList), ⟨_, _, _, rfl, by simp; omega, hl, by unfold maxLen at hm; omega, by omega, fun s hs => by have := hbd s hs; omega, ?_⟩, hbd⟩
    by_cases h0 : len = 0
    · exact .inl h0
    · right
      have hc0 := hcell 0 (by omega)
      obtain ⟨b, off, spot⟩ := x
      have hspot : spot = none := by simpa [Addr.add] using World.cell?_spot hc0
      subst hspot
      have hlt : b < W.heap.size := by
        rcases Nat.lt_or_ge b W.heap.size with h' | h'
        · exact h'
        · simp [World.cell?, Addr.add, Array.getElem?_eq_none h'] at hc0
      refine ⟨b, off, rfl, hlt, fun i hi => ?_⟩
      have hi' : i < len := by simp at hi; omega
      have := hcell i (by omega)
      have ea : (⟨b, off, none⟩ : Addr).add i = ⟨b, off + i, none⟩ := by unfold Addr.add; split <;> simp_all
      rw [ea] at this
      rw [this]
      have hi2 : i < ss.length := by omega
      simp [List.getD, List.getElem?_eq_getElem hi2]
theorem txt_arg {H : Type} {enc : TypeId × Value → H} {W : World} {v : Value} {d : DataW H} {p : List MemPlace} (hv : ∃ a n c, v = .slice a n c)
    (h : DataW.Trod enc Try.prog W 0 (fun _ => true) true 36 v d p) (hw : (DataW.weights Try.prog 36 d).all (· ≤ reachBytes) = true) : ∃ ss : List (List UInt8), IsTxt W v ss ∧ ∀ s ∈ ss, s.length ≤ 140737488351232 := by
  obtain ⟨a, n, c, rfl⟩ := hv
  obtain ⟨fuel, hf⟩ := h
  exact txt_cells (by simpa [Value.cells] using hf) hw
end Go.Proofs.Ytlaidbaghjlpfaa
