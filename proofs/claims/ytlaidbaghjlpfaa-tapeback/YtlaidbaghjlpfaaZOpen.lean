/-
  A slice of texts among the arguments, opened.
-/
import Derived.Test.YtlaidbaghjlpfaaGB
import Derived.ProofKit
import Derived.SizedLaws
import Derived.SliceStrings
namespace Go.Proofs.Ytlaidbaghjlpfaa
set_option maxRecDepth 100000
open Go.ChangeShapes Go.WideShapes Go.ChangeAt Go.RowKit

theorem weights_strs {H : Type} (ss : List ByteArray) (h : (DataW.weightsAll Try.prog 9 (strs (H := H) ss)).all (· ≤ reachBytes) = true) : ∀ s ∈ ss, s.size ≤ 140737488351232 := by
  induction ss with
  | nil => simp
  | cons a r ih =>
    simp only [strs, List.map_cons, DataW.weightsAll, DataW.weights, List.cons_append, List.nil_append, List.all_cons, Bool.and_eq_true, decide_eq_true_eq] at h
    intro s hs
    rcases List.mem_cons.1 hs with rfl | hs
    · have := h.1; simp [reachBytes] at this; exact this
    · exact ih h.2 s hs
theorem strs_of {H : Type} {enc : TypeId × Value → H} {W : World} {a : Option Addr} {len cap : Nat} {d : DataW H} {p : List MemPlace}
    (h : DataW.Trod enc Try.prog W 0 (fun _ => true) true 36 (.slice a len cap) d p) (hw : (DataW.weights Try.prog 36 d).all (· ≤ reachBytes) = true) : ∃ ss, IsStrs W a len ss := by
  obtain ⟨fuel, hf⟩ := h
  rcases open_strings Try.underlying36 Try.underlying9 (by kernel_rfl) hf with ⟨hcs, _⟩ | ⟨x, l, c, ss, hcs, _, hl, hm, hz, hx, hcell, hws⟩
  · simp [Value.cells] at hcs
    obtain ⟨rfl, rfl, rfl⟩ := hcs
    exact ⟨[], rfl, by simp, by omega, .inl rfl⟩
  · simp [Value.cells] at hcs
    obtain ⟨rfl, rfl, rfl⟩ := hcs
    simp only [if_true] at hz
    have hd : d = .slice (strs (ss.take len)) (strs (ss.drop len)) := congrArg Prod.fst hx
    subst hd
    simp only [DataW.weights, Try.underlying36, List.all_cons, Bool.and_eq_true, decide_eq_true_eq, List.all_append] at hw
    obtain ⟨hw1, hw2, hw3⟩ := hw
    have hb : Try.prog.bytesOf 9 = 16 := by kernel_rfl
    rw [hb] at hw1
    simp only [strs, List.length_map, List.length_take, List.length_drop, reachBytes] at hw1
    have hsz := weights_strs _ hw2
    refine ⟨(ss.take len).map (fun s => s.data.toList), by simp; omega, ?_, by omega, ?_⟩
    · intro s hs
      obtain ⟨y, hy, rfl⟩ := List.mem_map.1 hs
      have := hsz y hy
      simpa using this
    · by_cases h0 : len = 0
      · exact .inl h0
      · right
        have hc0 := hcell 0 (by omega)
        obtain ⟨b, off, spot⟩ := x
        have hspot : spot = none := by simpa [Addr.add] using World.cell?_spot hc0
        subst hspot
        have hlt : b < W.heap.size := by
          rcases Nat.lt_or_ge b W.heap.size with h' | h'
          · exact h'
          · simp [World.cell?, Addr.add, Array.getElem?_eq_none h'] at hc0
        refine ⟨b, off, rfl, hlt, fun i hi => ?_⟩
        have hi' : i < len := by simp at hi; omega
        have := hcell i (by omega)
        have ea : (⟨b, off, none⟩ : Addr).add i = ⟨b, off + i, none⟩ := by unfold Addr.add; split <;> simp_all
        rw [ea] at this
        rw [this]
        have hi2 : i < ss.length := by omega
        simp [List.getD, List.getElem?_eq_getElem hi2]
theorem strs_cell {H : Type} {enc : TypeId × Value → H} {W : World} {m : Nat} {c : Value} {y : DataW H × List MemPlace}
    (h : DataW.trod enc Try.prog W 0 (fun _ => true) true m 36 [c] = some y) (hw : (DataW.weights Try.prog 36 y.1).all (· ≤ reachBytes) = true) : ∃ a n cap ss, c = .slice a n cap ∧ IsStrs W a n ss := by
  have hc : ∃ a n cap, c = .slice a n cap := by
    rcases open_strings Try.underlying36 Try.underlying9 (by kernel_rfl) h with ⟨hcs, _⟩ | ⟨x, l, cc, ss, hcs, _⟩
    · simp at hcs; exact ⟨_, _, _, hcs⟩
    · simp at hcs; exact ⟨_, _, _, hcs⟩
  obtain ⟨a, n, cap, rfl⟩ := hc
  obtain ⟨ss, hss⟩ := strs_of (enc := enc) (W := W) (a := a) (len := n) (cap := cap) (d := y.1) (p := y.2) ⟨m, by simpa [Value.cells] using h⟩ hw
  exact ⟨a, n, cap, ss, rfl, hss⟩
end Go.Proofs.Ytlaidbaghjlpfaa
