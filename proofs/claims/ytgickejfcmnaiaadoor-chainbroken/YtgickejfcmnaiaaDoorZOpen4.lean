/-
  How many texts a slice of texts among the arguments has; a slice of links among a struct's fields, opened as rows of links.
-/
import Derived.Test.YtgickejfcmnaiaaDoorZOpen3
import Derived.Test.YtgickejfcmnaiaaDoorGH
import Derived.Deep.SlicePairs
namespace Go.Proofs.YtgickejfcmnaiaaDoor
set_option maxRecDepth 100000
open Go.ChangeShapes Go.WideShapes Go.ChangeAt Go.RowKit
set_option linter.unusedVariables false
theorem txt_many {H : Type} {enc : TypeId × Value → H} {W : World} {m : Nat} {c : Value} {d : DataW H} {p : List MemPlace}
    (hf : DataW.trod enc Tryd.prog W 0 (fun _ => true) true m 22 [c] = some (d, p)) (hw : (DataW.weights Tryd.prog 22 d).all (· ≤ reachBytes) = true) {ss : List (List UInt8)} (hT : IsTxt W c ss) : ss.length ≤ 8796093021952 := by
  obtain ⟨a, cap', rfl, _, _, _⟩ := hT.len
  rcases open_strings Tryd.underlying22 Tryd.underlying9 (by kernel_rfl) hf with ⟨hcs, _⟩ | ⟨x, len, cap, tt, hcs, _, hl, hm, hz, hx, hcell, hws⟩
  · simp at hcs; omega
  · simp at hcs
    simp only [if_true] at hz
    have hd : d = .slice (strs (tt.take len)) (strs (tt.drop len)) := congrArg Prod.fst hx
    subst hd
    simp only [DataW.weights, Tryd.underlying22, List.all_cons, Bool.and_eq_true, decide_eq_true_eq, List.all_append] at hw
    obtain ⟨hw1, hw2, hw3⟩ := hw
    have hb : Tryd.prog.bytesOf 9 = 16 := by kernel_rfl
    rw [hb] at hw1
    simp only [strs, List.length_map, List.length_take, List.length_drop, reachBytes] at hw1
    omega
theorem txt_many_arg {H : Type} {enc : TypeId × Value → H} {W : World} {v : Value} {d : DataW H} {p : List MemPlace}
    (h : DataW.Trod enc Tryd.prog W 0 (fun _ => true) true 22 v d p) (hw : (DataW.weights Tryd.prog 22 d).all (· ≤ reachBytes) = true) {ss : List (List UInt8)} (hT : IsTxt W v ss) : ss.length ≤ 8796093021952 := by
  obtain ⟨fuel, hf⟩ := h
  have e : v.cells.toList = [v] := by
    obtain ⟨a, cap', rfl, _, _, _⟩ := hT.len
    rfl
  exact txt_many (by rw [← e]; exact hf) hw hT
theorem txt_shape_arg {H : Type} {enc : TypeId × Value → H} {W : World} {v : Value} {d : DataW H} {p : List MemPlace}
    (h : DataW.Trod enc Tryd.prog W 0 (fun _ => true) true 22 v d p) {ss : List (List UInt8)} (hT : IsTxt W v ss) : v = .slice none 0 0 ∨ ∃ ad n c, v = .slice (some ad) n c := by
  obtain ⟨fuel, hf⟩ := h
  have e : v.cells.toList = [v] := by
    obtain ⟨a, cap', rfl, _, _, _⟩ := hT.len
    rfl
  rw [e] at hf
  rcases open_strings Tryd.underlying22 Tryd.underlying9 (by kernel_rfl) hf with ⟨hcs, _⟩ | ⟨x, len, cap, tt, hcs, _⟩
  · simp at hcs; exact .inl hcs
  · simp at hcs; exact .inr ⟨_, _, _, hcs⟩
theorem weightsAll_mem {H : Type} (P : Program) (e : TypeId) (q : Nat → Bool) : ∀ (ds : List (DataW H)), (DataW.weightsAll P e ds).all q = true → ∀ d ∈ ds, (DataW.weights P e d).all q = true
  | [], _, d, hd => by cases hd
  | a :: r, h, d, hd => by
    rw [DataW.weightsAll, List.all_append, Bool.and_eq_true] at h
    rcases List.mem_cons.1 hd with rfl | hd
    · exact h.1
    · exact weightsAll_mem P e q r h.2 d hd
theorem lnk_cells {H : Type} {enc : TypeId × Value → H} {W : World} {m : Nat} {c : Value} {d : DataW H} {p : List MemPlace}
    (hf : DataW.trod enc Tryd.prog W 0 (fun _ => true) true m 32 [c] = some (d, p)) (hw : (DataW.weights Tryd.prog 32 d).all (· ≤ reachBytes) = true) : ∃ L : List Lk, IsLnk W c L ∧ ∀ t ∈ L, t.1.length ≤ 140737488351232 ∧ t.2.length ≤ 140737488351232 := by
  rcases Go.Deep.open_slice_pairs Tryd.underlying32 Tryd.underlying48 (by kernel_rfl) rfl rfl (by kernel_rfl) (by kernel_rfl) hf with ⟨hcs, _⟩ | ⟨a, len, cap, mm, n, V0, V1, D0, D1, P0, P1, hcs, _, hl, hm, hmm, hx, hall⟩
  · simp at hcs
    subst hcs
    exact ⟨[], IsLnk.nil W, by simp⟩
  · simp at hcs
    subst hcs
    simp only [if_true] at hmm
    have hd := congrArg Prod.fst hx
    simp only at hd
    subst hd
    simp only [DataW.weights, Tryd.underlying32, List.all_cons, Bool.and_eq_true, decide_eq_true_eq, List.all_append] at hw
    obtain ⟨hw1, hw2, hw3⟩ := hw
    have hb : Tryd.prog.bytesOf 48 = 32 := by kernel_rfl
    rw [hb] at hw1
    simp only [List.length_map, List.length_range, reachBytes] at hw1
    have hch : ∀ i, ∃ x : Lk, i < len → (W.cell? (a.add (i * 2)) = some (.string ⟨x.1.toArray⟩) ∧ W.cell? (a.add (i * 2 + 1)) = some (.string ⟨x.2.toArray⟩)) ∧ x.1.length ≤ 140737488351232 ∧ x.2.length ≤ 140737488351232 := by
      intro i
      by_cases hi : i < len
      · obtain ⟨q0, q1, t0, t1⟩ := hall i (by omega)
        obtain ⟨s0, e0, y0, _⟩ := DataW.trod_string Tryd.underlying9 t0
        obtain ⟨s1, e1, y1, _⟩ := DataW.trod_string Tryd.underlying9 t1
        have g := weightsAll_mem Tryd.prog 48 _ _ hw2 (.agg [D0 i, D1 i]) (List.mem_map.2 ⟨i, List.mem_range.2 hi, rfl⟩)
        have d0 : D0 i = .lit (.string s0.data.toList) := congrArg Prod.fst y0
        have d1 : D1 i = .lit (.string s1.data.toList) := congrArg Prod.fst y1
        rw [d0, d1] at g
        simp only [DataW.weights, DataW.weightsEach, Tryd.underlying48, List.map_cons, List.map_nil, List.append_nil, List.all_append, List.all_cons, List.all_nil, Bool.and_true, Bool.and_eq_true, reachBytes] at g
        simp at e0 e1
        refine ⟨(s0.data.toList, s1.data.toList), fun _ => ⟨⟨?_, ?_⟩, ?_, ?_⟩⟩
        · rw [q0, e0]
        · rw [q1, e1]
        · exact of_decide_eq_true g.1
        · exact of_decide_eq_true g.2
      · exact ⟨([], []), fun h => absurd h hi⟩
    obtain ⟨f, hf'⟩ : ∃ f : Nat → Lk, ∀ i, i < len → (W.cell? (a.add (i * 2)) = some (.string ⟨(f i).1.toArray⟩) ∧ W.cell? (a.add (i * 2 + 1)) = some (.string ⟨(f i).2.toArray⟩)) ∧ (f i).1.length ≤ 140737488351232 ∧ (f i).2.length ≤ 140737488351232 := ⟨fun i => Classical.choose (hch i), fun i => Classical.choose_spec (hch i)⟩
    have hbd : ∀ t ∈ (List.range len).map f, t.1.length ≤ 140737488351232 ∧ t.2.length ≤ 140737488351232 := by
      intro t ht
      obtain ⟨i, hi, rfl⟩ := List.mem_map.1 ht
      exact (hf' i (List.mem_range.1 hi)).2
    refine ⟨(List.range len).map f, ⟨_, _, _, rfl, by simp, hl, by unfold maxLen at hm; omega, by omega, fun t ht => by have := hbd t ht; omega, ?_⟩, hbd⟩
    by_cases h0 : len = 0
    · exact .inl h0
    · right
      have hc0 := (hf' 0 (by omega)).1.1
      obtain ⟨b, off, spot⟩ := a
      have hspot : spot = none := by simpa [Addr.add] using World.cell?_spot hc0
      subst hspot
      have hlt : b < W.heap.size := by
        rcases Nat.lt_or_ge b W.heap.size with h' | h'
        · exact h'
        · simp [World.cell?, Addr.add, Array.getElem?_eq_none h'] at hc0
      refine ⟨b, off, rfl, hlt, fun i hi => ?_⟩
      have hi' : i < len := by simpa using hi
      have := (hf' i hi').1
      have ea : ∀ j, (⟨b, off, none⟩ : Addr).add j = ⟨b, off + j, none⟩ := fun j => by unfold Addr.add; split <;> simp_all
      rw [ea, ea] at this
      simp only [List.getElem_map, List.getElem_range]
      exact this
end Go.Proofs.YtgickejfcmnaiaaDoor
