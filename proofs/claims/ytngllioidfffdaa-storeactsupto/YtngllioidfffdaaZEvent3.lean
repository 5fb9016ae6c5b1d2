/-
  Events' bytes, more of lists.
-/
import Derived.Test.YtngllioidfffdaaZR6Take
import Derived.Test.YtngllioidfffdaaGD
namespace Go.Proofs.Ytngllioidfffdaa
set_option maxRecDepth 100000
open Go.RowKit
set_option linter.unusedVariables false
attribute [local go_sem] ba_size ba_append ba_get ba_extract
theorem bytE_len (x : Ev) (h : mayE x) : (bytE x).length ≤ 80 ∧ 2 ≤ (bytE x).length := by
  unfold bytE txtE
  by_cases hk : keyedE x.1
  · rw [if_pos hk]
    obtain ⟨_, h5⟩ := h
    rw [if_pos hk] at h5
    have l1 := Lm.lenL_le x.2.2.1.length
    have l2 := Lm.lenL_le x.2.2.2.length
    simp only [List.length_cons, List.length_append]
    omega
  · rw [if_neg hk]; simp
theorem takeER_byt (x : Ev) (h : mayE x) : takeER (bytE x) = (x, 0) := by
  have := take_byt x h []
  rw [List.append_nil, if_pos rfl] at this
  unfold takeER; rw [this]
theorem takeER_more (x : Ev) (h : mayE x) : takeER (bytE x ++ [48]) = ((0, 0, [], []), 3) := by
  have := take_byt x h [48]
  rw [if_neg (by simp)] at this
  unfold takeER; rw [this]
theorem takeER_cut (x : Ev) (h : mayE x) (c : Nat) (hc : c < (bytE x).length) : takeER ((bytE x).take c) = ((0, 0, [], []), 3) := by
  unfold takeER; rw [take_cut x h c hc]
theorem good_zero : goodE (0, 0, [], []) := by unfold goodE; simp
theorem good_may {k t : Int} {a b : List UInt8} (h : mayE (k, t, a, b)) : goodE (k, t, a, b) := by
  have h1 := mayE_range h
  refine ⟨by simp only; omega, by simp only; omega, ?_, ?_⟩
  · by_cases hk : k = 2 ∨ k = 3
    · have := ((mayE_key hk).1 h).2; simp only; omega
    · have := ((mayE_unkey hk).1 h).2; simp only [this.1]; simp
  · by_cases hk : k = 2 ∨ k = 3
    · have := ((mayE_key hk).1 h).2; simp only; omega
    · have := ((mayE_unkey hk).1 h).2; simp only [this.2]; simp
theorem back_leaves (h : List Ev) (hl : ¬ 256 < h.length) (ha : allMay h) : backE (h.map bytE) = (h, 0) := by
  have e : (h.map bytE).filterMap takeE = h := by
    clear hl
    induction h with
    | nil => rfl
    | cons x r ih =>
      have hx := take_byt x (ha x (by simp)) []
      rw [List.append_nil, if_pos rfl] at hx
      rw [List.map_cons, List.filterMap_cons_some hx, ih (fun y hy => ha y (by simp [hy]))]
  rw [backE_ok _ (by rw [List.length_map]; exact hl) (fun s hs => by
    obtain ⟨x, hx, rfl⟩ := List.mem_map.1 hs
    have h1 := take_byt x (ha x hx) []
    rw [List.append_nil, if_pos rfl] at h1
    rw [h1]; rfl), e]
theorem leaves_bd (h : List Ev) : (leavesE h).1.length ≤ 256 ∧ ∀ s ∈ (leavesE h).1, s.length ≤ 80 := by
  unfold leavesE
  by_cases h1 : 256 < h.length
  · rw [if_pos h1]; simp
  · rw [if_neg h1]
    by_cases h2 : allMay h
    · rw [if_pos h2]
      refine ⟨by simp only [List.length_map]; omega, fun s hs => ?_⟩
      obtain ⟨x, hx, rfl⟩ := List.mem_map.1 hs
      exact (bytE_len x (h2 x hx)).1
    · rw [if_neg h2]; simp
theorem back_bd (l : List (List UInt8)) : (backE l).1.length ≤ 256 := by
  unfold backE
  by_cases h1 : 256 < l.length
  · rw [if_pos h1]; simp
  · rw [if_neg h1]
    by_cases h2 : allTake l
    · rw [if_pos h2]; simp only; have := List.length_filterMap_le takeE l; omega
    · rw [if_neg h2]; simp
end Go.Proofs.Ytngllioidfffdaa
