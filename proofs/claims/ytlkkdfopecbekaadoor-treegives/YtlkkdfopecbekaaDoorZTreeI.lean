/-
  All inputs of a row of texts, in the order in which they are summed: of no program.
-/
import Derived.Test.YtlkkdfopecbekaaDoorGA
import Derived.Test.YtlkkdfopecbekaaDoorZP2Fold
namespace Go.Proofs.YtlkkdfopecbekaaDoor
set_option maxRecDepth 100000
set_option linter.unusedVariables false
/-- Right halves first, then left ones, then the crown's own input. -/
def insL (sm : List UInt8 → List UInt8) (l : List (List UInt8)) : List (List UInt8) :=
  if l.length = 0 then [] else if h : l.length ≤ 1 then [topL sm l] else insL sm (l.drop (hf l.length)) ++ insL sm (l.take (hf l.length)) ++ [topL sm l]
  termination_by l.length
  decreasing_by
    · have := hf_pos l.length; simp; omega
    · have := hf_lt l.length (by omega); simp; omega
theorem insL_nil (sm : List UInt8 → List UInt8) (l : List (List UInt8)) (h : l.length = 0) : insL sm l = [] := by rw [insL, if_pos h]
theorem insL_one (sm : List UInt8 → List UInt8) (s : List UInt8) : insL sm [s] = [leafI s] := by rw [insL, if_neg (by simp), dif_pos (by simp), topL_one]
theorem insL_more (sm : List UInt8 → List UInt8) (l : List (List UInt8)) (h : 2 ≤ l.length) : insL sm l = insL sm (l.drop (hf l.length)) ++ insL sm (l.take (hf l.length)) ++ [topL sm l] := by
  rw [insL, if_neg (by omega), dif_neg (by omega)]
theorem topL_crown (sm : List UInt8 → List UInt8) (l : List (List UInt8)) (h : 2 ≤ l.length) : topL sm l = nodeI (crownL sm (l.take (hf l.length))) (crownL sm (l.drop (hf l.length))) := by
  have hlt := hf_lt l.length h
  have hps := hf_pos l.length
  rw [topL_more sm l h]
  unfold crownL
  rw [if_neg (by rw [List.length_take]; omega), if_neg (by rw [List.length_drop]; omega)]
theorem sumL_len32 (S : List UInt8) : (sumL S).length = 32 := fl_len _ _
theorem crownL_le32 (sm : List UInt8 → List UInt8) (h32 : ∀ s, (sm s).length = 32) (l : List (List UInt8)) : (crownL sm l).length ≤ 32 := by
  unfold crownL
  by_cases h : l.length = 0
  · rw [if_pos h]; simp
  · rw [if_neg h, h32]; omega
/-- 2 n - 1 of n. -/
theorem insL_odd (sm : List UInt8 → List UInt8) : ∀ (m : Nat) (l : List (List UInt8)), l.length = m → 1 ≤ m → (insL sm l).length + 1 = 2 * m := by
  intro m
  induction m using Nat.strongRecOn with
  | _ m ih =>
    intro l hm h0
    by_cases h1 : l.length ≤ 1
    · match l, h1, hm with
      | [s], _, hm => rw [insL_one]; simp at hm ⊢; omega
      | [], _, hm => simp at hm; omega
      | _ :: _ :: _, h1, _ => simp at h1
    · have hlt := hf_lt l.length (by omega)
      have hps := hf_pos l.length
      have i1 := ih (l.length - hf l.length) (by omega) (l.drop (hf l.length)) List.length_drop (by omega)
      have i2 := ih (hf l.length) (by omega) (l.take (hf l.length)) (by rw [List.length_take]; omega) hps
      rw [insL_more sm l (by omega), List.length_append, List.length_append, List.length_singleton]
      omega
theorem insL_len (sm : List UInt8 → List UInt8) (m : Nat) (l : List (List UInt8)) (hm : l.length = m) : (insL sm l).length ≤ 2 * m := by
  by_cases h0 : l.length = 0
  · rw [insL_nil sm l h0]; simp
  · have := insL_odd sm m l hm (by omega); omega
theorem insL_bound (sm : List UInt8 → List UInt8) (h32 : ∀ s, (sm s).length = 32) (B : Nat) (hB : 64 ≤ B) : ∀ (m : Nat) (l : List (List UInt8)), l.length = m → (∀ s ∈ l, s.length ≤ B) → ∀ t ∈ insL sm l, t.length ≤ B + 1 := by
  intro m
  induction m using Nat.strongRecOn with
  | _ m ih =>
    intro l hm hl t ht
    by_cases h0 : l.length = 0
    · rw [insL_nil sm l h0] at ht; cases ht
    · by_cases h1 : l.length ≤ 1
      · match l, h1, h0, hl, ht with
        | [s], _, _, hl, ht =>
          rw [insL_one, List.mem_singleton] at ht
          have := hl s (by simp)
          rw [ht]; unfold leafI; simp; omega
        | [], _, h0, _, _ => exact absurd rfl h0
        | _ :: _ :: _, h1, _, _, _ => simp at h1
      · have hlt := hf_lt l.length (by omega)
        have hps := hf_pos l.length
        rw [insL_more sm l (by omega), List.mem_append, List.mem_append, List.mem_singleton] at ht
        rcases ht with (ht | ht) | ht
        · exact ih (l.length - hf l.length) (by omega) _ List.length_drop (fun s hs => hl s (List.mem_of_mem_drop hs)) t ht
        · exact ih (hf l.length) (by omega) _ (by rw [List.length_take]; omega) (fun s hs => hl s (List.mem_of_mem_take hs)) t ht
        · rw [ht, topL_more sm l (by omega)]; unfold nodeI; rw [List.length_cons, List.length_append, h32, h32]; omega
end Go.Proofs.YtlkkdfopecbekaaDoor
