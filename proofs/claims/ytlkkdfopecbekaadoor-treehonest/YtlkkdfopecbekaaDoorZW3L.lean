/-
  Roots of whatever rows, two unlike texts that rows give away: their bounds.
-/
import Derived.Test.YtlkkdfopecbekaaDoorZP3Ends
import Derived.Test.YtlkkdfopecbekaaDoorZRSumL
namespace Go.Proofs.YtlkkdfopecbekaaDoor
set_option maxRecDepth 100000
open Go.RowKit
set_option linter.unusedVariables false
/-- What Root tells of whatever row. -/
def rootV (l : List (List UInt8)) : List UInt8 × Nat := if 4096 < l.length then ([], 4) else (rootL sumL l, 0)
theorem rootV_few {l : List (List UInt8)} (h : l.length ≤ 200) : rootV l = (rootL sumL l, 0) := by unfold rootV; rw [if_neg (by omega)]
theorem proot_all (ss : List (List UInt8)) (v : Value) (w : World) (hG : G w) (hT : IsTxt w v ss) :
    Calls Tryd.prog 14 #[v] w fun e w' => e = .returned (.tuple #[.string ⟨(rootV ss).1.toArray⟩, .int .i64 ((rootV ss).2 : Nat)]) ∧ Below w.heap.size w w' := by
  unfold rootV
  by_cases h : 4096 < ss.length
  · rw [if_pos h]; exact proot_big ss v w hT h
  · rw [if_neg h]; exact proot_any ss v w hG hT (by omega)
theorem fuR_mem (sm : List UInt8 → List UInt8) : ∀ (a b : List (List UInt8)) (x y : List UInt8), fuR sm a b = some (x, y) → x ∈ a ∧ y ∈ b
  | [], _, _, _, h => by cases h
  | _ :: _, [], _, _, h => by cases h
  | s :: a, t :: b, x, y, h => by
    rw [fuR] at h
    by_cases hc : s = t
    · rw [if_pos hc] at h
      have := fuR_mem sm a b x y h
      exact ⟨List.mem_cons_of_mem _ this.1, List.mem_cons_of_mem _ this.2⟩
    · rw [if_neg hc] at h
      obtain ⟨rfl, rfl⟩ := unL_mem sm _ _ _ _ h
      exact ⟨List.mem_cons_self .., List.mem_cons_self ..⟩
theorem differ_bound (a b : List (List UInt8)) (ha : a.length ≤ 200) (hb : b.length ≤ 200) (hba : ∀ s ∈ a, s.length ≤ 140737488351232) (hbb : ∀ s ∈ b, s.length ≤ 140737488351232) (x y : List UInt8) (h : differL sumL a b = some (x, y)) : x.length ≤ 1125899906842624 ∧ y.length ≤ 1125899906842624 := by
  rw [differ_all sumL sumL_len32 a b (by omega) (by omega)] at h
  have hm := fuR_mem sumL _ _ x y h
  rw [List.mem_reverse, List.mem_reverse] at hm
  exact ⟨(allI_facts a (by omega) (fun s hs => by have := hba s hs; omega)).2 x hm.1, (allI_facts b (by omega) (fun s hs => by have := hbb s hs; omega)).2 y hm.2⟩
end Go.Proofs.YtlkkdfopecbekaaDoor
