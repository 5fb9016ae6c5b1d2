/-
  What taint.At and Outer answer.
-/
import Derived.Test.YteehpkkkagdckaaZP9Of
import Derived.Test.YteehpkkkagdckaaZBads9b
namespace Go.Proofs.Yteehpkkkagdckaa
set_option maxRecDepth 100000
open Go.RowKit
set_option linter.unusedVariables false
attribute [local go_sem] ba_size
theorem pouter_any (h : List Ev) (v : Value) (w : World) (hT : IsEvs w v h) (i : Int) :
    Calls Try.prog 50 #[v, .int .i64 i] w fun e w' => e = .returned (.bool (outerI h i)) ∧ Below w.heap.size w w' := by
  have CC := fun W hW => pcounts_any h v W (hT.below (w' := W) hW) i
  by_cases hc : countI h i = true
  · rw [hc] at CC
    have hi0 : 0 ≤ i ∧ countsB h i.toNat = true := by
      unfold countI at hc
      rw [Bool.and_eq_true, decide_eq_true_eq] at hc
      exact hc
    obtain ⟨q, rfl⟩ : ∃ q : Nat, i = (q : Int) := ⟨i.toNat, by omega⟩
    have hcq : countsB h q = true := by have := hi0.2; rwa [Int.toNat_natCast] at this
    have hq1 : q < h.length := ((counts_iff h q).1 hcq).1
    have CO := fun W hW => pown_any h v W (hT.below (w' := W) hW) q hq1
    have hA : outerI h (q : Int) = decide (lastN h (ev h q).2.1 (ev h q).2.2.1 q = none) := by unfold outerI outerB; rw [decide_eq_true (by omega), Int.toNat_natCast, hcq]; simp
    rw [hA]
    obtain ⟨a, cap, rfl, h1, h2, h3, HC⟩ := hT.reads
    rcases hl : lastN h (ev h q).2.1 (ev h q).2.2.1 q with _ | k
    · rw [decide_eq_true rfl]
      rw [hl] at CO
      simp only [oI] at CO
      obtain ⟨n, hn⟩ : ∃ n, h.length = n := ⟨_, rfl⟩
      rw [hn] at h1 h3 hq1 CC CO ⊢
      clear hl hcq hi0 hc hA hT HC hn
      go_enter Try.func50, Try.ntmps50
      go_wp2_with fail
      refine (CC _ (Below.refl _ _)).mono ?_
      rintro e w1 ⟨rfl, b1⟩
      go_wp2_with fail
      refine (CO _ b1).mono ?_
      rintro e w2 ⟨rfl, b2⟩
      go_wp2_with fail
      go_ret
      exact ⟨rfl, bel_trans b1 b2⟩
    · rw [decide_eq_false (by simp)]
      rw [hl] at CO
      simp only [oI] at CO
      have jk : ¬ (k : Int) < 0 := by omega
      obtain ⟨n, hn⟩ : ∃ n, h.length = n := ⟨_, rfl⟩
      rw [hn] at h1 h3 hq1 CC CO ⊢
      clear hl hcq hi0 hc hA hT HC hn
      go_enter Try.func50, Try.ntmps50
      go_wp2_with fail
      refine (CC _ (Below.refl _ _)).mono ?_
      rintro e w1 ⟨rfl, b1⟩
      go_wp2_with fail
      refine (CO _ b1).mono ?_
      rintro e w2 ⟨rfl, b2⟩
      go_wp2_with fail
      go_ret
      exact ⟨rfl, bel_trans b1 b2⟩
  · have hcf : countI h i = false := by simpa using hc
    rw [hcf] at CC
    have hA : outerI h i = false := by
      unfold outerI outerB
      unfold countI at hcf
      rw [← Bool.and_assoc, hcf, Bool.false_and]
    rw [hA]
    obtain ⟨a, cap, rfl, h1, h2, h3, HC⟩ := hT.reads
    clear hc hcf hA hT HC
    go_enter Try.func50, Try.ntmps50
    go_wp2_with fail
    refine (CC _ (Below.refl _ _)).mono ?_
    rintro e w1 ⟨rfl, b1⟩
    go_wp2_with fail
    go_ret
    exact ⟨rfl, b1⟩
end Go.Proofs.Yteehpkkkagdckaa
