/-
  The walk of BlakeStarts.
-/
import Derived.Test.YthdikknjabdfeaaDoorShown2
import Derived.Test.YthdikknjabdfeaaDoorR2Start
import Derived.Test.YthdikknjabdfeaaDoorEqWords
namespace Go.Proofs.YthdikknjabdfeaaDoor
open Go.RowKit
set_option linter.unusedVariables false
attribute [local go_sem] wv_get wv_getE wv_set wv_size
set_option maxHeartbeats 1000000 in
theorem starts_walk0 (k : Int) (R : List Int) (lR : R.length = 8) (er : Int) (hP : ∀ w, G w → Calls Tryd.prog 12 #[.int .i64 k] w fun e w' => e = .returned (.tuple #[.agg (wv R), .int .i64 er]) ∧ Below w.heap.size w w')
    (hQ : ∀ w, Calls Tryd.prog 13 #[.int .i64 k] w fun e w' => e = .returned (.tuple #[.agg (wv R), .int .i64 er]) ∧ Below w.heap.size w w') (w : World) (hG : G w) :
    Calls Tryd.prog 3 #[.int .i64 k] w fun e w' => e = .returned (.bool true) ∧ Below w.heap.size w w' := by
  have hg3 := hG.size
  have hsz : (Tryd.prog.info? 24).map (·.size) = some (wv R).size := by rw [psize8, wv_size, lR]
  go_enter Tryd.func3, Tryd.ntmps3
  go_wp2_with fail
  refine (shown2 w hG).mono ?_
  rintro e w1 ⟨rfl, hb1⟩
  go_wp2_with fail
  refine (hP w1 (hG.below hb1 hg3)).mono ?_
  rintro e w2 ⟨rfl, hb2⟩
  have hbw2 := bel_trans hb1 hb2
  go_upto_region 3 with (refine wpList_store_row rfl 24 _ _ rfl w2.heap.size (wv R) rfl rfl 24 (wv Z8) (heap_alloc_new w2 _) hsz (by rw [wv_size, wv_size, lR]; rfl) (wv_one _) ?_)
  change Code.wp _ _ _ _ ((w2.alloc (.cells (wv Z8) 24)).setRow w2.heap.size (wv R))
  obtain ⟨w3, hw3⟩ : ∃ w3, (w2.alloc (.cells (wv Z8) 24)).setRow w2.heap.size (wv R) = w3 := ⟨_, rfl⟩
  have hA : Row w3 w2.heap.size 24 R := by rw [← hw3]; exact setRow_heap _ _ _ _ _ _ (heap_alloc_new w2 _)
  have hb3 : Below w.heap.size w w3 := by rw [← hw3]; exact below_setRow (hbw2.alloc hbw2.size _) hbw2.size _
  rw [hw3]
  clear hw3
  go_wp2_with fail
  refine (hQ w3).mono ?_
  rintro e w4 ⟨rfl, hb4⟩
  have hA4 := hA.below hb4
  have hb4' : Below w.heap.size w w4 := bel_trans hb3 hb4
  go_upto_region 4 with (refine wpList_store_row rfl 24 _ _ rfl w4.heap.size (wv R) rfl rfl 24 (wv Z8) (heap_alloc_new w4 _) hsz (by rw [wv_size, wv_size, lR]; rfl) (wv_one _) ?_)
  change Code.wp _ _ _ _ ((w4.alloc (.cells (wv Z8) 24)).setRow w4.heap.size (wv R))
  obtain ⟨w5, hw5⟩ : ∃ w5, (w4.alloc (.cells (wv Z8) 24)).setRow w4.heap.size (wv R) = w5 := ⟨_, rfl⟩
  have hB : Row w5 w4.heap.size 24 R := by rw [← hw5]; exact setRow_heap _ _ _ _ _ _ (heap_alloc_new w4 _)
  have hA5 : Row w5 w2.heap.size 24 R := by rw [← hw5]; exact (hA4.alloc _).setRow_other _ _ (by have := hA4.lt; omega)
  have hb5 : Below w.heap.size w w5 := by rw [← hw5]; exact below_setRow (hb4'.alloc hb4'.size _) hb4'.size _
  rw [hw5]
  clear hw5
  have a0 : w5.cell? ⟨w2.heap.size, 0, none⟩ = some (.int .u32 (at_ R 0)) := by rw [hA5.cell 0 (by omega), at_eq]
  have b0 : w5.cell? ⟨w4.heap.size, 0, none⟩ = some (.int .u32 (at_ R 0)) := by rw [hB.cell 0 (by omega), at_eq]
  have a1 : w5.cell? ⟨w2.heap.size, 1, none⟩ = some (.int .u32 (at_ R 1)) := by rw [hA5.cell 1 (by omega), at_eq]
  have b1 : w5.cell? ⟨w4.heap.size, 1, none⟩ = some (.int .u32 (at_ R 1)) := by rw [hB.cell 1 (by omega), at_eq]
  have a2 : w5.cell? ⟨w2.heap.size, 2, none⟩ = some (.int .u32 (at_ R 2)) := by rw [hA5.cell 2 (by omega), at_eq]
  have b2 : w5.cell? ⟨w4.heap.size, 2, none⟩ = some (.int .u32 (at_ R 2)) := by rw [hB.cell 2 (by omega), at_eq]
  have a3 : w5.cell? ⟨w2.heap.size, 3, none⟩ = some (.int .u32 (at_ R 3)) := by rw [hA5.cell 3 (by omega), at_eq]
  have b3 : w5.cell? ⟨w4.heap.size, 3, none⟩ = some (.int .u32 (at_ R 3)) := by rw [hB.cell 3 (by omega), at_eq]
  have a4 : w5.cell? ⟨w2.heap.size, 4, none⟩ = some (.int .u32 (at_ R 4)) := by rw [hA5.cell 4 (by omega), at_eq]
  have b4 : w5.cell? ⟨w4.heap.size, 4, none⟩ = some (.int .u32 (at_ R 4)) := by rw [hB.cell 4 (by omega), at_eq]
  have a5 : w5.cell? ⟨w2.heap.size, 5, none⟩ = some (.int .u32 (at_ R 5)) := by rw [hA5.cell 5 (by omega), at_eq]
  have b5 : w5.cell? ⟨w4.heap.size, 5, none⟩ = some (.int .u32 (at_ R 5)) := by rw [hB.cell 5 (by omega), at_eq]
  have a6 : w5.cell? ⟨w2.heap.size, 6, none⟩ = some (.int .u32 (at_ R 6)) := by rw [hA5.cell 6 (by omega), at_eq]
  have b6 : w5.cell? ⟨w4.heap.size, 6, none⟩ = some (.int .u32 (at_ R 6)) := by rw [hB.cell 6 (by omega), at_eq]
  have a7 : w5.cell? ⟨w2.heap.size, 7, none⟩ = some (.int .u32 (at_ R 7)) := by rw [hA5.cell 7 (by omega), at_eq]
  have b7 : w5.cell? ⟨w4.heap.size, 7, none⟩ = some (.int .u32 (at_ R 7)) := by rw [hB.cell 7 (by omega), at_eq]
  have hq := eq_same8 R lR
  go_wp2
  go_ret
  exact ⟨by simp, hb5⟩
theorem starts_walk (k : Int) (w : World) (hG : G w) :
    Calls Tryd.prog 3 #[.int .i64 k] w fun e w' => e = .returned (.bool true) ∧ Below w.heap.size w w' := by
  by_cases hk : k < 0 ∨ 32 < k
  · exact starts_walk0 k Z8 rfl 1 (fun w _ => start_bad k hk w) (fun w => rstart_bad k hk w) w hG
  · exact starts_walk0 k (startL k) rfl 0 (fun w h => start_good k (by omega) (by omega) w h) (fun w => rstart_good k (by omega) (by omega) w) w hG
end Go.Proofs.YthdikknjabdfeaaDoor
