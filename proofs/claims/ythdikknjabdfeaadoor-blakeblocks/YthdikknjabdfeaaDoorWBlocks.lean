/-
  The walk of BlakeBlocks.
-/
import Derived.Test.YthdikknjabdfeaaDoorShown2
import Derived.Test.YthdikknjabdfeaaDoorR2Block
import Derived.Test.YthdikknjabdfeaaDoorEqWords
namespace Go.Proofs.YthdikknjabdfeaaDoor
open Go.RowKit
set_option linter.unusedVariables false
attribute [local go_sem] ba_size wv_get wv_getE wv_set wv_size
set_option maxHeartbeats 1000000 in
theorem blocks_walk0 (V : List Int) (lV : V.length = 8) (B : List UInt8) (T : Nat) (last : Bool) (R : List Int) (lR : R.length = 8) (er : Int) (hP : ∀ w, G w → Calls Tryd.prog 14 #[.agg (wv V), .string ⟨B.toArray⟩, .int .u64 T, .bool last] w fun e w' => e = .returned (.tuple #[.agg (wv R), .int .i64 er]) ∧ Below w.heap.size w w')
    (hQ : ∀ w, Calls Tryd.prog 15 #[.agg (wv V), .string ⟨B.toArray⟩, .int .u64 T, .bool last] w fun e w' => e = .returned (.tuple #[.agg (wv R), .int .i64 er]) ∧ Below w.heap.size w w') (w : World) (hG : G w) :
    Calls Tryd.prog 4 #[.agg #[.int .u32 (at_ V 0), .int .u32 (at_ V 1), .int .u32 (at_ V 2), .int .u32 (at_ V 3), .int .u32 (at_ V 4), .int .u32 (at_ V 5), .int .u32 (at_ V 6), .int .u32 (at_ V 7), .string ⟨B.toArray⟩, .int .u64 T, .bool last]] w fun e w' => e = .returned (.bool true) ∧ Below w.heap.size w w' := by
  have hg3 := hG.size
  have E8 := wv8 V lV
  have hsz : (Tryd.prog.info? 24).map (·.size) = some (wv R).size := by rw [size8, wv_size, lR]
  go_enter Tryd.func4, Tryd.ntmps4
  go_wp2_with fail
  have hb0 : Below w.heap.size w ((w.alloc (.cells #[.int .u32 (at_ V 0), .int .u32 (at_ V 1), .int .u32 (at_ V 2), .int .u32 (at_ V 3), .int .u32 (at_ V 4), .int .u32 (at_ V 5), .int .u32 (at_ V 6), .int .u32 (at_ V 7), .string ⟨B.toArray⟩, .int .u64 T, .bool last] 33)).alloc (.cells #[.int .u32 (at_ V 0), .int .u32 (at_ V 1), .int .u32 (at_ V 2), .int .u32 (at_ V 3), .int .u32 (at_ V 4), .int .u32 (at_ V 5), .int .u32 (at_ V 6), .int .u32 (at_ V 7)] 24)) := ((Below.refl _ _).alloc (Nat.le_refl _) _).alloc (by simp) _
  refine (shown2 _ (hG.below hb0 hg3)).mono ?_
  rintro e w1 ⟨rfl, hb1⟩
  have hV1 : Row w1 (w.heap.size + 1) 24 V := by
    unfold Row
    rw [E8]
    exact (hb1.block _ (by simp)).trans (heap_alloc2_new w _ _)
  have hbw1 : Below w.heap.size w w1 := bel_trans hb0 hb1
  have hszV : (Tryd.prog.info? 24).map (·.size) = some (wv V).size := by rw [size8, wv_size, lV]
  clear hb0 hb1 E8
  have hV1' : w1.heap[w.heap.size + 1]? = some (.cells (wv V) 24 (0, 0)) := hV1
  go_wp2_with (refine wpList_load_row rfl 24 _ rfl (w.heap.size + 1) rfl 24 (wv V) (0, 0) _ hV1' Tryd.underlying24 rfl hszV ?_)
  refine (hP w1 (hG.below hbw1 hg3)).mono ?_
  rintro e w2 ⟨rfl, hb2⟩
  have hbw2 := bel_trans hbw1 hb2
  have hV2 := hV1.below hb2
  go_upto_region 7 with (refine wpList_store_row rfl 24 _ _ rfl w2.heap.size (wv R) rfl rfl 24 (wv Z8) (heap_alloc_new w2 _) hsz (by rw [wv_size, wv_size, lR]; rfl) (wv_one _) ?_)
  change Code.wp _ _ _ _ ((w2.alloc (.cells (wv Z8) 24)).setRow w2.heap.size (wv R))
  obtain ⟨w3, hw3⟩ : ∃ w3, (w2.alloc (.cells (wv Z8) 24)).setRow w2.heap.size (wv R) = w3 := ⟨_, rfl⟩
  have hb3 : Below w.heap.size w w3 := by rw [← hw3]; exact below_setRow (hbw2.alloc hbw2.size _) hbw2.size _
  have hA : Row w3 w2.heap.size 24 R := by rw [← hw3]; exact setRow_heap _ _ _ _ _ _ (heap_alloc_new w2 _)
  have hV3 : Row w3 (w.heap.size + 1) 24 V := by rw [← hw3]; exact (hV2.alloc _).setRow_other _ _ (by have := hV2.lt; omega)
  have hV3' : w3.heap[w.heap.size + 1]? = some (.cells (wv V) 24 (0, 0)) := hV3
  rw [hw3]
  clear hw3 hV1 hV1' hV2
  go_wp2_with (refine wpList_load_row rfl 24 _ rfl (w.heap.size + 1) rfl 24 (wv V) (0, 0) _ hV3' Tryd.underlying24 rfl hszV ?_)
  refine (hQ w3).mono ?_
  rintro e w4 ⟨rfl, hb4⟩
  have hA4 := hA.below hb4
  have hb4' : Below w.heap.size w w4 := bel_trans hb3 hb4
  go_upto_region 8 with (refine wpList_store_row rfl 24 _ _ rfl w4.heap.size (wv R) rfl rfl 24 (wv Z8) (heap_alloc_new w4 _) hsz (by rw [wv_size, wv_size, lR]; rfl) (wv_one _) ?_)
  change Code.wp _ _ _ _ ((w4.alloc (.cells (wv Z8) 24)).setRow w4.heap.size (wv R))
  obtain ⟨w5, hw5⟩ : ∃ w5, (w4.alloc (.cells (wv Z8) 24)).setRow w4.heap.size (wv R) = w5 := ⟨_, rfl⟩
  have hB : Row w5 w4.heap.size 24 R := by rw [← hw5]; exact setRow_heap _ _ _ _ _ _ (heap_alloc_new w4 _)
  have hA5 : Row w5 w2.heap.size 24 R := by rw [← hw5]; exact (hA4.alloc _).setRow_other _ _ (by have := hA4.lt; omega)
  have hb5 : Below w.heap.size w w5 := by rw [← hw5]; exact below_setRow (hb4'.alloc hb4'.size _) hb4'.size _
  rw [hw5]
  clear hw5 hV3 hV3'
  have a0 : w5.cell? ⟨w2.heap.size, 0, none⟩ = some (.int .u32 (at_ R 0)) := by rw [hA5.cell 0 (by omega), at_eq]
  have a1 : w5.cell? ⟨w2.heap.size, 1, none⟩ = some (.int .u32 (at_ R 1)) := by rw [hA5.cell 1 (by omega), at_eq]
  have a2 : w5.cell? ⟨w2.heap.size, 2, none⟩ = some (.int .u32 (at_ R 2)) := by rw [hA5.cell 2 (by omega), at_eq]
  have a3 : w5.cell? ⟨w2.heap.size, 3, none⟩ = some (.int .u32 (at_ R 3)) := by rw [hA5.cell 3 (by omega), at_eq]
  have a4 : w5.cell? ⟨w2.heap.size, 4, none⟩ = some (.int .u32 (at_ R 4)) := by rw [hA5.cell 4 (by omega), at_eq]
  have a5 : w5.cell? ⟨w2.heap.size, 5, none⟩ = some (.int .u32 (at_ R 5)) := by rw [hA5.cell 5 (by omega), at_eq]
  have a6 : w5.cell? ⟨w2.heap.size, 6, none⟩ = some (.int .u32 (at_ R 6)) := by rw [hA5.cell 6 (by omega), at_eq]
  have a7 : w5.cell? ⟨w2.heap.size, 7, none⟩ = some (.int .u32 (at_ R 7)) := by rw [hA5.cell 7 (by omega), at_eq]
  have b0 : w5.cell? ⟨w4.heap.size, 0, none⟩ = some (.int .u32 (at_ R 0)) := by rw [hB.cell 0 (by omega), at_eq]
  have b1 : w5.cell? ⟨w4.heap.size, 1, none⟩ = some (.int .u32 (at_ R 1)) := by rw [hB.cell 1 (by omega), at_eq]
  have b2 : w5.cell? ⟨w4.heap.size, 2, none⟩ = some (.int .u32 (at_ R 2)) := by rw [hB.cell 2 (by omega), at_eq]
  have b3 : w5.cell? ⟨w4.heap.size, 3, none⟩ = some (.int .u32 (at_ R 3)) := by rw [hB.cell 3 (by omega), at_eq]
  have b4 : w5.cell? ⟨w4.heap.size, 4, none⟩ = some (.int .u32 (at_ R 4)) := by rw [hB.cell 4 (by omega), at_eq]
  have b5 : w5.cell? ⟨w4.heap.size, 5, none⟩ = some (.int .u32 (at_ R 5)) := by rw [hB.cell 5 (by omega), at_eq]
  have b6 : w5.cell? ⟨w4.heap.size, 6, none⟩ = some (.int .u32 (at_ R 6)) := by rw [hB.cell 6 (by omega), at_eq]
  have b7 : w5.cell? ⟨w4.heap.size, 7, none⟩ = some (.int .u32 (at_ R 7)) := by rw [hB.cell 7 (by omega), at_eq]
  have hq := eq_same8 R lR
  go_wp2
  go_ret
  exact ⟨by simp, hb5⟩
theorem blocks_walk (V : List Int) (lV : V.length = 8) (B : List UInt8) (T : Nat) (hT : T < 18446744073709551616) (last : Bool) (w : World) (hG : G w) :
    Calls Tryd.prog 4 #[.agg #[.int .u32 (at_ V 0), .int .u32 (at_ V 1), .int .u32 (at_ V 2), .int .u32 (at_ V 3), .int .u32 (at_ V 4), .int .u32 (at_ V 5), .int .u32 (at_ V 6), .int .u32 (at_ V 7), .string ⟨B.toArray⟩, .int .u64 T, .bool last]] w fun e w' => e = .returned (.bool true) ∧ Below w.heap.size w w' := by
  by_cases hB : B.length = 64
  · exact blocks_walk0 V lV B T last (blockL V B T last) (blockL_len _ _ _ _) 0 (fun w h => block_good V lV B hB T hT last w h) (fun w => rblock_good V lV B hB T hT last w) w hG
  · exact blocks_walk0 V lV B T last Z8 rfl 1 (fun w _ => block_bad V lV B hB T last w) (fun w => rblock_bad V lV B hB T last w) w hG
end Go.Proofs.YthdikknjabdfeaaDoor
