/-
  What blake.Start answers.
-/
import Derived.Test.YthdikknjabdfeaaDoorP2Glob
import Derived.Test.YthdikknjabdfeaaDoorWordsB
import Derived.Deep.Cut
namespace Go.Proofs.YthdikknjabdfeaaDoor
open Go.RowKit
set_option linter.unusedVariables false
attribute [local go_sem] wv_get wv_getE wv_set wv_size
/-- How it begins, with a key of so many bytes. -/
def startL (k : Int) : List Int := firstL.set 0 (bits .xor .u32 (at_ firstL 0) (bits .xor .u32 16842784 (256 * k)))
theorem startL_len (k : Int) : (startL k).length = 8 := rfl
theorem psize8 : (Tryd.prog.info? 24).map (·.size) = some 8 := by kernel_rfl
set_option maxHeartbeats 1000000 in
theorem start_bad (k : Int) (hk : k < 0 ∨ 32 < k) (w : World) :
    Calls Tryd.prog 12 #[.int .i64 k] w fun e w' => e = .returned (.tuple #[.agg (wv Z8), .int .i64 1]) ∧ Below w.heap.size w w' := by
  rcases hk with hk | hk
  · go_enter Tryd.func12, Tryd.ntmps12
    go_wp2
    refine bodyPost_ret (v := .tuple #[.agg (wv Z8), .int .i64 1]) (results_row_tmp Tryd.results12 _ _ w.heap.size 24 (wv Z8) (0, 0) _ rfl ?_ Tryd.underlying24 rfl ?_) rfl ⟨rfl, ?_⟩
    · exact heap_alloc_new w _
    · rw [psize8, wv_size]; rfl
    · exact (Below.refl _ _).alloc (Nat.le_refl _) _
  · have h0 : ¬ k < 0 := by omega
    go_enter Tryd.func12, Tryd.ntmps12
    go_wp2
    refine bodyPost_ret (v := .tuple #[.agg (wv Z8), .int .i64 1]) (results_row_tmp Tryd.results12 _ _ w.heap.size 24 (wv Z8) (0, 0) _ rfl ?_ Tryd.underlying24 rfl ?_) rfl ⟨rfl, ?_⟩
    · exact heap_alloc_new w _
    · rw [psize8, wv_size]; rfl
    · exact (Below.refl _ _).alloc (Nat.le_refl _) _
set_option maxHeartbeats 1000000 in
theorem start_good (k : Int) (h0 : 0 ≤ k) (h1 : k ≤ 32) (w : World) (hG : G w) :
    Calls Tryd.prog 12 #[.int .i64 k] w fun e w' => e = .returned (.tuple #[.agg (wv (startL k)), .int .i64 0]) ∧ Below w.heap.size w w' := by
  have hg3 := hG.size
  obtain ⟨tg, hg⟩ := hG.g0
  go_enter Tryd.func12, Tryd.ntmps12
  go_upto_region 4 with (first | (refine wpList_load_row rfl 24 _ rfl 0 rfl tg (wv firstL) (0, 0) _ ?hg1 Tryd.underlying24 rfl ?hi1 ?_) | (refine wpList_store_row rfl 24 _ _ rfl (w.heap.size + 1) (wv firstL) rfl rfl 24 (wv Z8) ?hg2 ?hi2 ?ho2 ?h12 ?_))
  case hg1 => exact (heap_alloc_old w _ (by omega)).trans hg
  case hi1 => rw [psize8, wv_size]; rfl
  case hg2 => exact heap_alloc2_new w _ _
  case hi2 => rw [psize8, wv_size]; rfl
  case ho2 => rfl
  case h12 => exact wv_one _
  change Code.wp _ _ _ _ (((w.alloc (.cells (wv Z8) 24)).alloc (.cells (wv Z8) 24)).setRow (w.heap.size + 1) (wv firstL))
  obtain ⟨w2, hw2⟩ : ∃ w2, ((w.alloc (.cells (wv Z8) 24)).alloc (.cells (wv Z8) 24)).setRow (w.heap.size + 1) (wv firstL) = w2 := ⟨_, rfl⟩
  have hL2 : Row w2 (w.heap.size + 1) 24 firstL := by rw [← hw2]; exact setRow_heap _ _ _ _ _ _ (heap_alloc2_new w _ _)
  have hZ2 : Row w2 w.heap.size 24 Z8 := by rw [← hw2]; exact Row.setRow_other (V := Z8) (heap_alloc2_old w _ _) _ _ (by omega)
  have hbw2 : Below w.heap.size w w2 := by rw [← hw2]; exact below_setRow (((Below.refl _ _).alloc (Nat.le_refl _) _).alloc (by simp) _) (by omega) _
  rw [hw2]
  clear hw2
  have c0 : w2.cell? ⟨w.heap.size + 1, 0, none⟩ = some (.int .u32 (at_ firstL 0)) := by rw [hL2.cell 0 (by decide), at_eq]
  have f0 := hL2.frozen 0
  have x0 : IntKind.i64.wrap (256 * k) = 256 * k := by rw [IntKind.wrap_i64]; omega
  have x1 : IntKind.u32.wrap (256 * k) = 256 * k := by rw [IntKind.wrap_u32']; omega
  obtain ⟨R, hR⟩ : ∃ R, startL k = R := ⟨_, rfl⟩
  have lR : R.length = 8 := by rw [← hR]; rfl
  go_wp2_with (first | (refine wpList_load_row rfl 24 _ rfl (w.heap.size + 1) rfl 24 (wv R) (0, 0) _ ?hg3 Tryd.underlying24 rfl ?hi3 ?_) | (refine wpList_store_row rfl 24 _ _ rfl w.heap.size (wv R) rfl rfl 24 (wv Z8) ?hg4 ?hi4 ?ho4 ?h14 ?_))
  case hg3 => rw [← hR]; exact hL2.set 0 _
  case hi3 => rw [psize8, wv_size, lR]
  case hg4 => exact hZ2.other _ _ _ (by omega)
  case hi4 => rw [psize8, wv_size, lR]
  case ho4 => rw [wv_size, wv_size, lR]; rfl
  case h14 => exact wv_one _
  refine bodyPost_ret (v := .tuple #[.agg (wv R), .int .i64 0]) (results_row_tmp Tryd.results12 _ _ w.heap.size 24 (wv R) (0, 0) _ rfl ?_ Tryd.underlying24 rfl ?_) rfl ⟨by first | rfl | rw [hR], ?_⟩
  · exact setRow_heap _ _ _ _ _ _ (hZ2.other _ _ _ (by omega))
  · rw [psize8, wv_size, lR]
  · exact below_setRow (hbw2.setCell (by simp) _) (by omega) _
end Go.Proofs.YthdikknjabdfeaaDoor
