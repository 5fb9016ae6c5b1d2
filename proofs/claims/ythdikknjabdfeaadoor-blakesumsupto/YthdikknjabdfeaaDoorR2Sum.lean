/-
  What cartoucheref02.Sum answers.
-/
import Derived.Test.YthdikknjabdfeaaDoorR2All
import Derived.Test.YthdikknjabdfeaaDoorR2Start
namespace Go.Proofs.YthdikknjabdfeaaDoor
open Go.RowKit
set_option linter.unusedVariables false
attribute [local go_sem] ba_size ba_get ba_extract take_drop_end wv_get wv_getE wv_set wv_size
set_option maxHeartbeats 1000000 in
theorem rsum_any (S : List UInt8) (hS : S.length ≤ 9223372036854775000) (w : World) :
    Calls Tryd.prog 17 #[.string ⟨S.toArray⟩] w fun e w' => e = .returned (.string ⟨(fl (foldL (startL 0) S) 32).toArray⟩) ∧ Below w.heap.size w w' := by
  obtain ⟨H, hH⟩ : ∃ H, startL 0 = H := ⟨_, rfl⟩
  have lH : H.length = 8 := by rw [← hH]; rfl
  have hs := rstart_good 0 (by omega) (by omega) w
  rw [hH] at hs
  have hsz : (Tryd.prog.info? 24).map (·.size) = some (wv H).size := by rw [rsize8_true, wv_size, lH]
  go_enter Tryd.func17, Tryd.ntmps17
  go_wp2_with fail
  refine hs.mono ?_
  rintro e w1 ⟨rfl, hb1⟩
  go_upto_region 2 with (refine wpList_store_row rfl 24 _ _ rfl w1.heap.size (wv H) rfl rfl 24 (wv Z8) (heap_alloc_new w1 _) hsz (by rw [wv_size, wv_size, lH]; rfl) (wv_one _) ?_)
  change Code.wp _ _ _ _ ((w1.alloc (.cells (wv Z8) 24)).setRow w1.heap.size (wv H))
  obtain ⟨w2, hw2⟩ : ∃ w2, (w1.alloc (.cells (wv Z8) 24)).setRow w1.heap.size (wv H) = w2 := ⟨_, rfl⟩
  have hrow2 : w2.heap[w1.heap.size]? = some (.cells (wv H) 24 (0, 0)) := by rw [← hw2]; exact setRow_heap _ _ _ _ _ _ (heap_alloc_new w1 _)
  have hb2 : Below w.heap.size w w2 := by rw [← hw2]; exact below_setRow (hb1.alloc hb1.size _) hb1.size _
  rw [hw2]
  clear hw2
  go_wp2_with (refine wpList_load_row rfl 24 _ rfl w1.heap.size rfl 24 (wv H) (0, 0) _ hrow2 Tryd.underlying24 rfl hsz ?_)
  refine (rall_any H lH S hS _).mono ?_
  rintro e w3 ⟨rfl, hb3⟩
  go_wp2_with fail
  go_ret
  exact ⟨by rw [hH]; rfl, hb2.trans (hb3.mono hb2.size)⟩
end Go.Proofs.YthdikknjabdfeaaDoor
