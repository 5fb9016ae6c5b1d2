/-
  What blake.Sum answers.
-/
import Derived.Test.YtgickejfcmnaiaaDoorZP2Fold
namespace Go.Proofs.YtgickejfcmnaiaaDoor
set_option maxRecDepth 100000
open Go.RowKit
set_option linter.unusedVariables false
attribute [local go_sem] ba_size ba_get ba_extract take_drop_end wv_get wv_getE wv_set wv_size
set_option maxHeartbeats 1000000 in
theorem sum_any (S : List UInt8) (hS : S.length ≤ 9223372036854775000) (w : World) (hG : G w) :
    Calls Tryd.prog 28 #[.string ⟨S.toArray⟩] w fun e w' => e = .returned (.string ⟨(sumL S).toArray⟩) ∧ Below w.heap.size w w' := by
  have hg3 := hG.size
  obtain ⟨H, hH⟩ : ∃ H, startL 0 = H := ⟨_, rfl⟩
  have lH : H.length = 8 := by rw [← hH]; rfl
  have hs := start_good 0 (by omega) (by omega) w hG
  rw [hH] at hs
  have hsz : (Tryd.prog.info? 59).map (·.size) = some (wv H).size := by rw [size8, wv_size, lH]
  go_enter Tryd.func28, Tryd.ntmps28
  go_wp2_with fail
  refine hs.mono ?_
  rintro e w1 ⟨rfl, hb1⟩
  go_upto_region 2 with (refine wpList_store_row rfl 59 _ _ rfl w1.heap.size (wv H) rfl rfl 59 (wv Z8) (heap_alloc_new w1 _) hsz (by rw [wv_size, wv_size, lH]; rfl) (wv_one _) ?_)
  change Code.wp _ _ _ _ ((w1.alloc (.cells (wv Z8) 59)).setRow w1.heap.size (wv H))
  obtain ⟨w2, hw2⟩ : ∃ w2, (w1.alloc (.cells (wv Z8) 59)).setRow w1.heap.size (wv H) = w2 := ⟨_, rfl⟩
  have hrow2 : w2.heap[w1.heap.size]? = some (.cells (wv H) 59 (0, 0)) := by rw [← hw2]; exact setRow_heap _ _ _ _ _ _ (heap_alloc_new w1 _)
  have hb2 : Below w.heap.size w w2 := by rw [← hw2]; exact below_setRow (hb1.alloc hb1.size _) hb1.size _
  have hG2 : G w2 := hG.below hb2 hg3
  rw [hw2]
  clear hw2
  go_wp2_with (refine wpList_load_row rfl 59 _ rfl w1.heap.size rfl 59 (wv H) (0, 0) _ hrow2 Tryd.underlying59 rfl hsz ?_)
  refine (fold_any H lH S hS _ hG2).mono ?_
  rintro e w3 ⟨rfl, hb3⟩
  go_wp2_with fail
  go_ret
  exact ⟨by unfold sumL; rw [hH]; rfl, hb2.trans (hb3.mono hb2.size)⟩
end Go.Proofs.YtgickejfcmnaiaaDoor
